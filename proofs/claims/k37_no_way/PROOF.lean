import PyProof.Rows.All
import Wide.All
import OpenK.AllK
import Wide.FinOn
import Lean
import PyProof.EqAt
import PyProof.EqKinds
import PyProof.TupleCall
import PySem.Challenge.RW_formcycle_k37_no_way
set_option Elab.async false
set_option linter.all false
set_option maxRecDepth 100000
set_option maxRecDepth 1000000
set_option maxHeartbeats 0
theorem My.said0 : PySem.Challenge.rw_formcycle_k37_no_way.wellSaid = true := by kernel_rfl
namespace My
open PySem PySem.W
noncomputable def Rh (tb : String → Option Builtin) (p : Program) (w : World) (m : Nat) (ann : Option Value) : Nat → SharedT → Thread → Option SharedT
  | 0, _, _ => none
  | k + 1, s, t => match through t with
    | true => some s
    | false => match stepOk m ann t with
      | false => none
      | true => match stepT (denote tb) p w s t with
        | some (s', t') => Rh tb p w m ann k s' t'
        | none => none
theorem Pr {tb : String → Option Builtin} {p : Program} {w : World} {m : Nat} {ann : Option Value} : ∀ (k : Nat) {s r : SharedT} {t : Thread}, Rh tb p w m ann k s t = some r → topRun tb p w m ann k s.abs t = some r.abs
  | 0, s, r, t, h => by cases h
  | k + 1, s, r, t, h => by
    unfold Rh at h
    unfold topRun
    cases e : through t with
    | true =>
      rw [e] at h
      cases h
      rfl
    | false =>
      rw [e] at h
      dsimp only at h ⊢
      cases e2 : stepOk m ann t with
      | false => rw [e2] at h; cases h
      | true =>
        rw [e2] at h
        dsimp only at h ⊢
        cases e3 : stepT (denote tb) p w s t with
        | none => rw [e3] at h; cases h
        | some st =>
          obtain ⟨s', t'⟩ := st
          rw [e3] at h
          rw [stepT_spec e3]
          exact Pr k h
noncomputable def AdB : List Obj → Nat → BT → BT
  | [], _, t => t
  | o :: os, n, t => AdB os (n + 1) (t.ins n o)
noncomputable def N8 (w : World) (os : OsState) : SharedT := ⟨AdB (boot_heap w.params).objs.toList 0 .nil, (boot_heap w.params).objs.size, (boot_heap w.params).life, Array.mk [], boot_drawn, boot_toks, os⟩
noncomputable def Bl (w : World) (os : OsState) : Shared := ⟨boot_heap w.params, Array.mk [], boot_drawn, boot_toks, os⟩
noncomputable def stays (p : Program) (s₀ s₁ : Shared) : Bool := staticsOk (importedModules p.main.body) s₀.heap s₁.heap && namesBound p s₁.heap && gensDone s₁ && laidKept s₀.heap s₁.heap
theorem boot_abs : ∀ w os, (N8 w os).abs = Bl w os := fun w os => by kernel_rfl
theorem AcS {p : Program} {w : World} {N : Nat} {α : Type} {F : Shared → α} {g : α} (e : opening p = plainProg p.main.scope.names) (hN : Nat.ble 600 N = true) (f : ∀ s, fenceModules? p s = some s)
    (h : ∀ os, (Rh treeTable p w (Bl w os).heap.objs.size ((Bl w os).heap.nsMap mainGlobals "__annotations__") N (N8 w os) (topStub p)).map (fun r => (stays p (Bl w os) r.abs, F r.abs)) = some (true, g))
    (h0 : ∀ os, ((Bl w os).heap.isNs mainGlobals && (Bl w os).gens.size == 0) = true) : (openEnds treeTable p w N).map F = some g := by
  have hb := boot_open e hN f w
  unfold openEnds
  cases q : fencedOpening treeTable p w N with
  | none => rw [q] at hb; cases hb
  | some s =>
    rw [q] at hb
    have hs : s = Bl w s.os := by
      obtain ⟨a, b, c, d, o⟩ := s
      simp only [Option.map_some, Option.some.injEq, Prod.mk.injEq] at hb
      obtain ⟨rfl, rfl, rfl, rfl⟩ := hb
      rfl
    generalize s.os = o at hs
    subst hs
    show (topFrom treeTable p w N (Bl w o)).map F = some g
    unfold topFrom
    rw [h0 o]
    have hh := h o
    cases q2 : Rh treeTable p w (Bl w o).heap.objs.size ((Bl w o).heap.nsMap mainGlobals "__annotations__") N (N8 w o) (topStub p) with
    | none => rw [q2] at hh; cases hh
    | some r =>
      rw [q2] at hh
      have hr := Pr N q2
      rw [boot_abs] at hr
      simp only [Option.map_some, Option.some.injEq, Prod.mk.injEq] at hh
      obtain ⟨h1, h2⟩ := hh
      unfold stays at h1
      dsimp only
      rw [hr]
      show (match staticsOk (importedModules p.main.body) (Bl w o).heap r.abs.heap && namesBound p r.abs.heap && gensDone r.abs && laidKept (Bl w o).heap r.abs.heap with
        | true => some r.abs
        | false => none).map F = some g
      rw [h1]
      exact congrArg some h2
noncomputable def TR (p : Program) (w : World) (os : OsState) (N : Nat) : Option SharedT := Rh treeTable p w (Bl w os).heap.objs.size ((Bl w os).heap.nsMap mainGlobals "__annotations__") N (N8 w os) (topStub p)
theorem Aii {p : Program} {w : World} {N : Nat} {α β : Type} {F : Shared → α} {G : Shared → β} {f' : α} {g' : β} (e : opening p = plainProg p.main.scope.names) (hN : Nat.ble 600 N = true) (f : ∀ s, fenceModules? p s = some s)
    (h1 : ∀ os, (TR p w os N).map (fun r => stays p (Bl w os) r.abs) = some true) (h2 : ∀ os, (TR p w os N).map (fun r => F r.abs) = some f') (h3 : ∀ os, (TR p w os N).map (fun r => G r.abs) = some g')
    (h0 : ∀ os, ((Bl w os).heap.isNs mainGlobals && (Bl w os).gens.size == 0) = true) : (openEnds treeTable p w N).map (fun s => (F s, G s)) = some (f', g') :=
  AcS (F := fun s => (F s, G s)) e hN f (fun os => by
    have a := h1 os
    have b := h2 os
    have c := h3 os
    unfold TR at a b c
    revert a b c
    generalize Rh treeTable p w (Bl w os).heap.objs.size ((Bl w os).heap.nsMap mainGlobals "__annotations__") N (N8 w os) (topStub p) = o
    intro a b c
    cases o with
    | none => cases a
    | some r =>
      simp only [Option.map_some, Option.some.injEq] at a b c ⊢
      rw [a, b, c]) h0
end My
namespace My
open PySem PySem.W
noncomputable def goT (tb : String → Option Builtin) (p : Program) (w : World) (m : Nat) (ann : Option Value) : Nat → SharedT → Thread → Option (SharedT × Thread)
  | 0, s, t => some (s, t)
  | k + 1, s, t => match through t with
    | true => none
    | false => match stepOk m ann t with
      | false => none
      | true => match stepT (denote tb) p w s t with
        | some (s', t') => goT tb p w m ann k s' t'
        | none => none
theorem Aan {tb : String → Option Builtin} {p : Program} {w : World} {m : Nat} {ann : Option Value} : ∀ (k : Nat) {s s' : SharedT} {t t' : Thread}, goT tb p w m ann k s t = some (s', t') → topGo tb p w m ann k s.abs t = some (s'.abs, t')
  | 0, s, s', t, t', h => by cases h; rfl
  | k + 1, s, s', t, t', h => by
    unfold goT at h
    unfold topGo
    cases e : through t with
    | true => rw [e] at h; cases h
    | false =>
      rw [e] at h
      dsimp only at h ⊢
      cases e2 : stepOk m ann t with
      | false => rw [e2] at h; cases h
      | true =>
        rw [e2] at h
        dsimp only at h ⊢
        cases e3 : stepT (denote tb) p w s t with
        | none => rw [e3] at h; cases h
        | some st =>
          obtain ⟨s2, t2⟩ := st
          rw [e3] at h
          rw [stepT_spec e3]
          exact Aan k h
theorem Aah {p : Program} {w : World} {N : Nat} {α : Type} {F : Shared → α} {g : α} (e : opening p = plainProg p.main.scope.names) (hN : Nat.ble 600 N = true) (f : ∀ s, fenceModules? p s = some s)
    (h : ∀ os, ∃ r : Shared, topRun treeTable p w (Bl w os).heap.objs.size ((Bl w os).heap.nsMap mainGlobals "__annotations__") N (Bl w os) (topStub p) = some r ∧ stays p (Bl w os) r = true ∧ F r = g)
    (h0 : ∀ os, ((Bl w os).heap.isNs mainGlobals && (Bl w os).gens.size == 0) = true) : (openEnds treeTable p w N).map F = some g := by
  have hb := boot_open e hN f w
  unfold openEnds
  cases q : fencedOpening treeTable p w N with
  | none => rw [q] at hb; cases hb
  | some s =>
    rw [q] at hb
    have hs : s = Bl w s.os := by
      obtain ⟨a, b, c, d, o⟩ := s
      simp only [Option.map_some, Option.some.injEq, Prod.mk.injEq] at hb
      obtain ⟨rfl, rfl, rfl, rfl⟩ := hb
      rfl
    generalize s.os = o at hs
    subst hs
    show (topFrom treeTable p w N (Bl w o)).map F = some g
    unfold topFrom
    rw [h0 o]
    obtain ⟨r, hr, h1, h2⟩ := h o
    unfold stays at h1
    dsimp only
    rw [hr]
    show (match staticsOk (importedModules p.main.body) (Bl w o).heap r.heap && namesBound p r.heap && gensDone r && laidKept (Bl w o).heap r.heap with
      | true => some r
      | false => none).map F = some g
    rw [h1]
    exact congrArg some h2
theorem Aai {p : Program} {w : World} {N : Nat} {α β : Type} {F : Shared → α} {G : Shared → β} {f' : α} {g' : β} {TL : OsState → Option SharedT} (e : opening p = plainProg p.main.scope.names) (hN : Nat.ble 600 N = true) (f : ∀ s, fenceModules? p s = some s)
    (hr : ∀ os r, TL os = some r → topRun treeTable p w (Bl w os).heap.objs.size ((Bl w os).heap.nsMap mainGlobals "__annotations__") N (Bl w os) (topStub p) = some r.abs)
    (h1 : ∀ os, (TL os).map (fun r => stays p (Bl w os) r.abs) = some true) (h2 : ∀ os, (TL os).map (fun r => F r.abs) = some f') (h3 : ∀ os, (TL os).map (fun r => G r.abs) = some g')
    (h0 : ∀ os, ((Bl w os).heap.isNs mainGlobals && (Bl w os).gens.size == 0) = true) : (openEnds treeTable p w N).map (fun s => (F s, G s)) = some (f', g') :=
  Aah (F := fun s => (F s, G s)) e hN f (fun os => by
    have a := h1 os
    have b := h2 os
    have c := h3 os
    have d := hr os
    cases q : TL os with
    | none => rw [q] at a; cases a
    | some r =>
      rw [q] at a b c
      simp only [Option.map_some, Option.some.injEq] at a b c
      exact ⟨_, d r q, a, by rw [b, c]⟩) h0
end My
set_option maxRecDepth 1000000
set_option maxHeartbeats 0
namespace My
open PySem PySem.W
noncomputable def tp (i : Nat) : Stmt := PySem.Challenge.pw_formcycle_k37_no_way.main.body.getD i (.Pass ⟨0, 0, 0, 0⟩)
noncomputable def fA (s : Stmt) : Arguments := match s with
  | .FunctionDef _ a _ _ _ _ _ _ _ _ => a
  | _ => ⟨[], [], none, [], [], none, []⟩
noncomputable def fB (s : Stmt) : List Stmt := match s with
  | .FunctionDef _ _ b _ _ _ _ _ _ _ => b
  | _ => []
noncomputable def fS (s : Stmt) : Scope := match s with
  | .FunctionDef _ _ _ _ _ _ c _ _ _ => c
  | _ => ⟨.function, [], false, false, []⟩
noncomputable def inC (s : Stmt) (j : Nat) : Stmt := match s with
  | .ClassDef _ _ _ b _ _ _ _ _ _ _ => b.getD j (.Pass ⟨0, 0, 0, 0⟩)
  | _ => .Pass ⟨0, 0, 0, 0⟩
noncomputable section
noncomputable abbrev O := Obj
noncomputable abbrev sT (s : String) (t : Nat) : Value := .str (.ofString s) t
noncomputable abbrev iZ (n : Int) : Value := .int n 0
noncomputable abbrev dE (P : Params) (s : String) (t : Nat) (v : Value) : DictEntry := .mk (PyData.keyHash P (.ofString s)) (.str (.ofString s) t) v
noncomputable abbrev fO (n q : String) (w : Stmt) (m : String) (t c : Nat) : Obj := .mk (.type "function") none (Data.func (FuncData.mk (.ofString n) (.ofString q) (fA w) (.stmts (fB w)) (fS w) 3 [] .none .none .none (.str (.ofString m) t) none (.ref c) .none 0)) #[]
noncomputable abbrev tO (a : Array Value) : Obj := .mk (.type "tuple") none (Data.seq a) #[]
noncomputable abbrev cO (a : Array Value) : Obj := .mk (.type "code") none (Data.fields a) #[]
noncomputable abbrev nO (a : Array Value) : Obj := .mk .none none (Data.fields a) #[]
noncomputable abbrev mO (a : Array DictEntry) : Obj := .mk (.type "dict") none (Data.dict a) #[]
noncomputable abbrev bO (a : Array Value) : Obj := .mk (.type "builtin_function_or_method") none (Data.fields a) #[]
noncomputable abbrev Lf (o : Obj) : BT := .node o .nil .nil
noncomputable abbrev Nd (o : Obj) (l r : BT) : BT := .node o l r
noncomputable abbrev sF (t : Nat) : Value := .str (.ofString "/claim/cut.py") t
noncomputable def tE : Obj := .mk (.type "tuple") none (Data.seq #[]) #[]
noncomputable abbrev cF (n q : String) (a l k r t : Nat) : Obj := .mk (.type "code") none (Data.fields #[.str (.ofString n) a, .str (.ofString q) (a + 1), .str (.ofString "/claim/cut.py") (a + 2), .int l 0, .int k 0, .int 0 0, .int 0 0, .int 3 0, .ref r, .bool true, .int 181 0, .ref (r + 1), .none, .ref (r + 2), .ref (r + 3), .ref (r + 4), .int t 0, .int l 0, .str (.ofString "/claim/cut.py") (t + 1)]) #[]
noncomputable abbrev pO (n q : String) (w : Stmt) (c : Nat) : Obj := .mk .none none (Data.func (FuncData.mk (.ofString n) (.ofString q) (fA w) (.stmts (fB w)) (fS w) 3 [] .none .none .none .none none (.ref c) .none 0)) #[]
noncomputable abbrev rO (c l : Nat) (m : String) (t : Nat) : Obj := .mk (.type "frame") none Data.plain #[some (.ref c), some (.ref 3), some (.ref l), none, some (.str (.ofString m) t), none, some (.ref 0)]
noncomputable abbrev sO (c : Nat) : Obj := .mk (.type "super") none (Data.fields #[.ref c, .ref c, .ref c]) #[]
noncomputable abbrev dO (a : Array DictEntry) (n : Nat) : Obj := .mk (.type "dict") none (Data.dict a n) #[]
noncomputable abbrev xO (n : String) (b c d e t u : Nat) : Obj := .mk (.type "type") none (Data.cls (ClassData.mk (.ofString n) [.ref b] [.ref c, .ref b, .type "ValueError", .type "Exception", .type "BaseException", .type "object"] d (.ofString n) true [] [] false none false)) #[some (.ref e), none, some (.str (.ofString n) t), some (.str (.ofString n) u), some (.builtin "ValueError.__new__"), some (.bool true)]
noncomputable def o2:O:=.mk .none none (Data.dict #[]) #[]
noncomputable def o3 (P:Params):O:=dO #[dE P "__name__" 165 (sT "law_formcycle_k37_no_way" 806),dE P "__doc__" 166 .none,dE P "__package__" 167 .none,dE P "__loader__" 168 (.builtin "__main__.__loader__#opaque"),dE P "__spec__" 169 .none,dE P "__annotations__" 170 (.ref 6),dE P "__builtins__" 171 (.ref 4),dE P "__file__" 173 (sF 172),dE P "__cached__" 174 .none,dE P "_wall" 193 (.ref 21),dE P "FormError" 213 (.ref 31),dE P "NoTurn" 238 (.ref 51),dE P "NoShape" 263 (.ref 70),dE P "TooGreat" 290 (.ref 89),dE P "NoRoot" 315 (.ref 108),dE P "NotLevel" 340 (.ref 127),dE P "NotOwn" 365 (.ref 146),dE P "Apart" 381 (.ref 158),dE P "NotPlain" 406 (.ref 177),dE P "NoMeasure" 431 (.ref 196),dE P "Nought" 447 (.ref 208),dE P "NoAnswer" 472 (.ref 227),dE P "root" 483 (.ref 236),dE P "is_square" 491 (.ref 243),dE P "check_at_most" 499 (.ref 250),dE P "SAME" 506 (.ref 251),dE P "is_turn" 513 (.ref 258),dE P "check_turn" 520 (.ref 265),dE P "put_behind" 528 (.ref 272),dE P "back" 535 (.ref 279),dE P "measure" 544 (.ref 286),dE P "value" 554 (.ref 293),dE P "moved" 564 (.ref 300),dE P "middle" 574 (.ref 307),dE P "shape" 582 (.ref 314),dE P "check_bowl" 591 (.ref 321),dE P "stands_least" 601 (.ref 328),dE P "settled" 610 (.ref 335),dE P "turn_lower" 618 (.ref 342),dE P "MOST_MEASURE" 622 (.int 4000 621),dE P "check_saddle" 629 (.ref 349),dE P "stands_level" 638 (.ref 356),dE P "turn_behind" 649 (.ref 363),dE P "stop_behind" 658 (.ref 370),dE P "eased" 667 (.ref 377),dE P "stops_round" 678 (.ref 384),dE P "lowered" 685 (.ref 391),dE P "Shape" 742 (.ref 429),dE P "Bowl" 766 (.ref 450),dE P "Saddle" 790 (.ref 469),dE P "shape_of" 797 (.ref 478),dE P "way_between" 805 (.ref 485),dE P "_law_cell" 815 (.ref 492),dE P "_law_wholes" 821 (.ref 497),dE P "_law_value" 833 (.ref 504),dE P "_law_moved" 846 (.ref 511),dE P "_law_divisor" 854 (.ref 518),dE P "_law_bar" 860 (.ref 523),dE P "_law_form" 873 (.ref 530),dE P "_law_walks" 882 (.ref 537),dE P "_law_number" 890 (.ref 544),dE P "_law_strange" 896 (.ref 549),dE P "_law_caught" 906 (.ref 556),dE P "_law_refused" 914 (.ref 563),dE P "_law_good" 926 (.ref 570),dE P "law" 941 (.ref 577)] 66
noncomputable def o17:O:=tO #[sT "k" 190]
noncomputable def o20:O:=cF "_wall" "_wall" 187 1 1 15 191
noncomputable def o21:O:=fO "_wall" "_wall" (tp 0) "__main__" 164 20
noncomputable def o22:O:=tO #[.type "ValueError"]
noncomputable def o30 (P:Params):O:=dO #[dE P "__module__" 203 (sT "formcycle.errors" 194),dE P "__firstlineno__" 207 (.int 5 206),dE P "__static_attributes__" 208 (.ref 29),dE P "__weakref__" 210 (.ref 32),dE P "__doc__" 211 .none] 3
noncomputable def o31:O:=.mk (.type "type") none (Data.cls (ClassData.mk (.ofString "FormError") [.type "ValueError"] [.ref 31, .type "ValueError", .type "Exception", .type "BaseException", .type "object"] 30 (.ofString "FormError") Bool.true [] [.ref 51,.ref 70,.ref 89,.ref 108,.ref 127,.ref 146,.ref 158,.ref 177,.ref 196,.ref 208,.ref 227] Bool.false none Bool.false)) #[some (.ref 22), none, some (sT "FormError" 196), some (sT "FormError" 204), some (.builtin "ValueError.__new__"), some (.bool true)]
noncomputable def o32:O:=.mk (.type "getset_descriptor") none (Data.fields #[sT "__weakref__" 209,.ref 31, .builtin "ExceptionGroup.__weakref__", .none]) #[]
noncomputable def o35:O:=tO #[.ref 31]
noncomputable def o44:O:=tO #[sT "self" 229,sT "turn" 230]
noncomputable def o47:O:=cF "__init__" "NoTurn.__init__" 226 9 2 42 231
noncomputable def o48:O:=fO "__init__" "NoTurn.__init__" (inC (tp 3) 0) "formcycle.errors" 194 47
noncomputable def o49:O:=tO #[sT "turn" 234]
noncomputable def o50 (P:Params):O:=dO #[dE P "__module__" 221 (sT "formcycle.errors" 194),dE P "__firstlineno__" 225 (.int 7 224),dE P "__init__" 233 (.ref 48),dE P "__static_attributes__" 235 (.ref 49),dE P "__doc__" 236 .none] 2
noncomputable def o51:O:=xO "NoTurn" 31 51 50 35 214 222
noncomputable def o54:O:=tO #[.ref 31]
noncomputable def o63:O:=tO #[sT "self" 254,sT "form" 255]
noncomputable def o66:O:=cF "__init__" "NoShape.__init__" 251 13 2 61 256
noncomputable def o67:O:=fO "__init__" "NoShape.__init__" (inC (tp 4) 0) "formcycle.errors" 194 66
noncomputable def o68:O:=tO #[sT "form" 259]
noncomputable def o69 (P:Params):O:=dO #[dE P "__module__" 246 (sT "formcycle.errors" 194),dE P "__firstlineno__" 250 (.int 11 249),dE P "__init__" 258 (.ref 67),dE P "__static_attributes__" 260 (.ref 68),dE P "__doc__" 261 .none] 2
noncomputable def o70:O:=xO "NoShape" 31 70 69 54 239 247
noncomputable def o73:O:=tO #[.ref 31]
noncomputable def o82:O:=tO #[sT "self" 279,sT "number" 280,sT "most" 281]
noncomputable def o85:O:=cF "__init__" "TooGreat.__init__" 276 17 3 80 282
noncomputable def o86:O:=fO "__init__" "TooGreat.__init__" (inC (tp 5) 0) "formcycle.errors" 194 85
noncomputable def o87:O:=tO #[sT "most" 285,sT "number" 286]
noncomputable def o88 (P:Params):O:=dO #[dE P "__module__" 271 (sT "formcycle.errors" 194),dE P "__firstlineno__" 275 (.int 15 274),dE P "__init__" 284 (.ref 86),dE P "__static_attributes__" 287 (.ref 87),dE P "__doc__" 288 .none] 2
noncomputable def o89:O:=xO "TooGreat" 31 89 88 73 264 272
noncomputable def o92:O:=tO #[.ref 31]
noncomputable def Abd:O:=tO #[sT "self" 306,sT "number" 307]
noncomputable def AcI:O:=cF "__init__" "NoRoot.__init__" 303 22 2 99 308
noncomputable def AbZ:O:=fO "__init__" "NoRoot.__init__" (inC (tp 6) 0) "formcycle.errors" 194 104
noncomputable def Acy:O:=tO #[sT "number" 311]
noncomputable def Ab1 (P:Params):O:=dO #[dE P "__module__" 298 (sT "formcycle.errors" 194),dE P "__firstlineno__" 302 (.int 20 301),dE P "__init__" 310 (.ref 105),dE P "__static_attributes__" 312 (.ref 106),dE P "__doc__" 313 .none] 2
noncomputable def Acn:O:=xO "NoRoot" 31 108 107 92 291 299
noncomputable def o111:O:=tO #[.ref 31]
noncomputable def Aa2:O:=tO #[sT "self" 331,sT "form" 332]
noncomputable def AbC:O:=cF "__init__" "NotLevel.__init__" 328 26 2 118 333
noncomputable def Acj:O:=fO "__init__" "NotLevel.__init__" (inC (tp 7) 0) "formcycle.errors" 194 123
noncomputable def Abw:O:=tO #[sT "form" 336]
noncomputable def AaP (P:Params):O:=dO #[dE P "__module__" 323 (sT "formcycle.errors" 194),dE P "__firstlineno__" 327 (.int 24 326),dE P "__init__" 335 (.ref 124),dE P "__static_attributes__" 337 (.ref 125),dE P "__doc__" 338 .none] 2
noncomputable def Ack:O:=xO "NotLevel" 31 127 126 111 316 324
noncomputable def AcG:O:=tO #[.ref 31]
noncomputable def Ac0:O:=tO #[sT "self" 356,sT "turn" 357]
noncomputable def Acx:O:=cF "__init__" "NotOwn.__init__" 353 30 2 137 358
noncomputable def AbY:O:=fO "__init__" "NotOwn.__init__" (inC (tp 8) 0) "formcycle.errors" 194 142
noncomputable def AbA:O:=tO #[sT "turn" 361]
noncomputable def Aa4 (P:Params):O:=dO #[dE P "__module__" 348 (sT "formcycle.errors" 194),dE P "__firstlineno__" 352 (.int 28 351),dE P "__init__" 360 (.ref 143),dE P "__static_attributes__" 362 (.ref 144),dE P "__doc__" 363 .none] 2
noncomputable def Abu:O:=xO "NotOwn" 31 146 145 130 341 349
noncomputable def Ae8:O:=tO #[.ref 31]
noncomputable def AdV (P:Params):O:=dO #[dE P "__module__" 373 (sT "formcycle.errors" 194),dE P "__firstlineno__" 377 (.int 32 376),dE P "__static_attributes__" 378 (.ref 156),dE P "__doc__" 379 .none] 2
noncomputable def Agd:O:=xO "Apart" 31 158 157 149 366 374
noncomputable def AeG:O:=tO #[.ref 31]
noncomputable def Aew:O:=tO #[sT "self" 397,sT "form" 398]
noncomputable def Af5:O:=cF "__init__" "NotPlain.__init__" 394 36 2 168 399
noncomputable def Aed:O:=fO "__init__" "NotPlain.__init__" (inC (tp 10) 0) "formcycle.errors" 194 173
noncomputable def AfY:O:=tO #[sT "form" 402]
noncomputable def AfZ (P:Params):O:=dO #[dE P "__module__" 389 (sT "formcycle.errors" 194),dE P "__firstlineno__" 393 (.int 34 392),dE P "__init__" 401 (.ref 174),dE P "__static_attributes__" 403 (.ref 175),dE P "__doc__" 404 .none] 2
noncomputable def Af6:O:=xO "NotPlain" 31 177 176 161 382 390
noncomputable def AeN:O:=tO #[.ref 31]
noncomputable def AfX:O:=tO #[sT "self" 422,sT "number" 423]
noncomputable def AfE:O:=cF "__init__" "NoMeasure.__init__" 419 40 2 187 424
noncomputable def Aft:O:=fO "__init__" "NoMeasure.__init__" (inC (tp 11) 0) "formcycle.errors" 194 192
noncomputable def AfS:O:=tO #[sT "number" 427]
noncomputable def Aei (P:Params):O:=dO #[dE P "__module__" 414 (sT "formcycle.errors" 194),dE P "__firstlineno__" 418 (.int 38 417),dE P "__init__" 426 (.ref 193),dE P "__static_attributes__" 428 (.ref 194),dE P "__doc__" 429 .none] 2
noncomputable def AeZ:O:=xO "NoMeasure" 31 196 195 180 407 415
noncomputable def AdN:O:=tO #[.ref 31]
noncomputable def Aea (P:Params):O:=dO #[dE P "__module__" 439 (sT "formcycle.errors" 194),dE P "__firstlineno__" 443 (.int 42 442),dE P "__static_attributes__" 444 (.ref 206),dE P "__doc__" 445 .none] 2
noncomputable def Aeb:O:=xO "Nought" 31 208 207 199 432 440
noncomputable def Afg:O:=tO #[.ref 31]
noncomputable def AeV:O:=tO #[sT "self" 463,sT "point" 464]
noncomputable def AeI:O:=cF "__init__" "NoAnswer.__init__" 460 46 2 218 465
noncomputable def Ae6:O:=fO "__init__" "NoAnswer.__init__" (inC (tp 13) 0) "formcycle.errors" 194 223
noncomputable def Afw:O:=tO #[sT "point" 468]
noncomputable def Ae4 (P:Params):O:=dO #[dE P "__module__" 455 (sT "formcycle.errors" 194),dE P "__firstlineno__" 459 (.int 44 458),dE P "__init__" 467 (.ref 224),dE P "__static_attributes__" 469 (.ref 225),dE P "__doc__" 470 .none] 2
noncomputable def AfK:O:=xO "NoAnswer" 31 227 226 211 448 456
noncomputable def Afb:O:=tO #[sT "number" 478,sT "guess" 479,sT "better" 480]
noncomputable def Af4:O:=cF "root" "root" 475 49 1 230 481
noncomputable def Afd:O:=fO "root" "root" (tp 15) "formcycle.wholes" 473 235
noncomputable def Afq:O:=tO #[sT "number" 487,sT "side" 488]
noncomputable def Afr:O:=cF "is_square" "is_square" 484 60 1 237 489
noncomputable def AeK:O:=fO "is_square" "is_square" (tp 16) "formcycle.wholes" 473 242
noncomputable def AfC:O:=tO #[sT "number" 495,sT "most" 496]
noncomputable def AeU:O:=cF "check_at_most" "check_at_most" 492 65 2 244 497
noncomputable def AdG:O:=fO "check_at_most" "check_at_most" (tp 17) "formcycle.wholes" 473 249
noncomputable def AdS:O:=tO #[.int 1 502, .int 0 503, .int 0 504, .int 1 505]
noncomputable def AeM:O:=tO #[sT "turn" 510]
noncomputable def Aga:O:=cF "is_turn" "is_turn" 507 70 1 252 511
noncomputable def AeP:O:=fO "is_turn" "is_turn" (tp 20) "formcycle.turns" 500 257
noncomputable def Ad7:O:=tO #[sT "turn" 517]
noncomputable def Afa:O:=cF "check_turn" "check_turn" 514 72 1 259 518
noncomputable def Ad5:O:=fO "check_turn" "check_turn" (tp 21) "formcycle.turns" 500 264
noncomputable def AeF:O:=tO #[sT "one" 524,sT "other" 525]
noncomputable def Ae1:O:=cF "put_behind" "put_behind" 521 75 2 266 526
noncomputable def Af3:O:=fO "put_behind" "put_behind" (tp 22) "formcycle.turns" 500 271
noncomputable def AdP:O:=tO #[sT "turn" 532]
noncomputable def Ad8:O:=cF "back" "back" 529 77 1 273 533
noncomputable def Aeg:O:=fO "back" "back" (tp 23) "formcycle.turns" 500 278
noncomputable def Aeu:O:=tO #[sT "form" 541]
noncomputable def Af8:O:=cF "measure" "measure" 538 81 1 280 542
noncomputable def Afc:O:=fO "measure" "measure" (tp 25) "formcycle.forms" 536 285
noncomputable def AeS:O:=tO #[sT "form" 548,sT "point" 549,sT "x" 550,sT "y" 551]
noncomputable def Afj:O:=cF "value" "value" 545 83 2 287 552
noncomputable def Aev:O:=fO "value" "value" (tp 26) "formcycle.forms" 536 292
noncomputable def Ae3:O:=tO #[sT "form" 558,sT "turn" 559,sT "left" 560,sT "right" 561]
noncomputable def AfG:O:=cF "moved" "moved" 555 87 2 294 562
noncomputable def o300:O:=fO "moved" "moved" (tp 27) "formcycle.forms" 536 299
noncomputable def Agm:O:=tO #[sT "form" 568,sT "left" 569,sT "right" 570,sT "crossed" 571]
noncomputable def Aim:O:=cF "middle" "middle" 565 92 3 301 572
noncomputable def Ag5:O:=fO "middle" "middle" (tp 28) "formcycle.forms" 536 306
noncomputable def AgQ:O:=tO #[sT "form" 578,sT "number" 579]
noncomputable def AgL:O:=cF "shape" "shape" 575 95 1 308 580
noncomputable def AhY:O:=fO "shape" "shape" (tp 29) "formcycle.forms" 536 313
noncomputable def Ajm:O:=tO #[sT "form" 588]
noncomputable def Ag8:O:=cF "check_bowl" "check_bowl" 585 105 1 315 589
noncomputable def AiT:O:=fO "check_bowl" "check_bowl" (tp 31) "formcycle.bowls" 583 320
noncomputable def Ain:O:=tO #[sT "form" 595,sT "a" 596,sT "b" 597,sT "c" 598]
noncomputable def Ahl:O:=cF "stands_least" "stands_least" 592 108 1 322 599
noncomputable def Ahs:O:=fO "stands_least" "stands_least" (tp 32) "formcycle.bowls" 583 327
noncomputable def Ahr:O:=tO #[sT "form" 605,sT "turn" 606,sT "lowering" 607]
noncomputable def AhG:O:=cF "settled" "settled" 602 115 1 329 608
noncomputable def AhJ:O:=fO "settled" "settled" (tp 33) "formcycle.bowls" 583 334
noncomputable def Aie:O:=tO #[sT "form" 614,sT "often" 615]
noncomputable def Ahm:O:=cF "turn_lower" "turn_lower" 611 123 1 336 616
noncomputable def Ai8:O:=fO "turn_lower" "turn_lower" (tp 34) "formcycle.bowls" 583 341
noncomputable def AiS:O:=tO #[sT "form" 626]
noncomputable def Agk:O:=cF "check_saddle" "check_saddle" 623 130 1 343 627
noncomputable def Ajl:O:=fO "check_saddle" "check_saddle" (tp 37) "formcycle.saddles" 619 348
noncomputable def AiR:O:=tO #[sT "form" 633,sT "far" 634,sT "b" 635]
noncomputable def AgE:O:=cF "stands_level" "stands_level" 630 134 2 350 636
noncomputable def AiQ:O:=fO "stands_level" "stands_level" (tp 38) "formcycle.saddles" 619 355
noncomputable def AiA:O:=tO #[sT "form" 642,sT "top" 643,sT "b" 644,sT "c" 645,sT "d" 646]
noncomputable def Ahg:O:=cF "turn_behind" "turn_behind" 639 137 2 357 647
noncomputable def AhR:O:=fO "turn_behind" "turn_behind" (tp 39) "formcycle.saddles" 619 362
noncomputable def AiG:O:=tO #[sT "stop" 653,sT "top" 654,sT "turn" 655]
noncomputable def Aik:O:=cF "stop_behind" "stop_behind" 650 142 2 364 656
noncomputable def Ah4:O:=fO "stop_behind" "stop_behind" (tp 40) "formcycle.saddles" 619 369
noncomputable def Aje:O:=tO #[sT "form" 662,sT "far" 663,sT "stop" 664]
noncomputable def AgR:O:=cF "eased" "eased" 659 145 1 371 665
noncomputable def o377:O:=fO "eased" "eased" (tp 41) "formcycle.saddles" 619 376
noncomputable def AiH:O:=tO #[sT "form" 671,sT "far" 672,sT "first" 673,sT "stops" 674,sT "stop" 675]
noncomputable def Agn:O:=cF "stops_round" "stops_round" 668 152 1 378 676
noncomputable def Agv:O:=fO "stops_round" "stops_round" (tp 42) "formcycle.saddles" 619 383
noncomputable def Agq:O:=tO #[sT "form" 682]
noncomputable def Aia:O:=cF "lowered" "lowered" 679 162 1 385 683
noncomputable def AiO:O:=fO "lowered" "lowered" (tp 43) "formcycle.saddles" 619 390
noncomputable def Ahw:O:=tO #[sT "self" 703,sT "form" 704,sT "lowest" 705]
noncomputable def Ag4:O:=cF "__init__" "Shape.__init__" 700 168 3 399 706
noncomputable def AgB:O:=fO "__init__" "Shape.__init__" (inC (tp 45) 0) "formcycle.shapes" 686 404
noncomputable def Ahf:O:=tO #[sT "self" 712]
noncomputable def Ahz:O:=cF "least" "Shape.least" 709 173 1 406 713
noncomputable def AiV:O:=fO "least" "Shape.least" (inC (tp 45) 1) "formcycle.shapes" 686 411
noncomputable def Agx:O:=tO #[sT "self" 719,sT "turn" 720]
noncomputable def Ai1:O:=cF "leaves" "Shape.leaves" 716 176 2 413 721
noncomputable def Aiv:O:=fO "leaves" "Shape.leaves" (inC (tp 45) 2) "formcycle.shapes" 686 418
noncomputable def AgN:O:=tO #[sT "self" 727,sT "other" 728]
noncomputable def Ags:O:=cF "way_to" "Shape.way_to" 724 179 2 420 729
noncomputable def AgG:O:=fO "way_to" "Shape.way_to" (inC (tp 45) 3) "formcycle.shapes" 686 425
noncomputable def Ag7:O:=tO #[sT "form" 732,sT "lowest" 733,sT "measure" 734]
noncomputable def Ago (P:Params):O:=dO #[dE P "__module__" 695 (sT "formcycle.shapes" 686),dE P "__firstlineno__" 699 (.int 166 698),dE P "__init__" 708 (.ref 405),dE P "least" 715 (.ref 412),dE P "leaves" 723 (.ref 419),dE P "way_to" 731 (.ref 426),dE P "__static_attributes__" 735 (.ref 427),dE P "__dict__" 737 (.ref 430),dE P "__weakref__" 739 (.ref 431),dE P "__doc__" 740 .none] 4
noncomputable def Ag1:O:=.mk (.type "type") none (Data.cls (ClassData.mk (.ofString "Shape") [.type "object"] [.ref 429, .type "object"] 428 (.ofString "Shape") Bool.true [] [.ref 450,.ref 469] Bool.false none Bool.false)) #[none, none, some (sT "Shape" 688), some (sT "Shape" 696), some (.builtin "object.__new__"), some (.bool true)]
noncomputable def AhM:O:=.mk (.type "getset_descriptor") none (Data.fields #[sT "__dict__" 736,.ref 429, .builtin "function.__dict__", .builtin "function.__dict__#set"]) #[]
noncomputable def AgF:O:=.mk (.type "getset_descriptor") none (Data.fields #[sT "__weakref__" 738,.ref 429, .builtin "ExceptionGroup.__weakref__", .none]) #[]
noncomputable def Aih:O:=tO #[.ref 429]
noncomputable def Agr:O:=tO #[sT "self" 758,sT "form" 759]
noncomputable def Ahu:O:=cF "__init__" "Bowl.__init__" 755 185 2 441 760
noncomputable def Ajf:O:=fO "__init__" "Bowl.__init__" (inC (tp 46) 0) "formcycle.shapes" 686 446
noncomputable def Aja (P:Params):O:=dO #[dE P "__module__" 750 (sT "formcycle.shapes" 686),dE P "__firstlineno__" 754 (.int 183 753),dE P "__init__" 762 (.ref 447),dE P "__static_attributes__" 763 (.ref 448),dE P "__doc__" 764 .none] 2
noncomputable def Ahv:O:=.mk (.type "type") none (Data.cls (ClassData.mk (.ofString "Bowl") [.ref 429] [.ref 450,.ref 429, .type "object"] 449 (.ofString "Bowl") Bool.true [] [] Bool.false none Bool.false)) #[some (.ref 434), none, some (sT "Bowl" 743), some (sT "Bowl" 751), some (.builtin "object.__new__"), some (.bool true)]
noncomputable def Ahe:O:=tO #[.ref 429]
noncomputable def Ag6:O:=tO #[sT "self" 782,sT "form" 783]
noncomputable def Agz:O:=cF "__init__" "Saddle.__init__" 779 189 2 460 784
noncomputable def AgS:O:=fO "__init__" "Saddle.__init__" (inC (tp 47) 0) "formcycle.shapes" 686 465
noncomputable def Ahj (P:Params):O:=dO #[dE P "__module__" 774 (sT "formcycle.shapes" 686),dE P "__firstlineno__" 778 (.int 187 777),dE P "__init__" 786 (.ref 466),dE P "__static_attributes__" 787 (.ref 467),dE P "__doc__" 788 .none] 2
noncomputable def Aio:O:=.mk (.type "type") none (Data.cls (ClassData.mk (.ofString "Saddle") [.ref 429] [.ref 469,.ref 429, .type "object"] 468 (.ofString "Saddle") Bool.true [] [] Bool.false none Bool.false)) #[some (.ref 453), none, some (sT "Saddle" 767), some (sT "Saddle" 775), some (.builtin "object.__new__"), some (.bool true)]
noncomputable def Agi:O:=tO #[sT "form" 794]
noncomputable def AgX:O:=cF "shape_of" "shape_of" 791 191 1 472 795
noncomputable def Ahp:O:=fO "shape_of" "shape_of" (tp 48) "formcycle.shapes" 686 477
noncomputable def Ag9:O:=tO #[sT "one" 801,sT "other" 802]
noncomputable def Ah3:O:=cF "way_between" "way_between" 798 195 2 479 803
noncomputable def Ait:O:=fO "way_between" "way_between" (tp 49) "formcycle.shapes" 686 484
noncomputable def Ah0:O:=tO #[sT "_law_script" 811,sT "_law_k" 812]
noncomputable def Aij:O:=cF "_law_cell" "_law_cell" 808 200 2 486 813
noncomputable def AhW:O:=fO "_law_cell" "_law_cell" (tp 51) "law_formcycle_k37_no_way" 806 491
noncomputable def Ag0:O:=cO #[sT "_law_wholes" 816,sT "_law_wholes" 817, sF 818,iZ 204,iZ 2,iZ 0,iZ 0,iZ 3,.ref 493, .bool true,iZ 181,.ref 494, .none, .none, .none,.ref 495,iZ 819,iZ 204, sF 820]
noncomputable def Ah6:O:=fO "_law_wholes" "_law_wholes" (tp 52) "law_formcycle_k37_no_way" 806 496
noncomputable def Ai3:O:=tO #[sT "_law_form_here" 825,sT "_law_x" 826,sT "_law_y" 827,sT "_law_a" 828,sT "_law_b" 829,sT "_law_c" 830]
noncomputable def Agu:O:=cF "_law_value" "_law_value" 822 208 3 498 831
noncomputable def Ah1:O:=fO "_law_value" "_law_value" (tp 53) "law_formcycle_k37_no_way" 806 503
noncomputable def Aix:O:=tO #[sT "_law_form_here" 837,sT "_law_turn" 838,sT "_law_p" 839,sT "_law_q" 840,sT "_law_r" 841,sT "_law_s" 842,sT "_law_middle" 843]
noncomputable def Ajg:O:=cF "_law_moved" "_law_moved" 834 211 2 505 844
noncomputable def Ajb:O:=fO "_law_moved" "_law_moved" (tp 54) "law_formcycle_k37_no_way" 806 510
noncomputable def AgJ:O:=tO #[sT "_law_one" 850,sT "_law_other" 851]
noncomputable def AgY:O:=cF "_law_divisor" "_law_divisor" 847 216 2 512 852
noncomputable def Ai7:O:=fO "_law_divisor" "_law_divisor" (tp 55) "law_formcycle_k37_no_way" 806 517
noncomputable def Ai5:O:=cO #[sT "_law_bar" 855,sT "_law_bar" 856, sF 857,iZ 220,iZ 1,iZ 0,iZ 0,iZ 3,.ref 519, .bool true,iZ 181,.ref 520, .none, .none, .none,.ref 521,iZ 858,iZ 220, sF 859]
noncomputable def AhH:O:=fO "_law_bar" "_law_bar" (tp 56) "law_formcycle_k37_no_way" 806 522
noncomputable def AiB:O:=tO #[sT "_law_bar_here" 864,sT "_law_one" 865,sT "_law_other" 866,sT "_law_number_here" 867,sT "_law_b" 868,sT "_law_rest" 869,sT "_law_a" 870]
noncomputable def AgI:O:=cF "_law_form" "_law_form" 861 230 3 524 871
noncomputable def AhP:O:=fO "_law_form" "_law_form" (tp 57) "law_formcycle_k37_no_way" 806 529
noncomputable def Aj3:O:=tO #[sT "_law_form_here" 877,sT "_law_turn" 878,sT "_law_other" 879]
noncomputable def Ajy:O:=cF "_law_walks" "_law_walks" 874 240 3 531 880
noncomputable def Aj8:O:=fO "_law_walks" "_law_walks" (tp 58) "law_formcycle_k37_no_way" 806 536
noncomputable def Ajx:O:=tO #[sT "_law_cell_here" 886,sT "_law_far" 887]
noncomputable def Akz:O:=cF "_law_number" "_law_number" 883 244 1 538 888
noncomputable def AkC:O:=fO "_law_number" "_law_number" (tp 59) "law_formcycle_k37_no_way" 806 543
noncomputable def Aj9:O:=cO #[sT "_law_strange" 891,sT "_law_strange" 892, sF 893,iZ 249,iZ 2,iZ 0,iZ 0,iZ 3,.ref 545, .bool true,iZ 181,.ref 546, .none, .none, .none,.ref 547,iZ 894,iZ 249, sF 895]
noncomputable def AjP:O:=fO "_law_strange" "_law_strange" (tp 60) "law_formcycle_k37_no_way" 806 548
noncomputable def Akf:O:=tO #[sT "_law_one" 900,sT "_law_four" 901,sT "_law_caught_here" 902,sT "_law_e" 903]
noncomputable def o555:O:=cF "_law_caught" "_law_caught" 897 261 2 550 904
noncomputable def Akc:O:=fO "_law_caught" "_law_caught" (tp 61) "law_formcycle_k37_no_way" 806 555
noncomputable def Ajt:O:=tO #[sT "_law_e" 910,sT "_law_four" 911]
noncomputable def AjZ:O:=cF "_law_refused" "_law_refused" 907 268 2 557 912
noncomputable def Akm:O:=fO "_law_refused" "_law_refused" (tp 62) "law_formcycle_k37_no_way" 806 562
noncomputable def Aky:O:=tO #[sT "_law_one" 918,sT "_law_form_here" 919,sT "_law_bar_here" 920,sT "_law_strange_here" 921,sT "_law_there" 922,sT "_law_way" 923]
noncomputable def Aj4:O:=cF "_law_good" "_law_good" 915 274 5 564 924
noncomputable def AjM:O:=fO "_law_good" "_law_good" (tp 63) "law_formcycle_k37_no_way" 806 569
noncomputable def AjD:O:=tO #[sT "_law_script" 930,sT "_law_bar_here" 931,sT "_law_form_here" 932,sT "_law_one" 933,sT "_law_cells" 934,sT "_law_k" 935,sT "_law_strange_here" 936,sT "_law_four" 937,sT "_law_found" 938]
noncomputable def Aju:O:=cF "law" "law" 927 281 1 571 939
noncomputable def AjE:O:=fO "law" "law" (tp 64) "law_formcycle_k37_no_way" 806 576
noncomputable def KK : Params → Frag :=
fun P => (nat_lit 2,o2)::(nat_lit 3,o3 P)::(nat_lit 15,tE)::(nat_lit 17,o17)::(nat_lit 18,tE)::(nat_lit 20,o20)::(nat_lit 21,o21)::(nat_lit 22,o22)::(nat_lit 29,tE)::(nat_lit 30,o30 P)::(nat_lit 31,o31)::(nat_lit 32,o32)::(nat_lit 35,o35)::(nat_lit 42,tE)::(nat_lit 44,o44)::(nat_lit 45,tE)::(nat_lit 47,o47)::(nat_lit 48,o48)::(nat_lit 49,o49)::(nat_lit 50,o50 P)::(nat_lit 51,o51)::(nat_lit 54,o54)::(nat_lit 61,tE)::(nat_lit 63,o63)::(nat_lit 64,tE)::(nat_lit 66,o66)::(nat_lit 67,o67)::(nat_lit 68,o68)::(nat_lit 69,o69 P)::(nat_lit 70,o70)::(nat_lit 73,o73)::(nat_lit 80,tE)::(nat_lit 82,o82)::(nat_lit 83,tE)::(nat_lit 85,o85)::(nat_lit 86,o86)::(nat_lit 87,o87)::(nat_lit 88,o88 P)::(nat_lit 89,o89)::(nat_lit 92,o92)::(nat_lit 99,tE)::(nat_lit 101,Abd)::(nat_lit 102,tE)::(nat_lit 104,AcI)::(nat_lit 105,AbZ)::(nat_lit 106,Acy)::(nat_lit 107,Ab1 P)::(nat_lit 108,Acn)::(nat_lit 111,o111)::(nat_lit 118,tE)::(nat_lit 120,Aa2)::(nat_lit 121,tE)::(nat_lit 123,AbC)::(nat_lit 124,Acj)::(nat_lit 125,Abw)::(nat_lit 126,AaP P)::(nat_lit 127,Ack)::(nat_lit 130,AcG)::(nat_lit 137,tE)::(nat_lit 139,Ac0)::(nat_lit 140,tE)::(nat_lit 142,Acx)::(nat_lit 143,AbY)::(nat_lit 144,AbA)::(nat_lit 145,Aa4 P)::(nat_lit 146,Abu)::(nat_lit 149,Ae8)::(nat_lit 156,tE)::(nat_lit 157,AdV P)::(nat_lit 158,Agd)::(nat_lit 161,AeG)::(nat_lit 168,tE)::(nat_lit 170,Aew)::(nat_lit 171,tE)::(nat_lit 173,Af5)::(nat_lit 174,Aed)::(nat_lit 175,AfY)::(nat_lit 176,AfZ P)::(nat_lit 177,Af6)::(nat_lit 180,AeN)::(nat_lit 187,tE)::(nat_lit 189,AfX)::(nat_lit 190,tE)::(nat_lit 192,AfE)::(nat_lit 193,Aft)::(nat_lit 194,AfS)::(nat_lit 195,Aei P)::(nat_lit 196,AeZ)::(nat_lit 199,AdN)::(nat_lit 206,tE)::(nat_lit 207,Aea P)::(nat_lit 208,Aeb)::(nat_lit 211,Afg)::(nat_lit 218,tE)::(nat_lit 220,AeV)::(nat_lit 221,tE)::(nat_lit 223,AeI)::(nat_lit 224,Ae6)::(nat_lit 225,Afw)::(nat_lit 226,Ae4 P)::(nat_lit 227,AfK)::(nat_lit 230,tE)::(nat_lit 232,Afb)::(nat_lit 233,tE)::(nat_lit 235,Af4)::(nat_lit 236,Afd)::(nat_lit 237,tE)::(nat_lit 239,Afq)::(nat_lit 240,tE)::(nat_lit 242,Afr)::(nat_lit 243,AeK)::(nat_lit 244,tE)::(nat_lit 246,AfC)::(nat_lit 247,tE)::(nat_lit 249,AeU)::(nat_lit 250,AdG)::(nat_lit 251,AdS)::(nat_lit 252,tE)::(nat_lit 254,AeM)::(nat_lit 255,tE)::(nat_lit 257,Aga)::(nat_lit 258,AeP)::(nat_lit 259,tE)::(nat_lit 261,Ad7)::(nat_lit 262,tE)::(nat_lit 264,Afa)::(nat_lit 265,Ad5)::(nat_lit 266,tE)::(nat_lit 268,AeF)::(nat_lit 269,tE)::(nat_lit 271,Ae1)::(nat_lit 272,Af3)::(nat_lit 273,tE)::(nat_lit 275,AdP)::(nat_lit 276,tE)::(nat_lit 278,Ad8)::(nat_lit 279,Aeg)::(nat_lit 280,tE)::(nat_lit 282,Aeu)::(nat_lit 283,tE)::(nat_lit 285,Af8)::(nat_lit 286,Afc)::(nat_lit 287,tE)::(nat_lit 289,AeS)::(nat_lit 290,tE)::(nat_lit 292,Afj)::(nat_lit 293,Aev)::(nat_lit 294,tE)::(nat_lit 296,Ae3)::(nat_lit 297,tE)::(nat_lit 299,AfG)::(nat_lit 300,o300)::(nat_lit 301,tE)::(nat_lit 303,Agm)::(nat_lit 304,tE)::(nat_lit 306,Aim)::(nat_lit 307,Ag5)::(nat_lit 308,tE)::(nat_lit 310,AgQ)::(nat_lit 311,tE)::(nat_lit 313,AgL)::(nat_lit 314,AhY)::(nat_lit 315,tE)::(nat_lit 317,Ajm)::(nat_lit 318,tE)::(nat_lit 320,Ag8)::(nat_lit 321,AiT)::(nat_lit 322,tE)::(nat_lit 324,Ain)::(nat_lit 325,tE)::(nat_lit 327,Ahl)::(nat_lit 328,Ahs)::(nat_lit 329,tE)::(nat_lit 331,Ahr)::(nat_lit 332,tE)::(nat_lit 334,AhG)::(nat_lit 335,AhJ)::(nat_lit 336,tE)::(nat_lit 338,Aie)::(nat_lit 339,tE)::(nat_lit 341,Ahm)::(nat_lit 342,Ai8)::(nat_lit 343,tE)::(nat_lit 345,AiS)::(nat_lit 346,tE)::(nat_lit 348,Agk)::(nat_lit 349,Ajl)::(nat_lit 350,tE)::(nat_lit 352,AiR)::(nat_lit 353,tE)::(nat_lit 355,AgE)::(nat_lit 356,AiQ)::(nat_lit 357,tE)::(nat_lit 359,AiA)::(nat_lit 360,tE)::(nat_lit 362,Ahg)::(nat_lit 363,AhR)::(nat_lit 364,tE)::(nat_lit 366,AiG)::(nat_lit 367,tE)::(nat_lit 369,Aik)::(nat_lit 370,Ah4)::(nat_lit 371,tE)::(nat_lit 373,Aje)::(nat_lit 374,tE)::(nat_lit 376,AgR)::(nat_lit 377,o377)::(nat_lit 378,tE)::(nat_lit 380,AiH)::(nat_lit 381,tE)::(nat_lit 383,Agn)::(nat_lit 384,Agv)::(nat_lit 385,tE)::(nat_lit 387,Agq)::(nat_lit 388,tE)::(nat_lit 390,Aia)::(nat_lit 391,AiO)::(nat_lit 399,tE)::(nat_lit 401,Ahw)::(nat_lit 402,tE)::(nat_lit 404,Ag4)::(nat_lit 405,AgB)::(nat_lit 406,tE)::(nat_lit 408,Ahf)::(nat_lit 409,tE)::(nat_lit 411,Ahz)::(nat_lit 412,AiV)::(nat_lit 413,tE)::(nat_lit 415,Agx)::(nat_lit 416,tE)::(nat_lit 418,Ai1)::(nat_lit 419,Aiv)::(nat_lit 420,tE)::(nat_lit 422,AgN)::(nat_lit 423,tE)::(nat_lit 425,Ags)::(nat_lit 426,AgG)::(nat_lit 427,Ag7)::(nat_lit 428,Ago P)::(nat_lit 429,Ag1)::(nat_lit 430,AhM)::(nat_lit 431,AgF)::(nat_lit 434,Aih)::(nat_lit 441,tE)::(nat_lit 443,Agr)::(nat_lit 444,tE)::(nat_lit 446,Ahu)::(nat_lit 447,Ajf)::(nat_lit 448,tE)::(nat_lit 449,Aja P)::(nat_lit 450,Ahv)::(nat_lit 453,Ahe)::(nat_lit 460,tE)::(nat_lit 462,Ag6)::(nat_lit 463,tE)::(nat_lit 465,Agz)::(nat_lit 466,AgS)::(nat_lit 467,tE)::(nat_lit 468,Ahj P)::(nat_lit 469,Aio)::(nat_lit 472,tE)::(nat_lit 474,Agi)::(nat_lit 475,tE)::(nat_lit 477,AgX)::(nat_lit 478,Ahp)::(nat_lit 479,tE)::(nat_lit 481,Ag9)::(nat_lit 482,tE)::(nat_lit 484,Ah3)::(nat_lit 485,Ait)::(nat_lit 486,tE)::(nat_lit 488,Ah0)::(nat_lit 489,tE)::(nat_lit 491,Aij)::(nat_lit 492,AhW)::(nat_lit 493,tE)::(nat_lit 496,Ag0)::(nat_lit 497,Ah6)::(nat_lit 498,tE)::(nat_lit 500,Ai3)::(nat_lit 501,tE)::(nat_lit 503,Agu)::(nat_lit 504,Ah1)::(nat_lit 505,tE)::(nat_lit 507,Aix)::(nat_lit 508,tE)::(nat_lit 510,Ajg)::(nat_lit 511,Ajb)::(nat_lit 512,tE)::(nat_lit 514,AgJ)::(nat_lit 515,tE)::(nat_lit 517,AgY)::(nat_lit 518,Ai7)::(nat_lit 519,tE)::(nat_lit 522,Ai5)::(nat_lit 523,AhH)::(nat_lit 524,tE)::(nat_lit 526,AiB)::(nat_lit 527,tE)::(nat_lit 529,AgI)::(nat_lit 530,AhP)::(nat_lit 531,tE)::(nat_lit 533,Aj3)::(nat_lit 534,tE)::(nat_lit 536,Ajy)::(nat_lit 537,Aj8)::(nat_lit 538,tE)::(nat_lit 540,Ajx)::(nat_lit 541,tE)::(nat_lit 543,Akz)::(nat_lit 544,AkC)::(nat_lit 545,tE)::(nat_lit 548,Aj9)::(nat_lit 549,AjP)::(nat_lit 550,tE)::(nat_lit 552,Akf)::(nat_lit 553,tE)::(nat_lit 555,o555)::(nat_lit 556,Akc)::(nat_lit 557,tE)::(nat_lit 559,Ajt)::(nat_lit 560,tE)::(nat_lit 562,AjZ)::(nat_lit 563,Akm)::(nat_lit 564,tE)::(nat_lit 566,Aky)::(nat_lit 567,tE)::(nat_lit 569,Aj4)::(nat_lit 570,AjM)::(nat_lit 571,tE)::(nat_lit 573,AjD)::(nat_lit 574,tE)::(nat_lit 576,Aju)::(nat_lit 577,AjE)::[]
noncomputable def Ao:O:=nO #[]
noncomputable def Vx:O:=cO #[sT "<module>" 182,sT "<module>" 183, sF 184,iZ 1,iZ 0,iZ 0,iZ 0,iZ 0,.ref 11, .bool false,iZ 181,.ref 12, .none, .none, .none, .none,iZ 185,iZ 1, sF 186]
noncomputable def Uz:O:=rO 13 3 "__main__" 164
noncomputable def Aj0 (P:Params):O:=dO #[dE P "__name__" 165 (sT "formcycle.errors" 194),dE P "__doc__" 166 .none,dE P "__package__" 167 .none,dE P "__loader__" 168 (.builtin "__main__.__loader__#opaque"),dE P "__spec__" 169 .none,dE P "__annotations__" 170 (.ref 6),dE P "__builtins__" 171 (.ref 4),dE P "__file__" 173 (sF 172),dE P "__cached__" 174 .none,dE P "_wall" 193 (.ref 21),dE P "FormError" 213 (.ref 31),dE P "NoTurn" 238 (.ref 51),dE P "NoShape" 263 (.ref 70),dE P "TooGreat" 290 (.ref 89),dE P "NoRoot" 315 (.ref 108),dE P "NotLevel" 340 (.ref 127),dE P "NotOwn" 365 (.ref 146)] 17
noncomputable def AhU:O:=nO #[iZ 1,iZ 0,.ref 20,iZ 5,iZ 0,.ref 27,iZ 7,iZ 0,.ref 40,iZ 11,iZ 0,.ref 59,iZ 15,iZ 0,.ref 78,iZ 20,iZ 0,.ref 97,iZ 24,iZ 0,.ref 116,iZ 28,iZ 0,.ref 135]
noncomputable def X3:O:=.mk .none none (Data.func (FuncData.mk (.ofString "_wall") (.ofString "_wall") (fA (tp 0)) (.stmts (fB (tp 0))) (fS (tp 0)) 0 [] .none .none .none .none none .none .none 0)) #[]
noncomputable def BJ:O:=bO #[.builtin "type.__prepare__", .type "type"]
noncomputable def Xz (P:Params):O:=dO #[dE P "__module__" 203 (sT "formcycle.errors" 194),dE P "__qualname__" 205 (sT "FormError" 204),dE P "__firstlineno__" 207 (.int 5 206),dE P "__static_attributes__" 208 (.ref 29)] 4
noncomputable def Aav:O:=cO #[sT "FormError" 198,sT "FormError" 199, sF 200,iZ 5,iZ 0,iZ 0,iZ 0,iZ 0,.ref 25, .bool false,iZ 181,.ref 26, .none, .none, .none, .none,iZ 201,iZ 5, sF 202]
noncomputable def Zw:O:=rO 27 24 "formcycle.errors" 194
noncomputable def AgZ:O:=.mk (.type "type") none (Data.cls (ClassData.mk (.ofString "FormError") [.type "ValueError"] [.ref 31, .type "ValueError", .type "Exception", .type "BaseException", .type "object"] 30 (.ofString "FormError") Bool.true [] [.ref 51,.ref 70,.ref 89,.ref 108,.ref 127,.ref 146] Bool.false none Bool.false)) #[some (.ref 22), none, some (sT "FormError" 196), some (sT "FormError" 204), some (.builtin "ValueError.__new__"), some (.bool true)]
noncomputable def Yj:O:=sO 31
noncomputable def YW:O:=bO #[.builtin "object.__init_subclass__",.ref 31]
noncomputable def Yz (P:Params):O:=dO #[dE P "__module__" 221 (sT "formcycle.errors" 194),dE P "__qualname__" 223 (sT "NoTurn" 222),dE P "__firstlineno__" 225 (.int 7 224),dE P "__init__" 233 (.ref 48),dE P "__static_attributes__" 235 (.ref 49)] 5
noncomputable def ZX:O:=nO #[iZ 9,iZ 4,.ref 47]
noncomputable def XF:O:=cO #[sT "NoTurn" 216,sT "NoTurn" 217, sF 218,iZ 7,iZ 0,iZ 0,iZ 0,iZ 0,.ref 38, .bool false,iZ 181,.ref 39, .none, .none, .none, .none,iZ 219,iZ 7, sF 220]
noncomputable def Z2:O:=rO 40 37 "formcycle.errors" 194
noncomputable def YT:O:=.mk .none none (Data.func (FuncData.mk (.ofString "__init__") (.ofString "NoTurn.__init__") (fA (inC (tp 3) 0)) (.stmts (fB (inC (tp 3) 0))) (fS (inC (tp 3) 0)) 0 [] .none .none .none .none none .none .none 0)) #[]
noncomputable def YL:O:=sO 51
noncomputable def AaB:O:=bO #[.builtin "object.__init_subclass__",.ref 51]
noncomputable def Z8 (P:Params):O:=dO #[dE P "__module__" 246 (sT "formcycle.errors" 194),dE P "__qualname__" 248 (sT "NoShape" 247),dE P "__firstlineno__" 250 (.int 11 249),dE P "__init__" 258 (.ref 67),dE P "__static_attributes__" 260 (.ref 68)] 5
noncomputable def ZR:O:=nO #[iZ 13,iZ 4,.ref 66]
noncomputable def Zi:O:=cO #[sT "NoShape" 241,sT "NoShape" 242, sF 243,iZ 11,iZ 0,iZ 0,iZ 0,iZ 0,.ref 57, .bool false,iZ 181,.ref 58, .none, .none, .none, .none,iZ 244,iZ 11, sF 245]
noncomputable def X5:O:=rO 59 56 "formcycle.errors" 194
noncomputable def ZP:O:=.mk .none none (Data.func (FuncData.mk (.ofString "__init__") (.ofString "NoShape.__init__") (fA (inC (tp 4) 0)) (.stmts (fB (inC (tp 4) 0))) (fS (inC (tp 4) 0)) 0 [] .none .none .none .none none .none .none 0)) #[]
noncomputable def XM:O:=sO 70
noncomputable def Aad:O:=bO #[.builtin "object.__init_subclass__",.ref 70]
noncomputable def Aaq (P:Params):O:=dO #[dE P "__module__" 271 (sT "formcycle.errors" 194),dE P "__qualname__" 273 (sT "TooGreat" 272),dE P "__firstlineno__" 275 (.int 15 274),dE P "__init__" 284 (.ref 86),dE P "__static_attributes__" 287 (.ref 87)] 5
noncomputable def YB:O:=nO #[iZ 17,iZ 4,.ref 85]
noncomputable def Zq:O:=cO #[sT "TooGreat" 266,sT "TooGreat" 267, sF 268,iZ 15,iZ 0,iZ 0,iZ 0,iZ 0,.ref 76, .bool false,iZ 181,.ref 77, .none, .none, .none, .none,iZ 269,iZ 15, sF 270]
noncomputable def Zg:O:=rO 78 75 "formcycle.errors" 194
noncomputable def ZF:O:=.mk .none none (Data.func (FuncData.mk (.ofString "__init__") (.ofString "TooGreat.__init__") (fA (inC (tp 5) 0)) (.stmts (fB (inC (tp 5) 0))) (fS (inC (tp 5) 0)) 0 [] .none .none .none .none none .none .none 0)) #[]
noncomputable def Aap:O:=sO 89
noncomputable def X7:O:=bO #[.builtin "object.__init_subclass__",.ref 89]
noncomputable def Zn (P:Params):O:=dO #[dE P "__module__" 298 (sT "formcycle.errors" 194),dE P "__qualname__" 300 (sT "NoRoot" 299),dE P "__firstlineno__" 302 (.int 20 301),dE P "__init__" 310 (.ref 105),dE P "__static_attributes__" 312 (.ref 106)] 5
noncomputable def Aax:O:=nO #[iZ 22,iZ 4,.ref 104]
noncomputable def YC:O:=cO #[sT "NoRoot" 293,sT "NoRoot" 294, sF 295,iZ 20,iZ 0,iZ 0,iZ 0,iZ 0,.ref 95, .bool false,iZ 181,.ref 96, .none, .none, .none, .none,iZ 296,iZ 20, sF 297]
noncomputable def Xy:O:=rO 97 94 "formcycle.errors" 194
noncomputable def T9:O:=.mk .none none (Data.func (FuncData.mk (.ofString "__init__") (.ofString "NoRoot.__init__") (fA (inC (tp 6) 0)) (.stmts (fB (inC (tp 6) 0))) (fS (inC (tp 6) 0)) 0 [] .none .none .none .none none .none .none 0)) #[]
noncomputable def Sy:O:=sO 108
noncomputable def Ud:O:=bO #[.builtin "object.__init_subclass__",.ref 108]
noncomputable def S6 (P:Params):O:=dO #[dE P "__module__" 323 (sT "formcycle.errors" 194),dE P "__qualname__" 325 (sT "NotLevel" 324),dE P "__firstlineno__" 327 (.int 24 326),dE P "__init__" 335 (.ref 124),dE P "__static_attributes__" 337 (.ref 125)] 5
noncomputable def Tc:O:=nO #[iZ 26,iZ 4,.ref 123]
noncomputable def RT:O:=cO #[sT "NotLevel" 318,sT "NotLevel" 319, sF 320,iZ 24,iZ 0,iZ 0,iZ 0,iZ 0,.ref 114, .bool false,iZ 181,.ref 115, .none, .none, .none, .none,iZ 321,iZ 24, sF 322]
noncomputable def Tr:O:=rO 116 113 "formcycle.errors" 194
noncomputable def TF:O:=.mk .none none (Data.func (FuncData.mk (.ofString "__init__") (.ofString "NotLevel.__init__") (fA (inC (tp 7) 0)) (.stmts (fB (inC (tp 7) 0))) (fS (inC (tp 7) 0)) 0 [] .none .none .none .none none .none .none 0)) #[]
noncomputable def SQ:O:=sO 127
noncomputable def Ug:O:=bO #[.builtin "object.__init_subclass__",.ref 127]
noncomputable def Ua (P:Params):O:=dO #[dE P "__module__" 348 (sT "formcycle.errors" 194),dE P "__qualname__" 350 (sT "NotOwn" 349),dE P "__firstlineno__" 352 (.int 28 351),dE P "__init__" 360 (.ref 143),dE P "__static_attributes__" 362 (.ref 144)] 5
noncomputable def R9:O:=nO #[iZ 30,iZ 4,.ref 142]
noncomputable def Tw:O:=cO #[sT "NotOwn" 343,sT "NotOwn" 344, sF 345,iZ 28,iZ 0,iZ 0,iZ 0,iZ 0,.ref 133, .bool false,iZ 181,.ref 134, .none, .none, .none, .none,iZ 346,iZ 28, sF 347]
noncomputable def TQ:O:=rO 135 132 "formcycle.errors" 194
noncomputable def Ui:O:=.mk .none none (Data.func (FuncData.mk (.ofString "__init__") (.ofString "NotOwn.__init__") (fA (inC (tp 8) 0)) (.stmts (fB (inC (tp 8) 0))) (fS (inC (tp 8) 0)) 0 [] .none .none .none .none none .none .none 0)) #[]
noncomputable def Tz:O:=sO 146
noncomputable def TY:O:=bO #[.builtin "object.__init_subclass__",.ref 146]
noncomputable def Aho (P:Params):O:=dO #[dE P "__name__" 165 (sT "formcycle.forms" 536),dE P "__doc__" 166 .none,dE P "__package__" 167 .none,dE P "__loader__" 168 (.builtin "__main__.__loader__#opaque"),dE P "__spec__" 169 .none,dE P "__annotations__" 170 (.ref 6),dE P "__builtins__" 171 (.ref 4),dE P "__file__" 173 (sF 172),dE P "__cached__" 174 .none,dE P "_wall" 193 (.ref 21),dE P "FormError" 213 (.ref 31),dE P "NoTurn" 238 (.ref 51),dE P "NoShape" 263 (.ref 70),dE P "TooGreat" 290 (.ref 89),dE P "NoRoot" 315 (.ref 108),dE P "NotLevel" 340 (.ref 127),dE P "NotOwn" 365 (.ref 146),dE P "Apart" 381 (.ref 158),dE P "NotPlain" 406 (.ref 177),dE P "NoMeasure" 431 (.ref 196),dE P "Nought" 447 (.ref 208),dE P "NoAnswer" 472 (.ref 227),dE P "root" 483 (.ref 236),dE P "is_square" 491 (.ref 243),dE P "check_at_most" 499 (.ref 250),dE P "SAME" 506 (.ref 251),dE P "is_turn" 513 (.ref 258),dE P "check_turn" 520 (.ref 265),dE P "put_behind" 528 (.ref 272),dE P "back" 535 (.ref 279),dE P "measure" 544 (.ref 286),dE P "value" 554 (.ref 293),dE P "moved" 564 (.ref 300)] 33
noncomputable def AfM:O:=nO #[iZ 1,iZ 0,.ref 20,iZ 5,iZ 0,.ref 27,iZ 7,iZ 0,.ref 40,iZ 11,iZ 0,.ref 59,iZ 15,iZ 0,.ref 78,iZ 20,iZ 0,.ref 97,iZ 24,iZ 0,.ref 116,iZ 28,iZ 0,.ref 135,iZ 32,iZ 0,.ref 154,iZ 34,iZ 0,.ref 166,iZ 38,iZ 0,.ref 185,iZ 42,iZ 0,.ref 204,iZ 44,iZ 0,.ref 216,iZ 49,iZ 0,.ref 235,iZ 60,iZ 0,.ref 242,iZ 65,iZ 0,.ref 249,iZ 70,iZ 0,.ref 257,iZ 72,iZ 0,.ref 264,iZ 75,iZ 0,.ref 271,iZ 77,iZ 0,.ref 278,iZ 81,iZ 0,.ref 285,iZ 83,iZ 0,.ref 292,iZ 87,iZ 0,.ref 299]
noncomputable def Ww (P:Params):O:=dO #[dE P "__module__" 373 (sT "formcycle.errors" 194),dE P "__qualname__" 375 (sT "Apart" 374),dE P "__firstlineno__" 377 (.int 32 376),dE P "__static_attributes__" 378 (.ref 156)] 4
noncomputable def Wr:O:=cO #[sT "Apart" 368,sT "Apart" 369, sF 370,iZ 32,iZ 0,iZ 0,iZ 0,iZ 0,.ref 152, .bool false,iZ 181,.ref 153, .none, .none, .none, .none,iZ 371,iZ 32, sF 372]
noncomputable def Wb:O:=rO 154 151 "formcycle.errors" 194
noncomputable def Vn:O:=sO 158
noncomputable def VD:O:=bO #[.builtin "object.__init_subclass__",.ref 158]
noncomputable def Wq (P:Params):O:=dO #[dE P "__module__" 389 (sT "formcycle.errors" 194),dE P "__qualname__" 391 (sT "NotPlain" 390),dE P "__firstlineno__" 393 (.int 34 392),dE P "__init__" 401 (.ref 174),dE P "__static_attributes__" 403 (.ref 175)] 5
noncomputable def VB:O:=nO #[iZ 36,iZ 4,.ref 173]
noncomputable def Va:O:=cO #[sT "NotPlain" 384,sT "NotPlain" 385, sF 386,iZ 34,iZ 0,iZ 0,iZ 0,iZ 0,.ref 164, .bool false,iZ 181,.ref 165, .none, .none, .none, .none,iZ 387,iZ 34, sF 388]
noncomputable def Ut:O:=rO 166 163 "formcycle.errors" 194
noncomputable def U5:O:=.mk .none none (Data.func (FuncData.mk (.ofString "__init__") (.ofString "NotPlain.__init__") (fA (inC (tp 10) 0)) (.stmts (fB (inC (tp 10) 0))) (fS (inC (tp 10) 0)) 0 [] .none .none .none .none none .none .none 0)) #[]
noncomputable def Vw:O:=sO 177
noncomputable def UJ:O:=bO #[.builtin "object.__init_subclass__",.ref 177]
noncomputable def Uw (P:Params):O:=dO #[dE P "__module__" 414 (sT "formcycle.errors" 194),dE P "__qualname__" 416 (sT "NoMeasure" 415),dE P "__firstlineno__" 418 (.int 38 417),dE P "__init__" 426 (.ref 193),dE P "__static_attributes__" 428 (.ref 194)] 5
noncomputable def UW:O:=nO #[iZ 40,iZ 4,.ref 192]
noncomputable def Vd:O:=cO #[sT "NoMeasure" 409,sT "NoMeasure" 410, sF 411,iZ 38,iZ 0,iZ 0,iZ 0,iZ 0,.ref 183, .bool false,iZ 181,.ref 184, .none, .none, .none, .none,iZ 412,iZ 38, sF 413]
noncomputable def U9:O:=rO 185 182 "formcycle.errors" 194
noncomputable def Wk:O:=.mk .none none (Data.func (FuncData.mk (.ofString "__init__") (.ofString "NoMeasure.__init__") (fA (inC (tp 11) 0)) (.stmts (fB (inC (tp 11) 0))) (fS (inC (tp 11) 0)) 0 [] .none .none .none .none none .none .none 0)) #[]
noncomputable def Wa:O:=sO 196
noncomputable def Vp:O:=bO #[.builtin "object.__init_subclass__",.ref 196]
noncomputable def VP (P:Params):O:=dO #[dE P "__module__" 439 (sT "formcycle.errors" 194),dE P "__qualname__" 441 (sT "Nought" 440),dE P "__firstlineno__" 443 (.int 42 442),dE P "__static_attributes__" 444 (.ref 206)] 4
noncomputable def Wm:O:=cO #[sT "Nought" 434,sT "Nought" 435, sF 436,iZ 42,iZ 0,iZ 0,iZ 0,iZ 0,.ref 202, .bool false,iZ 181,.ref 203, .none, .none, .none, .none,iZ 437,iZ 42, sF 438]
noncomputable def Wt:O:=rO 204 201 "formcycle.errors" 194
noncomputable def V9:O:=sO 208
noncomputable def Vz:O:=bO #[.builtin "object.__init_subclass__",.ref 208]
noncomputable def Vr (P:Params):O:=dO #[dE P "__module__" 455 (sT "formcycle.errors" 194),dE P "__qualname__" 457 (sT "NoAnswer" 456),dE P "__firstlineno__" 459 (.int 44 458),dE P "__init__" 467 (.ref 224),dE P "__static_attributes__" 469 (.ref 225)] 5
noncomputable def Ur:O:=nO #[iZ 46,iZ 4,.ref 223]
noncomputable def VG:O:=cO #[sT "NoAnswer" 450,sT "NoAnswer" 451, sF 452,iZ 44,iZ 0,iZ 0,iZ 0,iZ 0,.ref 214, .bool false,iZ 181,.ref 215, .none, .none, .none, .none,iZ 453,iZ 44, sF 454]
noncomputable def V4:O:=rO 216 213 "formcycle.errors" 194
noncomputable def Uq:O:=.mk .none none (Data.func (FuncData.mk (.ofString "__init__") (.ofString "NoAnswer.__init__") (fA (inC (tp 13) 0)) (.stmts (fB (inC (tp 13) 0))) (fS (inC (tp 13) 0)) 0 [] .none .none .none .none none .none .none 0)) #[]
noncomputable def Vj:O:=sO 227
noncomputable def Wd:O:=bO #[.builtin "object.__init_subclass__",.ref 227]
noncomputable def VN:O:=.mk .none none (Data.func (FuncData.mk (.ofString "root") (.ofString "root") (fA (tp 15)) (.stmts (fB (tp 15))) (fS (tp 15)) 0 [] .none .none .none .none none .none .none 0)) #[]
noncomputable def Uk:O:=.mk .none none (Data.func (FuncData.mk (.ofString "is_square") (.ofString "is_square") (fA (tp 16)) (.stmts (fB (tp 16))) (fS (tp 16)) 0 [] .none .none .none .none none .none .none 0)) #[]
noncomputable def UG:O:=.mk .none none (Data.func (FuncData.mk (.ofString "check_at_most") (.ofString "check_at_most") (fA (tp 17)) (.stmts (fB (tp 17))) (fS (tp 17)) 0 [] .none .none .none .none none .none .none 0)) #[]
noncomputable def Vt:O:=.mk .none none (Data.func (FuncData.mk (.ofString "is_turn") (.ofString "is_turn") (fA (tp 20)) (.stmts (fB (tp 20))) (fS (tp 20)) 0 [] .none .none .none .none none .none .none 0)) #[]
noncomputable def Wj:O:=.mk .none none (Data.func (FuncData.mk (.ofString "check_turn") (.ofString "check_turn") (fA (tp 21)) (.stmts (fB (tp 21))) (fS (tp 21)) 0 [] .none .none .none .none none .none .none 0)) #[]
noncomputable def U4:O:=.mk .none none (Data.func (FuncData.mk (.ofString "put_behind") (.ofString "put_behind") (fA (tp 22)) (.stmts (fB (tp 22))) (fS (tp 22)) 0 [] .none .none .none .none none .none .none 0)) #[]
noncomputable def VJ:O:=.mk .none none (Data.func (FuncData.mk (.ofString "back") (.ofString "back") (fA (tp 23)) (.stmts (fB (tp 23))) (fS (tp 23)) 0 [] .none .none .none .none none .none .none 0)) #[]
noncomputable def Us:O:=.mk .none none (Data.func (FuncData.mk (.ofString "measure") (.ofString "measure") (fA (tp 25)) (.stmts (fB (tp 25))) (fS (tp 25)) 0 [] .none .none .none .none none .none .none 0)) #[]
noncomputable def VL:O:=.mk .none none (Data.func (FuncData.mk (.ofString "value") (.ofString "value") (fA (tp 26)) (.stmts (fB (tp 26))) (fS (tp 26)) 0 [] .none .none .none .none none .none .none 0)) #[]
noncomputable def Uy:O:=.mk .none none (Data.func (FuncData.mk (.ofString "moved") (.ofString "moved") (fA (tp 27)) (.stmts (fB (tp 27))) (fS (tp 27)) 0 [] .none .none .none .none none .none .none 0)) #[]
noncomputable def AhF (P:Params):O:=dO #[dE P "__name__" 165 (sT "law_formcycle_k37_no_way" 806),dE P "__doc__" 166 .none,dE P "__package__" 167 .none,dE P "__loader__" 168 (.builtin "__main__.__loader__#opaque"),dE P "__spec__" 169 .none,dE P "__annotations__" 170 (.ref 6),dE P "__builtins__" 171 (.ref 4),dE P "__file__" 173 (sF 172),dE P "__cached__" 174 .none,dE P "_wall" 193 (.ref 21),dE P "FormError" 213 (.ref 31),dE P "NoTurn" 238 (.ref 51),dE P "NoShape" 263 (.ref 70),dE P "TooGreat" 290 (.ref 89),dE P "NoRoot" 315 (.ref 108),dE P "NotLevel" 340 (.ref 127),dE P "NotOwn" 365 (.ref 146),dE P "Apart" 381 (.ref 158),dE P "NotPlain" 406 (.ref 177),dE P "NoMeasure" 431 (.ref 196),dE P "Nought" 447 (.ref 208),dE P "NoAnswer" 472 (.ref 227),dE P "root" 483 (.ref 236),dE P "is_square" 491 (.ref 243),dE P "check_at_most" 499 (.ref 250),dE P "SAME" 506 (.ref 251),dE P "is_turn" 513 (.ref 258),dE P "check_turn" 520 (.ref 265),dE P "put_behind" 528 (.ref 272),dE P "back" 535 (.ref 279),dE P "measure" 544 (.ref 286),dE P "value" 554 (.ref 293),dE P "moved" 564 (.ref 300),dE P "middle" 574 (.ref 307),dE P "shape" 582 (.ref 314),dE P "check_bowl" 591 (.ref 321),dE P "stands_least" 601 (.ref 328),dE P "settled" 610 (.ref 335),dE P "turn_lower" 618 (.ref 342),dE P "MOST_MEASURE" 622 (.int 4000 621),dE P "check_saddle" 629 (.ref 349),dE P "stands_level" 638 (.ref 356),dE P "turn_behind" 649 (.ref 363),dE P "stop_behind" 658 (.ref 370),dE P "eased" 667 (.ref 377),dE P "stops_round" 678 (.ref 384),dE P "lowered" 685 (.ref 391),dE P "Shape" 742 (.ref 429),dE P "Bowl" 766 (.ref 450),dE P "Saddle" 790 (.ref 469),dE P "shape_of" 797 (.ref 478),dE P "way_between" 805 (.ref 485),dE P "_law_cell" 815 (.ref 492),dE P "_law_wholes" 821 (.ref 497),dE P "_law_value" 833 (.ref 504),dE P "_law_moved" 846 (.ref 511),dE P "_law_divisor" 854 (.ref 518),dE P "_law_bar" 860 (.ref 523),dE P "_law_form" 873 (.ref 530)] 59
noncomputable def AdT:O:=nO #[iZ 1,iZ 0,.ref 20,iZ 5,iZ 0,.ref 27,iZ 7,iZ 0,.ref 40,iZ 11,iZ 0,.ref 59,iZ 15,iZ 0,.ref 78,iZ 20,iZ 0,.ref 97,iZ 24,iZ 0,.ref 116,iZ 28,iZ 0,.ref 135,iZ 32,iZ 0,.ref 154,iZ 34,iZ 0,.ref 166,iZ 38,iZ 0,.ref 185,iZ 42,iZ 0,.ref 204,iZ 44,iZ 0,.ref 216,iZ 49,iZ 0,.ref 235,iZ 60,iZ 0,.ref 242,iZ 65,iZ 0,.ref 249,iZ 70,iZ 0,.ref 257,iZ 72,iZ 0,.ref 264,iZ 75,iZ 0,.ref 271,iZ 77,iZ 0,.ref 278,iZ 81,iZ 0,.ref 285,iZ 83,iZ 0,.ref 292,iZ 87,iZ 0,.ref 299,iZ 92,iZ 0,.ref 306,iZ 95,iZ 0,.ref 313,iZ 105,iZ 0,.ref 320,iZ 108,iZ 0,.ref 327,iZ 115,iZ 0,.ref 334,iZ 123,iZ 0,.ref 341,iZ 130,iZ 0,.ref 348,iZ 134,iZ 0,.ref 355,iZ 137,iZ 0,.ref 362,iZ 142,iZ 0,.ref 369,iZ 145,iZ 0,.ref 376,iZ 152,iZ 0,.ref 383,iZ 162,iZ 0,.ref 390,iZ 166,iZ 0,.ref 397,iZ 183,iZ 0,.ref 439,iZ 187,iZ 0,.ref 458,iZ 191,iZ 0,.ref 477,iZ 195,iZ 0,.ref 484,iZ 200,iZ 0,.ref 491,iZ 204,iZ 0,.ref 496,iZ 208,iZ 0,.ref 503,iZ 211,iZ 0,.ref 510,iZ 216,iZ 0,.ref 517,iZ 220,iZ 0,.ref 522,iZ 230,iZ 0,.ref 529]
noncomputable def AbB:O:=.mk .none none (Data.func (FuncData.mk (.ofString "middle") (.ofString "middle") (fA (tp 28)) (.stmts (fB (tp 28))) (fS (tp 28)) 0 [] .none .none .none .none none .none .none 0)) #[]
noncomputable def AaN:O:=.mk .none none (Data.func (FuncData.mk (.ofString "shape") (.ofString "shape") (fA (tp 29)) (.stmts (fB (tp 29))) (fS (tp 29)) 0 [] .none .none .none .none none .none .none 0)) #[]
noncomputable def Acz:O:=.mk .none none (Data.func (FuncData.mk (.ofString "check_bowl") (.ofString "check_bowl") (fA (tp 31)) (.stmts (fB (tp 31))) (fS (tp 31)) 0 [] .none .none .none .none none .none .none 0)) #[]
noncomputable def Ab9:O:=.mk .none none (Data.func (FuncData.mk (.ofString "stands_least") (.ofString "stands_least") (fA (tp 32)) (.stmts (fB (tp 32))) (fS (tp 32)) 0 [] .none .none .none .none none .none .none 0)) #[]
noncomputable def AbE:O:=.mk .none none (Data.func (FuncData.mk (.ofString "settled") (.ofString "settled") (fA (tp 33)) (.stmts (fB (tp 33))) (fS (tp 33)) 0 [] .none .none .none .none none .none .none 0)) #[]
noncomputable def AcJ:O:=.mk .none none (Data.func (FuncData.mk (.ofString "turn_lower") (.ofString "turn_lower") (fA (tp 34)) (.stmts (fB (tp 34))) (fS (tp 34)) 0 [] .none .none .none .none none .none .none 0)) #[]
noncomputable def AcO:O:=.mk .none none (Data.func (FuncData.mk (.ofString "check_saddle") (.ofString "check_saddle") (fA (tp 37)) (.stmts (fB (tp 37))) (fS (tp 37)) 0 [] .none .none .none .none none .none .none 0)) #[]
noncomputable def AbF:O:=.mk .none none (Data.func (FuncData.mk (.ofString "stands_level") (.ofString "stands_level") (fA (tp 38)) (.stmts (fB (tp 38))) (fS (tp 38)) 0 [] .none .none .none .none none .none .none 0)) #[]
noncomputable def Abz:O:=.mk .none none (Data.func (FuncData.mk (.ofString "turn_behind") (.ofString "turn_behind") (fA (tp 39)) (.stmts (fB (tp 39))) (fS (tp 39)) 0 [] .none .none .none .none none .none .none 0)) #[]
noncomputable def Ach:O:=.mk .none none (Data.func (FuncData.mk (.ofString "stop_behind") (.ofString "stop_behind") (fA (tp 40)) (.stmts (fB (tp 40))) (fS (tp 40)) 0 [] .none .none .none .none none .none .none 0)) #[]
noncomputable def AcK:O:=.mk .none none (Data.func (FuncData.mk (.ofString "eased") (.ofString "eased") (fA (tp 41)) (.stmts (fB (tp 41))) (fS (tp 41)) 0 [] .none .none .none .none none .none .none 0)) #[]
noncomputable def Ab7:O:=.mk .none none (Data.func (FuncData.mk (.ofString "stops_round") (.ofString "stops_round") (fA (tp 42)) (.stmts (fB (tp 42))) (fS (tp 42)) 0 [] .none .none .none .none none .none .none 0)) #[]
noncomputable def AcC:O:=.mk .none none (Data.func (FuncData.mk (.ofString "lowered") (.ofString "lowered") (fA (tp 43)) (.stmts (fB (tp 43))) (fS (tp 43)) 0 [] .none .none .none .none none .none .none 0)) #[]
noncomputable def Abn (P:Params):O:=dO #[dE P "__module__" 695 (sT "formcycle.shapes" 686),dE P "__qualname__" 697 (sT "Shape" 696),dE P "__firstlineno__" 699 (.int 166 698),dE P "__init__" 708 (.ref 405),dE P "least" 715 (.ref 412),dE P "leaves" 723 (.ref 419),dE P "way_to" 731 (.ref 426),dE P "__static_attributes__" 735 (.ref 427)] 8
noncomputable def Acw:O:=nO #[iZ 168,iZ 4,.ref 404,iZ 173,iZ 4,.ref 411,iZ 176,iZ 4,.ref 418,iZ 179,iZ 4,.ref 425]
noncomputable def Abk:O:=cO #[sT "Shape" 690,sT "Shape" 691, sF 692,iZ 166,iZ 0,iZ 0,iZ 0,iZ 0,.ref 395, .bool false,iZ 181,.ref 396, .none, .none, .none, .none,iZ 693,iZ 166, sF 694]
noncomputable def Ab3:O:=rO 397 394 "formcycle.shapes" 686
noncomputable def AaX:O:=.mk .none none (Data.func (FuncData.mk (.ofString "__init__") (.ofString "Shape.__init__") (fA (inC (tp 45) 0)) (.stmts (fB (inC (tp 45) 0))) (fS (inC (tp 45) 0)) 0 [] .none .none .none .none none .none .none 0)) #[]
noncomputable def Ab4:O:=.mk .none none (Data.func (FuncData.mk (.ofString "least") (.ofString "Shape.least") (fA (inC (tp 45) 1)) (.stmts (fB (inC (tp 45) 1))) (fS (inC (tp 45) 1)) 0 [] .none .none .none .none none .none .none 0)) #[]
noncomputable def AcE:O:=.mk .none none (Data.func (FuncData.mk (.ofString "leaves") (.ofString "Shape.leaves") (fA (inC (tp 45) 2)) (.stmts (fB (inC (tp 45) 2))) (fS (inC (tp 45) 2)) 0 [] .none .none .none .none none .none .none 0)) #[]
noncomputable def Abg:O:=.mk .none none (Data.func (FuncData.mk (.ofString "way_to") (.ofString "Shape.way_to") (fA (inC (tp 45) 3)) (.stmts (fB (inC (tp 45) 3))) (fS (inC (tp 45) 3)) 0 [] .none .none .none .none none .none .none 0)) #[]
noncomputable def AbR:O:=sO 429
noncomputable def AcP:O:=bO #[.builtin "object.__init_subclass__",.ref 429]
noncomputable def Acp (P:Params):O:=dO #[dE P "__module__" 750 (sT "formcycle.shapes" 686),dE P "__qualname__" 752 (sT "Bowl" 751),dE P "__firstlineno__" 754 (.int 183 753),dE P "__init__" 762 (.ref 447),dE P "__static_attributes__" 763 (.ref 448)] 5
noncomputable def Ace:O:=nO #[iZ 185,iZ 4,.ref 446]
noncomputable def AcW:O:=cO #[sT "Bowl" 745,sT "Bowl" 746, sF 747,iZ 183,iZ 0,iZ 0,iZ 0,iZ 0,.ref 437, .bool false,iZ 181,.ref 438, .none, .none, .none, .none,iZ 748,iZ 183, sF 749]
noncomputable def Aco:O:=rO 439 436 "formcycle.shapes" 686
noncomputable def Ac3:O:=.mk .none none (Data.func (FuncData.mk (.ofString "__init__") (.ofString "Bowl.__init__") (fA (inC (tp 46) 0)) (.stmts (fB (inC (tp 46) 0))) (fS (inC (tp 46) 0)) 0 [] .none .none .none .none none .none .none 0)) #[]
noncomputable def Abj:O:=sO 450
noncomputable def AaZ:O:=bO #[.builtin "object.__init_subclass__",.ref 450]
noncomputable def Abo (P:Params):O:=dO #[dE P "__module__" 774 (sT "formcycle.shapes" 686),dE P "__qualname__" 776 (sT "Saddle" 775),dE P "__firstlineno__" 778 (.int 187 777),dE P "__init__" 786 (.ref 466),dE P "__static_attributes__" 787 (.ref 467)] 5
noncomputable def Ab6:O:=nO #[iZ 189,iZ 4,.ref 465]
noncomputable def Abh:O:=cO #[sT "Saddle" 769,sT "Saddle" 770, sF 771,iZ 187,iZ 0,iZ 0,iZ 0,iZ 0,.ref 456, .bool false,iZ 181,.ref 457, .none, .none, .none, .none,iZ 772,iZ 187, sF 773]
noncomputable def AbW:O:=rO 458 455 "formcycle.shapes" 686
noncomputable def Abv:O:=.mk .none none (Data.func (FuncData.mk (.ofString "__init__") (.ofString "Saddle.__init__") (fA (inC (tp 47) 0)) (.stmts (fB (inC (tp 47) 0))) (fS (inC (tp 47) 0)) 0 [] .none .none .none .none none .none .none 0)) #[]
noncomputable def AbD:O:=sO 469
noncomputable def Ab2:O:=bO #[.builtin "object.__init_subclass__",.ref 469]
noncomputable def Aa9:O:=.mk .none none (Data.func (FuncData.mk (.ofString "shape_of") (.ofString "shape_of") (fA (tp 48)) (.stmts (fB (tp 48))) (fS (tp 48)) 0 [] .none .none .none .none none .none .none 0)) #[]
noncomputable def Acd:O:=.mk .none none (Data.func (FuncData.mk (.ofString "way_between") (.ofString "way_between") (fA (tp 49)) (.stmts (fB (tp 49))) (fS (tp 49)) 0 [] .none .none .none .none none .none .none 0)) #[]
noncomputable def Aby:O:=.mk .none none (Data.func (FuncData.mk (.ofString "_law_cell") (.ofString "_law_cell") (fA (tp 51)) (.stmts (fB (tp 51))) (fS (tp 51)) 0 [] .none .none .none .none none .none .none 0)) #[]
noncomputable def AaT:O:=.mk .none none (Data.func (FuncData.mk (.ofString "_law_wholes") (.ofString "_law_wholes") (fA (tp 52)) (.stmts (fB (tp 52))) (fS (tp 52)) 0 [] .none .none .none .none none .none .none 0)) #[]
noncomputable def Acf:O:=.mk .none none (Data.func (FuncData.mk (.ofString "_law_value") (.ofString "_law_value") (fA (tp 53)) (.stmts (fB (tp 53))) (fS (tp 53)) 0 [] .none .none .none .none none .none .none 0)) #[]
noncomputable def Abf:O:=.mk .none none (Data.func (FuncData.mk (.ofString "_law_moved") (.ofString "_law_moved") (fA (tp 54)) (.stmts (fB (tp 54))) (fS (tp 54)) 0 [] .none .none .none .none none .none .none 0)) #[]
noncomputable def Ab0:O:=.mk .none none (Data.func (FuncData.mk (.ofString "_law_divisor") (.ofString "_law_divisor") (fA (tp 55)) (.stmts (fB (tp 55))) (fS (tp 55)) 0 [] .none .none .none .none none .none .none 0)) #[]
noncomputable def AaY:O:=.mk .none none (Data.func (FuncData.mk (.ofString "_law_bar") (.ofString "_law_bar") (fA (tp 56)) (.stmts (fB (tp 56))) (fS (tp 56)) 0 [] .none .none .none .none none .none .none 0)) #[]
noncomputable def Acv:O:=.mk .none none (Data.func (FuncData.mk (.ofString "_law_form") (.ofString "_law_form") (fA (tp 57)) (.stmts (fB (tp 57))) (fS (tp 57)) 0 [] .none .none .none .none none .none .none 0)) #[]
noncomputable def tr0 (P : Params) : BT := Nd (boot_o_0 P) (Nd (boot_o_1 P) (Nd (boot_o_3 P) (Lf (boot_o_7 P)) (Lf tE)) (Nd (boot_o_5 P) (Lf (boot_o_9 P)) (Lf Vx))) (Nd (boot_o_2 P) (Nd (boot_o_4 P) (Lf (boot_o_8 P)) (Lf Ao)) (Nd (boot_o_6 P) (Lf (boot_o_10 P)) (Lf Uz)))
noncomputable def St0 (w : World) (os : OsState) : SharedT := ⟨tr0 w.params, 15, Life.mk [] [] [] 0 [] [] Bool.false #[] [] 0 Bool.false Bool.false Bool.false 0 [2000, 10, 10] Bool.false 0 Bool.true [] [] 0 Bool.false, Array.mk [], Drawn.mk 0 0 0 0, 187, os⟩
noncomputable def ps0 : Pos := ⟨0, 0, 0, 0⟩
noncomputable def tr9 (P : Params) : BT := Nd (boot_o_0 P) (Nd (boot_o_1 P) (Nd (Aj0 P) (Nd (boot_o_7 P) (Nd tE (Nd AgZ (Nd o63 (Lf Ack) .nil) (Lf tE)) (Nd o47 (Nd Zg (Lf AbY) .nil) (Lf o111))) (Nd BJ (Nd ZX (Nd XM (Lf Tw) .nil) (Lf T9)) (Nd BJ (Lf o87) (Lf Ao)))) (Nd tE (Nd X3 (Nd o35 (Nd o67 (Lf BJ) .nil) (Lf tE)) (Nd o51 (Nd tE (Lf Tz) .nil) (Lf Tc))) (Nd Aav (Nd Ao (Nd (Aaq P) (Lf Ac0) .nil) (Lf (Ab1 P))) (Nd Zi (Lf X7) (Lf AbC))))) (Nd (boot_o_5 P) (Nd (boot_o_9 P) (Nd o17 (Nd Yj (Nd ZP (Lf Ug) .nil) (Lf YC)) (Nd o49 (Nd Ao (Lf (Aa4 P)) .nil) (Lf (S6 P)))) (Nd tE (Nd Z2 (Nd o73 (Lf tE) .nil) (Lf AbZ)) (Nd tE (Lf o89) (Lf tE)))) (Nd Vx (Nd o21 (Nd (Yz P) (Nd (o69 P) (Lf tE) .nil) (Lf Abd)) (Nd AaB (Lf o85) (Lf Tr))) (Nd tE (Nd tE (Nd YB (Lf Ui) .nil) (Lf Sy)) (Nd tE (Lf BJ) (Lf Abw)))))) (Nd (boot_o_2 P) (Nd (boot_o_4 P) (Nd (boot_o_8 P) (Nd Ao (Nd o32 (Nd tE (Lf SQ) .nil) (Lf Aax)) (Nd o48 (Nd tE (Lf AbA) .nil) (Lf BJ))) (Nd (Xz P) (Nd XF (Nd Aad (Lf TQ) .nil) (Lf AcI)) (Nd (Z8 P) (Lf (o88 P)) (Lf Aa2)))) (Nd AhU (Nd o20 (Nd BJ (Nd o68 (Lf (Ua P)) .nil) (Lf Ao)) (Nd YL (Nd ZF (Lf TY) .nil) (Lf RT))) (Nd Zw (Nd o44 (Nd tE (Lf tE) .nil) (Lf Acn)) (Nd X5 (Lf o92) (Lf Acj))))) (Nd (boot_o_6 P) (Nd (boot_o_10 P) (Nd tE (Nd YW (Nd o66 (Lf AcG) .nil) (Lf Xy)) (Nd (o50 P) (Nd o82 (Lf Abu) .nil) (Lf tE))) (Nd Ao (Nd tE (Nd BJ (Lf Ao) .nil) (Lf Acy)) (Nd ZR (Lf Aap) (Lf TF)))) (Nd Uz (Nd o22 (Nd tE (Nd o70 (Lf R9) .nil) (Lf tE)) (Nd o54 (Lf o86) (Lf tE))) (Nd (o30 P) (Nd YT (Nd Zq (Lf Acx) .nil) (Lf Ud)) (Nd Ao (Lf (Zn P)) (Lf (AaP P)))))))
noncomputable def St9 (w : World) (os : OsState) : SharedT := ⟨tr9 w.params, 149, Life.mk [] [] [] 0 [] [] Bool.false #[] [] 0 Bool.false Bool.false Bool.false 0 [2000, 10, 10] Bool.false 0 Bool.true [] [] 0 Bool.false, Array.mk [], Drawn.mk 0 0 0 0, 366, os⟩
noncomputable def ps9 : Pos := ⟨28, 0, 31, 24⟩
noncomputable def AjN (P : Params) : BT := Nd (boot_o_0 P) (Nd (boot_o_1 P) (Nd (Aho P) (Nd (boot_o_7 P) (Nd tE (Nd o31 (Nd o63 (Nd Ack (Lf tE) .nil) (Lf Wk)) (Nd tE (Nd Vn (Lf tE) .nil) (Lf AeI))) (Nd o47 (Nd Zg (Nd AbY (Lf Ae1) .nil) (Lf (Aea P))) (Nd o111 (Lf AfY) (Lf Afq)))) (Nd BJ (Nd ZX (Nd XM (Nd Tw (Lf Wj) .nil) (Lf AdN)) (Nd T9 (Nd Ut (Lf Ao) .nil) (Lf Ao))) (Nd BJ (Nd o87 (Nd (Ww P) (Lf Aeg) .nil) (Lf Ur)) (Nd Ao (Lf tE) (Lf tE))))) (Nd tE (Nd X3 (Nd o35 (Nd o67 (Nd BJ (Lf tE) .nil) (Lf (Aei P))) (Nd tE (Nd (Wq P) (Lf VL) .nil) (Lf AfK))) (Nd o51 (Nd tE (Nd Tz (Lf AdP) .nil) (Lf Afg)) (Nd Tc (Lf UJ) (Lf AeK)))) (Nd Aav (Nd Ao (Nd (Aaq P) (Nd Ac0 (Lf Ao) .nil) (Lf Ao)) (Nd (Ab1 P) (Nd tE (Lf AfG) .nil) (Lf Af4))) (Nd Zi (Nd X7 (Nd Wb (Lf tE) .nil) (Lf Ao)) (Nd AbC (Lf tE) (Lf AdS)))))) (Nd (boot_o_5 P) (Nd (boot_o_9 P) (Nd o17 (Nd Yj (Nd ZP (Nd Ug (Lf Aga) .nil) (Lf Aft)) (Nd YC (Nd AeG (Lf AeS) .nil) (Lf Afw))) (Nd o49 (Nd Ao (Nd (Aa4 P) (Lf tE) .nil) (Lf V9)) (Nd (S6 P) (Lf Af6) (Lf Uk)))) (Nd tE (Nd Z2 (Nd o73 (Nd tE (Lf Ad5) .nil) (Lf (VP P))) (Nd AbZ (Nd Ao (Lf tE) .nil) (Lf tE))) (Nd tE (Nd o89 (Nd Ao (Lf Ao) .nil) (Lf V4)) (Nd tE (Lf Vd) (Lf AeU))))) (Nd Vx (Nd o21 (Nd (Yz P) (Nd (o69 P) (Nd tE (Lf Ad7) .nil) (Lf Wa)) (Nd Abd (Nd VB (Lf Aev) .nil) (Lf Wd))) (Nd AaB (Nd o85 (Nd Ae8 (Lf VJ) .nil) (Lf (Vr P))) (Nd Tr (Lf BJ) (Lf Ao)))) (Nd tE (Nd tE (Nd YB (Nd Ui (Lf tE) .nil) (Lf Wt)) (Nd Sy (Lf Af5) (Lf tE))) (Nd tE (Nd BJ (Nd (AdV P) (Lf Af8) .nil) (Lf tE)) (Nd Abw (Lf AfX) (Lf Ao))))))) (Nd (boot_o_2 P) (Nd (boot_o_4 P) (Nd (boot_o_8 P) (Nd Ao (Nd o32 (Nd tE (Nd SQ (Lf Vt) .nil) (Lf AfE)) (Nd Aax (Nd VD (Lf Ao) .nil) (Lf Ae6))) (Nd o48 (Nd tE (Nd AbA (Lf Af3) .nil) (Lf Aeb)) (Nd BJ (Lf (AfZ P)) (Lf tE)))) (Nd (Xz P) (Nd XF (Nd Aad (Nd TQ (Lf Afa) .nil) (Lf BJ)) (Nd AcI (Nd tE (Lf Ae3) .nil) (Lf Afb))) (Nd (Z8 P) (Nd (o88 P) (Nd tE (Lf tE) .nil) (Lf VG)) (Nd Aa2 (Lf UW) (Lf UG))))) (Nd AfM (Nd o20 (Nd BJ (Nd o68 (Nd (Ua P) (Lf Ao) .nil) (Lf AeZ)) (Nd Ao (Nd tE (Lf Afj) .nil) (Lf Vj))) (Nd YL (Nd ZF (Nd TY (Lf tE) .nil) (Lf BJ)) (Nd RT (Lf AeN) (Lf tE)))) (Nd Zw (Nd o44 (Nd tE (Nd tE (Lf AeF) .nil) (Lf Wm)) (Nd Acn (Nd U5 (Lf o300) .nil) (Lf Afd))) (Nd X5 (Nd o92 (Nd tE (Lf Us) .nil) (Lf AeV)) (Nd Acj (Lf Ao) (Lf tE)))))) (Nd (boot_o_6 P) (Nd (boot_o_10 P) (Nd tE (Nd YW (Nd o66 (Nd AcG (Lf AeP) .nil) (Lf AfS)) (Nd Xy (Nd BJ (Lf tE) .nil) (Lf (Ae4 P)))) (Nd (o50 P) (Nd o82 (Nd Abu (Lf Ao) .nil) (Lf Vz)) (Nd tE (Lf Vw) (Lf Afr)))) (Nd Ao (Nd tE (Nd BJ (Nd Ao (Lf tE) .nil) (Lf tE)) (Nd Acy (Nd Aew (Lf Uy) .nil) (Lf VN))) (Nd ZR (Nd Aap (Nd Wr (Lf Aeu) .nil) (Lf tE)) (Nd TF (Lf U9) (Lf AdG))))) (Nd Uz (Nd o22 (Nd tE (Nd o70 (Nd R9 (Lf tE) .nil) (Lf Vp)) (Nd tE (Nd Va (Lf tE) .nil) (Lf tE))) (Nd o54 (Nd o86 (Nd BJ (Lf Ad8) .nil) (Lf tE)) (Nd tE (Lf (Uw P)) (Lf AfC)))) (Nd (o30 P) (Nd YT (Nd Zq (Nd Acx (Lf U4) .nil) (Lf tE)) (Nd Ud (Lf Aed) (Lf Ao))) (Nd Ao (Nd (Zn P) (Nd Agd (Lf Afc) .nil) (Lf Uq)) (Nd (AaP P) (Lf tE) (Lf AeM)))))))
noncomputable def AhQ (w : World) (os : OsState) : SharedT := ⟨AjN w.params, 301, Life.mk [] [] [] 0 [] [] Bool.false #[] [] 0 Bool.false Bool.false Bool.false 0 [2000, 10, 10] Bool.false 0 Bool.true [] [] 0 Bool.false, Array.mk [], Drawn.mk 0 0 0 0, 565, os⟩
noncomputable def AiM : Pos := ⟨87, 0, 91, 77⟩
noncomputable def AjB (P : Params) : BT := Nd (boot_o_0 P) (Nd (boot_o_1 P) (Nd (AhF P) (Nd (boot_o_7 P) (Nd tE (Nd o31 (Nd o63 (Nd Ack (Nd tE (Lf Ajb) .nil) (Lf Agn)) (Nd Wk (Lf Acz) (Lf Ajf))) (Nd tE (Nd Vn (Lf tE) (Lf Agx)) (Nd AeI (Lf Ao) (Lf tE)))) (Nd o47 (Nd Zg (Nd AbY (Nd Ae1 (Lf tE) .nil) (Lf tE)) (Nd (Aea P) (Lf AhJ) (Lf tE))) (Nd o111 (Nd AfY (Lf Agm) (Lf AgF)) (Nd Afq (Lf tE) (Lf AaT))))) (Nd BJ (Nd ZX (Nd XM (Nd Tw (Nd Wj (Lf tE) .nil) (Lf AiO)) (Nd AdN (Lf Ahl) (Lf (Abo P)))) (Nd T9 (Nd Ut (Lf Ao) (Lf tE)) (Nd Ao (Lf AiA) (Lf Ao)))) (Nd BJ (Nd o87 (Nd (Ww P) (Lf Aeg) (Lf Ao)) (Nd Ur (Lf tE) (Lf Ab2))) (Nd Ao (Nd tE (Lf tE) (Lf AcW)) (Nd tE (Lf AcK) (Lf Agu)))))) (Nd tE (Nd X3 (Nd o35 (Nd o67 (Nd BJ (Nd tE (Lf tE) .nil) (Lf Agq)) (Nd (Aei P) (Lf Ao) (Lf Abj))) (Nd tE (Nd (Wq P) (Lf VL) (Lf Aiv)) (Nd AfK (Lf AgE) (Lf Acd)))) (Nd o51 (Nd tE (Nd Tz (Lf AdP) (Lf AaX)) (Nd Afg (Lf tE) (Lf tE))) (Nd Tc (Nd UJ (Lf Ag5) (Lf BJ)) (Nd AeK (Lf tE) (Lf Ao))))) (Nd Aav (Nd Ao (Nd (Aaq P) (Nd Ac0 (Nd Ao (Lf AhH) .nil) (Lf tE)) (Nd Ao (Lf Ahr) (Lf AbW))) (Nd (Ab1 P) (Nd tE (Lf AfG) (Lf Ag7)) (Nd Af4 (Lf AhR) (Lf Aij)))) (Nd Zi (Nd X7 (Nd Wb (Lf tE) (Lf Ahz)) (Nd Ao (Lf AcO) (Lf tE))) (Nd AbC (Nd tE (Lf tE) (Lf Agr)) (Nd AdS (Lf Ao) (Lf Aix))))))) (Nd (boot_o_5 P) (Nd (boot_o_9 P) (Nd o17 (Nd Yj (Nd ZP (Nd Ug (Nd Aga (Lf Ao) .nil) (Lf tE)) (Nd Aft (Lf AiT) (Lf (Aja P)))) (Nd YC (Nd AeG (Lf AeS) (Lf AcE)) (Nd Afw (Lf tE) (Lf Ag9)))) (Nd o49 (Nd Ao (Nd (Aa4 P) (Nd tE (Lf AgI) .nil) (Lf Ahw)) (Nd V9 (Lf Ao) (Lf Agz))) (Nd (S6 P) (Nd Af6 (Lf AbB) (Lf AcP)) (Nd Uk (Lf Aik) (Lf Ah6))))) (Nd tE (Nd Z2 (Nd o73 (Nd tE (Nd Ad5 (Lf AaY) .nil) (Lf BJ)) (Nd (VP P) (Lf tE) (Lf Ab6))) (Nd AbZ (Nd Ao (Lf tE) (Lf Ags)) (Nd tE (Lf Abz) (Lf tE)))) (Nd tE (Nd o89 (Nd Ao (Lf Ao) (Lf tE)) (Nd V4 (Lf AiS) (Lf Ao))) (Nd tE (Nd Vd (Lf AgL) (Lf tE)) (Nd AeU (Lf o377) (Lf tE)))))) (Nd Vx (Nd o21 (Nd (Yz P) (Nd (o69 P) (Nd tE (Nd Ad7 (Lf AgY) .nil) (Lf AcC)) (Nd Wa (Lf tE) (Lf Ahe))) (Nd Abd (Nd VB (Lf Aev) (Lf Ao)) (Nd Wd (Lf tE) (Lf Ait)))) (Nd AaB (Nd o85 (Nd Ae8 (Lf VJ) (Lf AgB)) (Nd (Vr P) (Lf Ahm) (Lf Aio))) (Nd Tr (Nd BJ (Lf Ao) (Lf tE)) (Nd Ao (Lf Aje) (Lf tE))))) (Nd tE (Nd tE (Nd YB (Nd Ui (Nd tE (Lf Ao) .nil) (Lf Abk)) (Nd Wt (Lf AbE) (Lf Ao))) (Nd Sy (Nd Af5 (Lf tE) (Lf Ag1)) (Nd tE (Lf Ao) (Lf tE)))) (Nd tE (Nd BJ (Nd (AdV P) (Lf Af8) (Lf tE)) (Nd tE (Lf Ajl) (Lf AgX))) (Nd Abw (Nd AfX (Lf Ajm) (Lf Ac3)) (Nd Ao (Lf tE) (Lf Abf)))))))) (Nd (boot_o_2 P) (Nd (boot_o_4 P) (Nd (boot_o_8 P) (Nd Ao (Nd o32 (Nd tE (Nd SQ (Nd Vt (Lf tE) .nil) (Lf Agv)) (Nd AfE (Lf Ag8) (Lf tE))) (Nd Aax (Nd VD (Lf Ao) (Lf tE)) (Nd Ae6 (Lf AiR) (Lf Ao)))) (Nd o48 (Nd tE (Nd AbA (Nd Af3 (Lf Acv) .nil) (Lf Ao)) (Nd Aeb (Lf tE) (Lf Abv))) (Nd BJ (Nd (AfZ P) (Lf tE) (Lf AbR)) (Nd tE (Lf Ach) (Lf Ag0))))) (Nd (Xz P) (Nd XF (Nd Aad (Nd TQ (Nd Afa (Lf Ao) .nil) (Lf tE)) (Nd BJ (Lf Ahs) (Lf tE))) (Nd AcI (Nd tE (Lf Ae3) (Lf Abg)) (Nd Afb (Lf tE) (Lf Ah0)))) (Nd (Z8 P) (Nd (o88 P) (Nd tE (Lf tE) (Lf Ahf)) (Nd VG (Lf Ao) (Lf tE))) (Nd Aa2 (Nd UW (Lf AaN) (Lf Aco)) (Nd UG (Lf AgR) (Lf Ah1)))))) (Nd AdT (Nd o20 (Nd BJ (Nd o68 (Nd (Ua P) (Nd Ao (Lf Ab0) .nil) (Lf tE)) (Nd AeZ (Lf Ain) (Lf AaZ))) (Nd Ao (Nd tE (Lf Afj) (Lf tE)) (Nd Vj (Lf AiQ) (Lf Ah3)))) (Nd YL (Nd ZF (Nd TY (Lf tE) (Lf Ag4)) (Nd BJ (Lf AcJ) (Lf (Ahj P)))) (Nd RT (Nd AeN (Lf tE) (Lf (Acp P))) (Nd tE (Lf Ao) (Lf Ai3))))) (Nd Zw (Nd o44 (Nd tE (Nd tE (Nd AeF (Lf tE) .nil) (Lf Acw)) (Nd Wm (Lf tE) (Lf tE))) (Nd Acn (Nd U5 (Lf o300) (Lf (Ago P))) (Nd Afd (Lf tE) (Lf AhW)))) (Nd X5 (Nd o92 (Nd tE (Lf Us) (Lf AiV)) (Nd AeV (Lf Agk) (Lf Aa9))) (Nd Acj (Nd Ao (Lf Ao) (Lf tE)) (Nd tE (Lf AiH) (Lf tE))))))) (Nd (boot_o_6 P) (Nd (boot_o_10 P) (Nd tE (Nd YW (Nd o66 (Nd AcG (Nd AeP (Lf AgJ) .nil) (Lf Ao)) (Nd AfS (Lf tE) (Lf Ahv))) (Nd Xy (Nd BJ (Lf tE) (Lf Ai1)) (Nd (Ae4 P) (Lf AbF) (Lf tE)))) (Nd (o50 P) (Nd o82 (Nd Abu (Nd Ao (Lf AhP) .nil) (Lf tE)) (Nd Vz (Lf Aie) (Lf AgS))) (Nd tE (Nd Vw (Lf Aim) (Lf Aih)) (Nd Afr (Lf Ah4) (Lf tE))))) (Nd Ao (Nd tE (Nd BJ (Nd Ao (Nd tE (Lf Ai5) .nil) (Lf (Abn P))) (Nd tE (Lf Ao) (Lf Abh))) (Nd Acy (Nd Aew (Lf Uy) (Lf AgG)) (Nd VN (Lf Ahg) (Lf Aby)))) (Nd ZR (Nd Aap (Nd Wr (Lf Aeu) (Lf Ab4)) (Nd tE (Lf tE) (Lf Agi))) (Nd TF (Nd U9 (Lf AhY) (Lf Ao)) (Nd AdG (Lf tE) (Lf Ao)))))) (Nd Uz (Nd o22 (Nd tE (Nd o70 (Nd R9 (Nd tE (Lf Ai7) .nil) (Lf Aia)) (Nd Vp (Lf Ab9) (Lf BJ))) (Nd tE (Nd Va (Lf tE) (Lf AgN)) (Nd tE (Lf Ao) (Lf tE)))) (Nd o54 (Nd o86 (Nd BJ (Lf Ad8) (Lf tE)) (Nd tE (Lf Ai8) (Lf AbD))) (Nd tE (Nd (Uw P) (Lf AgQ) (Lf Ace)) (Nd AfC (Lf tE) (Lf Acf))))) (Nd (o30 P) (Nd YT (Nd Zq (Nd Acx (Nd U4 (Lf AiB) .nil) (Lf Ab3)) (Nd tE (Lf AhG) (Lf Ag6))) (Nd Ud (Nd Aed (Lf Ao) (Lf AhM)) (Nd Ao (Lf AiG) (Lf Ao)))) (Nd Ao (Nd (Zn P) (Nd Agd (Lf Afc) (Lf Ao)) (Nd Uq (Lf tE) (Lf Ahp))) (Nd (AaP P) (Nd tE (Lf tE) (Lf Ahu)) (Nd AeM (Lf Ab7) (Lf Ajg))))))))
noncomputable def AiE (w : World) (os : OsState) : SharedT := ⟨AjB w.params, 531, Life.mk [] [] [] 0 [] [] Bool.false #[] [] 0 Bool.false Bool.false Bool.false 0 [2000, 10, 10] Bool.false 0 Bool.true [] [] 0 Bool.false, Array.mk [], Drawn.mk 0 0 0 0, 874, os⟩
noncomputable def AhT : Pos := ⟨230, 0, 239, 48⟩
end
noncomputable def vw : Program := { PySem.Challenge.pw_formcycle_k37_no_way with main := { PySem.Challenge.pw_formcycle_k37_no_way.main with body := [tp 0, tp 2, tp 3, tp 4, tp 5, tp 6, tp 7, tp 8, tp 9, tp 10, tp 11, tp 12, tp 13, tp 15, tp 16, tp 17, tp 19, tp 20, tp 21, tp 22, tp 23, tp 25, tp 26, tp 27, tp 28, tp 29, tp 31, tp 32, tp 33, tp 34, tp 36, tp 37, tp 38, tp 39, tp 40, tp 41, tp 42, tp 43, tp 45, tp 46, tp 47, tp 48, tp 49, tp 51, tp 52, tp 53, tp 54, tp 55, tp 56, tp 57, tp 58, tp 59, tp 60, tp 61, tp 62, tp 63, tp 64] } }
noncomputable def asK : List Nat := [2, 3, 15, 17, 18, 20, 21, 22, 29, 30, 31, 32, 35, 42, 44, 45, 47, 48, 49, 50, 51, 54, 61, 63, 64, 66, 67, 68, 69, 70, 73, 80, 82, 83, 85, 86, 87, 88, 89, 92, 99, 101, 102, 104, 105, 106, 107, 108, 111, 118, 120, 121, 123, 124, 125, 126, 127, 130, 137, 139, 140, 142, 143, 144, 145, 146, 149, 156, 157, 158, 161, 168, 170, 171, 173, 174, 175, 176, 177, 180, 187, 189, 190, 192, 193, 194, 195, 196, 199, 206, 207, 208, 211, 218, 220, 221, 223, 224, 225, 226, 227, 230, 232, 233, 235, 236, 237, 239, 240, 242, 243, 244, 246, 247, 249, 250, 251, 252, 254, 255, 257, 258, 259, 261, 262, 264, 265, 266, 268, 269, 271, 272, 273, 275, 276, 278, 279, 280, 282, 283, 285, 286, 287, 289, 290, 292, 293, 294, 296, 297, 299, 300, 301, 303, 304, 306, 307, 308, 310, 311, 313, 314, 315, 317, 318, 320, 321, 322, 324, 325, 327, 328, 329, 331, 332, 334, 335, 336, 338, 339, 341, 342, 343, 345, 346, 348, 349, 350, 352, 353, 355, 356, 357, 359, 360, 362, 363, 364, 366, 367, 369, 370, 371, 373, 374, 376, 377, 378, 380, 381, 383, 384, 385, 387, 388, 390, 391, 399, 401, 402, 404, 405, 406, 408, 409, 411, 412, 413, 415, 416, 418, 419, 420, 422, 423, 425, 426, 427, 428, 429, 430, 431, 434, 441, 443, 444, 446, 447, 448, 449, 450, 453, 460, 462, 463, 465, 466, 467, 468, 469, 472, 474, 475, 477, 478, 479, 481, 482, 484, 485, 486, 488, 489, 491, 492, 493, 496, 497, 498, 500, 501, 503, 504, 505, 507, 508, 510, 511, 512, 514, 515, 517, 518, 519, 522, 523, 524, 526, 527, 529, 530, 531, 533, 534, 536, 537, 538, 540, 541, 543, 544, 545, 548, 549, 550, 552, 553, 555, 556, 557, 559, 560, 562, 563, 564, 566, 567, 569, 570, 571, 573, 574, 576, 577]
noncomputable def bE : List Stmt := behindTheImports PySem.Challenge.rw_formcycle_k37_no_way.row.prog
noncomputable def ev : Env := { scope := PySem.Challenge.rw_formcycle_k37_no_way.row.prog.main.scope, locals := mainNs, globals := mainNs, cells := [], code := .ref 13, frame := some 14 }
noncomputable def cc : Code := .body bE ev
noncomputable def qq : Pos := .mk 0 0 0 0
noncomputable def pp : Pos := ⟨0, 0, 0, 0⟩
theorem AhE : ∀ w os, goT treeTable PySem.Challenge.rw_formcycle_k37_no_way.row.prog w 11 (some (.ref 6)) 12 (N8 w os) (topStub PySem.Challenge.rw_formcycle_k37_no_way.row.prog) = some (St0 w os, ⟨denote treeTable cc, cc, pp, [topFrame qq]⟩) := fun w os => by kernel_rfl
theorem Ajp : ∀ w os, segRunT treeTable PySem.Challenge.rw_formcycle_k37_no_way.row.prog w 11 (some (.ref 6)) 1 1 (St0 w os) (blockOf bE ev cc pp [topFrame qq]) = some (.next, St0 w os, cc, ps0) := fun w os => by kernel_rfl
noncomputable def l9 : List Stmt := List.take 9 bE
noncomputable def r9 : List Stmt := List.drop 9 bE
theorem g_9 : ∀ w os, segRunT treeTable PySem.Challenge.rw_formcycle_k37_no_way.row.prog w 11 (some (.ref 6)) 1 1697 (St0 w os) (piecesOf l9 ev cc ps0 [topFrame qq]) = some (.next, St9 w os, cc, ps9) := fun w os => by kernel_rfl
noncomputable def l28 : List Stmt := List.take 19 r9
noncomputable def r28 : List Stmt := List.drop 19 r9
theorem Aj2 : ∀ w os, segRunT treeTable PySem.Challenge.rw_formcycle_k37_no_way.row.prog w 11 (some (.ref 6)) 1 1504 (St9 w os) (piecesOf l28 ev cc ps9 [topFrame qq]) = some (.next, AhQ w os, cc, AiM) := fun w os => by kernel_rfl
noncomputable def l58 : List Stmt := List.take 30 r28
noncomputable def r58 : List Stmt := List.drop 30 r28
theorem AjC : ∀ w os, segRunT treeTable PySem.Challenge.rw_formcycle_k37_no_way.row.prog w 11 (some (.ref 6)) 1 1530 (AhQ w os) (piecesOf l58 ev cc AiM [topFrame qq]) = some (.next, AiE w os, cc, AhT) := fun w os => by kernel_rfl
noncomputable def TL (w : World) (os : OsState) : Option SharedT := Rh treeTable PySem.Challenge.rw_formcycle_k37_no_way.row.prog w 11 (some (.ref 6)) 271 (AiE w os) (restOf r58 ev cc AhT [topFrame qq])
theorem hr : ∀ w os r, TL w os = some r → topRun treeTable PySem.Challenge.rw_formcycle_k37_no_way.row.prog w (Bl w os).heap.objs.size ((Bl w os).heap.nsMap mainGlobals "__annotations__") 5015 (Bl w os) (topStub PySem.Challenge.rw_formcycle_k37_no_way.row.prog) = some r.abs := fun w os r h => by
  rw [show (Bl w os).heap.objs.size = 11 by kernel_rfl, show (Bl w os).heap.nsMap mainGlobals "__annotations__" = some (.ref 6) by kernel_rfl]
  have k := Pr _ h
  have k := piece_app (segRun_of (AjC w os)) k
  rw [show l58 ++ r58 = r28 from List.take_append_drop _ _] at k
  have k := piece_app (segRun_of (Aj2 w os)) k
  rw [show l28 ++ r28 = r9 from List.take_append_drop _ _] at k
  have k := piece_app (segRun_of (g_9 w os)) k
  rw [show l9 ++ r9 = bE from List.take_append_drop _ _] at k
  have k := piece_block (segRun_of (Ajp w os)) k
  have k := go_top (Aan _ (AhE w os)) k
  rw [boot_abs] at k
  exact k
noncomputable def sA0 (s : Shared) := PyProof.Rows.seen ((PyProof.Rows.recsOf vw).map (·.name)) (PyProof.Rows.ownsOf vw) [] { s with gens := #[] }
noncomputable def sA1 (s : Shared) := s.heap.bltView
noncomputable def sA2 (s : Shared) := s.heap.keysOk (looseW vw []) ((PyProof.Rows.recsOf vw).map (·.name)) ((PyProof.Rows.litsOf vw).map (·.1)) ((PyProof.Rows.clssOf vw (looseW vw [])).map (·.name)) && s.heap.accountedOkI (importedModules PySem.Challenge.rw_formcycle_k37_no_way.row.prog.main.body) && s.heap.isNs mainGlobals && s.heap.isNs builtinsNs && PyProof.Rows.tablesOk vw s.heap && (xlAt vw [] s && recOk (RowW.records PySem.Challenge.rw_formcycle_k37_no_way.row.toRowW) s) && (if true then s.gens.size == 0 else !leftWithCleanup s.gens)
noncomputable def sA3 (s : Shared) := PyProof.Rows.tabsOk vw s
noncomputable def sA4 (s : Shared) := pinSeenD vw (PyProof.Rows.drecsOf vw) s
noncomputable def sA5 (s : Shared) := PyProof.Rows.plainSeenE vw (looseW vw []) s
noncomputable def sA6 (s : Shared) := PyProof.Rows.plainSeenD vw [] s
noncomputable def sA7 (s : Shared) := wideSeen vw s
noncomputable def sA8 (s : Shared) := clsSeenW vw [] s
theorem hA : ∀ (w : World) (os : OsState), (TL w os).map (fun r => stays PySem.Challenge.rw_formcycle_k37_no_way.row.prog (Bl w os) r.abs) = some true := fun w os => by kernel_rfl
theorem hB0 : ∀ (w : World) (os : OsState), (TL w os).map (fun r => sA0 r.abs) = some (PyProof.Rows.expectedOf vw) := fun w os => by kernel_rfl
theorem hB1 : ∀ (w : World) (os : OsState), (TL w os).map (fun r => (sA1 r.abs, sA3 r.abs, sA4 r.abs, sA6 r.abs, sA8 r.abs)) = some (bltViewBooted, true, pinGoodD (PyProof.Rows.drecsOf vw), PyProof.Rows.plainGoodD vw [], clsGoodW vw []) := fun w os => by kernel_rfl
theorem hB2 : ∀ (w : World) (os : OsState), (TL w os).map (fun r => sA2 r.abs) = some true := fun w os => by kernel_rfl
theorem hB5 : ∀ (w : World) (os : OsState), (TL w os).map (fun r => sA5 r.abs) = some (PyProof.Rows.plainGoodE vw (looseW vw [])) := fun w os => by kernel_rfl
theorem hB7 : ∀ (w : World) (os : OsState), (TL w os).map (fun r => sA7 r.abs) = some (wideGood vw) := fun w os => by kernel_rfl
theorem nine {α0 α1 α2 α3 α4 α5 α6 α7 α8 : Type} {o : Option SharedT} {A0 : Shared → α0} {A1 : Shared → α1} {A2 : Shared → α2} {A3 : Shared → α3} {A4 : Shared → α4} {A5 : Shared → α5} {A6 : Shared → α6} {A7 : Shared → α7} {A8 : Shared → α8} {a0 : α0} {a1 : α1} {a2 : α2} {a3 : α3} {a4 : α4} {a5 : α5} {a6 : α6} {a7 : α7} {a8 : α8}
    (h0 : o.map (fun r => A0 r.abs) = some a0) (h1 : o.map (fun r => (A1 r.abs, A3 r.abs, A4 r.abs, A6 r.abs, A8 r.abs)) = some (a1, a3, a4, a6, a8)) (h2 : o.map (fun r => A2 r.abs) = some a2) (h5 : o.map (fun r => A5 r.abs) = some a5) (h7 : o.map (fun r => A7 r.abs) = some a7) :
    o.map (fun r => (A0 r.abs, A1 r.abs, A2 r.abs, A3 r.abs, A4 r.abs, A5 r.abs, A6 r.abs, A7 r.abs, A8 r.abs)) = some (a0, a1, a2, a3, a4, a5, a6, a7, a8) := by
  cases o with
  | none => cases h0
  | some r =>
    simp only [Option.map_some, Option.some.injEq, Prod.mk.injEq] at h0 h1 h2 h5 h7 ⊢
    exact ⟨h0, h1.1, h2, h1.2.1, h1.2.2.1, h5, h1.2.2.2.1, h7, h1.2.2.2.2⟩
theorem hB : ∀ (w : World) (os : OsState), (TL w os).map (fun r => openSeen vw [] (importedModules PySem.Challenge.rw_formcycle_k37_no_way.row.prog.main.body) (fun s => xlAt vw [] s && recOk (RowW.records PySem.Challenge.rw_formcycle_k37_no_way.row.toRowW) s) true r.abs) = some (openGood vw []) := fun w os => nine (A0 := sA0) (A1 := sA1) (A2 := sA2) (A3 := sA3) (A4 := sA4) (A5 := sA5) (A6 := sA6) (A7 := sA7) (A8 := sA8) (hB0 w os) (hB1 w os) (hB2 w os) (hB5 w os) (hB7 w os)
theorem hC : ∀ (w : World) (os : OsState), (TL w os).map (fun r => Hook.obs (kHook My.KK My.asK (fun _ => by kernel_rfl)) r.abs) = some (Hook.val (kHook My.KK My.asK (fun _ => by kernel_rfl)) w) := fun w os => by kernel_rfl
theorem hl : LeftO PySem.Challenge.rw_formcycle_k37_no_way.row.prog vw [] (fun s => xlAt vw [] s && recOk (RowW.records PySem.Challenge.rw_formcycle_k37_no_way.row.toRowW) s) (Hook.obs (kHook My.KK My.asK (fun _ => by kernel_rfl))) (Hook.val (kHook My.KK My.asK (fun _ => by kernel_rfl))) 5015 := fun w => Aai (TL := TL w) (by kernel_rfl) (by decide) (fun _ => by kernel_rfl) (hr w) (hA w) (hB w) (hC w) (fun os => by kernel_rfl)
end My
namespace L2
open PySem PySem.Spec PyProof.Rows
noncomputable abbrev Key := Sum Int Str
noncomputable def Adq : Key → Value → Bool
  | .inl k, v => Value.isInt k v
  | .inr x, v => Value.isStrOf x v
noncomputable def Ajz (w : World) : Key → Int
  | .inl k => hashInt k
  | .inr x => hashStr w x
theorem Ci : ∀ {k : Key} {v : Value}, Adq k v = true → (∃ i t, k = Sum.inl i ∧ v = Value.int i t) ∨ (∃ x t, k = Sum.inr x ∧ v = Value.str x t)
  | .inl i, v, h => by
    obtain ⟨t, e⟩ := Value.isInt_shape (k := i) (v := v) h
    exact .inl ⟨i, t, rfl, e⟩
  | .inr x, v, h => by
    obtain ⟨t, e⟩ := Value.isStrOf_shape (x := x) (v := v) h
    exact .inr ⟨x, t, rfl, e⟩
theorem Aef (a b : Int) : decide ((Sum.inl a : Key) = Sum.inl b) = (a == b) := by
  by_cases e : a = b
  · subst e; simp
  · have h : ¬ (Sum.inl a : Key) = Sum.inl b := fun q => e (Sum.inl.inj q)
    rw [decide_eq_false h]
    exact (beq_eq_false_iff_ne.mpr e).symm
theorem Ael (a b : Str) : decide ((Sum.inr a : Key) = Sum.inr b) = decide (a = b) := by
  by_cases e : a = b
  · subst e; simp
  · have h : ¬ (Sum.inr a : Key) = Sum.inr b := fun q => e (Sum.inr.inj q)
    rw [decide_eq_false h, decide_eq_false e]
theorem AfJ (a : Int) (b : Str) : decide ((Sum.inl a : Key) = Sum.inr b) = false := decide_eq_false (fun q => nomatch q)
theorem Afl (a : Str) (b : Int) : decide ((Sum.inr a : Key) = Sum.inl b) = false := decide_eq_false (fun q => nomatch q)
noncomputable def Ph (prog : Program) (w : World) : PySem.KeyKind prog w Key where
  is := Adq
  hash := Ajz w
  inj := fun v a b ha hb => by
    rcases Ci ha with ⟨i, t, rfl, rfl⟩ | ⟨x, t, rfl, rfl⟩
    · rcases Ci hb with ⟨j, u, rfl, e⟩ | ⟨y, u, rfl, e⟩
      · injection e with e1 _; rw [e1]
      · exact nomatch e
    · rcases Ci hb with ⟨j, u, rfl, e⟩ | ⟨y, u, rfl, e⟩
      · exact nomatch e
      · injection e with e1 _; rw [e1]
  byValue := fun k v h => by
    rcases Ci h with ⟨i, t, rfl, rfl⟩ | ⟨x, t, rfl, rfl⟩ <;> rfl
  pyHash := fun hv h => by
    rcases Ci hv with ⟨i, t, rfl, rfl⟩ | ⟨x, t, rfl, rfl⟩
    · exact wpAny_pyHash_int h
    · exact wpAny_pyHash_str h
  eqBool := fun hu hv h => by
    rcases Ci hu with ⟨i, t, rfl, rfl⟩ | ⟨x, t, rfl, rfl⟩
    · rcases Ci hv with ⟨j, u, rfl, rfl⟩ | ⟨y, u, rfl, rfl⟩
      · rw [Aef] at h; exact wpAny_eqBool_int h
      · rw [AfJ] at h; exact SeqAt.EqAt.int_str i t y u _ _ _ _ h
    · rcases Ci hv with ⟨j, u, rfl, rfl⟩ | ⟨y, u, rfl, rfl⟩
      · rw [Afl] at h; exact SeqAt.EqAt.str_int x t j u _ _ _ _ h
      · rw [Ael] at h; exact wpAny_eqBool_str h
  «strs» := fun k x t v h => by
    rcases Ci h with ⟨i, u, rfl, e⟩ | ⟨y, u, rfl, e⟩
    · exact nomatch e
    · injection e with e1 _
      subst e1
      cases v <;> rfl
end L2
namespace L2
open PySem PySem.Spec PyProof.Rows
inductive V where
  | non | bl (b : Bool) | int (i : Int) | str (x : Str) | byt (b : Array UInt8) | flt (b : UInt64) | ref (a : Addr) | ty (n : String)
  deriving DecidableEq
noncomputable def RelV : V → Value → Prop
  | .non, u => u = Value.none
  | .bl b, u => u = Value.bool b
  | .int i, u => ∃ t, u = Value.int i t
  | .str x, u => ∃ t, u = Value.str x t
  | .byt b, u => ∃ t, u = Value.bytes b t
  | .flt b, u => ∃ t, u = Value.float b t
  | .ref a, u => u = Value.ref a
  | .ty n, u => u = Value.type n
noncomputable abbrev Vals : List V → List Value → Prop := Paired RelV
theorem Vals.length {xs : List V} {us : List Value} (r : Vals xs us) : xs.length = us.length := Paired.length r
theorem Vals.get : ∀ {xs : List V} {us : List Value} {i : Nat} {x : V}, Vals xs us → xs[i]? = some x → ∃ u, us[i]? = some u ∧ RelV x u
  | _, _, _, _, .nil, e => by simp at e
  | _, _, 0, _, .cons r _, e => by simp at e; subst e; exact ⟨_, rfl, r⟩
  | _, _, i + 1, x, .cons _ t, e => by
    obtain ⟨u, h1, h2⟩ := Vals.get (i := i) (x := x) t (by simpa using e)
    exact ⟨u, by simpa using h1, h2⟩
theorem Vals.append : ∀ {xs ys : List V} {us ws : List Value}, Vals xs us → Vals ys ws → Vals (xs ++ ys) (us ++ ws)
  | _, _, _, _, .nil, s => s
  | _, _, _, _, .cons r t, s => .cons r (Vals.append t s)
theorem Vals.take : ∀ {xs : List V} {us : List Value} (n : Nat), Vals xs us → Vals (xs.take n) (us.take n)
  | _, _, 0, _ => .nil
  | _, _, _ + 1, .nil => .nil
  | _, _, n + 1, .cons r t => .cons r (Vals.take n t)
theorem Vals.drop : ∀ {xs : List V} {us : List Value} (n : Nat), Vals xs us → Vals (xs.drop n) (us.drop n)
  | _, _, 0, r => r
  | _, _, _ + 1, .nil => .nil
  | _, _, n + 1, .cons _ t => Vals.drop n t
noncomputable def J5 : Option V → Option Value → Prop
  | some v, some u => RelV v u
  | none, none => True
  | _, _ => False
noncomputable def KV {κ : Type} : List (κ × V) → List (κ × Value) → Prop := Paired fun (p : κ × V) (q : κ × Value) => p.1 = q.1 ∧ RelV p.2 q.2
noncomputable def kV : Key → V
  | .inl i => .int i
  | .inr x => .str x
inductive HO where
    | lst (xs : List V)
    | tup (xs : List V)
    | dK (kvs : List (Key × V)) | dT (kvs : List (List Key × V))
    | set (S : Int → Bool) (n : Nat)
    | ins (C dx : Addr) (fs : List (Str × V))
    | own (x : Addr)
    | xd (fs : List (Str × V))
    | met (f x : Addr)
    | rng (lo hi : Int)
    | frz (o : Obj) (u : HO)
    | tbl (ps : Array Value)
    | ext (φ : Heap → Prop)
noncomputable abbrev Hp := Addr → Option HO
noncomputable def upd (H : Hp) (a : Addr) (o : HO) : Hp := fun b => if b = a then some o else H b
theorem Bb {H : Hp} {a : Addr} {o : HO} : upd H a o a = some o := by unfold upd; rw [if_pos rfl]
theorem Av {H : Hp} {a b : Addr} {o : HO} (h : b ≠ a) : upd H a o b = H b := by unfold upd; rw [if_neg h]
theorem Bk {H : Hp} {a b : Addr} {o : HO} (h : H a = some o) (h' : H b = none) : a ≠ b := by
  intro e; subst e; rw [h] at h'; cases h'
section
variable (P : Program) (w : World)
noncomputable def Ey (H : Hp) (h : Heap) (a : Addr) : HO → Prop
  | .lst xs => xs.length ≤ sizeLine ∧ ∃ (its : List Value) (n : Nat), Vals xs its ∧ h.get? a = some { cls := .type "list", data := .seq its.toArray n }
  | .tup xs => xs.length ≤ sizeLine ∧ ∃ its : List Value, Vals xs its ∧ IsTup h a its.toArray
  | .dK kvs => kvs.length ≤ sizeLine ∧ (a == sysModules) = false ∧ ∃ vs, KV kvs vs ∧ h.DictOf (Ph P w) a vs
  | .dT kvs => kvs.length ≤ sizeLine ∧ (a == sysModules) = false ∧ ∃ xs : List (List Key × Addr × Value),
      Paired (fun (p : List Key × V) (q : List Key × Addr × Value) => p.1 = q.1 ∧ H q.2.1 = some (.tup (p.1.map kV)) ∧ RelV p.2 q.2.2) kvs xs ∧
      ∃ o es ep, h.get? a = some o ∧ o.ExactDict ∧ o.data = .dict es ep ∧ es.toList = xs.map (entryOfKey (tupleKind (Ph P w))) ∧ (xs.map (·.1)).Nodup
  | .set S n => h.SetOf (intKind P w) a S n
  | .ins C dx fs => H dx = some (.own a) ∧ fs.length ≤ 1000 ∧ dx ≠ a ∧ h.get? a = some (PySem.W.instObj C dx) ∧
      ∃ mA, h.Ns1 dx mA ∧ (∀ f, J5 (fs.lookup f) (mA f)) ∧ PySem.Within mA (fs.map (·.1))
  | .own _ => ∃ o, h.get? a = some o
  | .xd fs => ∃ mA, h.Ns1 a mA ∧ ∀ f, J5 (fs.lookup f) (mA f)
  | .rng lo hi => ∃ t u v, h.get? a = some { cls := .type "range", data := .fields #[.int lo t, .int hi u, .int 1 v] }
  | .frz o u => h.get? a = some o ∧ Ey H h a u
  | .tbl ps => h.get? a = some { cls := .none, data := .fields ps }
  | .met f x => h.get? a = some (PySem.W.methodObj (.ref f) (.ref x))
  | .ext φ => φ h ∧ (∃ o, h.get? a = some o) ∧ ∀ h1 h2 : Heap, φ h1 → (∀ o, h1.get? a = some o → h2.get? a = some o) → φ h2
noncomputable def HOk (H : Hp) (h : Heap) : Prop := ∀ a o, H a = some o → Ey P w H h a o
end
section
variable {P : Program} {w : World} {H H' : Hp} {h h' : Heap} {a : Addr} {o : HO}
theorem Ey.lt (x : Ey P w H h a o) : a < h.objs.size := by
  cases o with
  | lst xs => obtain ⟨_, _, _, _, e⟩ := x; exact Heap.lt_size e
  | tup xs => obtain ⟨_, _, _, p⟩ := x; exact p.lt
  | dK kvs => obtain ⟨_, _, _, _, o, _, _, e, _⟩ := x; exact Heap.lt_size e
  | dT kvs => obtain ⟨_, _, _, _, o, _, _, e, _⟩ := x; exact Heap.lt_size e
  | set S n => obtain ⟨o, _, _, _, e, _⟩ := x; exact Heap.lt_size e
  | ins C dx fs => obtain ⟨_, _, _, e, _⟩ := x; exact Heap.lt_size e
  | own y => obtain ⟨_, e⟩ := x; exact Heap.lt_size e
  | xd fs => obtain ⟨_, ⟨_, _, _, e, _⟩, _⟩ := x; exact Heap.lt_size e
  | rng lo hi => obtain ⟨_, _, _, e⟩ := x; exact Heap.lt_size e
  | frz ob u => obtain ⟨e, _⟩ := x; exact Heap.lt_size e
  | tbl ps => exact Heap.lt_size (show h.get? a = some _ from x)
  | met f y => exact Heap.lt_size (show h.get? a = some _ from x)
  | ext φ => obtain ⟨_, ⟨_, e⟩, _⟩ := x; exact Heap.lt_size e
theorem Paired.mapP {α β : Type} {F G : α → β → Prop} : ∀ {l₁ : List α} {l₂ : List β}, Paired F l₁ l₂ → (∀ a b, F a b → G a b) → Paired G l₁ l₂
  | _, _, .nil, _ => .nil
  | _, _, .cons r t, f => .cons (f _ _ r) (Paired.mapP t f)
theorem Ey.stay (x : Ey P w H h a o) (k : ∀ b u, (b = a ∨ H b = some (.own a)) → h.get? b = some u → h'.get? b = some u)
    (ho : ∀ b, H b = some (.own a) → H' b = some (.own a)) (ht : ∀ b xs, H b = some (.tup xs) → H' b = some (.tup xs)) : Ey P w H' h' a o := by
  induction o with
  | lst xs => obtain ⟨z, its, n, r, e⟩ := x; exact ⟨z, its, n, r, k _ _ (.inl rfl) e⟩
  | tup xs => obtain ⟨z, its, r, ob, e, c⟩ := x; exact ⟨z, its, r, ob, k _ _ (.inl rfl) e, c⟩
  | dK kvs => obtain ⟨z, y, vs, r, ob, es, ep, e, c⟩ := x; exact ⟨z, y, vs, r, ob, es, ep, k _ _ (.inl rfl) e, c⟩
  | dT kvs =>
    obtain ⟨z, y, xs, r, ob, es, ep, e, c⟩ := x
    exact ⟨z, y, xs, Paired.mapP r fun p q z => ⟨z.1, ht _ _ z.2.1, z.2.2⟩, ob, es, ep, k _ _ (.inl rfl) e, c⟩
  | set S n => obtain ⟨ob, es, ep, t, e, c⟩ := x; exact ⟨ob, es, ep, t, k _ _ (.inl rfl) e, c⟩
  | ins C dx fs =>
    obtain ⟨d, z, ne, e, mA, ⟨od, es, ep, e2, c⟩, r⟩ := x
    exact ⟨ho _ d, z, ne, k _ _ (.inl rfl) e, mA, ⟨od, es, ep, k _ _ (.inr d) e2, c⟩, r⟩
  | own y => obtain ⟨ob, e⟩ := x; exact ⟨ob, k _ _ (.inl rfl) e⟩
  | xd fs => obtain ⟨mA, ⟨od, es, ep, e, c⟩, r⟩ := x; exact ⟨mA, ⟨od, es, ep, k _ _ (.inl rfl) e, c⟩, r⟩
  | rng lo hi => obtain ⟨t, u, v, e⟩ := x; exact ⟨t, u, v, k _ _ (.inl rfl) e⟩
  | frz ob u ih => obtain ⟨e, q⟩ := x; exact ⟨k _ _ (.inl rfl) e, ih q⟩
  | tbl ps =>
    have e : h.get? a = some { cls := .none, data := .fields ps } := x
    show h'.get? a = some { cls := .none, data := .fields ps }
    exact k a _ (.inl rfl) e
  | met f y =>
    have e : h.get? a = some (PySem.W.methodObj (.ref f) (.ref y)) := x
    show h'.get? a = some (PySem.W.methodObj (.ref f) (.ref y))
    exact k a _ (.inl rfl) e
  | ext φ => obtain ⟨p, ⟨o, e⟩, st⟩ := x; exact ⟨st _ _ p fun o q => k _ _ (.inl rfl) q, ⟨o, k _ _ (.inl rfl) e⟩, st⟩
theorem HOk.lt (x : HOk P w H h) (e : H a = some o) : a < h.objs.size := (x a o e).lt
theorem HOk.fresh (x : HOk P w H h) (e : h.objs.size ≤ a) : H a = none := by
  cases q : H a with
  | none => rfl
  | some u => exact absurd (Nat.lt_of_lt_of_le (x.lt q) e) (Nat.lt_irrefl _)
theorem HOk.kept (x : HOk P w H h) (k : ∀ b u, h.get? b = some u → h'.get? b = some u) : HOk P w H h' := fun a o e =>
  (x a o e).stay (fun b u _ q => k b u q) (fun _ q => q) fun _ _ q => q
theorem HOk.laid (x : HOk P w H h) (k : ∀ b u, h.get? b = some u → h'.get? b = some u) (hp : h.objs.size ≤ a) (new : Ey P w (upd H a o) h' a o) : HOk P w (upd H a o) h' := fun b u e => by
  have hn := x.fresh hp
  by_cases hb : b = a
  · subst hb; rw [Bb] at e; cases e; exact new
  · rw [Av hb] at e
    exact (x b u e).stay (fun c v _ q => k c v q) (fun c q => by rw [Av (Bk q hn)]; exact q) fun c xs q => by rw [Av (Bk q hn)]; exact q
end
noncomputable def Rd (H : Hp) (a : Addr) (u : HO) : Prop := H a = some u ∨ ∃ o, H a = some (.frz o u)
theorem Rd.ok {P : Program} {w : World} {H : Hp} {h : Heap} {a : Addr} {u : HO} (r : Rd H a u) (x : HOk P w H h) : Ey P w H h a u := by
  rcases r with r | ⟨o, r⟩
  · exact x a u r
  · obtain ⟨_, q⟩ := x a _ r
    exact q
noncomputable def Mut : Option HO → Prop
  | some (.lst _) => True
  | some (.dK _) => True
  | some (.dT _) => True
  | some (.set _ _) => True
  | some (.ins _ _ _) => True
  | some (.ext _) => True
  | _ => False
section
variable {P : Program} {w : World} {H : Hp} {h h' : Heap} {x e : Addr} {o' : HO}
theorem HOk.write (ok : HOk P w H h) (mu : Mut (H x)) (he : e = x ∨ H e = some (.own x)) (k : ∀ b u, b ≠ e → h.get? b = some u → h'.get? b = some u) (heo : ∃ u, h'.get? e = some u)
    (new : Ey P w (upd H x o') h' x o') : HOk P w (upd H x o') h' := fun b u q => by
  have nown : ∀ c y, H c = some (.own y) → c ≠ x := fun c y r z => by subst z; rw [r] at mu; exact mu
  have ntup : ∀ c xs, H c = some (.tup xs) → c ≠ x := fun c xs r z => by subst z; rw [r] at mu; exact mu
  by_cases hb : b = x
  · subst hb; rw [Bb] at q; cases q; exact new
  · rw [Av hb] at q
    by_cases hbe : b = e
    · have q' : H b = some (.own x) := by
        rcases he with z | z
        · exact absurd (hbe.trans z) hb
        · rw [hbe]; exact z
      rw [q] at q'; cases q'
      obtain ⟨v, hv⟩ := heo
      exact ⟨v, by rw [hbe]; exact hv⟩
    · refine (ok b u q).stay (fun c v hc r => k c v ?_ r) (fun c r => by rw [Av (nown c b r)]; exact r) fun c xs r => by rw [Av (ntup c xs r)]; exact r
      rcases hc with rfl | hc
      · exact hbe
      · rintro rfl
        rcases he with z | z
        · exact nown c b hc z
        · rw [hc] at z; cases z; exact hb rfl
end
structure Un (fs ex : List Addr) (H H' : Hp) (h h' : Heap) : Prop where
  keep : ∀ b o, h.get? b = some o → H b = none → b ∉ fs → b ∉ ex → h'.get? b = some o
  slot : ∀ b o, h.get? b = some o → H b = none → b ∈ fs → b ∉ ex → ∃ sl, h'.get? b = some { o with slots := sl }
  free : ∀ b o, h.get? b = some o → H b = none → b ∉ ex → H' b = none
  there : ∀ b o, h.get? b = some o → b ∉ ex → ∃ o', h'.get? b = some o'
  tups : ∀ b xs, H b = some (.tup xs) → H' b = some (.tup xs)
  frzs : ∀ b o u, H b = some (.frz o u) → H' b = some (.frz o u)
  tbls : ∀ b ps, H b = some (.tbl ps) → ∃ more, H' b = some (.tbl (ps ++ more))
section
variable {fs fs' ex ex' : List Addr} {H H1 H2 : Hp} {h h1 h2 h' : Heap} {a x e : Addr} {o : HO}
theorem Un.any (u : Un fs ex H H1 h h1) {b : Addr} {ob : Obj} (q : h.get? b = some ob) (n : H b = none) (hx : b ∉ ex) : ∃ sl, h1.get? b = some { ob with slots := sl } := by
  by_cases hb : b ∈ fs
  · exact u.slot b ob q n hb hx
  · exact ⟨ob.slots, u.keep b ob q n hb hx⟩
theorem Un.trans (a : Un fs ex H H1 h h1) (b : Un fs ex H1 H2 h1 h2) : Un fs ex H H2 h h2 where
  keep := fun c ob q n hc hx => b.keep c ob (a.keep c ob q n hc hx) (a.free c ob q n hx) hc hx
  slot := fun c ob q n hc hx => by
    obtain ⟨sl, e1⟩ := a.slot c ob q n hc hx
    obtain ⟨sl', e2⟩ := b.slot c _ e1 (a.free c ob q n hx) hc hx
    exact ⟨sl', e2⟩
  free := fun c ob q n hx => by
    obtain ⟨o', e1⟩ := a.there c ob q hx
    exact b.free c o' e1 (a.free c ob q n hx) hx
  there := fun c ob q hx => by
    obtain ⟨o', e1⟩ := a.there c ob q hx
    exact b.there c o' e1 hx
  tups := fun c xs q => b.tups c xs (a.tups c xs q)
  frzs := fun c ob xs q => b.frzs c ob xs (a.frzs c ob xs q)
  tbls := fun c ps q => by
    obtain ⟨m1, e1⟩ := a.tbls c ps q
    obtain ⟨m2, e2⟩ := b.tbls c _ e1
    exact ⟨m1 ++ m2, by rw [e2, Array.append_assoc]⟩
theorem Un.kept (k : ∀ b u, h.get? b = some u → h'.get? b = some u) : Un fs ex H H h h' :=
  ⟨fun b ob q _ _ _ => k b ob q, fun b ob q _ _ _ => ⟨ob.slots, k b ob q⟩, fun _ _ _ n _ => n, fun b ob q _ => ⟨ob, k b ob q⟩, fun _ _ q => q, fun _ _ _ q => q, fun _ ps q => ⟨#[], by rw [q]; simp⟩⟩
theorem Un.refl : Un fs ex H H h h := Un.kept fun _ _ q => q
theorem Un.laid (k : ∀ b u, h.get? b = some u → h'.get? b = some u) (hp : h.objs.size ≤ a) (hn : H a = none) : Un fs ex H (upd H a o) h h' where
  keep := fun b u q _ _ _ => k b u q
  slot := fun b u q _ _ _ => ⟨u.slots, k b u q⟩
  free := fun b u q n _ => by rw [Av (Nat.ne_of_lt (Nat.lt_of_lt_of_le (Heap.lt_size q) hp))]; exact n
  there := fun b u q _ => ⟨u, k b u q⟩
  tups := fun b xs q => by rw [Av (Bk q hn)]; exact q
  frzs := fun b u xs q => by rw [Av (Bk q hn)]; exact q
  tbls := fun b ps q => ⟨#[], by rw [Av (Bk q hn), q]; simp⟩
theorem Un.write (mu : Mut (H x)) (he : e = x ∨ H e = some (.own x)) (k : ∀ b u, b ≠ e → h.get? b = some u → h'.get? b = some u) (heo : ∃ u, h'.get? e = some u) : Un fs ex H (upd H x o) h h' := by
  have hx : ∀ b, H b = none → b ≠ x := fun b n z => by subst z; rw [n] at mu; exact mu
  have hb : ∀ b, H b = none → b ≠ e := fun b n z => by
    subst z
    rcases he with r | r
    · exact hx b n r
    · rw [n] at r; cases r
  have hm : ∀ b u, H b = some u → ¬ Mut (some u) → b ≠ x := fun b u q nm z => by subst z; rw [q] at mu; exact nm mu
  refine ⟨fun b u q n _ _ => k b u (hb b n) q, fun b u q n _ _ => ⟨u.slots, k b u (hb b n) q⟩, fun b u q n _ => by rw [Av (hx b n)]; exact n, fun b u q _ => ?_,
    fun b xs q => by rw [Av (hm b _ q fun z => z)]; exact q, fun b u xs q => by rw [Av (hm b _ q fun z => z)]; exact q, fun b ps q => ⟨#[], by rw [Av (hm b _ q fun z => z), q]; simp⟩⟩
  by_cases hbe : b = e
  · subst hbe; exact heo
  · exact ⟨u, k b u hbe q⟩
end
noncomputable def trk (h : Heap) (H : Hp) : List Addr := (List.range h.objs.size).filter fun a => (H a).isSome
noncomputable def Qi (h : Heap) (H : Hp) : Heap := PySem.W.hideAll h (trk h H)
theorem WQ (h : Heap) (H : Hp) : (Qi h H).objs.size = h.objs.size := PySem.W.hideAll_size _ _
theorem Yx {h : Heap} {H : Hp} {b : Addr} {o : Obj} (e : h.get? b = some o) (n : H b = none) : (Qi h H).get? b = some o :=
  PySem.W.hideAll_get _ e fun hm => by
    have q : (H b).isSome = true := (List.mem_filter.mp hm).2
    rw [n] at q; simp at q
theorem Abe {h : Heap} {H : Hp} {b : Addr} {o : Obj} (e : (Qi h H).get? b = some o) : h.get? b = some o ∧ H b = none := by
  have e' : h.get? b = some o := PySem.W.of_hideAll (trk h H) e
  refine ⟨e', ?_⟩
  cases q : H b with
  | none => rfl
  | some x =>
    have hm : b ∈ trk h H := List.mem_filter.mpr ⟨List.mem_range.mpr (Heap.lt_size e'), by simp [q]⟩
    have z : (Qi h H).get? b = none := PySem.W.hideAll_none (trk h H) hm
    rw [z] at e; cases e
noncomputable def AbS (g h : Heap) (L : Addr) : List (Addr × Obj) := (List.range h.objs.size).filterMap fun a => if a = L ∨ (g.get? a).isSome = true then none else (h.get? a).map fun o => (a, o)
noncomputable def rest (g h : Heap) (L d : Addr) : List (Addr × Obj) := (AbS g h L).filter fun p => decide (p.1 ≠ d)
end L2
namespace L2
open PySem PySem.Spec PyProof.Rows
structure Mod (K : PySem.W.Frag) (mg : Str → Option Value) (base : Heap) : Prop where
  kin : K.In base
  glob : base.Ns mainGlobals mg
  blt : ∃ mb, base.Ns builtinsNs mb ∧ ∀ x : Str, x ≠ "__name__" → mb x = bootBuiltins x
  nolimit : base.NoLimit
structure Cx where
  prog : Program
  w : World
  K : PySem.W.Frag
  mg : Str → Option Value
  base : Heap
  A : Around
  N : List Str
  s₀ : Shared
  H₀ : Hp
  env : Env
  outer : List Env
  stack : List Env
  ex : List Addr
  fn : Str → Bool
  calm : Bool
  pn : List (Addr × Obj)
  xe : Value → Shared → Prop
noncomputable def frs (l : List Env) : List Addr := l.filterMap (·.frame)
noncomputable abbrev Cx.fs (X : Cx) : List Addr := frs X.outer
noncomputable def Vis (sc : Scope) (x : Str) : Prop := sc.names.lookup x = some .local ∨ sc.names.lookup x = some .cell ∨ sc.names.lookup x = some .free
noncomputable def Loc (sc : Scope) (x : Str) : Prop := sc.names.lookup x = some .local ∨ sc.names.lookup x = some .cell
noncomputable def Look (env : Env) (h : Heap) (m : Str → Option Value) (x : Str) (u : Value) : Prop :=
  (env.kindOf x = some .local ∧ m x = some u) ∨ ((env.kindOf x = some .cell ∨ env.kindOf x = some .free) ∧ ∃ c, env.cells.lookup x = some c ∧ h.IsCell c (some u))
structure Cx.Ok (X : Cx) : Prop where
  mod : Mod X.K X.mg X.base
  kind : X.env.scope.kind = .function
  glob : X.env.globals = mainGlobals
  blt : X.env.builtins = builtinsNs
  above : X.s₀.heap.objs.size ≤ X.env.locals
  inj : ∀ x y c, X.env.cells.lookup x = some c → X.env.cells.lookup y = some c → x = y
  has : ∀ x, (X.env.kindOf x = some .cell ∨ X.env.kindOf x = some .free) → ∃ c, X.env.cells.lookup x = some c
  cab : ∀ x c, X.fn x = true → X.env.cells.lookup x = some c → X.s₀.heap.objs.size ≤ c
  hd : X.calm = true → X.A.handled = none
  frames : X.A.frames = some X.stack
  stk : X.stack = X.outer ∨ (X.stack = X.env :: X.outer ∧ X.env.frame = some X.env.locals)
  exf : ∀ b ∈ X.ex, b ≠ X.env.locals ∧ ∀ x c, X.env.cells.lookup x = some c → c ≠ b
  bs : ∀ b o, X.base.get? b = some o → X.s₀.heap.get? b = some o ∧ X.H₀ b = none
  bsz : X.base.objs.size ≤ X.s₀.heap.objs.size
  noex : ∀ b o, X.base.get? b = some o → b ∉ X.ex
  exfs : ∀ b ∈ X.ex, b ∉ X.fs
  funs : X.s₀.heap.FunFrames X.base X.outer
  frf : ∀ b ∈ X.fs, X.H₀ b = none
structure Inv (X : Cx) (pins : List (Addr × Obj)) (σ : List (Option V)) (H : Hp) (s : Shared) : Prop where
  ok : X.Ok
  os : s.os = X.s₀.os
  bare : AllBare s.gens
  base : Un X.fs X.ex X.H₀ H X.s₀.heap s.heap
  loc : ∃ m, s.heap.Ns X.env.locals m ∧ ∀ (i : Nat) (x : Str) (v : V), X.N[i]? = some x → σ[i]? = some (some v) → Vis X.env.scope x → ∃ u, RelV v u ∧ Look X.env s.heap m x u
  cell : ∀ x c, X.env.cells.lookup x = some c → ∃ v, s.heap.IsCell c v
  free : H X.env.locals = none
  freeC : ∀ x c, X.env.cells.lookup x = some c → H c = none
  pin : ∀ p ∈ X.pn ++ pins, s.heap.get? p.1 = some p.2 ∧ H p.1 = none ∧ p.1 ≠ X.env.locals ∧ p.1 ∉ X.fs ∧ ∀ v, p.2.data ≠ .cell v
  hok : HOk X.prog X.w H s.heap
  len : σ.length = X.N.length
section
variable {X : Cx} {pins : List (Addr × Obj)} {σ : List (Option V)} {H H' : Hp} {s : Shared} {h' : Heap}
theorem Cx.Ok.nofr (ok : X.Ok) {b : Addr} {o : Obj} (e : X.base.get? b = some o) : b ∉ X.fs := fun hb => by
  have := (ok.funs.mem hb).1
  rw [e] at this; cases this
theorem Inv.bs (I : Inv X pins σ H s) : ∀ b o, X.base.get? b = some o → s.heap.get? b = some o ∧ H b = none := fun b o e =>
  ⟨I.base.keep b o (I.ok.bs b o e).1 (I.ok.bs b o e).2 (I.ok.nofr e) (I.ok.noex b o e), I.base.free b o (I.ok.bs b o e).1 (I.ok.bs b o e).2 (I.ok.noex b o e)⟩
theorem Inv.bk (I : Inv X pins σ H s) : ∀ b o, X.base.get? b = some o → s.heap.get? b = some o := fun b o e => (I.bs b o e).1
theorem Inv.mod (I : Inv X pins σ H s) : Mod X.K X.mg X.base := I.ok.mod
theorem Inv.kIn (I : Inv X pins σ H s) : X.K.In s.heap := I.ok.mod.kin.keeps I.bk
theorem Inv.lt (I : Inv X pins σ H s) : X.env.locals < s.heap.objs.size := let ⟨_, hn, _⟩ := I.loc; hn.lt
theorem Inv.sz (I : Inv X pins σ H s) : X.s₀.heap.objs.size ≤ s.heap.objs.size := Nat.le_trans I.ok.above (Nat.le_of_lt I.lt)
theorem Inv.nofs (I : Inv X pins σ H s) {a : Addr} (h : s.heap.objs.size ≤ a) : a ∉ X.fs := fun hb => by
  obtain ⟨_, o, ho, _⟩ := I.ok.funs.mem hb
  exact absurd (Nat.lt_of_lt_of_le (Heap.lt_size ho) (Nat.le_trans I.sz h)) (Nat.lt_irrefl _)
theorem Inv.cne (I : Inv X pins σ H s) : ∀ x c, X.env.cells.lookup x = some c → c ≠ X.env.locals := fun x c e z => by
  obtain ⟨v, o, ho, hd⟩ := I.cell x c e
  obtain ⟨m, ⟨o', es, ep, ho', hd', _⟩, _⟩ := I.loc
  rw [z, ho'] at ho; cases ho; rw [hd'] at hd; cases hd
theorem Inv.funs (I : Inv X pins σ H s) : s.heap.FunFrames X.base X.outer := by
  have all : ∀ (l : List Env), (∀ b ∈ frs l, b ∈ X.fs) → X.s₀.heap.FunFrames X.base l → s.heap.FunFrames X.base l := by
    intro l
    induction l with
    | nil => intro _ _; trivial
    | cons env r ih =>
      intro hs hl
      obtain ⟨hk, ⟨L, o, hf, hn, ho, hd⟩, hr⟩ := hl
      have hL : L ∈ X.fs := hs L (by unfold frs; rw [List.filterMap_cons, hf]; exact List.mem_cons_self)
      obtain ⟨sl, e⟩ := I.base.slot L o ho (I.ok.frf L hL) hL fun z => I.ok.exfs L z hL
      exact ⟨hk, ⟨L, _, hf, hn, e, hd⟩, ih (fun b hb => hs b (by unfold frs; rw [List.filterMap_cons, hf]; exact List.mem_cons_of_mem _ hb)) hr⟩
  exact all X.outer (fun _ hb => hb) I.ok.funs
theorem Inv.stack (I : Inv X pins σ H s) : s.heap.FunFrames X.base X.stack := by
  rcases I.ok.stk with e | ⟨e, hf⟩
  · rw [e]; exact I.funs
  · rw [e]
    obtain ⟨m, hn, _⟩ := I.loc
    refine .cons (by rw [I.ok.kind]; decide) hf hn ?_ I.funs
    exact Heap.get?_none_of_le (Nat.le_trans I.ok.bsz I.ok.above)
theorem Inv.stkSub (I : Inv X pins σ H s) : ∀ b ∈ frs X.stack, b ∈ X.env.locals :: X.fs := fun b hb => by
  rcases I.ok.stk with e | ⟨e, hf⟩
  · rw [e] at hb; exact List.mem_cons_of_mem _ hb
  · rw [e] at hb
    unfold frs at hb
    rw [List.filterMap_cons, hf] at hb
    exact hb
theorem Inv.stkFree (I : Inv X pins σ H s) : ∀ b ∈ frs X.stack, H b = none := fun b hb => by
  rcases List.mem_cons.mp (I.stkSub b hb) with e | hb
  · rw [e]; exact I.free
  · obtain ⟨_, o, ho, _⟩ := I.ok.funs.mem hb
    exact I.base.free b o ho (I.ok.frf b hb) fun z => I.ok.exfs b z hb
theorem Inv.step {g' : Array GenState} {t' : Nat} {d' : Drawn} {ch : List Addr} (I : Inv X pins σ H s)
    (hch : ∀ b ∈ ch, (b ∈ X.ex ∨ X.s₀.heap.objs.size ≤ b) ∧ b ≠ X.env.locals ∧ (∀ x c, X.env.cells.lookup x = some c → c ≠ b) ∧ ∀ p ∈ X.pn ++ pins, p.1 ≠ b)
    (keep : ∀ b o, b ≠ X.env.locals → b ∉ X.fs → b ∉ ch → s.heap.get? b = some o → H b = none → h'.get? b = some o)
    (slot : ∀ b o, b ≠ X.env.locals → b ∈ X.fs → b ∉ ch → s.heap.get? b = some o → H b = none → ∃ sl, h'.get? b = some { o with slots := sl }) (free : ∀ b o, b ∉ ch → s.heap.get? b = some o → H b = none → H' b = none)
    (there : ∀ b o, b ∉ ch → s.heap.get? b = some o → ∃ o', h'.get? b = some o')
    (tups : ∀ b xs, H b = some (.tup xs) → H' b = some (.tup xs)) (frzs : ∀ b o u, H b = some (.frz o u) → H' b = some (.frz o u)) (tbls : ∀ b ps, H b = some (.tbl ps) → ∃ more, H' b = some (.tbl (ps ++ more)))
    (ns : ∀ m, s.heap.Ns X.env.locals m → h'.Ns X.env.locals m) (hok : HOk X.prog X.w H' h') (hg : AllBare g') :
    Inv X pins σ H' { s with heap := h', gens := g', drawn := d', toks := t' } := by
  have neL : ∀ b o, X.s₀.heap.get? b = some o → b ≠ X.env.locals := fun b o e => Nat.ne_of_lt (Nat.lt_of_lt_of_le (Heap.lt_size e) I.ok.above)
  have neC : ∀ b o, X.s₀.heap.get? b = some o → b ∉ X.ex → b ∉ ch := fun b o e hx hb => by
    rcases (hch b hb).1 with z | z
    · exact hx z
    · exact absurd (Nat.lt_of_lt_of_le (Heap.lt_size e) z) (Nat.lt_irrefl _)
  have cellK : ∀ x c, X.env.cells.lookup x = some c → ∀ v, s.heap.IsCell c v → h'.IsCell c v := fun x c e v ⟨o, ho, hd⟩ => by
    have nch : c ∉ ch := fun z => (hch c z).2.2.1 x c e rfl
    by_cases hc : c ∈ X.fs
    · obtain ⟨sl, q⟩ := slot c o (I.cne x c e) hc nch ho (I.freeC x c e)
      exact ⟨_, q, hd⟩
    · exact ⟨o, keep c o (I.cne x c e) hc nch ho (I.freeC x c e), hd⟩
  refine ⟨I.ok, I.os, hg, ⟨fun b o e n hb hx => ?_, fun b o e n hb hx => ?_, fun b o e n hx => ?_, fun b o e hx => ?_, fun b xs e => tups b xs (I.base.tups b xs e), fun b o xs e => frzs b o xs (I.base.frzs b o xs e), fun b ps e => ?_⟩, ?_, fun x c e => ?_, ?_, fun x c e => ?_, fun p hp => ?_, hok, I.len⟩
  · exact keep b o (neL b o e) hb (neC b o e hx) (I.base.keep b o e n hb hx) (I.base.free b o e n hx)
  · obtain ⟨sl, e1⟩ := I.base.slot b o e n hb hx
    obtain ⟨sl', e2⟩ := slot b _ (neL b o e) hb (neC b o e hx) e1 (I.base.free b o e n hx)
    exact ⟨sl', e2⟩
  · obtain ⟨o', e1⟩ := I.base.there b o e hx
    exact free b o' (neC b o e hx) e1 (I.base.free b o e n hx)
  · obtain ⟨o', e1⟩ := I.base.there b o e hx
    exact there b o' (neC b o e hx) e1
  · obtain ⟨m1, e1⟩ := I.base.tbls b ps e
    obtain ⟨m2, e2⟩ := tbls b _ e1
    exact ⟨m1 ++ m2, by rw [e2, Array.append_assoc]⟩
  · obtain ⟨m, hn, hl⟩ := I.loc
    refine ⟨m, ns m hn, fun i x v e1 e2 e3 => ?_⟩
    obtain ⟨u, r, l⟩ := hl i x v e1 e2 e3
    refine ⟨u, r, ?_⟩
    rcases l with l | ⟨k, c, e, z⟩
    · exact .inl l
    · exact .inr ⟨k, c, e, cellK x c e _ z⟩
  · obtain ⟨v, z⟩ := I.cell x c e
    exact ⟨v, cellK x c e v z⟩
  · obtain ⟨m, ⟨o, _, _, ho, _⟩, _⟩ := I.loc
    exact free _ o (fun z => (hch _ z).2.1 rfl) ho I.free
  · obtain ⟨v, o, ho, hd⟩ := I.cell x c e
    exact free c o (fun z => (hch c z).2.2.1 x c e rfl) ho (I.freeC x c e)
  · obtain ⟨e, n, ne, nf, d⟩ := I.pin p hp
    have nch : p.1 ∉ ch := fun z => (hch p.1 z).2.2.2 p hp rfl
    exact ⟨keep p.1 p.2 ne nf nch e n, free p.1 p.2 nch e n, ne, nf, d⟩
theorem Inv.un {t' : Nat} (I : Inv X pins σ H s) (u : Un X.fs [] H H' s.heap h') (hok : HOk X.prog X.w H' h') : Inv X pins σ H' { s with heap := h', toks := t' } := by
  obtain ⟨m, ⟨o, es, ep, ho, r⟩, _⟩ := id I.loc
  obtain ⟨sl, hL⟩ := u.any ho I.free (by simp)
  exact I.step (g' := s.gens) (d' := s.drawn) (ch := []) (fun _ z => nomatch z) (fun b o _ hb _ e n => u.keep b o e n hb (by simp)) (fun b o _ hb _ e n => u.slot b o e n hb (by simp)) (fun b o _ e n => u.free b o e n (by simp)) (fun b o _ e => u.there b o e (by simp)) u.tups u.frzs u.tbls (fun m' hm => by
    obtain ⟨o', es', ep', ho', r'⟩ := hm
    rw [ho] at ho'; cases ho'
    exact ⟨_, es', ep', hL, r'⟩) hok I.bare
theorem Inv.call {g' : Array GenState} {t' : Nat} {d' : Drawn} {ch : List Addr} (I : Inv X pins σ H s) (u : Un (frs X.stack) ch H H' s.heap h') (hok : HOk X.prog X.w H' h') (hg : AllBare g')
    (hch : ∀ b ∈ ch, (b ∈ X.ex ∨ X.s₀.heap.objs.size ≤ b) ∧ b ≠ X.env.locals ∧ (∀ x c, X.env.cells.lookup x = some c → c ≠ b) ∧ ∀ p ∈ X.pn ++ pins, p.1 ≠ b) :
    Inv X pins σ H' { s with heap := h', gens := g', drawn := d', toks := t' } := by
  obtain ⟨m, ⟨o, es, ep, ho, r⟩, _⟩ := id I.loc
  obtain ⟨sl, hL⟩ := u.any ho I.free fun z => (hch _ z).2.1 rfl
  exact I.step (ch := ch) hch (fun b o hL hb hc e n => u.keep b o e n (fun z => (List.mem_cons.mp (I.stkSub b z)).elim hL hb) hc) (fun b o _ _ hc e n => u.any e n hc) (fun b o hc e n => u.free b o e n hc) (fun b o hc e => u.there b o e hc) u.tups u.frzs u.tbls (fun m' hm => by
    obtain ⟨o', es', ep', ho', r'⟩ := hm
    rw [ho] at ho'; cases ho'
    exact ⟨_, es', ep', hL, r'⟩) hok hg
theorem Inv.turned {t' : Nat} {it : Addr} (I : Inv X pins σ H s) (k : ∀ b o, b ≠ it → s.heap.get? b = some o → h'.get? b = some o) (hn : H it = none) (hL : it ≠ X.env.locals)
    (h1 : it ∈ X.ex ∨ X.s₀.heap.objs.size ≤ it) (h2 : ∀ x c, X.env.cells.lookup x = some c → c ≠ it) (h3 : ∀ p ∈ X.pn ++ pins, p.1 ≠ it) : Inv X pins σ H { s with heap := h', toks := t' } := by
  have nit : ∀ b u, H b = some u → b ≠ it := fun b u e z => by rw [z, hn] at e; cases e
  refine I.step (g' := s.gens) (d' := s.drawn) (ch := [it]) (fun b hb => ?_) (fun b o _ _ hc e _ => k b o (fun z => hc (by simp [z])) e) (fun b o _ _ hc e _ => ⟨o.slots, k b o (fun z => hc (by simp [z])) e⟩) (fun _ _ _ _ n => n)
    (fun b o hc e => ⟨o, k b o (fun z => hc (by simp [z])) e⟩) (fun _ _ e => e) (fun _ _ _ e => e) (fun b ps e => ⟨#[], by rw [e]; simp⟩) (fun m hm => ?_) (fun b u e => ?_) I.bare
  · have e : b = it := by simpa using hb
    subst e
    exact ⟨h1, hL, h2, h3⟩
  · obtain ⟨o, es, ep, ho, r⟩ := hm
    exact ⟨o, es, ep, k _ o (Ne.symm hL) ho, r⟩
  · refine (I.hok b u e).stay (fun c v hc q => k c v ?_ q) (fun _ q => q) fun _ _ q => q
    rcases hc with z | z
    · rw [z]; exact nit b u e
    · exact nit c _ z
theorem Inv.tok (I : Inv X pins σ H s) (t : Nat) : Inv X pins σ H { s with toks := t } := I.un (h' := s.heap) (t' := t) Un.refl I.hok
theorem Inv.kept {t' : Nat} (I : Inv X pins σ H s) (k : ∀ b u, s.heap.get? b = some u → h'.get? b = some u) : Inv X pins σ H { s with heap := h', toks := t' } := I.un (Un.kept k) (I.hok.kept k)
theorem Inv.laid {a : Addr} {o : HO} {t' : Nat} (I : Inv X pins σ H s) (k : ∀ b u, s.heap.get? b = some u → h'.get? b = some u) (hp : s.heap.objs.size ≤ a) (new : Ey X.prog X.w (upd H a o) h' a o) :
    Inv X pins σ (upd H a o) { s with heap := h', toks := t' } := I.un (Un.laid k hp (I.hok.fresh hp)) (I.hok.laid k hp new)
theorem Inv.write {x e : Addr} {o : HO} {t' : Nat} (I : Inv X pins σ H s) (mu : Mut (H x)) (he : e = x ∨ H e = some (.own x)) (k : ∀ b u, b ≠ e → s.heap.get? b = some u → h'.get? b = some u) (heo : ∃ u, h'.get? e = some u)
    (new : Ey X.prog X.w (upd H x o) h' x o) : Inv X pins σ (upd H x o) { s with heap := h', toks := t' } := I.un (Un.write mu he k heo) (I.hok.write mu he k heo new)
theorem Inv.pins_of {pins' : List (Addr × Obj)} (I : Inv X pins σ H s) (h : ∀ p ∈ pins', s.heap.get? p.1 = some p.2 ∧ H p.1 = none ∧ p.1 ≠ X.env.locals ∧ p.1 ∉ X.fs ∧ ∀ v, p.2.data ≠ .cell v) : Inv X pins' σ H s :=
  ⟨I.ok, I.os, I.bare, I.base, I.loc, I.cell, I.free, I.freeC, fun p hp => (List.mem_append.mp hp).elim (fun z => I.pin p (List.mem_append_left _ z)) (h p), I.hok, I.len⟩
theorem Ms {N : List Str} (hN : N.Nodup) {i j : Nat} {x : Str} (a : N[i]? = some x) (b : N[j]? = some x) : i = j := by
  obtain ⟨h1, e1⟩ := List.getElem?_eq_some_iff.mp a
  obtain ⟨h2, e2⟩ := List.getElem?_eq_some_iff.mp b
  exact (List.getElem_inj hN).mp (e1.trans e2.symm)
theorem WX {M : Model} {A : Around} {E : Value → Shared → Prop} {i : Nat} {x : Str} {v : V} {u : Value} {Q : Unit → Shared → Prop} (I : Inv X pins σ H s) (hN : X.N.Nodup) (hi : X.N[i]? = some x) (hx : Loc X.env.scope x) (r : RelV v u)
    (h : ∀ s', Inv X pins (σ.set i (some v)) H s' → (∃ a, Heap.SameBut a s.heap s'.heap ∧ (a = X.env.locals ∨ X.env.cells.lookup x = some a)) → Q () s') (hf : X.fn x = true ∨ X.env.scope.names.lookup x = some .local := by first | exact .inl rfl | exact .inr rfl | assumption) : wpAny M A (storeName X.env x u) Q E s := by
  obtain ⟨m, hn, hl⟩ := id I.loc
  have hcls : (X.env.scope.kind == .class || (X.env.scope.kind == .module && X.env.locals != X.env.globals)) = false := by rw [I.ok.kind]; rfl
  have hiσ : i < σ.length := by rw [I.len]; exact (List.getElem?_eq_some_iff.mp hi).1
  have cne := I.cne
  have tracked : ∀ {a : Addr} {h' : Heap}, (∃ o, s.heap.get? a = some o ∧ H a = none) → Heap.SameBut a s.heap h' → HOk X.prog X.w H h' := fun {a h'} ha hs b ob e => by
    obtain ⟨_, _, hfree⟩ := ha
    refine (I.hok b ob e).stay (fun c w' hc q => (hs.2 c ?_).trans q) (fun _ q => q) fun _ _ q => q
    rintro rfl
    rcases hc with rfl | hc
    · rw [hfree] at e; cases e
    · rw [hfree] at hc; cases hc
  rcases hx with hk | hk
  · refine wpAny_storeName_local hk hn (fun h' hn' hs => ?_) hcls
    obtain ⟨oL, _, _, hoL, _⟩ := id hn
    refine h _ ⟨I.ok, I.os, I.bare, ⟨fun b o e n hb hx => ?_, fun b o e n hb hx => ?_, I.base.free, fun b o e hx => ?_, I.base.tups, I.base.frzs, I.base.tbls⟩, ⟨_, hn', fun j y v' e1 e2 e3 => ?_⟩, fun y c e => ?_, I.free, I.freeC, fun p hp => ?_, tracked ⟨oL, hoL, I.free⟩ hs, by simpa using I.len⟩ ⟨_, hs, .inl rfl⟩
    · exact (hs.2 b (Nat.ne_of_lt (Nat.lt_of_lt_of_le (Heap.lt_size e) I.ok.above))).trans (I.base.keep b o e n hb hx)
    · obtain ⟨sl, e1⟩ := I.base.slot b o e n hb hx
      exact ⟨sl, (hs.2 b (Nat.ne_of_lt (Nat.lt_of_lt_of_le (Heap.lt_size e) I.ok.above))).trans e1⟩
    · obtain ⟨o', e1⟩ := I.base.there b o e hx
      exact ⟨o', (hs.2 b (Nat.ne_of_lt (Nat.lt_of_lt_of_le (Heap.lt_size e) I.ok.above))).trans e1⟩
    · by_cases hj : j = i
      · subst hj
        rw [hi] at e1; cases e1
        rw [List.getElem?_set_self hiσ] at e2
        cases e2
        exact ⟨u, r, .inl ⟨hk, by simp⟩⟩
      · rw [List.getElem?_set_ne (Ne.symm hj)] at e2
        obtain ⟨u', r', q⟩ := hl j y v' e1 e2 e3
        refine ⟨u', r', ?_⟩
        rcases q with ⟨k, e⟩ | ⟨k, c, e, z⟩
        · refine .inl ⟨k, ?_⟩
          have : y ≠ x := fun e => hj (Ms hN e1 (e ▸ hi))
          simp [this, e]
        · exact .inr ⟨k, c, e, z.sameBut hs (cne y c e)⟩
    · obtain ⟨w', z⟩ := I.cell y c e
      exact ⟨w', z.sameBut hs (cne y c e)⟩
    · obtain ⟨e, n, ne, nf, d⟩ := I.pin p hp
      exact ⟨(hs.2 p.1 ne).trans e, n, ne, nf, d⟩
  · have hfn : X.fn x = true := by
      rcases hf with z | z
      · exact z
      · rw [z] at hk; cases hk
    obtain ⟨c, hc⟩ := I.ok.has x (.inl hk)
    obtain ⟨w', z⟩ := I.cell x c hc
    refine wpAny_storeName_cell I.ok.kind hk hc z (fun h' hc' hs => ?_)
    obtain ⟨oc, hoc, hocd⟩ := id z
    refine h { s with heap := h' } ⟨I.ok, I.os, I.bare, ⟨fun b o e n hb hx => ?_, fun b o e n hb hx => ?_, I.base.free, fun b o e hx => ?_, I.base.tups, I.base.frzs, I.base.tbls⟩, ⟨m, hn.sameBut hs (Ne.symm (cne x c hc)), fun j y v' e1 e2 e3 => ?_⟩, fun y c' e => ?_, I.free, I.freeC, fun p hp => ?_, tracked ⟨oc, hoc, I.freeC x c hc⟩ hs, by simpa using I.len⟩ ⟨c, hs, .inr hc⟩
    · exact (hs.2 b (Nat.ne_of_lt (Nat.lt_of_lt_of_le (Heap.lt_size e) (I.ok.cab x c hfn hc)))).trans (I.base.keep b o e n hb hx)
    · obtain ⟨sl, e1⟩ := I.base.slot b o e n hb hx
      exact ⟨sl, (hs.2 b (Nat.ne_of_lt (Nat.lt_of_lt_of_le (Heap.lt_size e) (I.ok.cab x c hfn hc)))).trans e1⟩
    · obtain ⟨o', e1⟩ := I.base.there b o e hx
      exact ⟨o', (hs.2 b (Nat.ne_of_lt (Nat.lt_of_lt_of_le (Heap.lt_size e) (I.ok.cab x c hfn hc)))).trans e1⟩
    · by_cases hj : j = i
      · subst hj
        rw [hi] at e1; cases e1
        rw [List.getElem?_set_self hiσ] at e2
        cases e2
        exact ⟨u, r, .inr ⟨.inl hk, c, hc, hc'⟩⟩
      · rw [List.getElem?_set_ne (Ne.symm hj)] at e2
        obtain ⟨u', r', q⟩ := hl j y v' e1 e2 e3
        refine ⟨u', r', ?_⟩
        rcases q with q | ⟨k, c', e, z'⟩
        · exact .inl q
        · refine .inr ⟨k, c', e, z'.sameBut hs ?_⟩
          rintro rfl
          exact hj (Ms hN e1 (I.ok.inj _ _ _ e hc ▸ hi))
    · by_cases hcc : c' = c
      · subst hcc; exact ⟨_, hc'⟩
      · obtain ⟨w2, z2⟩ := I.cell y c' e
        exact ⟨w2, z2.sameBut hs hcc⟩
    · obtain ⟨e, n, ne, nf, d⟩ := I.pin p hp
      refine ⟨(hs.2 p.1 ?_).trans e, n, ne, nf, d⟩
      intro q
      rw [q, hoc] at e
      have q' : oc = p.2 := Option.some.inj e
      exact d w' (by rw [← q']; exact hocd)
theorem Gs {M : Model} {A : Around} {E : Value → Shared → Prop} {i : Nat} {x : Str} {v : V} {u : Value} {Q : Unit → Shared → Prop} (I : Inv X pins σ H s) (hN : X.N.Nodup) (hi : X.N[i]? = some x) (hx : Loc X.env.scope x) (r : RelV v u)
    (h : ∀ s', Inv X pins (σ.set i (some v)) H s' → Q () s') (hf : X.fn x = true ∨ X.env.scope.names.lookup x = some .local := by first | exact .inl rfl | exact .inr rfl | assumption) : wpAny M A (storeName X.env x u) Q E s :=
  WX I hN hi hx r (fun s' I' _ => h s' I') hf
theorem Inv.call' {s' : Shared} {ch : List Addr} (I : Inv X pins σ H s) (ho : s'.os = s.os) (u : Un (frs X.stack) ch H H' s.heap s'.heap) (hok : HOk X.prog X.w H' s'.heap) (hg : AllBare s'.gens)
    (hch : ∀ b ∈ ch, (b ∈ X.ex ∨ X.s₀.heap.objs.size ≤ b) ∧ b ≠ X.env.locals ∧ (∀ x c, X.env.cells.lookup x = some c → c ≠ b) ∧ ∀ p ∈ X.pn ++ pins, p.1 ≠ b) : Inv X pins σ H' s' := by
  obtain ⟨h', g', d', t', o'⟩ := s'
  have e : o' = s.os := ho
  subst e
  exact I.call (g' := g') (t' := t') (d' := d') u hok hg hch
end
noncomputable abbrev XK := Value → Option Addr → Hp → Prop
noncomputable abbrev St := List (Option V)
noncomputable abbrev VK := V → Hp → Prop
noncomputable abbrev TE := St → Hp → VK → Prop
noncomputable abbrev TT := St → Hp → (Bool → Hp → Prop) → Prop
noncomputable abbrev TA := St → Hp → (List V → Hp → Prop) → Prop
structure Ends where
  nx : St → Hp → Prop
  rt : VK
  bk : St → Hp → Prop := fun _ _ => False
  ct : St → Hp → Prop := fun _ _ => False
noncomputable abbrev TS := Ends → St → Hp → Prop
noncomputable def EP (X : Cx) (pins : List (Addr × Obj)) (σ : St) (Q : VK) (u : Value) (s' : Shared) : Prop := ∃ v H', Inv X pins σ H' s' ∧ RelV v u ∧ Q v H'
noncomputable def TP (X : Cx) (pins : List (Addr × Obj)) (σ : St) (Q : Bool → Hp → Prop) (b : Bool) (s' : Shared) : Prop := ∃ H', Inv X pins σ H' s' ∧ Q b H'
noncomputable def AP (X : Cx) (pins : List (Addr × Obj)) (σ : St) (Q : List V → Hp → Prop) (us : List Value) (s' : Shared) : Prop := ∃ vs H', Inv X pins σ H' s' ∧ Vals vs us ∧ Q vs H'
noncomputable def SP (X : Cx) (pins : List (Addr × Obj)) (D : Ends) (f : Flow) (s' : Shared) : Prop :=
  match f with
  | .next => ∃ σ' H', Inv X pins σ' H' s' ∧ D.nx σ' H'
  | .brk => ∃ σ' H', Inv X pins σ' H' s' ∧ D.bk σ' H'
  | .cont => ∃ σ' H', Inv X pins σ' H' s' ∧ D.ct σ' H'
  | .ret u => ∃ v σ' H', Inv X pins σ' H' s' ∧ RelV v u ∧ D.rt v H'
noncomputable def PE (X : Cx) (e : Expr) (t : TE) : Prop :=
  ∀ (pins : List (Addr × Obj)) (s : Shared) (σ : St) (H : Hp) (Q : VK), Inv X pins σ H s → t σ H Q → wpAny (model X.prog X.w) X.A (eval e X.env) (EP X pins σ Q) X.xe s
noncomputable def PT (X : Cx) (e : Expr) (t : TT) : Prop :=
  ∀ (pins : List (Addr × Obj)) (s : Shared) (σ : St) (H : Hp) (Q : Bool → Hp → Prop), Inv X pins σ H s → t σ H Q → wpAny (model X.prog X.w) X.A (isTrue e X.env (eval e X.env)) (TP X pins σ Q) X.xe s
noncomputable def PW (X : Cx) (e : Expr) (t : TT) : Prop :=
  ∀ (whole : Sem Value) (pins : List (Addr × Obj)) (s : Shared) (σ : St) (H : Hp) (Q : Bool → Hp → Prop), Inv X pins σ H s → t σ H Q → wpAny (model X.prog X.w) X.A (isTrue e X.env whole) (TP X pins σ Q) X.xe s
theorem PW.pt {X : Cx} {e : Expr} {t : TT} (h : PW X e t) : PT X e t := h _
noncomputable def PA (X : Cx) (es : List Expr) (t : TA) : Prop :=
  ∀ (pos : Pos) (pins : List (Addr × Obj)) (s : Shared) (σ : St) (H : Hp) (Q : List V → Hp → Prop), Inv X pins σ H s → t σ H Q → wpAny (model X.prog X.w) X.A (spliced (backTo pos (starEach es X.env))) (AP X pins σ Q) X.xe s
noncomputable def PS (X : Cx) (st : Stmt) (t : TS) : Prop :=
  ∀ (pins : List (Addr × Obj)) (s : Shared) (σ : St) (H : Hp) (D : Ends), Inv X pins σ H s → t D σ H → wpAny (model X.prog X.w) X.A (exec st X.env) (SP X pins D) X.xe s
noncomputable def PSs (X : Cx) (st : List Stmt) (t : TS) : Prop :=
  ∀ (pins : List (Addr × Obj)) (s : Shared) (σ : St) (H : Hp) (D : Ends), Inv X pins σ H s → t D σ H → wpAny (model X.prog X.w) X.A (execs st X.env) (SP X pins D) X.xe s
theorem thn {α : Type} {t : Sem α} {Q Q' : α → Shared → Prop} {M : Model} {A : Around} {E : Value → Shared → Prop} {s : Shared} (h : wpAny M A t Q E s) (hQ : ∀ a s, Q a s → Q' a s) : wpAny M A t Q' E s := wpAny_mono h hQ fun _ _ x => x
end L2
namespace L2
open PySem PySem.Spec PyProof.Rows
section
variable {X : Cx}
theorem bin {a b : Expr} {ta tb : TE} (ha : PE X a ta) (hb : PE X b tb) {pins : List (Addr × Obj)} {s : Shared} {σ : St} {H : Hp} {R : V → V → Hp → Prop} (I : Inv X pins σ H s) (h : ta σ H fun x H1 => tb σ H1 fun y H2 => R x y H2)
    {α : Type} {Q : α → Shared → Prop} {f : Value → Value → Sem α}
    (hf : ∀ v u s2 x y H2, Inv X pins σ H2 s2 → RelV x v → RelV y u → R x y H2 → wpAny (model X.prog X.w) X.A (f v u) Q X.xe s2) :
    wpAny (model X.prog X.w) X.A (eval a X.env) (fun v s₁ => wpAny (model X.prog X.w) X.A (eval b X.env) (fun u s₂ => wpAny (model X.prog X.w) X.A (f v u) Q X.xe s₂) X.xe s₁) X.xe s := by
  refine thn (ha pins s σ H _ I h) fun v s1 ⟨x, H1, I1, r1, q1⟩ => ?_
  refine thn (hb pins s1 σ H1 _ I1 q1) fun u s2 ⟨y, H2, I2, r2, q2⟩ => ?_
  exact hf v u s2 x y H2 I2 r1 r2 q2
noncomputable def AiX (i : Nat) : TE := fun σ H Q => ∃ v, σ[i]? = some (some v) ∧ Q v H
noncomputable def tC (v : V) : TE := fun _ H Q => Q v H
theorem Jd {i : Nat} {x : Str} {pos : Pos} (hN : X.N[i]? = some x) (hv : Vis X.env.scope x) (hd : (x == ("__debug__" : Str)) = false := by decide) (hcd : (x == ("__classdict__" : Str)) = false := by decide) : PE X (.Name x pos) (AiX i) := by
  intro pins s σ H Q I h
  obtain ⟨v, e, h⟩ := h
  obtain ⟨m, hn, hl⟩ := I.loc
  obtain ⟨u, r, l⟩ := hl i x v hN e hv
  have fin : EP X pins σ Q u s := ⟨v, H, I, r, h⟩
  rcases l with ⟨hk, hm⟩ | ⟨hk, c, hc, hcell⟩
  · exact wpAny_Name (wpAny_loadName_local I.ok.kind hk hn hm fin) hd
  · rcases hk with hk | hk
    · exact wpAny_Name (wpAny_loadName_cell I.ok.kind hk hc hcell fin) hd
    · exact wpAny_Name (wpAny_loadName_free I.ok.kind hk hc hcell fin hcd) hd
theorem AfA {i j pos} : PE X (.Constant (.int i) j pos) (tC (.int i)) := fun _ _ _ H _ I h => wpAny_Constant_int ⟨.int i, H, I.tok _, ⟨_, rfl⟩, h⟩
theorem AgW {b j pos} : PE X (.Constant (.bool b) j pos) (tC (.bl b)) := fun _ _ _ H _ I h => Constant_bool ⟨.bl b, H, I, rfl, h⟩
theorem Ad2 {j pos} : PE X (.Constant .none j pos) (tC .non) := fun _ _ _ H _ I h => Constant_none ⟨.non, H, I, rfl, h⟩
theorem AdW {x j pos} : PE X (.Constant (.str x) j pos) (tC (.str x)) := fun _ _ _ H _ I h => Calls.Constant_str ⟨.str x, H, I.tok _, ⟨_, rfl⟩, h⟩
noncomputable def Gl (X : Cx) (x : Str) : Prop := X.env.kindOf x = some .globalImplicit
theorem HX {E : Value → Shared → Prop} {pins : List (Addr × Obj)} {s : Shared} {σ : St} {H : Hp} {x : Str} {u : Value} {pos : Pos} {Q : Value → Shared → Prop} (I : Inv X pins σ H s) (hg : Gl X x) (hm : X.mg x = some u) (h : Q u s)
    (hd : (x == ("__debug__" : Str)) = false := by decide) : wpAny (model X.prog X.w) X.A (eval (.Name x pos) X.env) Q E s :=
  Calls.Name_function_global I.ok.kind hg (Calls.loadGlobal_global (by rw [I.ok.glob]; exact I.mod.glob.keeps I.bk) hm h) hd
theorem R0 {E : Value → Shared → Prop} {pins : List (Addr × Obj)} {s : Shared} {σ : St} {H : Hp} {x : Str} {u : Value} {pos : Pos} {Q : Value → Shared → Prop} (I : Inv X pins σ H s) (hg : Gl X x) (hm : X.mg x = none) (hv : bootBuiltins x = some u) (h : Q u s)
    (hn : x ≠ "__name__" := by decide) (hd : (x == ("__debug__" : Str)) = false := by decide) : wpAny (model X.prog X.w) X.A (eval (.Name x pos) X.env) Q E s := by
  obtain ⟨mb, h1, h2⟩ := I.mod.blt
  exact Calls.Name_function_global I.ok.kind hg (Calls.loadGlobal_builtin (by rw [I.ok.glob]; exact I.mod.glob.keeps I.bk) hm (by rw [I.ok.blt]; exact h1.keeps I.bk) ((h2 x hn).trans hv) h) hd
theorem V8 {x : Str} {v : V} {u : Value} {pos : Pos} (hg : Gl X x) (hm : X.mg x = some u) (r : RelV v u) (hd : (x == ("__debug__" : Str)) = false := by decide) : PE X (.Name x pos) (tC v) :=
  fun _ _ _ H _ I h => HX I hg hm ⟨v, H, I, r, h⟩ hd
theorem U3 {x : Str} {v : V} {u : Value} {pos : Pos} (hg : Gl X x) (hm : X.mg x = none) (hv : bootBuiltins x = some u) (r : RelV v u) (hn : x ≠ "__name__" := by decide) (hd : (x == ("__debug__" : Str)) = false := by decide) : PE X (.Name x pos) (tC v) :=
  fun _ _ _ H _ I h => R0 I hg hm hv ⟨v, H, I, r, h⟩ hn hd
variable {a b : Expr} {ta tb : TE} {pos : Pos}
noncomputable def PC (X : Cx) (op : CmpOp) (a b : Expr) (t : TE) : Prop :=
  ∀ (pins : List (Addr × Obj)) (s : Shared) (σ : St) (H : Hp) (Q : VK), Inv X pins σ H s → t σ H Q →
    wpAny (model X.prog X.w) X.A (eval a X.env) (fun v s₁ => wpAny (model X.prog X.w) X.A (eval b X.env) (fun u s₂ => wpAny (model X.prog X.w) X.A (compareOp op v u) (EP X pins σ Q) X.xe s₂) X.xe s₁) X.xe s
noncomputable def tB (t : TE) : TT := fun σ H Q => t σ H fun x H1 => ∃ c, x = .bl c ∧ Q c H1
theorem AjQ {op : CmpOp} {t : TE} (h : PC X op a b t) (h1 : behindInMarks op b = false := by first | exact nobehind _ (by decide) (by decide) | rfl) : PT X (.Compare a [op] [b] pos) (tB t) := by
  intro pins s σ H Q I hw
  refine wpAny_isTrue_Compare1 (thn (h pins s σ H _ I hw) fun v s1 h1 => thn h1 fun u s2 h2 => thn h2 fun c s3 ⟨x, H1, I1, r1, q1⟩ => ?_) h1
  obtain ⟨d, rfl, q⟩ := q1
  cases r1
  exact wpAny_truthy_bool ⟨H1, I1, q⟩
theorem Afi {e : Expr} {t : TE} (h : PE X e t) (he : ∀ whole, isTrue e X.env whole = (do let v ← whole; standAt e.pos; holding [v] (truthy v)) := by intro _; rfl) : PT X e (tB t) := by
  intro pins s σ H Q I hw
  refine isTrue_plain (thn (h pins s σ H _ I hw) fun v s1 ⟨x, H1, I1, r1, q1⟩ => ?_) (he _)
  obtain ⟨d, rfl, q⟩ := q1
  cases r1
  exact wpAny_truthy_bool ⟨H1, I1, q⟩
variable {tA tB' : TT} {rest : List Expr}
noncomputable def AjF (t u : TT) : TT := fun σ H Q => t σ H fun c H1 => if c = true then u σ H1 Q else Q false H1
noncomputable def tOr (t u : TT) : TT := fun σ H Q => t σ H fun c H1 => if c = true then Q true H1 else u σ H1 Q
noncomputable def Aka (t : TT) : TT := fun σ H Q => t σ H fun c H1 => Q (!c) H1
theorem AbX (ha : PT X a tA) : PW X (.BoolOp .And [a] pos) tA := by
  intro wh pins s σ H Q I h
  refine isTrue_and (thn (ha pins s σ H Q I h) fun c s1 e => ?_)
  cases c with
  | true => exact isTrue_and_nil e
  | false => exact e
theorem AfO (ha : PT X a tA) : PW X (.BoolOp .Or [a] pos) tA := by
  intro wh pins s σ H Q I h
  refine isTrue_or (thn (ha pins s σ H Q I h) fun c s1 e => ?_)
  cases c with
  | false => exact isTrue_or_nil e
  | true => exact e
theorem Aeq (ha : PT X a tA) (hb : PW X (.BoolOp .And (b :: rest) pos) tB') : PW X (.BoolOp .And (a :: b :: rest) pos) (AjF tA tB') := by
  intro wh pins s σ H Q I h
  refine isTrue_and (thn (ha pins s σ H _ I h) fun c s1 ⟨H1, I1, q1⟩ => ?_)
  cases c with
  | true => exact hb wh pins s1 σ H1 Q I1 q1
  | false => exact ⟨H1, I1, q1⟩
theorem AiJ (ha : PT X a tA) (hb : PW X (.BoolOp .Or (b :: rest) pos) tB') : PW X (.BoolOp .Or (a :: b :: rest) pos) (tOr tA tB') := by
  intro wh pins s σ H Q I h
  refine isTrue_or (thn (ha pins s σ H _ I h) fun c s1 ⟨H1, I1, q1⟩ => ?_)
  cases c with
  | true => exact ⟨H1, I1, q1⟩
  | false => exact hb wh pins s1 σ H1 Q I1 q1
theorem Aee (ha : PT X a tA) : PT X (.UnaryOp .Not a pos) (Aka tA) := by
  intro pins s σ H Q I h
  exact isTrue_not (ha pins s σ H (fun c H1 => Q (!c) H1) I h)
noncomputable def Ahb (ta tb : TE) : TE := fun σ H Q => ta σ H fun x H1 => ∃ c, x = .bl c ∧ if c = true then tb σ H1 Q else Q (.bl false) H1
noncomputable def AjY (ta tb : TE) : TE := fun σ H Q => ta σ H fun x H1 => ∃ c, x = .bl c ∧ if c = true then Q (.bl true) H1 else tb σ H1 Q
noncomputable def AgC (ta : TE) : TE := fun σ H Q => ta σ H fun x H1 => ∃ c, x = .bl c ∧ Q (.bl (!c)) H1
theorem AeQ {op} {t : TE} (h : PE X a t) : PE X (.BoolOp op [a] pos) t := fun pins s σ H Q I hw => BoolOp_one (h pins s σ H Q I hw)
theorem Af9 (ha : PE X a ta) (hb : PE X (.BoolOp .And (b :: rest) pos) tb) : PE X (.BoolOp .And (a :: b :: rest) pos) (Ahb ta tb) := by
  intro pins s σ H Q I h
  refine BoolOp_and (thn (ha pins s σ H _ I h) fun v s1 ⟨x, H1, I1, r1, q1⟩ => ?_)
  obtain ⟨c, rfl, q1⟩ := q1
  cases r1
  refine wpAny_truthy_bool ?_
  cases c with
  | true => exact hb pins s1 σ H1 Q I1 q1
  | false => exact ⟨.bl false, H1, I1, rfl, q1⟩
theorem Ai2 (ha : PE X a ta) (hb : PE X (.BoolOp .Or (b :: rest) pos) tb) : PE X (.BoolOp .Or (a :: b :: rest) pos) (AjY ta tb) := by
  intro pins s σ H Q I h
  refine BoolOp_or (thn (ha pins s σ H _ I h) fun v s1 ⟨x, H1, I1, r1, q1⟩ => ?_)
  obtain ⟨c, rfl, q1⟩ := q1
  cases r1
  refine wpAny_truthy_bool ?_
  cases c with
  | false => exact hb pins s1 σ H1 Q I1 q1
  | true => exact ⟨.bl true, H1, I1, rfl, q1⟩
theorem Afh (ha : PE X a ta) : PE X (.UnaryOp .Not a pos) (AgC ta) := by
  intro pins s σ H Q I h
  refine UnaryOp_ (thn (ha pins s σ H _ I h) fun v s1 ⟨x, H1, I1, r1, q1⟩ => ?_)
  obtain ⟨c, rfl, q1⟩ := q1
  cases r1
  exact not_of (wpAny_truthy_bool ⟨.bl (!c), H1, I1, rfl, q1⟩)
end
end L2
namespace L2
open PySem PySem.Spec PyProof.Rows
noncomputable def SqL (K : PySem.W.Frag) (H : Hp) (a : Addr) (xs : List V) : Prop :=
  Rd H a (.lst xs) ∨
    ∃ (o : Obj) (its : Array Value) (n : Nat), K.lookup a = some o ∧ o.cls = .type "list" ∧ o.dict = none ∧ o.data = .seq its n ∧ its.size ≤ sizeLine ∧ Vals xs its.toList
noncomputable def SqT (K : PySem.W.Frag) (H : Hp) (a : Addr) (xs : List V) : Prop :=
  Rd H a (.tup xs) ∨
    ∃ (o : Obj) (its : Array Value) (n : Nat), K.lookup a = some o ∧ o.cls = .type "tuple" ∧ o.data = .seq its n ∧ its.size ≤ sizeLine ∧ Vals xs its.toList
noncomputable def AjT : Value → Option V
  | .none => some .non
  | .bool b => some (.bl b)
  | .int i _ => some (.int i)
  | .str x _ => some (.str x)
  | .bytes b _ => some (.byt b)
  | .float b _ => some (.flt b)
  | .ref a => some (.ref a)
  | .type n => some (.ty n)
  | _ => none
theorem RelV.abs {x : V} {u : Value} (r : RelV x u) : AjT u = some x := by
  cases x with
  | non => cases r; rfl
  | bl _ => cases r; rfl
  | int _ => obtain ⟨t, rfl⟩ := r; rfl
  | str _ => obtain ⟨t, rfl⟩ := r; rfl
  | byt _ => obtain ⟨t, rfl⟩ := r; rfl
  | flt _ => obtain ⟨t, rfl⟩ := r; rfl
  | ref _ => cases r; rfl
  | ty _ => cases r; rfl
theorem RelV.inj {x y : V} {u : Value} (r : RelV x u) (q : RelV y u) : x = y := Option.some.inj (r.abs.symm.trans q.abs)
theorem Vals.inj : ∀ {xs ys : List V} {us : List Value}, Vals xs us → Vals ys us → xs = ys
  | _, _, _, .nil, .nil => rfl
  | _, _, _, .cons r t, .cons r' t' => by rw [r.inj r', Vals.inj t t']
section
variable {X : Cx} {pins : List (Addr × Obj)} {σ : St} {H : Hp} {s : Shared} {a : Addr} {xs ys : List V}
theorem SqL.of {K : PySem.W.Frag} (h : H a = some (.lst xs)) : SqL K H a xs := .inl (.inl h)
theorem SqT.of {K : PySem.W.Frag} (h : H a = some (.tup xs)) : SqT K H a xs := .inl (.inl h)
theorem Inv.list (I : Inv X pins σ H s) (h : SqL X.K H a xs) : ∃ its : List Value, Vals xs its ∧ PlainL s.heap a its.toArray ∧ xs.length ≤ sizeLine := by
  rcases h with h | ⟨o, its, n, hk, hc, hd, hs, hz, r⟩
  · obtain ⟨z, its, n, r, e⟩ := h.ok I.hok
    exact ⟨its, r, ⟨_, n, e, rfl, rfl, rfl⟩, z⟩
  · refine ⟨its.toList, r, ⟨o, n, I.kIn a o hk, hc, hd, by simpa using hs⟩, ?_⟩
    have e := r.length
    simp only [Array.length_toList] at e
    omega
theorem Inv.tuple (I : Inv X pins σ H s) (h : SqT X.K H a xs) : ∃ its : List Value, Vals xs its ∧ IsTup s.heap a its.toArray ∧ xs.length ≤ sizeLine := by
  rcases h with h | ⟨o, its, n, hk, hc, hs, hz, r⟩
  · obtain ⟨z, its, r, p⟩ := h.ok I.hok
    exact ⟨its, r, p, z⟩
  · refine ⟨its.toList, r, ⟨o, I.kIn a o hk, hc, n, by simpa using hs⟩, ?_⟩
    have e := r.length
    simp only [Array.length_toList] at e
    omega
theorem Inv.list_inj (I : Inv X pins σ H s) (h : SqL X.K H a xs) (h' : SqL X.K H a ys) : xs = ys := by
  obtain ⟨its, r, ⟨o, n, e, _, _, d⟩, _⟩ := I.list h
  obtain ⟨its', r', ⟨o', n', e', _, _, d'⟩, _⟩ := I.list h'
  rw [e] at e'; cases e'
  rw [d] at d'
  injection d' with d1 _
  have : its = its' := by simpa using congrArg Array.toList d1
  subst this
  exact r.inj r'
theorem Inv.tuple_inj (I : Inv X pins σ H s) (h : SqT X.K H a xs) (h' : SqT X.K H a ys) : xs = ys := by
  obtain ⟨its, r, ⟨o, e, _, n, d⟩, _⟩ := I.tuple h
  obtain ⟨its', r', ⟨o', e', _, n', d'⟩, _⟩ := I.tuple h'
  rw [e] at e'; cases e'
  rw [d] at d'
  injection d' with d1 _
  have : its = its' := by simpa using congrArg Array.toList d1
  subst this
  exact r.inj r'
end
noncomputable abbrev Cx.wish (X : Cx) (E : Value → Shared → Prop) : Cx := { X with xe := E }
noncomputable abbrev Cx.nox (X : Cx) : Cx := X.wish fun _ _ => False
theorem Cx.Ok.wish {X : Cx} (ok : X.Ok) (E : Value → Shared → Prop) : (X.wish E).Ok :=
  ⟨ok.mod, ok.kind, ok.glob, ok.blt, ok.above, ok.inj, ok.has, ok.cab, ok.hd, ok.frames, ok.stk, ok.exf, ok.bs, ok.bsz, ok.noex, ok.exfs, ok.funs, ok.frf⟩
theorem Cx.Ok.unwish {X : Cx} {E : Value → Shared → Prop} (ok : (X.wish E).Ok) : X.Ok :=
  ⟨ok.mod, ok.kind, ok.glob, ok.blt, ok.above, ok.inj, ok.has, ok.cab, ok.hd, ok.frames, ok.stk, ok.exf, ok.bs, ok.bsz, ok.noex, ok.exfs, ok.funs, ok.frf⟩
section
variable {X : Cx} {pins : List (Addr × Obj)} {σ : St} {H : Hp} {s : Shared} {E : Value → Shared → Prop}
theorem Inv.wish (I : Inv X pins σ H s) (E : Value → Shared → Prop) : Inv (X.wish E) pins σ H s := ⟨I.ok.wish E, I.os, I.bare, I.base, I.loc, I.cell, I.free, I.freeC, I.pin, I.hok, I.len⟩
theorem Inv.unwish (I : Inv (X.wish E) pins σ H s) : Inv X pins σ H s := ⟨I.ok.unwish, I.os, I.bare, I.base, I.loc, I.cell, I.free, I.freeC, I.pin, I.hok, I.len⟩
theorem SP.unwish {D : Ends} {f : Flow} {s' : Shared} (h : SP (X.wish E) pins D f s') : SP X pins D f s' := by
  cases f with
  | next => obtain ⟨σ', H', I, q⟩ := h; exact ⟨σ', H', I.unwish, q⟩
  | brk => obtain ⟨σ', H', I, q⟩ := h; exact ⟨σ', H', I.unwish, q⟩
  | cont => obtain ⟨σ', H', I, q⟩ := h; exact ⟨σ', H', I.unwish, q⟩
  | ret u => obtain ⟨v, σ', H', I, r, q⟩ := h; exact ⟨v, σ', H', I.unwish, r, q⟩
theorem PSs.nox {st : List Stmt} {t : TS} (h : PSs X.nox st t) : PSs X st t := fun pins s σ H D I hw =>
  wpAny_mono (h pins s σ H D (I.wish _) hw) (fun _ _ q => q.unwish) fun _ _ z => False.elim z
end
section
variable {X : Cx} {st : Stmt} {rest : List Stmt} {t u : TS} {e : Expr} {te : TE} {pos : Pos}
noncomputable def AgV : TS := fun D σ H => D.nx σ H
noncomputable def AkA (t u : TS) : TS := fun D σ H => t { D with nx := u D } σ H
theorem U7 : PSs X [] AgV := fun _ _ σ H _ I h => wpAny_execs_nil ⟨σ, H, I, h⟩
theorem Jx (h1 : PS X st t) (h2 : PSs X rest u) : PSs X (st :: rest) (AkA t u) := by
  intro pins s σ H D I h
  refine wpAny_execs_cons (thn (h1 pins s σ H { D with nx := u D } I h) fun f s1 q => ?_)
  cases f with
  | next =>
    obtain ⟨σ', H', I', q⟩ := q
    exact h2 pins s1 σ' H' D I' q
  | ret v => exact q
  | brk => exact q
  | cont => exact q
theorem Jv (h1 : PS X st t) : PSs X [st] t := by
  intro pins s σ H D I h
  refine wpAny_execs_cons (thn (h1 pins s σ H D I h) fun f s1 q => ?_)
  cases f with
  | next => exact wpAny_execs_nil q
  | ret v => exact q
  | brk => exact q
  | cont => exact q
theorem Inv.quiet {pins : List (Addr × Obj)} {σ : St} {H : Hp} {s : Shared} (I : Inv X pins σ H s) : interactive X.env = false := by simp [interactive, I.ok.kind]
noncomputable def AhS (te : TE) : TS := fun D σ H => te σ H fun _ H1 => D.nx σ H1
theorem K4 (he : PE X e te) (hs : swapsWith e none pos.line X.env = pure false := by rfl) : PS X (.Expr e pos) (AhS te) := by
  intro pins s σ H D I h
  exact wpAny_Expr_any (thn (he pins s σ H _ I h) fun v s1 ⟨x, H1, I1, r1, q1⟩ => ⟨σ, H1, I1, q1⟩) I.quiet hs
noncomputable def Akg (te : TE) : TS := fun D σ H => te σ H D.rt
theorem Yq (he : PE X e te) : PS X (.Return (some e) pos) (Akg te) := by
  intro pins s σ H D I h
  exact wpAny_Return_some (thn (he pins s σ H _ I h) fun v s1 ⟨x, H1, I1, r1, q1⟩ => ⟨x, σ, H1, I1, r1, q1⟩)
noncomputable def Aku (c : TT) (t u : TS) : TS := fun D σ H => c σ H fun b H1 => if b = true then t D σ H1 else u D σ H1
theorem AdC {c : Expr} {a b : List Stmt} {tc : TT} (hc : PT X c tc) (ha : PSs X a t) (hb : PSs X b u) : PS X (.If c a b pos) (Aku tc t u) := by
  intro pins s σ H D I h
  refine wpAny_If (thn (hc pins s σ H _ I h) fun d s1 ⟨H1, I1, q1⟩ => ?_)
  cases d with
  | true => exact ha pins s1 σ H1 D I1 q1
  | false => exact hb pins s1 σ H1 D I1 q1
noncomputable def AdO : TS := fun _ _ _ => False
theorem AaD : PS X st AdO := fun _ _ _ _ _ _ h => h.elim
end
noncomputable abbrev TG := V → St → Hp → (St → Hp → Prop) → Prop
noncomputable abbrev TGs := List V → St → Hp → (St → Hp → Prop) → Prop
noncomputable def PG (X : Cx) (target : Expr) (t : TG) : Prop :=
  ∀ (pins : List (Addr × Obj)) (s : Shared) (σ : St) (H : Hp) (v : V) (u : Value) (Q : St → Hp → Prop), Inv X pins σ H s → RelV v u → t v σ H Q →
    wpAny (model X.prog X.w) X.A (assign target X.env u) (fun _ s' => ∃ σ' H', Inv X pins σ' H' s' ∧ Q σ' H') X.xe s
noncomputable def PGs (X : Cx) (ts : List Expr) (t : TGs) : Prop :=
  ∀ (pins : List (Addr × Obj)) (s : Shared) (σ : St) (H : Hp) (vs : List V) (us : List Value) (Q : St → Hp → Prop), Inv X pins σ H s → Vals vs us → t vs σ H Q →
    wpAny (model X.prog X.w) X.A (assignInOrder ((assignEach ts X.env).map (·.2)) us) (fun _ s' => ∃ σ' H', Inv X pins σ' H' s' ∧ Q σ' H') X.xe s
section
variable {X : Cx} {pos : Pos}
noncomputable def Zh (i : Nat) : TG := fun v σ H Q => Q (σ.set i (some v)) H
theorem Wu {i : Nat} {x : Str} (hN : X.N.Nodup) (hi : X.N[i]? = some x) (hx : Loc X.env.scope x) (hf : X.fn x = true ∨ X.env.scope.names.lookup x = some .local := by first | exact .inl rfl | exact .inr rfl | assumption) : PG X (.Name x pos) (Zh i) := by
  intro pins s σ H v u Q I r h
  exact wpAny_assign_Name (Gs I hN hi hx r (fun s' I' => ⟨_, H, I', h⟩) hf)
noncomputable def Ake : TGs := fun vs σ H Q => vs = [] ∧ Q σ H
noncomputable def Ag3 (t : TG) (u : TGs) : TGs := fun vs σ H Q => ∃ v r, vs = v :: r ∧ t v σ H fun σ' H' => u r σ' H' Q
theorem Ac8 : PGs X [] Ake := by
  intro pins s σ H vs us Q I r h
  obtain ⟨e, h⟩ := h
  subst e
  cases r
  exact assignInOrder_nil ⟨σ, H, I, h⟩
theorem Y9 {e : Expr} {es : List Expr} {t : TG} {u : TGs} (h1 : PG X e t) (h2 : PGs X es u)
    (hs : (assignEach (e :: es) X.env).map (·.2) = assign e X.env :: (assignEach es X.env).map (·.2) := by rfl) : PGs X (e :: es) (Ag3 t u) := by
  intro pins s σ H vs us Q I r h
  obtain ⟨v, vr, e1, h⟩ := h
  subst e1
  cases r with
  | cons r rr =>
    rw [hs]
    refine assignInOrder_cons (thn (h1 pins s σ H _ _ _ I r h) fun _ s1 ⟨σ1, H1, I1, q1⟩ => ?_)
    exact h2 pins s1 σ1 H1 _ _ Q I1 rr q1
noncomputable def AjR (K : PySem.W.Frag) (n : Nat) (t : TGs) : TG := fun v σ H Q => ∃ a xs, v = .ref a ∧ SqT K H a xs ∧ xs.length = n ∧ t xs σ H Q
theorem AfB {es : List Expr} {k : Nat} {t : TGs} {n : Nat} (hc : X.calm = true) (h : PGs X es t)
    (hn : (assignEach es X.env).length = n := by rfl) (hst : (assignEach es X.env).findIdx? (·.1) = none := by rfl) : PG X (.Tuple es k pos) (AjR X.K n t) := by
  intro pins s σ H v u Q I r hw
  obtain ⟨a, xs, e1, hq, hl, hw⟩ := hw
  subst e1
  cases r
  obtain ⟨its, rv, ht, hz⟩ := I.tuple hq
  refine assign_Tuple_tuple (I.ok.hd hc) ht (by simp [hn, ← hl, rv.length]) hst fun h' hx => ?_
  have I1 : Inv X pins σ H { s with heap := h' } := I.kept (t' := s.toks) fun b o e => hx b o (Nat.ne_of_lt (Heap.lt_size e)) e
  exact h pins _ σ H xs _ Q I1 (by simpa using rv) hw
noncomputable def Aip (te : TE) (g : TG) : TS := fun D σ H => te σ H fun x H1 => g x σ H1 D.nx
theorem AdJ {tg e : Expr} {te : TE} {g : TG} (he : PE X e te) (hg : PG X tg g) (hs : swapsWithSole [tg] e pos.line X.env = pure false := by rfl) (hw : swappedStores [tg] e X.env = pure none := by rfl)
    (h1 : (assignEach [tg] X.env).map (·.2) = [assign tg X.env] := by rfl) : PS X (.Assign [tg] e pos) (Aip te g) := by
  intro pins s σ H D I h
  refine wpAny_Assign_stores (thn (he pins s σ H _ I h) fun v s1 ⟨x, H1, I1, r1, q1⟩ => ?_) hs hw
  rw [h1]
  exact thn (hg pins s1 σ H1 x v _ I1 r1 q1) fun _ s2 q => q
theorem ZL {i : Nat} {x : Str} {e : Expr} {te : TE} {pos' : Pos} (hN : X.N.Nodup) (hi : X.N[i]? = some x) (hx : Loc X.env.scope x) (he : PE X e te) (hs : swapsWith e (some (.Name x pos')) pos.line X.env = pure false := by rfl) (hf : X.fn x = true ∨ X.env.scope.names.lookup x = some .local := by first | exact .inl rfl | exact .inr rfl | assumption) :
    PS X (.Assign [.Name x pos'] e pos) (Aip te (Zh i)) := by
  intro pins s σ H D I h
  refine wpAny_Assign_Name (thn (he pins s σ H _ I h) fun v s1 ⟨y, H1, I1, r1, q1⟩ => ?_) hs
  exact Gs I1 hN hi hx r1 (fun s2 I2 => ⟨_, H1, I2, q1⟩) hf
noncomputable def AjX (i j : Nat) (ta : TA) : TS := fun D σ H => ta σ H fun vs H1 => ∃ v w, vs = [v, w] ∧ D.nx ((σ.set i (some v)).set j (some w)) H1
theorem Agf {i j : Nat} {x y : Str} {a b : Expr} {ta : TA} {px py pt : Pos} {kt k2 pt2} (hc : X.calm = true) (hN : X.N.Nodup) (hi : X.N[i]? = some x) (hj : X.N[j]? = some y) (hij : i ≠ j)
    (hx : X.env.scope.names.lookup x = some .local) (hy : X.env.scope.names.lookup y = some .local) (ha : PA X [a, b] ta)
    (hw : swappedStores [.Tuple [.Name x px, .Name y py] kt pt] (.Tuple [a, b] k2 pt2) X.env = pure (some [x, y]))
    (hs : swapsWithSole [.Tuple [.Name x px, .Name y py] kt pt] (.Tuple [a, b] k2 pt2) pos.line X.env = pure false := by rfl) :
    PS X (.Assign [.Tuple [.Name x px, .Name y py] kt pt] (.Tuple [a, b] k2 pt2) pos) (AjX i j ta) := by
  intro pins s σ H D I h
  rw [exec_Assign_arm]
  refine wpAny_bind (wpAny_standAt ?_)
  rw [hs]
  refine wpAny_bind (wpAny_pure ?_)
  rw [if_neg (by decide)]
  refine wpAny_bind (Tuple_ (thn (ha _ pins s σ H _ I h) fun us s1 ⟨vs, H1, I1, r1, q1⟩ => ?_))
  obtain ⟨v, w, e1, q1⟩ := q1
  subst e1
  obtain ⟨u1, u2, rfl, rv, rw'⟩ : ∃ u1 u2, us = [u1, u2] ∧ RelV v u1 ∧ RelV w u2 := by
    cases r1 with
    | cons p q =>
      cases q with
      | cons p' q' =>
        cases q'
        exact ⟨_, _, rfl, p, p'⟩
  refine wpAny_newObj_type ?_ (by show 2 ≤ sizeLine; decide)
  have I2 : Inv X pins σ H1 { s1 with heap := s1.heap.push { cls := .type "tuple", data := .seq [u1, u2].toArray } } := I1.kept (t' := s1.toks) fun b o e => Heap.get?_push_of_some _ e
  rw [hw]
  refine wpAny_bind (wpAny_pure ?_)
  show wpAny (model X.prog X.w) X.A (do rule "assign.swapped-stores"; let items ← unpackItems (.ref s1.heap.objs.size) 2 none; assignInOrder [fun v => bindName X.env y v, fun v => bindName X.env x v] items.reverse; pure Flow.next) _ _ _
  refine wpAny_bind (wpAny_rule (wpAny_bind (unpackItems_tuple (items := #[u1, u2]) (I.ok.hd hc) (IsTup.new s1.heap _) fun h' hx' => ?_)))
  have I3 := I2.kept (h' := h') (t' := s1.toks) fun b o e => hx' b o (Nat.ne_of_lt (Heap.lt_size e)) e
  show wpAny _ _ (assignInOrder [fun v => bindName X.env y v, fun v => bindName X.env x v] [u2, u1] >>= fun _ => pure Flow.next) _ _ _
  refine wpAny_bind (assignInOrder_cons (wpAny_bindName (Gs I3 hN hj (.inl hy) rw' (fun s2 I4 => ?_) (.inr hy))))
  refine assignInOrder_cons (wpAny_bindName (Gs I4 hN hi (.inl hx) rv (fun s3 I5 => assignInOrder_nil (wpAny_pure ?_)) (.inr hx)))
  rw [List.set_comm _ _ (Ne.symm hij)] at I5
  exact ⟨_, H1, I5, q1⟩
end
section
variable {X : Cx} {pos : Pos}
noncomputable def AfQ (c : TT) (tb : TS) : TS := fun D σ H => ∃ W : Nat → St → Hp → Prop, (∃ m, W m σ H) ∧ ∀ m σ H, W m σ H →
  c σ H fun b H1 => if b = true then ∃ N : St → Hp → Prop, (∀ σ' H', N σ' H' → ∃ m', m' < m ∧ W m' σ' H') ∧ tb { D with nx := N, ct := N, bk := D.nx } σ H1 else D.nx σ H1
theorem Z6 {c : Expr} {body : List Stmt} {tc : TT} {tb : TS} (hp : PassesOwn (model X.prog X.w) X.A X.env X.xe) (hc : PT X c tc) (hb : PSs X body tb) : PS X (.While c body [] pos) (AfQ tc tb) := by
  intro pins s σ H D I h
  obtain ⟨W, ⟨m0, w0⟩, turn⟩ := h
  refine wpAny_While (codeAny_whileLoop (fun n s' => ∃ σ' H', Inv X pins σ' H' s' ∧ W n σ' H') ?_ m0 ⟨σ, H, I, w0⟩)
  rintro n s1 ⟨σ1, H1, I1, w1⟩
  refine wpAny_passesOwn hp (thn (hc pins s1 σ1 H1 _ I1 (turn n σ1 H1 w1)) fun b s2 ⟨H2, I2, q2⟩ => ?_)
  cases b with
  | true =>
    obtain ⟨N, hN, q2⟩ := q2
    rw [if_pos rfl]
    refine wpAny_passesOwn hp (thn (hb pins s2 σ1 H2 _ I2 q2) fun f s3 q3 => ?_)
    cases f with
    | next =>
      obtain ⟨σ3, H3, I3, n3⟩ := q3
      obtain ⟨m', hm, w3⟩ := hN σ3 H3 n3
      exact ⟨m', hm, σ3, H3, I3, w3⟩
    | cont =>
      obtain ⟨σ3, H3, I3, n3⟩ := q3
      obtain ⟨m', hm, w3⟩ := hN σ3 H3 n3
      exact ⟨m', hm, σ3, H3, I3, w3⟩
    | brk => exact q3
    | ret v => exact q3
  | false =>
    rw [if_neg Bool.false_ne_true]
    exact wpAny_execs_nil ⟨σ1, H2, I2, q2⟩
end
structure It where
  go : Nat → Hp → Prop
  yld : Nat → Hp → V → Hp → Prop
  stop : Nat → Hp → Prop
noncomputable def PX (X : Cx) (pins : List (Addr × Obj)) (H : Hp) (b : Addr) : Prop :=
  H b = none ∧ b ≠ X.env.locals ∧ b ∉ X.fs ∧ (b ∈ X.ex ∨ X.s₀.heap.objs.size ≤ b) ∧ (∀ x c, X.env.cells.lookup x = some c → c ≠ b) ∧ ∀ p ∈ X.pn ++ pins, p.1 ≠ b
theorem Inv.fpOk {X : Cx} {pins : List (Addr × Obj)} {σ : St} {H H' : Hp} {s : Shared} {b : Addr} (I : Inv X pins σ H s) (hb : s.heap.objs.size ≤ b) (hn : H' b = none) : PX X pins H' b := by
  refine ⟨hn, Nat.ne_of_gt (Nat.lt_of_lt_of_le I.lt hb), I.nofs hb, .inr (Nat.le_trans I.sz hb), fun x c e z => ?_, fun p hp z => ?_⟩
  · obtain ⟨v, q⟩ := I.cell x c e
    exact absurd (Nat.lt_of_lt_of_le q.lt (by rw [z]; exact hb)) (Nat.lt_irrefl _)
  · exact absurd (Nat.lt_of_lt_of_le (Heap.lt_size (I.pin p hp).1) (by rw [z]; exact hb)) (Nat.lt_irrefl _)
structure Turn (P : Program) (w : World) (K : PySem.W.Frag) (tg : Expr) (J : It) (fp : List Addr) (it : Addr) (tn : Nat → Heap → Prop) : Prop where
  mem : it ∈ fp
  obj : ∀ i h, tn i h → ∀ b ∈ fp, ∃ o, h.get? b = some o ∧ ∀ v, o.data ≠ .cell v
  keep : ∀ i h h', tn i h → (∀ b ∈ fp, ∀ o, h.get? b = some o → h'.get? b = some o) → tn i h'
  item : ∀ (X : Cx), X.prog = P → X.w = w → X.K = K → X.calm = true → ∀ (i : Nat) (pins : List (Addr × Obj)) (s : Shared) (σ : St) (H : Hp) (E : Value → Shared → Prop), Inv X pins σ H s → (∀ b ∈ fp, PX X pins H b) → tn i s.heap → J.go i H →
    wpAny (model P w) X.A (pyNext (.ref it)) (fun r s1 => ∃ u, r = some u ∧
      wpAny (model P w) X.A (letOwnedTupleGo tg (.ref it) u) (fun _ s2 => ∃ x H', Inv X pins σ H' s2 ∧ RelV x u ∧ J.yld i H x H' ∧ tn (i + 1) s2.heap ∧ ∀ b ∈ fp, H' b = none) E s1) E s
  done : ∀ (X : Cx), X.prog = P → X.w = w → X.K = K → X.calm = true → ∀ (i : Nat) (pins : List (Addr × Obj)) (s : Shared) (σ : St) (H : Hp) (E : Value → Shared → Prop), Inv X pins σ H s → (∀ b ∈ fp, PX X pins H b) → tn i s.heap → J.stop i H →
    wpAny (model P w) X.A (pyNext (.ref it)) (fun r s1 => r = none ∧ Inv X pins σ H s1) E s
  self : ∀ (A : Around) (i : Nat) (s : Shared) (Q : Value → Shared → Prop) (E : Value → Shared → Prop), tn i s.heap → Q (.ref it) s → wpAny (model P w) A (pyIter (.ref it)) Q E s
noncomputable abbrev TI := St → Hp → (It → Hp → Prop) → Prop
noncomputable def PIE (X : Cx) (pins : List (Addr × Obj)) (σ : St) (tg : Expr) (R : It → Hp → Prop) (itv : Value) (s2 : Shared) : Prop :=
  ∃ (it : Addr) (fp : List Addr) (tn : Nat → Heap → Prop) (J : It) (H' : Hp), itv = .ref it ∧ Inv X pins σ H' s2 ∧ Turn X.prog X.w X.K tg J fp it tn ∧ tn 0 s2.heap ∧ (∀ b ∈ fp, PX X pins H' b) ∧ R J H'
noncomputable def PI (X : Cx) (tg iter : Expr) (wi : TI) : Prop :=
  ∀ (pins : List (Addr × Obj)) (s : Shared) (σ : St) (H : Hp) (R : It → Hp → Prop), Inv X pins σ H s → wi σ H R →
    wpAny (model X.prog X.w) X.A (eval iter X.env) (fun v s1 => wpAny (model X.prog X.w) X.A (pyIter v) (PIE X pins σ tg R) X.xe s1) X.xe s
theorem ZM {M : Model} {A : Around} {E : Value → Shared → Prop} {s : Shared} {tg : Expr} {it : Addr} {u : Value} {o : Obj} {n : String} {vs : Array Value} {Q : Unit → Shared → Prop} (ho : s.heap.get? it = some o) (hc : o.cls = .type n) (hd : o.data = .fields vs)
    (hn : ["enumerate", "zip", "dict_itemiterator", "dict_reverseitemiterator", "odict_iterator", "itertools.zip_longest", "itertools.pairwise"].contains n = false) (hQ : Q () s) : wpAny M A (letOwnedTupleGo tg (.ref it) u) Q E s := by
  unfold letOwnedTupleGo
  cases tg <;> first
    | exact wpAny_pure hQ
    | (cases u <;> first
        | exact wpAny_pure hQ
        | (refine wpAny_bind (wpAny_load ho ?_)
           rw [hc, hd]
           show wpAny M A (if (["enumerate", "zip", "dict_itemiterator", "dict_reverseitemiterator", "odict_iterator", "itertools.zip_longest", "itertools.pairwise"].contains n && vs[0]? == some (rawInt _)) = true then _ else _) Q E s
           rw [if_neg (by intro h; rw [hn, Bool.false_and] at h; cases h)]
           exact wpAny_pure hQ))
noncomputable def Itl (K : PySem.W.Frag) (a : Addr) : It :=
  ⟨fun i H => ∃ xs x, SqL K H a xs ∧ xs[i]? = some x, fun i H x H' => H' = H ∧ ∀ xs, SqL K H a xs → xs[i]? = some x, fun i H => ∃ xs, SqL K H a xs ∧ xs.length ≤ i⟩
noncomputable def Itt (K : PySem.W.Frag) (a : Addr) : It :=
  ⟨fun i H => ∃ xs x, SqT K H a xs ∧ xs[i]? = some x, fun i H x H' => H' = H ∧ ∀ xs, SqT K H a xs → xs[i]? = some x, fun i H => ∃ xs, SqT K H a xs ∧ xs.length ≤ i⟩
noncomputable def Itr (lo : Int) (n : Nat) : It := ⟨fun i _ => i < n, fun i H x H' => H' = H ∧ x = .int (lo + i), fun i _ => n ≤ i⟩
theorem W6 {P : Program} {w : World} {K : PySem.W.Frag} {tg : Expr} (a it : Addr) : Turn P w K tg (Itl K a) [it] it (fun i h => h.IsListIter it a i) where
  mem := by simp
  obj := fun i h st b hb => by
    have e : b = it := by simpa using hb
    subst e
    obtain ⟨o, e, c, d⟩ := st
    exact ⟨o, e, fun v z => by rw [d] at z; cases z⟩
  keep := fun i h h' st k => st.at fun o e => k it (by simp) o e
  item := by
    intro X hP hw hK hc i pins s σ H E I hf st hg
    subst hP hw hK
    obtain ⟨xs, x, hq, hx⟩ := hg
    obtain ⟨its, rv, p, hz⟩ := I.list hq
    obtain ⟨u, hu, ru⟩ := rv.get hx
    obtain ⟨f0, f1, f2, f3, f4, f5⟩ := hf it (by simp)
    refine wpAny_pyNext_list_item st p.isList (x := u) (by simpa using hu) fun h' st' sb => ?_
    have I1 : Inv X pins σ H { s with heap := h' } := I.turned (t' := s.toks) (fun b o hb e => (sb.2 b hb).trans e) f0 f1 f3 f4 f5
    obtain ⟨o, e, c, d⟩ := id st'
    exact ⟨u, rfl, ZM (s := { s with heap := h' }) e c d (by decide) ⟨x, H, I1, ru, ⟨rfl, fun ys hy => by rw [I.list_inj hy hq]; exact hx⟩, st', fun b hb => (hf b hb).1⟩⟩
  done := by
    intro X hP hw hK hc i pins s σ H E I hf st hg
    subst hP hw hK
    obtain ⟨xs, hq, hx⟩ := hg
    obtain ⟨its, rv, p, hz⟩ := I.list hq
    obtain ⟨f0, f1, f2, f3, f4, f5⟩ := hf it (by simp)
    have hl := rv.length
    exact wpAny_pyNext_list_end (I.ok.hd hc) st p.isList (by simp; omega) fun h' eb => ⟨rfl, I.turned (t' := s.toks) (fun b o hb e => eb b o hb e) f0 f1 f3 f4 f5⟩
  self := fun _ _ _ _ _ st h => wpAny_pyIter_listiter st h
theorem Sx {P : Program} {w : World} {K : PySem.W.Frag} {tg : Expr} (a it : Addr) : Turn P w K tg (Itt K a) [it] it (fun i h => h.IsTupleIter it a i) where
  mem := by simp
  obj := fun i h st b hb => by
    have e : b = it := by simpa using hb
    subst e
    obtain ⟨o, e, c, d⟩ := st
    exact ⟨o, e, fun v z => by rw [d] at z; cases z⟩
  keep := fun i h h' st k => st.at fun o e => k it (by simp) o e
  item := by
    intro X hP hw hK hc i pins s σ H E I hf st hg
    subst hP hw hK
    obtain ⟨xs, x, hq, hx⟩ := hg
    obtain ⟨its, rv, p, hz⟩ := I.tuple hq
    obtain ⟨u, hu, ru⟩ := rv.get hx
    obtain ⟨f0, f1, f2, f3, f4, f5⟩ := hf it (by simp)
    refine wpAny_pyNext_tuple_item st (show s.heap.IsTuple a its.toArray from p) (x := u) (by simpa using hu) fun h' st' sb => ?_
    have I1 : Inv X pins σ H { s with heap := h' } := I.turned (t' := s.toks) (fun b o hb e => (sb.2 b hb).trans e) f0 f1 f3 f4 f5
    obtain ⟨o, e, c, d⟩ := id st'
    exact ⟨u, rfl, ZM (s := { s with heap := h' }) e c d (by decide) ⟨x, H, I1, ru, ⟨rfl, fun ys hy => by rw [I.tuple_inj hy hq]; exact hx⟩, st', fun b hb => (hf b hb).1⟩⟩
  done := by
    intro X hP hw hK hc i pins s σ H E I hf st hg
    subst hP hw hK
    obtain ⟨xs, hq, hx⟩ := hg
    obtain ⟨its, rv, p, hz⟩ := I.tuple hq
    obtain ⟨f0, f1, f2, f3, f4, f5⟩ := hf it (by simp)
    have hl := rv.length
    exact wpAny_pyNext_tuple_end (I.ok.hd hc) st (show s.heap.IsTuple a its.toArray from p) (by simp; omega) fun h' eb => ⟨rfl, I.turned (t' := s.toks) (fun b o hb e => eb b o hb e) f0 f1 f3 f4 f5⟩
  self := fun _ _ _ _ _ st h => wpAny_pyIter_tupleiter st h
theorem Ss {P : Program} {w : World} {K : PySem.W.Frag} {tg : Expr} (it : Addr) (lo : Int) (n : Nat) : Turn P w K tg (Itr lo n) [it] it (fun i h => IsRangeIter h it (lo + (i : Nat) * 1) ((n : Int) - (i : Nat)) 1) where
  mem := by simp
  obj := fun i h st b hb => by
    have e : b = it := by simpa using hb
    subst e
    exact ⟨_, st, fun v z => by
      have z' : Data.fields _ = Data.cell v := z
      cases z'⟩
  keep := fun i h h' st k => k it (by simp) _ st
  item := by
    intro X hP hw hK hc i pins s σ H E I hf st hg
    subst hP hw hK
    obtain ⟨f0, f1, f2, f3, f4, f5⟩ := hf it (by simp)
    have W := Walks.range (prog := X.prog) (w := X.w) (I.ok.hd hc) it lo 1 n
    refine W.item i s _ _ hg st fun v h' tk hv st' kk => ?_
    obtain ⟨t, rfl⟩ := hv
    have I1 : Inv X pins σ H { s with heap := h', toks := tk } := I.turned (fun b o hb e => kk b o (by simpa using hb) e) f0 f1 f3 f4 f5
    refine ⟨_, rfl, ZM (s := { s with heap := h', toks := tk }) (n := "range_iterator") st' rfl rfl (by decide) ⟨.int (lo + i), H, I1, ⟨t, ?_⟩, ⟨rfl, rfl⟩, st', fun b hb => (hf b hb).1⟩⟩
    rw [Int.mul_one]
  done := by
    intro X hP hw hK hc i pins s σ H E I hf st hg
    subst hP hw hK
    obtain ⟨f0, f1, f2, f3, f4, f5⟩ := hf it (by simp)
    exact wpAny_pyNext_range_end (I.ok.hd hc) st (by have : n ≤ i := hg; omega) fun h' eb => ⟨rfl, I.turned (t' := s.toks) (fun b o hb e => eb b o hb e) f0 f1 f3 f4 f5⟩
  self := fun _ _ _ _ _ st h => wpAny_pyIter_rangeiter st h
end L2
namespace L2
open PySem PySem.Spec PyProof.Rows
section
variable {X : Cx} {tg : Expr}
noncomputable def Aht (K : PySem.W.Frag) (tl : TE) : TI := fun σ H R => tl σ H fun x H1 => ∃ a, x = .ref a ∧ (∃ xs, SqL K H1 a xs) ∧ R (Itl K a) H1
noncomputable def Akd (K : PySem.W.Frag) (tl : TE) : TI := fun σ H R => tl σ H fun x H1 => ∃ a, x = .ref a ∧ (∃ xs, SqT K H1 a xs) ∧ R (Itt K a) H1
theorem Abb {l : Expr} {tl : TE} (hl : PE X l tl) : PI X tg l (Aht X.K tl) := by
  intro pins s σ H R I h
  refine thn (hl pins s σ H _ I h) fun v s1 ⟨x, H1, I1, r1, q1⟩ => ?_
  obtain ⟨a, e, ⟨xs, hq⟩, q⟩ := q1
  subst e
  cases r1
  obtain ⟨its, rv, p, hz⟩ := I1.list hq
  refine wpAny_pyIter_list p.isList ?_
  refine ⟨s1.heap.objs.size, [s1.heap.objs.size], _, _, H1, rfl, I1.kept (t' := s1.toks) fun b o e => Heap.get?_push_of_some _ e, W6 a _, ⟨_, Heap.get?_push_size _ rfl, rfl, rfl⟩, fun b hb => ?_, q⟩
  have e : b = s1.heap.objs.size := by simpa using hb
  subst e
  exact I1.fpOk (Nat.le_refl _) (I1.hok.fresh (Nat.le_refl _))
theorem Af7 {l : Expr} {tl : TE} (hl : PE X l tl) : PI X tg l (Akd X.K tl) := by
  intro pins s σ H R I h
  refine thn (hl pins s σ H _ I h) fun v s1 ⟨x, H1, I1, r1, q1⟩ => ?_
  obtain ⟨a, e, ⟨xs, hq⟩, q⟩ := q1
  subst e
  cases r1
  obtain ⟨its, rv, p, hz⟩ := I1.tuple hq
  refine wpAny_pyIter_tuple (show s1.heap.IsTuple a its.toArray from p) ?_
  refine ⟨s1.heap.objs.size, [s1.heap.objs.size], _, _, H1, rfl, I1.kept (t' := s1.toks) fun b o e => Heap.get?_push_of_some _ e, Sx a _, ⟨_, Heap.get?_push_size _ rfl, rfl, rfl⟩, fun b hb => ?_, q⟩
  have e : b = s1.heap.objs.size := by simpa using hb
  subst e
  exact I1.fpOk (Nat.le_refl _) (I1.hok.fresh (Nat.le_refl _))
theorem Ye {pins : List (Addr × Obj)} {σ : St} {H : Hp} {s : Shared} {R : It → Hp → Prop} {E : Value → Shared → Prop} {lo hi : Int} {t u v : Tok} {tk : Nat} (I : Inv X pins σ H s) (h1 : -(2 ^ 62) ≤ lo) (h2 : lo < 2 ^ 62) (h3 : -(2 ^ 62) ≤ hi) (h4 : hi < 2 ^ 62)
    (q : R (Itr lo (hi - lo).toNat) H) : wpAny (model X.prog X.w) X.A (pyIter (.ref s.heap.objs.size)) (PIE X pins σ tg R) E { s with heap := s.heap.push { cls := .type "range", data := .fields #[.int lo t, .int hi u, .int 1 v] }, toks := tk } := by
  refine wpAny_pyIter_range (IsRange.new ..) (small_one h1 h2 h3 h4) ?_
  have I1 : Inv X pins σ H { s with heap := s.heap.push { cls := .type "range", data := .fields #[.int lo t, .int hi u, .int 1 v] }, toks := tk } := I.kept fun b o e => Heap.get?_push_of_some _ e
  refine ⟨(s.heap.push { cls := .type "range", data := .fields #[.int lo t, .int hi u, .int 1 v] }).objs.size, [(s.heap.push { cls := .type "range", data := .fields #[.int lo t, .int hi u, .int 1 v] }).objs.size], _, _, H, rfl,
    I1.kept (t' := tk) fun b o e => Heap.get?_push_of_some _ e, Ss _ lo (hi - lo).toNat, ?_, fun b hb => ?_, q⟩
  · have e1 : lo + ((0 : Nat) : Int) * 1 = lo := by simp
    have e2 : (((hi - lo).toNat : Nat) : Int) - ((0 : Nat) : Int) = Builtin.Range.rangeSize lo hi 1 := by rw [rangeSize_one]; split <;> omega
    show IsRangeIter _ _ (lo + ((0 : Nat) : Int) * 1) ((((hi - lo).toNat : Nat) : Int) - ((0 : Nat) : Int)) 1
    rw [e1, e2]
    exact Heap.get?_push_size _ rfl
  · have e : b = (s.heap.push { cls := .type "range", data := .fields #[.int lo t, .int hi u, .int 1 v] }).objs.size := by simpa using hb
    subst e
    exact I1.fpOk (Nat.le_refl _) (I1.hok.fresh (Nat.le_refl _))
noncomputable def AgP (ta : TA) : TI := fun σ H R => ta σ H fun vs H1 => ∃ j : Int, vs = [.int j] ∧ -(2 ^ 62) ≤ j ∧ j < 2 ^ 62 ∧ R (Itr 0 j.toNat) H1
theorem W0 {a : Expr} {ta : TA} {p pos : Pos} (hg : Gl X "range") (hm : X.mg "range" = none) (ha : PA X [a] ta) (hs : starEach [a] X.env = [(false, eval a X.env)] := by rfl) : PI X tg (.Call (.Name "range" p) [a] [] pos) (AgP ta) := by
  intro pins s σ H R I h
  refine Call_ (R0 I hg hm boot_range (PyProof.Rows.callWith_type1 (thn (ha pos pins s σ H _ I h) fun us s1 ⟨vs, H1, I1, r1, q1⟩ => ?_) hs rfl))
  obtain ⟨j, e, q1, q2, q⟩ := q1
  subst e
  cases r1 with
  | cons r rr =>
    cases rr
    obtain ⟨t, rfl⟩ := r
    exact call_range_1 (Ye I1 (by omega) (by omega) q1 q2 (by simpa using q))
noncomputable def AjO (wi : TI) (g : TG) (tb : TS) : TS := fun D σ H => wi σ H fun J H1 => ∃ W : Nat → Nat → St → Hp → Prop, (∃ m, W 0 m σ H1) ∧ ∀ i m σ H, W i m σ H →
  (J.stop i H ∧ D.nx σ H) ∨ (J.go i H ∧ ∃ N : St → Hp → Prop, (∀ σ' H', N σ' H' → ∃ m', m' < m ∧ W (i + 1) m' σ' H') ∧ ∀ x H', J.yld i H x H' → g x σ H' fun σ2 H2 => tb { D with nx := N, ct := N, bk := D.nx } σ2 H2)
noncomputable def M9 (fp : List Addr) (h : Heap) : List (Addr × Obj) := fp.filterMap fun b => (h.get? b).map fun o => (b, o)
theorem GK {fp : List Addr} {h : Heap} {b : Addr} {o : Obj} (hb : b ∈ fp) (e : h.get? b = some o) : (b, o) ∈ M9 fp h := List.mem_filterMap.mpr ⟨b, hb, by rw [e]; rfl⟩
theorem W8 {fp : List Addr} {h : Heap} {p : Addr × Obj} (hp : p ∈ M9 fp h) : p.1 ∈ fp ∧ h.get? p.1 = some p.2 := by
  obtain ⟨b, hb, e⟩ := List.mem_filterMap.mp hp
  cases q : h.get? b with
  | none => rw [q] at e; cases e
  | some o =>
    rw [q] at e
    have e' : (b, o) = p := Option.some.inj e
    subst e'
    exact ⟨hb, q⟩
theorem Inv.pinned {pins : List (Addr × Obj)} {σ : St} {H : Hp} {s : Shared} {fp : List Addr} (I : Inv X pins σ H s) (hf : ∀ b ∈ fp, PX X pins H b) (ho : ∀ b ∈ fp, ∃ o, s.heap.get? b = some o ∧ ∀ v, o.data ≠ .cell v) : Inv X (pins ++ M9 fp s.heap) σ H s :=
  I.pins_of fun p hp => (List.mem_append.mp hp).elim (fun z => I.pin p (List.mem_append_right _ z)) fun z => by
    obtain ⟨hb, e⟩ := W8 z
    obtain ⟨f0, f1, f2, _⟩ := hf p.1 hb
    obtain ⟨o, e', d⟩ := ho p.1 hb
    rw [e] at e'; cases e'
    exact ⟨e, f0, f1, f2, d⟩
theorem Inv.unpinned {pins pl : List (Addr × Obj)} {σ : St} {H : Hp} {s : Shared} (I : Inv X (pins ++ pl) σ H s) : Inv X pins σ H s := I.pins_of fun p hp => I.pin p (List.mem_append_right _ (List.mem_append_left _ hp))
theorem AfI {iter : Expr} {body : List Stmt} {wi : TI} {g : TG} {tb : TS} {pos : Pos} (hp : PassesOwn (model X.prog X.w) X.A X.env X.xe) (hc : X.calm = true) (hi : PI X tg iter wi) (hg : PG X tg g) (hb : PSs X body tb)
    (hs : ∀ x, foldedSetIterable iter X.env x = pure x := by intro _; rfl) : PS X (.For tg iter body [] pos) (AjO wi g tb) := by
  intro pins s σ H D I h
  refine wpAny_For (thn (hi pins s σ H _ I h) fun v s1 h1 => thn h1 fun itv s2 h2 => ?_) hs
  obtain ⟨it, fp, tn, J, H2, e, I2, T, st2, f2, W, ⟨m0, w0⟩, turn⟩ := h2
  subst e
  have stat : ∀ {H' : Hp}, (∀ b ∈ fp, H' b = none) → ∀ b ∈ fp, PX X pins H' b := fun hn b hb => ⟨hn b hb, (f2 b hb).2⟩
  refine codeAny_forLoop_any (fun n s' => ∃ i σ' H', Inv X pins σ' H' s' ∧ tn i s'.heap ∧ (∀ b ∈ fp, H' b = none) ∧ W i n σ' H') ?_ m0 ⟨0, σ, H2, I2, st2, fun b hb => (f2 b hb).1, w0⟩
  rintro n s3 ⟨i, σ3, H3, I3, st3, fr3, w3⟩
  rcases turn i n σ3 H3 w3 with ⟨stop, qn⟩ | ⟨go, N, hN, step⟩
  · refine wpAny_passesOwn hp (thn (T.done X rfl rfl rfl hc i pins s3 σ3 H3 X.xe I3 (stat fr3) st3 stop) fun r s4 ⟨hr, I4⟩ => ?_)
    subst hr
    exact wpAny_execs_nil ⟨σ3, H3, I4, qn⟩
  · refine wpAny_passesOwn hp (thn (T.item X rfl rfl rfl hc i pins s3 σ3 H3 X.xe I3 (stat fr3) st3 go) fun r s4 ⟨u, hr, h4⟩ => ?_)
    subst hr
    refine wpAny_passesOwn hp (thn h4 fun _ s5 ⟨x, H5, I5, r5, y5, st5, fr5⟩ => ?_)
    have I5' := I5.pinned (stat fr5) (T.obj _ _ st5)
    refine wpAny_passesOwn hp (thn (hg _ s5 σ3 H5 x u _ I5' r5 (step x H5 y5)) fun _ s6 ⟨σ6, H6, I6, q6⟩ => ?_)
    refine wpAny_passesOwn hp (thn (hb _ s6 σ6 H6 _ I6 q6) fun f s7 q7 => ?_)
    have again : ∀ {σ7 : St} {H7 : Hp}, Inv X (pins ++ M9 fp s5.heap) σ7 H7 s7 → N σ7 H7 → ∃ m, m < n ∧ ∃ i σ' H', Inv X pins σ' H' s7 ∧ tn i s7.heap ∧ (∀ b ∈ fp, H' b = none) ∧ W i m σ' H' := fun {σ7 H7} I7 n7 => by
      obtain ⟨m', hm, w7⟩ := hN σ7 H7 n7
      refine ⟨m', hm, i + 1, σ7, H7, I7.unpinned, T.keep _ _ _ st5 fun b hb o e => (I7.pin (b, o) (List.mem_append_right _ (List.mem_append_right _ (GK hb e)))).1, fun b hb => ?_, w7⟩
      obtain ⟨o, e, d⟩ := T.obj _ _ st5 b hb
      exact (I7.pin (b, o) (List.mem_append_right _ (List.mem_append_right _ (GK hb e)))).2.1
    cases f with
    | next => obtain ⟨σ7, H7, I7, n7⟩ := q7; exact again I7 n7
    | cont => obtain ⟨σ7, H7, I7, n7⟩ := q7; exact again I7 n7
    | brk => obtain ⟨σ7, H7, I7, q7⟩ := q7; exact ⟨σ7, H7, I7.unpinned, q7⟩
    | ret v => obtain ⟨x7, σ7, H7, I7, r7, q7⟩ := q7; exact ⟨x7, σ7, H7, I7.unpinned, r7, q7⟩
end
end L2
namespace L2
open PySem PySem.Spec PyProof.Rows
noncomputable abbrev R2 := V → V → Hp → VK → Prop
noncomputable def OpR (X : Cx) (f : Value → Value → Sem Value) (r : R2) : Prop :=
  ∀ (pins : List (Addr × Obj)) (s : Shared) (σ : St) (H : Hp) (x y : V) (v u : Value) (Q : VK), Inv X pins σ H s → RelV x v → RelV y u → r x y H Q →
    wpAny (model X.prog X.w) X.A (f v u) (EP X pins σ Q) X.xe s
noncomputable def UnR (X : Cx) (f : Value → Sem Value) (r : V → Hp → VK → Prop) : Prop :=
  ∀ (pins : List (Addr × Obj)) (s : Shared) (σ : St) (H : Hp) (x : V) (v : Value) (Q : VK), Inv X pins σ H s → RelV x v → r x H Q →
    wpAny (model X.prog X.w) X.A (f v) (EP X pins σ Q) X.xe s
noncomputable def Ig (X : Cx) (f : Value) (r : List V → Hp → VK → Prop) : Prop :=
  ∀ (pins : List (Addr × Obj)) (s : Shared) (σ : St) (H : Hp) (xs : List V) (us : List Value) (Q : VK), Inv X pins σ H s → Vals xs us → r xs H Q →
    wpAny (model X.prog X.w) X.A (call f us) (EP X pins σ Q) X.xe s
noncomputable def tOp (r : R2) (ta tb : TE) : TE := fun σ H Q => ta σ H fun x H1 => tb σ H1 fun y H2 => r x y H2 Q
noncomputable def tUn (r : V → Hp → VK → Prop) (ta : TE) : TE := fun σ H Q => ta σ H fun x H1 => r x H1 Q
noncomputable def rI (C : Int → Int → Prop) (g : Int → Int → V) : R2 := fun x y H Q => ∃ i j, x = .int i ∧ y = .int j ∧ C i j ∧ Q (g i j) H
noncomputable def rI0 (g : Int → Int → V) : R2 := fun x y H Q => ∃ i j, x = .int i ∧ y = .int j ∧ Q (g i j) H
noncomputable def rU (g : Int → V) : V → Hp → VK → Prop := fun x H Q => ∃ i, x = .int i ∧ Q (g i) H
section
variable {X : Cx} {a b c : Expr} {ta tb tc : TE} {pos : Pos}
theorem Ae2 (ha : PE X a ta) (hb : PE X b tb) {pins : List (Addr × Obj)} {s : Shared} {σ : St} {H : Hp} {R : V → V → Hp → Prop} (I : Inv X pins σ H s)
    (h : ta σ H fun x H1 => tb σ H1 fun y H2 => R x y H2) {Q : Value → Shared → Prop} {f : Value → Value → Sem Value}
    (hf : ∀ v u s2 x y H2, Inv X pins σ H2 s2 → RelV x v → RelV y u → R x y H2 → wpAny (model X.prog X.w) X.A (f v u) Q X.xe s2) :
    wpAny (model X.prog X.w) X.A (eval a X.env) (fun v s₁ => wpAny (model X.prog X.w) X.A (eval b X.env) (fun u s₂ => wpAny (model X.prog X.w) X.A (f v u) Q X.xe s₂) X.xe s₁) X.xe s := by
  refine thn (ha pins s σ H _ I h) fun v s1 ⟨x, H1, I1, r1, q1⟩ => ?_
  refine thn (hb pins s1 σ H1 _ I1 q1) fun u s2 ⟨y, H2, I2, r2, q2⟩ => ?_
  exact hf v u s2 x y H2 I2 r1 r2 q2
theorem AiZ {op : Operator} {r : R2} (ho : OpR X (binaryOp op) r) (ha : PE X a ta) (hb : PE X b tb) : PE X (.BinOp a op b pos) (tOp r ta tb) := by
  intro pins s σ H Q I h
  exact wpAny_BinOp (Ae2 ha hb I h fun v u s2 x y H2 I2 rx ry q => ho pins s2 σ H2 x y v u Q I2 rx ry q)
theorem Ajk {op : UnaryOp} {r : V → Hp → VK → Prop} (ho : UnR X (unaryOp op) r) (ha : PE X a ta) : PE X (.UnaryOp op a pos) (tUn r ta) := by
  intro pins s σ H Q I h
  exact UnaryOp_ (thn (ha pins s σ H _ I h) fun v s1 ⟨x, H1, I1, r1, q1⟩ => ho pins s1 σ H1 x v Q I1 r1 q1)
theorem opI {f : Value → Value → Sem Value} {C : Int → Int → Prop} {g : Int → Int → Int}
    (rule : ∀ (i j : Int) (t u : Tok) (s : Shared) (Q : Value → Shared → Prop) (E : Value → Shared → Prop), C i j → Q (.int (g i j) s.toks) { s with toks := s.toks + 1 } → wpAny (model X.prog X.w) X.A (f (.int i t) (.int j u)) Q E s) :
    OpR X f (rI C fun i j => .int (g i j)) := by
  intro pins s σ H x y v u Q I rx ry h
  obtain ⟨i, j, rfl, rfl, hc, q⟩ := h
  obtain ⟨t, rfl⟩ := rx
  obtain ⟨t', rfl⟩ := ry
  exact rule i j t t' s _ _ hc ⟨.int (g i j), H, I.tok _, ⟨_, rfl⟩, q⟩
theorem AiL {f : Value → Value → Sem Value} {g : Int → Int → Int}
    (rule : ∀ (i j : Int) (t u : Tok) (s : Shared) (Q : Value → Shared → Prop) (E : Value → Shared → Prop), Q (.int (g i j) s.toks) { s with toks := s.toks + 1 } → wpAny (model X.prog X.w) X.A (f (.int i t) (.int j u)) Q E s) :
    OpR X f (rI0 fun i j => .int (g i j)) := by
  intro pins s σ H x y v u Q I rx ry h
  obtain ⟨i, j, rfl, rfl, q⟩ := h
  obtain ⟨t, rfl⟩ := rx
  obtain ⟨t', rfl⟩ := ry
  exact rule i j t t' s _ _ ⟨.int (g i j), H, I.tok _, ⟨_, rfl⟩, q⟩
theorem Abt {f : Value → Value → Sem Value} {g : Int → Int → Bool}
    (rule : ∀ (i j : Int) (t u : Tok) (s : Shared) (Q : Value → Shared → Prop) (E : Value → Shared → Prop), Q (.bool (g i j)) s → wpAny (model X.prog X.w) X.A (f (.int i t) (.int j u)) Q E s) :
    OpR X f (rI0 fun i j => .bl (g i j)) := by
  intro pins s σ H x y v u Q I rx ry h
  obtain ⟨i, j, rfl, rfl, q⟩ := h
  obtain ⟨t, rfl⟩ := rx
  obtain ⟨t', rfl⟩ := ry
  exact rule i j t t' s _ _ ⟨.bl (g i j), H, I, rfl, q⟩
noncomputable def Rk (i j : Int) : Prop := 0 ≤ j ∧ j ≤ 1000000 ∧ i.natAbs < 2 ^ 64
theorem AeO : OpR X (binaryOp .Add) (rI0 fun i j => .int (i + j)) := AiL fun _ _ _ _ _ _ _ q => add_int q
theorem Aes : OpR X (binaryOp .Sub) (rI0 fun i j => .int (i - j)) := AiL fun _ _ _ _ _ _ _ q => sub_int q
theorem AcF : OpR X (binaryOp .Mod) (rI (fun _ j => j ≠ 0) fun i j => .int (i.fmod j)) := opI fun _ _ _ _ _ _ _ hc q => mod_int' hc q
theorem Aey : OpR X (binaryOp .Pow) (rI Rk fun i j => .int (i ^ j.toNat)) := opI fun _ _ _ _ _ _ _ hc q => pow_int_small hc.1 hc.2.1 hc.2.2 q
theorem Aek : OpR X (binaryOp .LShift) (rI Rk fun i j => .int (i * 2 ^ j.toNat)) := opI fun _ _ _ _ _ _ _ hc q => lshift_int_small hc.1 hc.2.1 hc.2.2 q
theorem unI {f : Value → Sem Value} {g : Int → Int}
    (rule : ∀ (i : Int) (t : Tok) (s : Shared) (Q : Value → Shared → Prop) (E : Value → Shared → Prop), Q (.int (g i) s.toks) { s with toks := s.toks + 1 } → wpAny (model X.prog X.w) X.A (f (.int i t)) Q E s) :
    UnR X f (rU fun i => .int (g i)) := by
  intro pins s σ H x v Q I rx h
  obtain ⟨i, rfl, q⟩ := h
  obtain ⟨t, rfl⟩ := rx
  exact rule i t s _ _ ⟨.int (g i), H, I.tok _, ⟨_, rfl⟩, q⟩
theorem Ad3 : UnR X (unaryOp .USub) (rU fun i => .int (-i)) := unI fun _ _ _ _ _ q => neg_int q
end
section
variable {X : Cx} {a b c : Expr} {ta tb tc : TE} {pos : Pos}
theorem GP {pins : List (Addr × Obj)} {σ : St} {H : Hp} {s : Shared} {Q : VK} {k k' : Bool} (I : Inv X pins σ H s) (q : Q (.bl k) H) (e : k = k') : EP X pins σ Q (.bool k') s := by
  subst e
  exact ⟨.bl k, H, I, rfl, q⟩
theorem XH : OpR X (compareOp .Lt) (rI0 fun i j => .bl (decide (i < j))) := Abt fun _ _ _ _ _ _ _ q => lt_int q
theorem Qy : OpR X (compareOp .LtE) (rI0 fun i j => .bl (decide (i ≤ j))) := Abt fun _ _ _ _ _ _ _ q => le_int q
theorem Aiq : OpR X (compareOp .Gt) (rI0 fun i j => .bl (decide (j < i))) := Abt fun _ _ _ _ _ _ _ q => gt_int q
theorem AhO : OpR X (compareOp .GtE) (rI0 fun i j => .bl (decide (j ≤ i))) := Abt fun _ _ _ _ _ _ _ q => ge_int q
theorem YS : OpR X (compareOp .Is) (fun x y H Q => y = .non ∧ Q (.bl (decide (x = .non))) H) := by
  intro pins s σ H x y v u Q I rx ry h
  obtain ⟨rfl, q⟩ := h
  cases ry
  refine is_none_gen (GP I q ?_)
  cases x <;> first
    | (cases rx; rfl)
    | (obtain ⟨t, rfl⟩ := rx; rfl)
theorem OpR.or {f : Value → Value → Sem Value} {r r' : R2} (h : OpR X f r) (h' : OpR X f r') : OpR X f (fun x y H Q => r x y H Q ∨ r' x y H Q) := by
  intro pins s σ H x y v u Q I rx ry q
  rcases q with q | q
  · exact h pins s σ H x y v u Q I rx ry q
  · exact h' pins s σ H x y v u Q I rx ry q
theorem Gd (b : Expr) {op : CmpOp} (h : op ≠ .In := by decide) (h2 : op ≠ .NotIn := by decide) : behindInMarks op b = false := by
  have e1 : (op == CmpOp.In) = false := by cases op <;> first | rfl | exact absurd rfl h
  have e2 : (op == CmpOp.NotIn) = false := by cases op <;> first | rfl | exact absurd rfl h2
  cases b <;> simp [behindInMarks, e1, e2]
theorem Wo {op : CmpOp} {r : R2} (ho : OpR X (compareOp op) r) (ha : PE X a ta) (hb : PE X b tb) (hm : behindInMarks op b = false) : PE X (.Compare a [op] [b] pos) (tOp r ta tb) := by
  intro pins s σ H Q I h
  exact wpAny_Compare1 (Ae2 ha hb I h fun v u s2 x y H2 I2 rx ry q => ho pins s2 σ H2 x y v u Q I2 rx ry q) hm
noncomputable def Ahy (t : TE) : TT := fun σ H Q => t σ H fun x H' => ∃ k, x = .bl k ∧ Q k H'
theorem AbQ {op : CmpOp} {r : R2} (ho : OpR X (compareOp op) r) (ha : PE X a ta) (hb : PE X b tb) (hm : behindInMarks op b = false) : PT X (.Compare a [op] [b] pos) (Ahy (tOp r ta tb)) := by
  intro pins s σ H Q I h
  refine wpAny_isTrue_Compare1 (thn (ha pins s σ H _ I h) fun v s1 ⟨x, H1, I1, r1, q1⟩ => thn (hb pins s1 σ H1 _ I1 q1) fun u s2 ⟨y, H2, I2, r2, q2⟩ =>
    thn (ho pins s2 σ H2 x y v u _ I2 r1 r2 q2) fun c s3 ⟨z, H3, I3, r3, k, e, q3⟩ => ?_) hm
  subst e
  cases r3
  exact wpAny_truthy_bool ⟨H3, I3, q3⟩
noncomputable def Aal (r r' : R2) (ta tb tc : TE) : TE := fun σ H Q => ta σ H fun x H1 => tb σ H1 fun y H2 => r x y H2 fun z H3 => ∃ k, z = .bl k ∧
  (if k = true then tc σ H3 fun w' H4 => r' y w' H4 Q else Q (.bl false) H3)
theorem Aac {op op' : CmpOp} {r r' : R2} (ho : OpR X (compareOp op) r) (ho' : OpR X (compareOp op') r') (ha : PE X a ta) (hb : PE X b tb) (hc : PE X c tc)
    (hm : lastMarks [op, op'] [b, c] = false := by with_unfolding_all rfl) : PE X (.Compare a [op, op'] [b, c] pos) (Aal r r' ta tb tc) := by
  intro pins s σ H Q I h
  refine Compare_chain (thn (ha pins s σ H _ I h) fun v s1 ⟨x, H1, I1, r1, q1⟩ => chain_link (thn (hb pins s1 σ H1 _ I1 q1) fun u s2 ⟨y, H2, I2, r2, q2⟩ =>
    thn (ho pins s2 σ H2 x y v u _ I2 r1 r2 q2) fun d s3 ⟨z, H3, I3, r3, k, e, q3⟩ => ?_)) hm
  subst e
  cases r3
  refine wpAny_truthy_bool ?_
  cases k with
  | false => exact ite_ff ⟨.bl false, H3, I3, rfl, q3⟩
  | true => exact ite_tt (chain_last (thn (hc pins s3 σ H3 _ I3 q3) fun w' s4 ⟨z', H4, I4, r4, q4⟩ => ho' pins s4 σ H4 y z' u w' Q I4 r2 r4 q4))
theorem Pk : (sizeLine : Nat) < 2 ^ 63 := by rw [sizeLine_eq]; decide
theorem vals1 {x : V} {us : List Value} (r : Vals [x] us) : ∃ u, us = [u] ∧ RelV x u := by
  cases r with
  | cons r1 r2 => cases r2; exact ⟨_, rfl, r1⟩
theorem vals2 {x y : V} {us : List Value} (r : Vals [x, y] us) : ∃ u w', us = [u, w'] ∧ RelV x u ∧ RelV y w' := by
  cases r with
  | cons r1 r2 =>
    cases r2 with
    | cons r3 r4 => cases r4; exact ⟨_, _, rfl, r1, r3⟩
theorem Zb : Ig X (.builtin "abs") (fun xs H Q => ∃ i, xs = [.int i] ∧ Q (.int (if i < 0 then -i else i)) H) := by
  intro pins s σ H xs us Q I r h
  obtain ⟨i, rfl, q⟩ := h
  obtain ⟨u, rfl, t, rfl⟩ := vals1 r
  exact call_abs_int fun u tk => ⟨.int (if i < 0 then -i else i), H, I.tok _, ⟨_, rfl⟩, q⟩
theorem WY (hc : X.calm = true) : Ig X (.builtin "max") (fun xs H Q => ∃ i j, xs = [.int i, .int j] ∧ Q (.int (if j > i then j else i)) H) := by
  intro pins s σ H xs us Q I r h
  obtain ⟨i, j, rfl, q⟩ := h
  obtain ⟨u, w', rfl, ⟨t, rfl⟩, ⟨t', rfl⟩⟩ := vals2 r
  refine max_two_ints (I.ok.hd hc) fun h' tk k => ⟨_, H, I.kept k, ?_, q⟩
  by_cases hj : j > i
  · rw [if_pos hj, if_pos hj]; exact ⟨_, rfl⟩
  · rw [if_neg hj, if_neg hj]; exact ⟨_, rfl⟩
end
end L2
namespace L2
open PySem PySem.Spec PyProof.Rows
structure Tj (h : Heap) (x dx C : Addr) (mA : Str → Option Value) : Prop where
  obj : h.get? x = some (PySem.W.instObj C dx)
  ns : h.Ns1 dx mA
  ne : dx ≠ x
theorem NQ {h : Heap} {dx : Addr} {mA : Str → Option Value} (n : h.Ns1 dx mA) : ∃ od, h.get? dx = some od ∧ ∀ name, PySem.W.lookIn name od = some (mA name) := by
  obtain ⟨o, es, ep, ho, hd, hk, _, hm⟩ := n
  refine ⟨o, ho, fun name => ?_⟩
  have e := hm name
  unfold nsFind findBy at e
  rw [← Array.find?_toList] at e
  unfold PySem.W.lookIn
  rw [hd]
  dsimp only
  split
  · rename_i y q
    rw [q] at e
    exact congrArg some e
  · rename_i q
    rw [q] at e
    have a : es.toList.any (·.refKey) = false := by
      rw [List.any_eq_false]
      intro y hy
      obtain ⟨z, t, hkey⟩ := hk y (Array.mem_toList_iff.mp hy)
      simp [DictEntry.refKey, hkey]
    have a' : ¬ es.toList.any (·.refKey) = true := by rw [a]; exact Bool.false_ne_true
    rw [if_neg a']
    exact congrArg some e
theorem Tj.look {h : Heap} {x dx C : Addr} {mA : Str → Option Value} (I : Tj h x dx C mA) : ∃ od, PySem.W.InstAt h x (PySem.W.instObj C dx) C (some od) ∧ ∀ name, PySem.W.lookIn name od = some (mA name) :=
  let ⟨od, ho, hl⟩ := NQ I.ns
  ⟨od, ⟨I.obj, rfl, rfl, ho⟩, hl⟩
section
variable {prog : Program} {w : World} {A : Around} {E : Value → Shared → Prop} {s : Shared} {K : PySem.W.Frag} {x dx C f : Addr} {mA : Str → Option Value} {name : Str} {v : Value}
theorem get_map {expr : Bool} {Q : Value → Shared → Prop} (X : K.In s.heap) (I : Tj s.heap x dx C mA) (hg : PySem.W.plainGet K C name = true) (hh : PySem.W.hasDictIn K C = true)
    (ha : PySem.W.findIn K (.ref C) name = some none) (hv : mA name = some v) (hv' : PySem.W.handedIn v = true) (h : Q v { s with toks := s.toks + 1 }) :
    wpAny (model prog w) A (getAttr (.ref x) name expr) Q E s := by
  obtain ⟨od, J, hl⟩ := I.look
  exact PySem.W.get_value X J (PySem.W.plainGet_of hg).1 (PySem.W.findObj_own hh ha rfl (by rw [hl, hv])) hv' h
theorem AaI {pl : Sem Bool} {Q : Value × List Value → Shared → Prop} (X : K.In s.heap) (I : Tj s.heap x dx C mA) (hg : PySem.W.plainGet K C name = true)
    (hf : PySem.W.findIn K (.ref C) name = some (some (.ref f))) (ht : PySem.W.isFn K (.ref f) = true) (hv : mA name = none) (h : Q (.ref f, [.ref x]) s) :
    wpAny (model prog w) A (getMethod (.ref x) name pl) Q E s := by
  obtain ⟨od, J, hl⟩ := I.look
  exact PySem.W.method_fn X J (PySem.W.plainGet_of hg).1 (PySem.W.plainGet_of hg).2 hf (beq_iff_eq.mp ht) (by show (PySem.W.lookIn name od).map (·.isSome) = some false; rw [hl, hv]; rfl) h
theorem AbT {ns : List Str} {Q : Unit → Shared → Prop} (X : K.In s.heap) (I : Tj s.heap x dx C mA)
    (hs : PySem.W.findIn K (.ref C) "__setattr__" = some (some (.builtin "object.__setattr__"))) (hp : PySem.W.plainOver K C = true) (ht : PySem.W.takerIn K C name = some none) (hh : PySem.W.hasDictIn K C = true)
    (hw : PySem.Within mA ns) (hsz : ns.length ≤ sizeLine)
    (h : ∀ h', Tj h' x dx C (fun y => if y = name then some v else mA y) → Heap.SameBut dx s.heap h' → Q () { s with heap := h', toks := s.toks + 2 }) :
    wpAny (model prog w) A (setAttr (.ref x) name v) Q E s := by
  obtain ⟨od, J, hl⟩ := I.look
  refine PySem.W.set_plain X J hs (PySem.W.osa_open (s := { s with toks := s.toks + 1 }) (r := none) X J hp ht fun b => ?_)
  obtain ⟨cd, hc, hd'⟩ := PySem.W.any_some hh
  have hx : s.heap.get? x = some ⟨.ref C, some dx, .plain, #[]⟩ := I.obj
  refine wpAny_bind (wpAny_pure (wpAny_bind (wpAny_bind (wpAny_loadPart hx (wpAny_bind (PySem.W.Looks.here (s := { s with toks := s.toks + 1 }) (PySem.W.looks_clsIn X hc) ?_))))))
  rw [hd']
  refine wpAny_pure (a := some dx) (wpAny_bind (wpAny_pure (wpAny_bind ?_)))
  refine wpAny_nsSet1 (s := { s with toks := s.toks + 1 }) I.ns fun h' hn2 hs2 => ?_
  obtain ⟨oD, esD, epD, hoD, hdD, hcD⟩ := hn2.count (PySem.Within.cons name v hw)
  refine wpAny_bind (wpAny_lookBehind hoD (by rw [hdD]; exact pastItsLine_dict (Nat.le_trans hcD (by rw [List.length_cons]; omega))) ?_)
  exact wpAny_pure (h _ ⟨(hs2.2 _ (Ne.symm I.ne)).trans I.obj, hn2, I.ne⟩ hs2)
theorem Yv {R : Result → Shared → Prop} {vs : List Value} {kw : List (Str × Value)} (X : K.In s.heap) (hm : PySem.W.makesIn K C = true)
    (hi : PySem.W.findIn K (.ref C) "__init__" = some (some (.ref f))) (hf : PySem.W.typeIn K (.ref f) = some (.type "function"))
    (h : codeAny (model prog w) (A.under (.builtin "type.__call__" ⟨.ref C :: vs, kw⟩)) (.call (.ref f) ⟨.ref (s.heap.objs.size + 1) :: vs, kw⟩) (PySem.W.InitBack (s.heap.objs.size + 1) R)
      { s with heap := (s.heap.push PySem.W.emptyDict).push (PySem.W.instObj C s.heap.objs.size) }) :
    codeAny (model prog w) A (.call (.ref C) ⟨vs, kw⟩) R s := by
  obtain ⟨hh, g, d, t, os⟩ := s
  exact PySem.W.make_core (PySem.W.makes_of X hm) (PySem.W.looks_findIn X hi) (fun self => PySem.W.bind_fn X self hf) (.inl rfl) h
end
noncomputable def Fz (f : Str) (v : V) : List (Str × V) → List (Str × V)
  | [] => [(f, v)]
  | (g, x) :: r => if g = f then (g, v) :: r else (g, x) :: Fz f v r
theorem Kg (f g : Str) (v : V) : ∀ fs : List (Str × V), (Fz f v fs).lookup g = if g = f then some v else fs.lookup g
  | [] => by
    show List.lookup g [(f, v)] = _
    by_cases h : g = f
    · have hb : (g == f) = true := beq_iff_eq.mpr h
      simp only [List.lookup, hb, if_pos h]
    · have hb : (g == f) = false := beq_eq_false_iff_ne.mpr h
      simp only [List.lookup, hb, if_neg h]
  | (k, x) :: r => by
    have ih := Kg f g v r
    rw [show Fz f v ((k, x) :: r) = (if k = f then (k, v) :: r else (k, x) :: Fz f v r) from rfl]
    by_cases hk : k = f
    · rw [if_pos hk]
      by_cases h : g = k
      · have hb : (g == k) = true := beq_iff_eq.mpr h
        simp only [List.lookup, hb, if_pos (h.trans hk)]
      · have hb : (g == k) = false := beq_eq_false_iff_ne.mpr h
        simp only [List.lookup, hb, if_neg (fun e : g = f => h (e.trans hk.symm))]
    · rw [if_neg hk]
      by_cases h : g = k
      · have hb : (g == k) = true := beq_iff_eq.mpr h
        simp only [List.lookup, hb, if_neg (fun e : g = f => hk (h.symm.trans e))]
      · have hb : (g == k) = false := beq_eq_false_iff_ne.mpr h
        simp only [List.lookup, hb]
        exact ih
theorem J0 (f : Str) (v : V) : ∀ fs : List (Str × V), f ∈ (Fz f v fs).map (·.1) ∧ ∀ g, g ∈ fs.map (·.1) → g ∈ (Fz f v fs).map (·.1)
  | [] => ⟨by simp [Fz], fun g h => by simp at h⟩
  | (k, x) :: r => by
    obtain ⟨i1, i2⟩ := J0 f v r
    rw [show Fz f v ((k, x) :: r) = (if k = f then (k, v) :: r else (k, x) :: Fz f v r) from rfl]
    by_cases hk : k = f
    · rw [if_pos hk]
      subst hk
      exact ⟨by simp, fun g h => by simpa using h⟩
    · rw [if_neg hk]
      refine ⟨?_, fun g h => ?_⟩
      · rw [List.map_cons]
        exact List.mem_cons_of_mem _ i1
      · rw [List.map_cons] at h ⊢
        rcases List.mem_cons.mp h with e | e
        · exact List.mem_cons.mpr (.inl e)
        · exact List.mem_cons_of_mem _ (i2 g e)
theorem Kp (f : Str) (v : V) : ∀ fs : List (Str × V), (Fz f v fs).length ≤ fs.length + 1
  | [] => by simp [Fz]
  | (k, x) :: r => by
    have ih := Kp f v r
    rw [show Fz f v ((k, x) :: r) = (if k = f then (k, v) :: r else (k, x) :: Fz f v r) from rfl]
    by_cases hk : k = f
    · rw [if_pos hk, List.length_cons, List.length_cons]; omega
    · rw [if_neg hk, List.length_cons, List.length_cons]; omega
theorem J5.some_of {v : V} {o : Option Value} (r : J5 (some v) o) : ∃ u, o = some u ∧ RelV v u := by
  cases o with
  | none => exact (show False from r).elim
  | some u => exact ⟨u, rfl, r⟩
theorem J5.none_of {o : Option Value} (r : J5 none o) : o = none := by
  cases o with
  | none => rfl
  | some u => exact (show False from r).elim
theorem NP {v : V} {u : Value} (r : RelV v u) : PySem.W.handedIn u = true := by
  cases v with
  | non => cases (show u = Value.none from r); rfl
  | bl b => cases (show u = Value.bool b from r); rfl
  | int i => obtain ⟨t, e⟩ := (show ∃ t, u = Value.int i t from r); cases e; rfl
  | str x => obtain ⟨t, e⟩ := (show ∃ t, u = Value.str x t from r); cases e; rfl
  | byt b => obtain ⟨t, e⟩ := (show ∃ t, u = Value.bytes b t from r); cases e; rfl
  | flt b => obtain ⟨t, e⟩ := (show ∃ t, u = Value.float b t from r); cases e; rfl
  | ref a => cases (show u = Value.ref a from r); rfl
  | ty n => cases (show u = Value.type n from r); rfl
section
variable {P : Program} {w : World} {H H' : Hp} {h h' : Heap} {a C dx : Addr} {fs fs' : List (Str × V)}
theorem PN (hok : HOk P w H h) (e : H a = some (.ins C dx fs)) : ∃ mA, Tj h a dx C mA ∧ (∀ f, J5 (fs.lookup f) (mA f)) ∧ PySem.Within mA (fs.map (·.1)) ∧ fs.length ≤ 1000 ∧ H dx = some (.own a) := by
  obtain ⟨d, z, ne, ob, mA, n, r, q⟩ := (show Ey P w H h a (.ins C dx fs) from hok a _ e)
  exact ⟨mA, ⟨ob, n, ne⟩, r, q, z, d⟩
end
structure Cls (K : PySem.W.Frag) (C : Addr) : Prop where
  pg : PySem.W.plainGet K C Str.empty = true
  hd : PySem.W.hasDictIn K C = true
  po : PySem.W.plainOver K C = true
  sa : PySem.W.findIn K (.ref C) "__setattr__" = some (some (.builtin "object.__setattr__"))
theorem Cls.get {K : PySem.W.Frag} {C : Addr} (c : Cls K C) (f : Str) : PySem.W.plainGet K C f = true := c.pg
noncomputable def Ga (K : PySem.W.Frag) (C : Addr) (f : Str) : Prop := PySem.W.findIn K (.ref C) f = some none
theorem Ga.taker {K : PySem.W.Frag} {C : Addr} {f : Str} (n : Ga K C f) : PySem.W.takerIn K C f = some none := by
  unfold PySem.W.takerIn
  rw [show PySem.W.findIn K (.ref C) f = some none from n]
  rfl
structure Meth (K : PySem.W.Frag) (C : Addr) (m : Str) (f : Addr) : Prop where
  at_ : PySem.W.findIn K (.ref C) m = some (some (.ref f))
  fn : PySem.W.isFn K (.ref f) = true
  kp : PySem.W.keepIn K (.ref f) = true
section
variable {X : Cx} {pins : List (Addr × Obj)} {σ : St} {H : Hp} {s : Shared} {a C dx : Addr} {fs : List (Str × V)} {f : Str} {v : V} {A : Around} {E : Value → Shared → Prop}
theorem Tg {b : Bool} {Q : Value → Shared → Prop} (I : Inv X pins σ H s) (e : H a = some (.ins C dx fs)) (c : Cls X.K C) (n : Ga X.K C f) (l : fs.lookup f = some v)
    (h : ∀ u s', Inv X pins σ H s' → RelV v u → Q u s') : wpAny (model X.prog X.w) A (getAttr (.ref a) f b) Q E s := by
  obtain ⟨mA, O, r, _, _, _⟩ := PN I.hok e
  obtain ⟨u, hu, ru⟩ := J5.some_of (v := v) (o := mA f) (by rw [← l]; exact r f)
  exact get_map I.kIn O (c.get f) c.hd n hu (NP ru) (h u _ (I.tok _) ru)
theorem IK {m : Str} {g : Addr} {pl : Sem Bool} {Q : Value × List Value → Shared → Prop} (I : Inv X pins σ H s) (e : H a = some (.ins C dx fs)) (c : Cls X.K C) (k : Meth X.K C m g) (l : fs.lookup m = none)
    (h : Q (.ref g, [.ref a]) s) : wpAny (model X.prog X.w) A (getMethod (.ref a) m pl) Q E s := by
  obtain ⟨mA, O, r, _, _, _⟩ := PN I.hok e
  have hn : mA m = none := J5.none_of (by rw [← l]; exact r m)
  exact AaI I.kIn O (c.get m) k.at_ k.fn hn h
theorem T8 {y : V} {u : Value} {Q : Unit → Shared → Prop} (I : Inv X pins σ H s) (e : H a = some (.ins C dx fs)) (c : Cls X.K C) (n : Ga X.K C f) (hl : fs.length < 1000) (ry : RelV y u)
    (h : ∀ s', Inv X pins σ (upd H a (.ins C dx (Fz f y fs))) s' → Q () s') : wpAny (model X.prog X.w) A (setAttr (.ref a) f u) Q E s := by
  obtain ⟨mA, O, r, wi, _, ho⟩ := PN I.hok e
  have hz : (fs.map (·.1)).length ≤ sizeLine := by rw [List.length_map, sizeLine_eq]; omega
  refine AbT I.kIn O c.sa c.po n.taker c.hd wi hz fun h' O' sb => h _ ?_
  have hd : ∃ o, h'.get? dx = some o := let ⟨o, _, _, e', _⟩ := O'.ns; ⟨o, e'⟩
  refine I.write (x := a) (e := dx) (by rw [e]; exact True.intro) (.inr ho) (fun b q hb z => (sb.2 b hb).trans z) hd ?_
  refine ⟨by rw [Av O.ne]; exact ho, ?_, O.ne, O'.obj, _, O'.ns, fun g => ?_, fun g hg => ?_⟩
  · have := Kp f y fs; omega
  · show J5 ((Fz f y fs).lookup g) (if g = f then some u else mA g)
    rw [Kg]
    by_cases q : g = f
    · rw [if_pos q, if_pos q]; exact ry
    · rw [if_neg q, if_neg q]; exact r g
  · by_cases q : g = f
    · rw [q]; exact (J0 f y fs).1
    · refine (J0 f y fs).2 g (wi g fun z => hg ?_)
      show (if g = f then some u else mA g) = none
      rw [if_neg q]; exact z
theorem Inv.made (I : Inv X pins σ H s) : Inv X pins σ (upd (upd H s.heap.objs.size (.own (s.heap.objs.size + 1))) (s.heap.objs.size + 1) (.ins C s.heap.objs.size []))
    { s with heap := (s.heap.push PySem.W.emptyDict).push (PySem.W.instObj C s.heap.objs.size) } := by
  have e1 : (s.heap.push PySem.W.emptyDict).get? s.heap.objs.size = some PySem.W.emptyDict := Heap.get?_push_size s.heap rfl
  have e2 : ((s.heap.push PySem.W.emptyDict).push (PySem.W.instObj C s.heap.objs.size)).get? (s.heap.objs.size + 1) = some (PySem.W.instObj C s.heap.objs.size) := by
    have := Heap.get?_push_size (s.heap.push PySem.W.emptyDict) (o := PySem.W.instObj C s.heap.objs.size) rfl
    rwa [Heap.size_push] at this
  have e3 : (s.heap.push PySem.W.emptyDict).Ns s.heap.objs.size (fun _ => none) := ⟨PySem.W.emptyDict, #[], _, e1, rfl, (fun e he => absurd he (by simp)), fun _ => rfl⟩
  have I1 := I.laid (a := s.heap.objs.size) (o := .own (s.heap.objs.size + 1)) (h' := s.heap.push PySem.W.emptyDict) (t' := s.toks) (fun b u q => Heap.get?_push_of_some _ q) (Nat.le_refl _) ⟨_, e1⟩
  refine I1.laid (a := s.heap.objs.size + 1) (o := .ins C s.heap.objs.size []) (t' := s.toks) (fun b u q => Heap.get?_push_of_some _ q) (Nat.le_of_eq (Heap.size_push _ _)) ?_
  have ne : s.heap.objs.size ≠ s.heap.objs.size + 1 := Nat.ne_of_lt (Nat.lt_succ_self _)
  refine ⟨by rw [Av ne, Bb], Nat.zero_le _, ne, e2, fun _ => none, (Heap.Ns1.of_empty e3).at fun o q => Heap.get?_push_of_some _ q, fun _ => True.intro, fun y hy => absurd rfl hy⟩
theorem Wh {prog : Program} {w : World} {env : Env} {e : Expr} {f : Str} {pos : Pos} {s : Shared} {Q : Value → Shared → Prop} (hb : attributeBase e f env (eval e env) = eval e env)
    (h : wpAny (model prog w) A (eval e env) (fun o s₁ => wpAny (model prog w) A (getAttr o f true) Q E s₁) E s) : wpAny (model prog w) A (eval (.Attribute e f pos) env) Q E s :=
  Attribute_any_ h (by rw [arm_eval_Attribute, hb])
end
noncomputable def AjG (K : PySem.W.Frag) (ta : TE) (f : Str) : TE := fun σ H Q => ta σ H fun x H1 => ∃ a C dx fs v, x = .ref a ∧ H1 a = some (.ins C dx fs) ∧ Cls K C ∧ Ga K C f ∧ fs.lookup f = some v ∧ Q v H1
noncomputable def Akp (K : PySem.W.Frag) (ta tv : TE) (f : Str) : TS := fun D σ H => tv σ H fun y H1 => ta σ H1 fun x H2 => ∃ a C dx fs, x = .ref a ∧ H2 a = some (.ins C dx fs) ∧ Cls K C ∧ Ga K C f ∧ fs.length < 1000 ∧
  D.nx σ (upd H2 a (.ins C dx (Fz f y fs)))
section
variable {X : Cx} {o e value : Expr} {f : Str} {pos pos' tpos : Pos} {ta tv : TE}
theorem Aej (he : PE X e ta) (hb : attributeBase e f X.env (eval e X.env) = eval e X.env) : PE X (.Attribute e f pos) (AjG X.K ta f) := by
  intro pins s σ H Q I h
  refine Wh hb (thn (he pins s σ H _ I h) fun u s1 ⟨x, H1, I1, rx, a, C, dx, fs, v, ex, ea, c, n, l, q⟩ => ?_)
  subst ex
  obtain rfl : u = Value.ref a := rx
  exact Tg I1 ea c n l fun u' s2 I2 ru => ⟨v, H1, I2, ru, q⟩
theorem T5 (ha : PE X o ta) (hv : PE X value tv) (hs : swapsWith value (some (.Attribute o f pos')) pos.line X.env = pure false) : PS X (.Assign [.Attribute o f pos'] value pos) (Akp X.K ta tv f) := by
  intro pins s σ H D I h
  refine plainObj_wpAny_Assign_Attribute (thn (hv pins s σ H _ I h) fun u s1 ⟨y, H1, I1, ry, q⟩ => thn (ha pins s1 σ H1 _ I1 q) fun ov s2 ⟨x, H2, I2, rx, a, C, dx, fs, ex, ea, c, n, l, q2⟩ => ?_) hs
  subst ex
  obtain rfl : ov = Value.ref a := rx
  exact T8 I2 ea c n l ry fun s3 I3 => ⟨σ, _, I3, q2⟩
end
section
variable {X : Cx} {pins : List (Addr × Obj)} {σ : St} {H : Hp} {s : Shared} {A : Around} {E : Value → Shared → Prop} {Q : Value → Shared → Prop} {c : Value} {b : Bool}
end
end L2
namespace L2
open PySem PySem.Spec PyProof.Rows
structure CN (k : Nat) (A : Around) : Prop where
  hd : A.handled = none
  dp : A.depth + 3 * k + 5 < recursionLimit
  un : A.units + 16 * k + 200 < cLine
theorem CN.mono {j k : Nat} {A : Around} (r : CN k A) (h : j ≤ k) : CN j A := ⟨r.hd, by have := r.dp; omega, by have := r.un; omega⟩
theorem CN.deeper {k : Nat} {A : Around} (r : CN (k + 1) A) (env : Env) : CN k (A.deeper env) :=
  ⟨r.hd, by have := r.dp; show A.depth + 1 + 3 * k + 5 < _; omega, by have := r.un; show A.units + 3 + 16 * k + 200 < _; omega⟩
theorem Tp {A : Around} {C : Addr} {us : List Value} {kw : List (Str × Value)} : (A.under (.builtin "type.__call__" ⟨.ref C :: us, kw⟩)).depth = A.depth + 1 := by
  first | rfl | simp [Around.under, Code.weight, Code.isCreation, Code.isGuard, Code.isCaller, Code.frames, Code.isFrame, guardIds]
theorem Ti {A : Around} {C : Addr} {us : List Value} {kw : List (Str × Value)} : (A.under (.builtin "type.__call__" ⟨.ref C :: us, kw⟩)).units = A.units + 1 := by
  first | rfl | simp [Around.under, Code.cUnits, Code.frames, Code.isFrame]
theorem CN.make {k : Nat} {A : Around} (r : CN (k + 1) A) (C : Addr) (us : List Value) (kw : List (Str × Value)) : CN k (A.under (.builtin "type.__call__" ⟨.ref C :: us, kw⟩)) :=
  ⟨r.hd, by have := r.dp; rw [Tp]; omega, by have := r.un; rw [Ti]; omega⟩
theorem CN.depth {k : Nat} {A : Around} (r : CN k A) : A.depth < recursionLimit := by have := r.dp; omega
theorem CN.units {k : Nat} {A : Around} (r : CN k A) : A.units + 64 < cLine := by have := r.un; omega
noncomputable def AhD : TA := fun _ H Q => Q [] H
noncomputable def Ah7 (ta : TE) (tr : TA) : TA := fun σ H Q => ta σ H fun x H1 => tr σ H1 fun xs H2 => Q (x :: xs) H2
section
variable {X : Cx} {e : Expr} {es : List Expr} {te : TE} {t : TA} {pos : Pos}
theorem O6 : PA X [] AhD := fun _ _ _ _ H Q I h => Calls.spliced_nil ⟨[], H, I, .nil, h⟩
theorem GF (ha : PE X e te) (hr : PA X es t) (hs : starEach (e :: es) X.env = (false, eval e X.env) :: starEach es X.env := by rfl) : PA X (e :: es) (Ah7 te t) := by
  intro pos pins s σ H Q I h
  rw [hs]
  show wpAny _ _ (spliced ((false, eval e X.env) :: backTo pos (starEach es X.env))) _ _ s
  refine Calls.spliced_cons (thn (ha pins s σ H _ I h) fun u s1 ⟨x, H1, I1, r1, q1⟩ => ?_)
  exact thn (hr pos pins s1 σ H1 _ I1 q1) fun us s2 ⟨xs, H2, I2, r2, q2⟩ => ⟨x :: xs, H2, I2, .cons r1 r2, q2⟩
noncomputable def Akh (t : TA) : TE := fun σ H Q => t σ H fun xs H1 => xs.length ≤ sizeLine ∧ ∀ p, H1 p = none → Q (.ref p) (upd H1 p (.tup xs))
noncomputable def AjS (t : TA) : TE := fun σ H Q => t σ H fun xs H1 => xs.length ≤ sizeLine ∧ ∀ p, H1 p = none → Q (.ref p) (upd H1 p (.lst xs))
theorem AdI {x1} (h : PA X es t) : PE X (.Tuple es x1 pos) (Akh t) := by
  intro pins s σ H Q I hq
  refine wpAny_Tuple_spliced (thn (h pos pins s σ H _ I hq) fun us s1 ⟨xs, H1, I1, r, z, q⟩ => ⟨by rw [← r.length]; exact z, ?_⟩)
  have hf : H1 s1.heap.objs.size = none := I1.hok.fresh (Nat.le_refl _)
  refine ⟨.ref s1.heap.objs.size, upd H1 s1.heap.objs.size (.tup xs), I1.laid (t' := s1.toks) (fun b u e => Heap.get?_push_of_some _ e) (Nat.le_refl _) ?_, rfl, q _ hf⟩
  exact ⟨z, us, r, ⟨_, Heap.get?_push_size _ rfl, rfl, _, rfl⟩⟩
theorem AaF (h : PA X es t) : PE X (.List es pos) (AjS t) := by
  intro pins s σ H Q I hq
  refine wpAny_List_spliced (thn (h pos pins s σ H _ I hq) fun us s1 ⟨xs, H1, I1, r, z, q⟩ => ⟨by rw [← r.length]; exact z, ?_⟩)
  have hf : H1 s1.heap.objs.size = none := I1.hok.fresh (Nat.le_refl _)
  refine ⟨.ref s1.heap.objs.size, upd H1 s1.heap.objs.size (.lst xs), I1.laid (t' := s1.toks) (fun b u e => Heap.get?_push_of_some _ e) (Nat.le_refl _) ?_, rfl, q _ hf⟩
  exact ⟨z, us, 0, r, Heap.get?_push_size _ rfl⟩
end
noncomputable abbrev Sp := List V → Hp → VK → XK → Prop
noncomputable abbrev CXT := List Env → Hp → Shared → XK → Value → Shared → Prop
structure Sh (P : Program) (w : World) (K : PySem.W.Frag) (mg : Str → Option Value) (base : Heap) (A : Around) (outer : List Env) (s : Shared) (H : Hp) : Prop where
  frames : A.frames = some outer
  mod : Mod K mg base
  bs : ∀ b o, base.get? b = some o → s.heap.get? b = some o ∧ H b = none
  bsz : base.objs.size ≤ s.heap.objs.size
  funs : s.heap.FunFrames base outer
  frf : ∀ b ∈ frs outer, H b = none
  hok : HOk P w H s.heap
  bare : AllBare s.gens
noncomputable def CE (outer : List Env) (P : Program) (w : World) (H : Hp) (s : Shared) (Q : VK) (u : Value) (s' : Shared) : Prop :=
  ∃ v H', s'.os = s.os ∧ AllBare s'.gens ∧ Un (frs outer) [] H H' s.heap s'.heap ∧ HOk P w H' s'.heap ∧ RelV v u ∧ Q v H'
noncomputable def CR (CX : CXT) (outer : List Env) (P : Program) (w : World) (H : Hp) (s : Shared) (Q : VK) (E : XK) (r : Result) (s' : Shared) : Prop :=
  match r with
  | .ok (.ret u) => CE outer P w H s Q u s'
  | .ok _ => False
  | .error e => CX outer H s E e s'
structure Dl (P : Program) (w : World) (K : PySem.W.Frag) (mg : Str → Option Value) (base : Heap) (CX : CXT) (k : Nat) (f : Addr) (fd : FuncData) (ps : List Str) (sp : Sp) : Prop where
  len : ∀ vs H Q E, sp vs H Q E → vs.length = ps.length
  run : ∀ (A : Around) (outer : List Env) (s : Shared) (H : Hp) (args : Args) (us : List Value) (vs : List V) (Q : VK) (E : XK), CN k A → Sh P w K mg base A outer s H → BindsTo s fd args (ps.zip us) → Vals vs us → sp vs H Q E →
    codeAny (model P w) A (.call (.ref f) args) (CR CX outer P w H s Q E) s
theorem Sh.make {P : Program} {w : World} {K : PySem.W.Frag} {mg : Str → Option Value} {base : Heap} {A : Around} {outer : List Env} {s : Shared} {H : Hp} (e : Sh P w K mg base A outer s H) (C : Addr) (us : List Value) (kw : List (Str × Value)) :
    Sh P w K mg base (A.under (.builtin "type.__call__" ⟨.ref C :: us, kw⟩)) outer s H := ⟨by first | exact e.frames | (simpa [Around.under, Code.envs, Code.isFrame, pushEnvs] using e.frames), e.mod, e.bs, e.bsz, e.funs, e.frf, e.hok, e.bare⟩
section
variable {X : Cx} {pins : List (Addr × Obj)} {σ : St} {H : Hp} {s s' : Shared}
theorem Inv.env0 (I : Inv X pins σ H s) : Sh X.prog X.w X.K X.mg X.base X.A X.stack s H :=
  ⟨I.ok.frames, I.ok.mod, I.bs, Nat.le_trans I.ok.bsz I.sz, I.stack, I.stkFree, I.hok, I.bare⟩
theorem Inv.after {Q : VK} {u : Value} (I : Inv X pins σ H s) (h : CE X.stack X.prog X.w H s Q u s') : EP X pins σ Q u s' := by
  obtain ⟨v, H', os, bare, un, hok, r, q⟩ := h
  obtain ⟨hh, g, d, t, os'⟩ := s'
  obtain rfl : os' = s.os := os
  exact ⟨v, H', I.call (h' := hh) (g' := g) (d' := d) (t' := t) (ch := []) un hok bare (fun b z => absurd z (by simp)), r, q⟩
end
noncomputable def Adc (sp : Sp) (dvs : List V) (E : XK) (t : TA) : TE := fun σ H Q => t σ H fun vs H1 => sp (vs ++ dvs) H1 Q E
noncomputable def Ah8 (C : Addr) (sp : Sp) (dvs : List V) (E : XK) (t : TA) : TE := fun σ H Q => t σ H fun vs H1 => ∀ x dx, H1 x = none → H1 dx = none → dx ≠ x →
  sp (.ref x :: (vs ++ dvs)) (upd (upd H1 dx (.own x)) x (.ins C dx [])) (fun v H2 => v = .non ∧ Q (.ref x) H2) E
noncomputable def Binds (K : PySem.W.Frag) (fd : FuncData) (ps : List Str) (ds : List Value) : Prop :=
  ∀ (s : Shared) (us : List Value), K.In s.heap → (us ++ ds).length = ps.length → BindsTo s fd ⟨us, []⟩ (ps.zip (us ++ ds))
theorem Binds.all {K : PySem.W.Frag} {fd : FuncData} {ps : List Str} (h : ∀ us : List Value, us.length = ps.length → bindArgs fd ⟨us, []⟩ = pure (ps.zip us)) : Binds K fd ps [] := fun s us _ hl => by
  rw [List.append_nil] at hl ⊢
  exact .of_eq (h us hl)
noncomputable def Passes (CX : CXT) (X : Cx) (E : XK) : Prop := ∀ (pins : List (Addr × Obj)) (σ : St) (H : Hp) (s : Shared) (e : Value) (s' : Shared), Inv X pins σ H s → CX X.stack H s E e s' → X.xe e s'
section
variable {X : Cx} {CX : CXT} {k : Nat} {f C : Addr} {fd : FuncData} {ps : List Str} {sp : Sp} {dvs : List V} {ds : List Value} {E : XK} {x m : Str} {p pos apos : Pos} {e o : Expr} {es : List Expr} {ta : TE} {t : TA}
theorem Qd {pins : List (Addr × Obj)} {σ : St} {H : Hp} {s : Shared} {Q : VK} {us : List Value} {vs : List V} (F : Dl X.prog X.w X.K X.mg X.base CX k f fd ps sp) (hr : CN k X.A) (hb : Binds X.K fd ps ds) (hd : Vals dvs ds) (hx : Passes CX X E)
    (I : Inv X pins σ H s) (r : Vals vs us) (h : sp (vs ++ dvs) H Q E) : wpAny (model X.prog X.w) X.A (call (.ref f) us) (EP X pins σ Q) X.xe s := by
  have r2 : Vals (vs ++ dvs) (us ++ ds) := r.append hd
  have hl : (us ++ ds).length = ps.length := by rw [← r2.length]; exact F.len _ _ _ _ h
  refine wpAny_call (codeAny_mono (F.run X.A X.stack s H ⟨us, []⟩ (us ++ ds) (vs ++ dvs) Q E hr I.env0 (hb s us I.kIn hl) r2 h) fun r s' hq => ?_)
  cases r with
  | error e => exact hx pins σ H s e s' I hq
  | ok fl =>
    cases fl with
    | ret u => exact I.after hq
    | next => exact False.elim hq
    | brk => exact False.elim hq
    | cont => exact False.elim hq
theorem Aa5 (F : Dl X.prog X.w X.K X.mg X.base CX k f fd ps sp) (hr : CN k X.A) (hg : Gl X x) (hm : X.mg x = some (.ref f)) (hk : PySem.W.keepIn X.K (.ref f) = true) (hb : Binds X.K fd ps ds) (hd : Vals dvs ds) (hx : Passes CX X E)
    (ha : PA X (e :: es) t) (hdb : (x == ("__debug__" : Str)) = false := by decide) (he : starEach (e :: es) X.env = (false, eval e X.env) :: starEach es X.env := by rfl) (hpl : (backTo pos (starEach es X.env)).any (·.1) = false := by rfl) :
    PE X (.Call (.Name x p) (e :: es) [] pos) (Adc sp dvs E t) := by
  intro pins s σ H Q I h
  refine wpAny_Call_Name_kw (HX I hg hm ?_ hdb)
  refine PySem.W.callWith_K (h₀ := X.base) I.ok.mod.kin hk (thn (ha pos pins s σ H _ I h) fun us s1 ⟨vs, H1, I1, r, q⟩ => ⟨I1.kIn, ?_⟩) he hpl
  exact Qd F hr hb hd hx I1 r q
structure Mk (K : PySem.W.Frag) (C f : Addr) : Prop where
  makes : PySem.W.makesIn K C = true
  init : PySem.W.findIn K (.ref C) "__init__" = some (some (.ref f))
  fn : PySem.W.isFn K (.ref f) = true
  kp : PySem.W.keepIn K (.ref C) = true
theorem Zj {pins : List (Addr × Obj)} {σ : St} {H : Hp} {s : Shared} {Q : VK} {us : List Value} {vs : List V} (M : Mk X.K C f) (F : Dl X.prog X.w X.K X.mg X.base CX k f fd ps sp) (hr : CN (k + 1) X.A) (hb : Binds X.K fd ps ds) (hd : Vals dvs ds)
    (hx : Passes CX X E) (I : Inv X pins σ H s) (r : Vals vs us)
    (h : ∀ x dx, H x = none → H dx = none → dx ≠ x → sp (.ref x :: (vs ++ dvs)) (upd (upd H dx (.own x)) x (.ins C dx [])) (fun v H2 => v = .non ∧ Q (.ref x) H2) E) :
    wpAny (model X.prog X.w) X.A (call (.ref C) us) (EP X pins σ Q) X.xe s := by
  have hq := h (s.heap.objs.size + 1) s.heap.objs.size (I.hok.fresh (Nat.le_succ _)) (I.hok.fresh (Nat.le_refl _)) (Nat.ne_of_lt (Nat.lt_succ_self _))
  have I2 := Inv.made (C := C) I
  have r2 : Vals (V.ref (s.heap.objs.size + 1) :: (vs ++ dvs)) (Value.ref (s.heap.objs.size + 1) :: (us ++ ds)) := .cons rfl (r.append hd)
  have hl : (Value.ref (s.heap.objs.size + 1) :: us ++ ds).length = ps.length := by
    have e := r2.length
    rw [F.len _ _ _ _ hq] at e
    exact e.symm
  refine wpAny_call (Yv (f := f) I.kIn M.makes M.init (beq_iff_eq.mp M.fn) (codeAny_mono (F.run _ X.stack _ _ ⟨Value.ref (s.heap.objs.size + 1) :: us, []⟩ (Value.ref (s.heap.objs.size + 1) :: (us ++ ds)) _ _ E (hr.make C us [])
    (I2.env0.make C us []) (hb _ (Value.ref (s.heap.objs.size + 1) :: us) I2.kIn hl) r2 hq) fun r s' hq' => ?_))
  cases r with
  | error e => exact hx pins σ _ _ e s' I2 hq'
  | ok fl =>
    cases fl with
    | ret u =>
      obtain ⟨v, H', I3, rv, ev, q3⟩ := I2.after hq'
      subst ev
      exact ⟨rv, ⟨V.ref (s.heap.objs.size + 1), H', I3, rfl, q3⟩⟩
    | next => exact False.elim hq'
    | brk => exact False.elim hq'
    | cont => exact False.elim hq'
theorem AaQ (M : Mk X.K C f) (F : Dl X.prog X.w X.K X.mg X.base CX k f fd ps sp) (hr : CN (k + 1) X.A) (hg : Gl X x) (hm : X.mg x = some (.ref C)) (hb : Binds X.K fd ps ds) (hd : Vals dvs ds) (hx : Passes CX X E)
    (ha : PA X (e :: es) t) (hdb : (x == ("__debug__" : Str)) = false := by decide) (he : starEach (e :: es) X.env = (false, eval e X.env) :: starEach es X.env := by rfl) (hpl : (backTo pos (starEach es X.env)).any (·.1) = false := by rfl) :
    PE X (.Call (.Name x p) (e :: es) [] pos) (Ah8 C sp dvs E t) := by
  intro pins s σ H Q I h
  refine wpAny_Call_Name_kw (HX I hg hm ?_ hdb)
  refine PySem.W.callWith_K (h₀ := X.base) I.ok.mod.kin M.kp (thn (ha pos pins s σ H _ I h) fun us s1 ⟨vs, H1, I1, r, q⟩ => ⟨I1.kIn, ?_⟩) he hpl
  exact Zj M F hr hb hd hx I1 r q
end
section
variable {X : Cx} {CX : CXT} {k : Nat} {f C : Addr} {fd : FuncData} {ps ks : List Str} {sp : Sp} {E : XK} {x m : Str} {p pos apos kpos : Pos} {e o : Expr} {es : List Expr} {kws : List Keyword} {te ta : TE} {t tk : TA} {nm : Option Str}
variable {g : List Value → List Value → List Value} {gV : List V → List V → List V}
end
structure Am (N P : List Str) (sc : Scope) : Prop where
  kind : sc.kind = .function
  co : sc.isCoroutine = false
  gen : sc.isGenerator = false
  nd : N.Nodup
  pre : N.take P.length = P
  par : ∀ x ∈ P, sc.names.lookup x = some .local ∨ sc.names.lookup x = some .cell
  nofree : ∀ y ∈ sc.names, y.2 ≠ .free
theorem Ol {kindOf : Str → Option NameKind} {x : Str} : ∀ {binds : List (Str × Value)} {m : Str → Option Value}, (∀ v, (x, v) ∉ binds) → bindL kindOf binds m x = m x
  | [], _, _ => rfl
  | (n, v) :: r, m, h => by
    unfold bindL
    rw [Ol fun w hw => h w (List.mem_cons_of_mem _ hw)]
    split
    · have : x ≠ n := by rintro rfl; exact h v List.mem_cons_self
      simp [this]
    · rfl
theorem Oh {kindOf : Str → Option NameKind} {x : Str} : ∀ {binds : List (Str × Value)} {m : Str → Option Value}, (∀ v, (x, v) ∉ binds) → bindC kindOf binds m x = m x
  | [], _, _ => rfl
  | (n, v) :: r, m, h => by
    unfold bindC
    rw [Oh fun w hw => h w (List.mem_cons_of_mem _ hw)]
    split
    · rfl
    · have : x ≠ n := by rintro rfl; exact h v List.mem_cons_self
      simp [this]
theorem Ob {kindOf : Str → Option NameKind} {x : Str} {v : Value} : ∀ {P : List Str} {vs : List Value} {i : Nat} {m : Str → Option Value}, P.Nodup → P[i]? = some x → vs[i]? = some v → kindOf x = some .local →
    bindL kindOf (P.zip vs) m x = some v
  | [], _, _, _, _, h, _, _ => by simp at h
  | _ :: _, [], _, _, _, _, h, _ => by simp at h
  | p :: P, w :: vs, 0, m, nd, h1, h2, hk => by
    simp at h1 h2; subst h1; subst h2
    show bindL kindOf ((p, w) :: P.zip vs) m p = _
    unfold bindL
    rw [Ol fun v hv => (List.nodup_cons.mp nd).1 (List.of_mem_zip hv).1, if_pos hk]
    simp
  | p :: P, w :: vs, i + 1, m, nd, h1, h2, hk => by
    show bindL kindOf ((p, w) :: P.zip vs) m x = _
    unfold bindL
    exact Ob (i := i) (List.nodup_cons.mp nd).2 (by simpa using h1) (by simpa using h2) hk
theorem Ou {kindOf : Str → Option NameKind} {x : Str} {v : Value} : ∀ {P : List Str} {vs : List Value} {i : Nat} {m : Str → Option Value}, P.Nodup → P[i]? = some x → vs[i]? = some v → kindOf x ≠ some .local →
    bindC kindOf (P.zip vs) m x = some v
  | [], _, _, _, _, h, _, _ => by simp at h
  | _ :: _, [], _, _, _, _, h, _ => by simp at h
  | p :: P, w :: vs, 0, m, nd, h1, h2, hk => by
    simp at h1 h2; subst h1; subst h2
    show bindC kindOf ((p, w) :: P.zip vs) m p = _
    unfold bindC
    rw [Oh fun v hv => (List.nodup_cons.mp nd).1 (List.of_mem_zip hv).1, if_neg hk]
    simp
  | p :: P, w :: vs, i + 1, m, nd, h1, h2, hk => by
    show bindC kindOf ((p, w) :: P.zip vs) m x = _
    unfold bindC
    exact Ou (i := i) (List.nodup_cons.mp nd).2 (by simpa using h1) (by simpa using h2) hk
noncomputable def start (N : List Str) (vs : List V) : St := vs.map some ++ List.replicate (N.length - vs.length) none
noncomputable def Pj (CX : CXT) (P : Program) (w : World) (K : PySem.W.Frag) (mg : Str → Option Value) (base : Heap) (N : List Str) (qual : Str) (scope : Scope) (f : Addr) (cd : Value) (A : Around) (outer : List Env) (s : Shared) (H : Hp) (E : XK) : Cx where
  prog := P
  w := w
  K := K
  mg := mg
  base := base
  A := A.deeper (envOfC qual scope s.heap.objs.size f cd)
  N := N
  s₀ := s
  H₀ := H
  env := envOfC qual scope s.heap.objs.size f cd
  outer := outer
  stack := envOfC qual scope s.heap.objs.size f cd :: outer
  ex := []
  calm := true
  fn := fun _ => true
  pn := []
  xe := fun e s' => wpAny (model P w) (A.deeper (envOfC qual scope s.heap.objs.size f cd)) (leaving (envOfC qual scope s.heap.objs.size f cd) e) (fun _ s'' => CX outer H s E e s'') (fun e' s'' => CX outer H s E e' s'') s'
theorem Rn {sc : Scope} {n : Nat} {x : Str} (h : sc.names.lookup x = some .cell) : ∃ c, (cellsFrom n sc.names []).lookup x = some c := by
  have q := PySem.W.cellsFrom_some sc.names n [] (.inl h)
  exact Option.isSome_iff_exists.mp q
theorem W7 {CX : CXT} {P : Program} {w : World} {K : PySem.W.Frag} {mg : Str → Option Value} {base : Heap} {N ps : List Str} {qual : Str} {scope : Scope} {f : Addr} {cd : Value} {A : Around} {outer : List Env} {s s1 : Shared} {H : Hp} {E : XK} {us : List Value} {vs : List V}
    (S : Am N ps scope) (hd : A.handled = none) (e0 : Sh P w K mg base A outer s H) (hl : vs.length = ps.length) (r : Vals vs us)
    (x : InCallC s s.heap.objs.size (bindL (envOfC qual scope s.heap.objs.size f cd).kindOf (ps.zip us) fun _ => none) (cellsFrom (s.heap.objs.size + 1) scope.names []) (bindC (envOfC qual scope s.heap.objs.size f cd).kindOf (ps.zip us) fun _ => none) s1) :
    Inv (Pj CX P w K mg base N qual scope f cd A outer s H E) [] (start N vs) H s1 := by
  have hpl : ps.length ≤ N.length := by have := congrArg List.length S.pre; rw [List.length_take] at this; omega
  obtain ⟨h1, tk, rfl, hk⟩ := x.done
  have noA : ∀ b : Addr, b ∉ (Pj CX P w K mg base N qual scope f cd A outer s H E).ex := fun b z => absurd (show b ∈ ([] : List Addr) from z) (by simp)
  refine ⟨⟨e0.mod, S.kind, rfl, rfl, Nat.le_refl _, fun y z c h1 h2 => ?_, fun y hy => ?_, fun y c _ h => ?_, fun _ => hd, Around.frames_deeper e0.frames, .inr ⟨rfl, rfl⟩, fun b z => absurd z (noA b), e0.bs, e0.bsz, fun b _ _ => noA b, fun b z => absurd z (noA b), e0.funs, e0.frf⟩,
    rfl, e0.bare, Un.kept hk, ⟨_, x.toInCall.ns, fun i y v h1 h2 h3 => ?_⟩, fun y c h => ⟨_, x.cell y c h⟩, e0.hok.fresh (Nat.le_refl _), fun y c h => ?_, fun p hp => absurd (show p ∈ ([] : List (Addr × Obj)) from hp) (by simp), e0.hok.kept hk, ?_⟩
  · exact name_of_addr x.apart (PySem.mem_of_lookup h1) (PySem.mem_of_lookup h2)
  · have hy : scope.names.lookup y = some .cell ∨ scope.names.lookup y = some .free := hy
    rcases hy with hy | hy
    · exact Rn hy
    · exact absurd rfl (S.nofree _ (PySem.mem_of_lookup hy))
  · exact Nat.le_of_lt (x.above y c (PySem.mem_of_lookup h))
  · have hi : i < vs.length := by
      unfold start at h2
      by_cases hi : i < vs.length
      · exact hi
      · rw [List.getElem?_append_right (by simpa using hi)] at h2
        rw [List.getElem?_replicate] at h2
        split at h2 <;> cases h2
    have ha : vs[i]? = some v := by
      unfold start at h2
      rw [List.getElem?_append_left (by simpa using hi), List.getElem?_map] at h2
      cases e : vs[i]? with
      | none => rw [e] at h2; cases h2
      | some a => rw [e] at h2; cases h2; rfl
    obtain ⟨u, hu, rv⟩ := r.get ha
    have hp : ps[i]? = some y := by
      rw [← S.pre, List.getElem?_take_of_lt (by omega)]; exact h1
    have ndP : ps.Nodup := by rw [← S.pre]; exact S.nd.sublist (List.take_sublist _ _)
    refine ⟨u, rv, ?_⟩
    rcases S.par y (List.mem_of_getElem? hp) with k | k
    · exact .inl ⟨k, Ob ndP hp hu k⟩
    · obtain ⟨c, e⟩ := Rn (n := s.heap.objs.size + 1) k
      refine .inr ⟨.inl k, c, e, ?_⟩
      have q := x.cell y c e
      rw [Ou ndP hp hu (by show scope.names.lookup y ≠ _; rw [k]; decide)] at q
      exact q
  · exact e0.hok.fresh (Nat.le_of_lt (x.above y c (PySem.mem_of_lookup h)))
  · unfold start
    show _ = N.length
    rw [List.length_append, List.length_map, List.length_replicate]
    omega
theorem Adh {CX : CXT} {P : Program} {w : World} {K : PySem.W.Frag} {mg : Str → Option Value} {base : Heap} {k : Nat} {f : Addr} {name qual : Str} {params : Arguments} {body : List Stmt} {scope : Scope} {dV kV doc pm cdv ct oc : Value} {an od : Option Addr}
    {osl : Array (Option Value)} {N ps : List Str} {sp : Sp} (lk : K.lookup f = some ⟨oc, od, .func (PySem.W.fnOf name qual params body scope dV kV doc pm an cdv ct), osl⟩) (hcd : PySem.W.codeIn K cdv qual = true) (S : Am N ps scope)
    (len : ∀ vs H Q E, sp vs H Q E → vs.length = ps.length)
    (hbody : ∀ (A : Around) (outer : List Env) (s : Shared) (H : Hp) (vs : List V) (Q : VK) (E : XK), CN k (A.deeper (envOfC qual scope s.heap.objs.size f cdv)) → sp vs H Q E →
      ∃ t, PSs (Pj CX P w K mg base N qual scope f cdv A outer s H E) body t ∧ t { nx := fun _ H' => Q .non H', rt := Q } (start N vs) H) :
    Dl P w K mg base CX (k + 1) f (PySem.W.fnOf name qual params body scope dV kV doc pm an cdv ct) ps sp := by
  refine ⟨len, fun A outer s H args us vs Q E hr e0 hb r hsp => ?_⟩
  have hl := len _ _ _ _ hsp
  have KX : K.In s.heap := e0.mod.kin.keeps fun b o e => (e0.bs b o e).1
  have lim : s.heap.NoLimit := e0.mod.nolimit.keeps fun b o e => (e0.bs b o e).1
  have hkind : ∀ y ∈ ps.zip us, scope.names.lookup y.1 = some .local ∨ (scope.names.lookup y.1 = some .cell ∧ ((cellsFrom (s.heap.objs.size + 1) scope.names []).lookup y.1).isSome = true) := fun ⟨n, v⟩ hy => by
    rcases S.par n (List.of_mem_zip hy).1 with q | q
    · exact .inl q
    · exact .inr ⟨q, PySem.W.cellsFrom_some _ _ _ (.inl q)⟩
  refine codeAny_call_function hr.depth (KX _ _ lk) rfl S.co S.gen rfl (PySem.W.codeRec_of KX hcd) (hb _ _ _ _ ?_)
  refine wpAny_newFunctionEnv_cells S.kind hkind fun env he s1 x => ?_
  subst he
  refine ⟨lim.keeps x.toInCall.keep, codeAny_func ?_⟩
  obtain ⟨t, ht, hq⟩ := hbody A outer s H vs Q E (hr.deeper _) hsp
  have I : Inv (Pj CX P w K mg base N qual scope f cdv A outer s H E) [] (start N vs) H s1 := W7 S hr.hd e0 hl r x
  refine wpAny_mono (ht [] s1 (start N vs) H _ I hq) (fun fl s' hs => ?_) fun e s' hs => hs
  have fin : ∀ {σ' : St} {H' : Hp} {v : V} {u : Value}, Inv (Pj CX P w K mg base N qual scope f cdv A outer s H E) [] σ' H' s' → RelV v u → Q v H' → CE outer P w H s Q u s' :=
    fun {σ' H' v u} J rv q => ⟨v, H', J.os, J.bare, J.base, J.hok, rv, q⟩
  cases fl with
  | ret u =>
    obtain ⟨v, σ', H', J, rv, q⟩ := hs
    exact fin J rv q
  | next =>
    obtain ⟨σ', H', J, q⟩ := hs
    exact fin (v := V.non) (u := Value.none) J rfl q
  | brk =>
    obtain ⟨_, _, _, q⟩ := hs
    exact False.elim q
  | cont =>
    obtain ⟨_, _, _, q⟩ := hs
    exact False.elim q
end L2
namespace L2
open PySem PySem.Spec PyProof.Rows
section
variable {X : Cx} {x : Str} {p pos : Pos} {e : Expr} {es : List Expr} {t : TA} {id T : String} {r : List V → Hp → VK → Prop}
noncomputable def tCB (r : List V → Hp → VK → Prop) (t : TA) : TE := fun σ H Q => t σ H fun vs H1 => r vs H1 Q
theorem Le (hc : Ig X (.builtin id) r) (hg : Gl X x) (hm : X.mg x = none) (hv : bootBuiltins x = some (.builtin id)) (ha : PA X (e :: es) t) (hn : x ≠ "__name__" := by decide) (hdb : (x == ("__debug__" : Str)) = false := by decide)
    (he : starEach (e :: es) X.env = (false, eval e X.env) :: starEach es X.env := by rfl) (hpl : (backTo pos (starEach es X.env)).any (·.1) = false := by rfl) : PE X (.Call (.Name x p) (e :: es) [] pos) (tCB r t) := by
  intro pins s σ H Q I h
  refine wpAny_Call_Name_kw (R0 I hg hm hv ?_ hn hdb)
  exact PyProof.Rows.callWith_builtin1 (thn (ha pos pins s σ H _ I h) fun us s1 ⟨vs, H1, I1, r1, q1⟩ => hc pins s1 σ H1 vs us Q I1 r1 q1) he hpl
end
end L2
namespace HT
open PySem PyProof.Rows
noncomputable def lexLt : List Int → List Int → Bool
  | [], [] => false
  | [], _ :: _ => true
  | _ :: _, [] => false
  | x :: xs, y :: ys => if x = y then lexLt xs ys else decide (x < y)
theorem G3 (x y : Int) (xs ys : List Int) : lexLt (x :: xs) (y :: ys) = if x = y then lexLt xs ys else decide (x < y) := rfl
theorem Gf : lexLt [] [] = false := rfl
theorem Mw (y : Int) (ys : List Int) : lexLt [] (y :: ys) = true := rfl
theorem LC (x : Int) (xs : List Int) : lexLt (x :: xs) [] = false := rfl
theorem Z1 (A : Around) (s : Shared) (a : Int) (t : Tok) (c : Int) (u : Tok) : ∃ e, SeqAt.EqAt A s (.int a t) (.int c u) e ∧ (e = true ↔ a = c) :=
  ⟨(a == c), SeqAt.EqAt.int_int a t c u, by simp⟩
theorem Y7 (A : Around) (s : Shared) (a : Int) (t : Tok) (c : Int) (u : Tok) (prog : Program) (w : World) (E : Value → Shared → Prop) (Q : Value → Shared → Prop) (h : Q (.bool (decide (a < c))) s) :
    wpAny (model prog w) A (richCompare .Lt (.int a t) (.int c u)) Q E s :=
  (PyProof.Rows.lt_int h : wpAny (model prog w) A (compareOp .Lt (.int a t) (.int c u)) Q E s)
section
open PySem.SeqAt
open PySem.AutoSeq1 (wpAny_loadPart')
open PySem.MeetsSeq PySem.MeetsSeq2 PySem.MeetsSeq3
theorem Ng (l b : Addr) (items items2 : Array Value) (n n2 : Nat) (dd dd2 : Option Addr) (sl sl2 : Array (Option Value)) (ns ms : List Int) (hi : IntsAre items.toList ns) (hj : IntsAre items2.toList ms) :
    Meets (Builtin.«tuple.__lt__» ⟨[.ref l, .ref b], []⟩)
      (fun _ R s => s.heap.get? l = some { cls := .type "tuple", dict := dd, data := .seq items n, slots := sl } ∧ s.heap.get? b = some { cls := .type "tuple", dict := dd2, data := .seq items2 n2, slots := sl2 } ∧
        R (.ok (.ret (.bool (lexLt ns ms)))) s) :=
  .of_wp fun prog w A R s h => by
    obtain ⟨hp, g, d, tk, os⟩ := s; obtain ⟨hl, hb, h⟩ := h
    have f2 := AutoSeq1.sub_tuple_tuple
    have z1 : items.size = ns.length := by rw [← hi.length]; simp
    have z2 : items2.size = ms.length := by rw [← hj.length]; simp
    wp_walk using wpAny_loadPart' hl, wpAny_loadPart' hb, wpAny_forIn_list _ (fun rest b s' => b.1 = none ∧ s' = ⟨hp, g, d, tk, os⟩ ∧ ∃ (vs ws : List Value) (ns' ms' : List Int), rest = vs.zip ws ∧
      IntsAre vs ns' ∧ IntsAre ws ms' ∧ ns'.length + items2.size = ms'.length + items.size ∧ R (.ok (.ret (.bool (lexLt ns' ms')))) ⟨hp, g, d, tk, os⟩) _
    case turn =>
      rintro ⟨y, x⟩ rest b s' ⟨hb', rfl, vs, ws, ns', ms', hz, hvi, hwi, hlen, hR⟩
      cases hvi with
      | nil => rw [List.zip_nil_left] at hz; cases hz
      | cons a t hvi' =>
        cases hwi with
        | nil => rw [List.zip_nil_right] at hz; cases hz
        | cons c u hwi' =>
          rw [List.zip_cons_cons] at hz
          injection hz with hyx hrest
          injection hyx with hy hx
          subst hy hx
          rw [G3] at hR
          simp only [List.length_cons] at hlen
          obtain ⟨e, he, hiff⟩ := Z1 A.in1 ⟨hp, g, d, tk, os⟩ a t c u
          refine wpAny_bind (he prog w _ _ ?_)
          cases e with
          | true =>
            rw [if_pos (hiff.mp rfl)] at hR
            wp_walk
            exact ⟨rfl, rfl, _, _, _, _, hrest, hvi', hwi', by omega, hR⟩
          | false =>
            rw [if_neg (fun q => absurd (hiff.mpr q) Bool.false_ne_true)] at hR
            have hri := Y7 A.in1 ⟨hp, g, d, tk, os⟩ a t c u prog w
            wp_walk using hri
            exact ⟨_, rfl, by simpa using hR⟩
    case fin =>
      rintro ⟨b1, b2⟩ s' ⟨hb', rfl, vs, ws, ns', ms', hz, hvi, hwi, hlen, hR⟩
      simp only at hb'
      subst hb'
      have hv : lexLt ns' ms' = decide (items.size < items2.size) := by
        cases hvi with
        | nil =>
          cases hwi with
          | nil =>
            simp only [List.length_nil] at hlen
            rw [Gf]
            exact (decide_eq_false (by omega)).symm
          | cons c u hw =>
            simp only [List.length_nil, List.length_cons] at hlen
            rw [Mw]
            exact (decide_eq_true (by omega)).symm
        | cons a t hv =>
          cases hwi with
          | nil =>
            simp only [List.length_nil, List.length_cons] at hlen
            rw [LC]
            exact (decide_eq_false (by omega)).symm
          | cons c u hw =>
            rw [List.zip_cons_cons] at hz
            cases hz
      rw [hv] at hR
      wp_walk
      exact ⟨_, rfl, by simpa [Builtin.Tuple.tupleCompareSizes] using hR⟩
    case h =>
      exact ⟨rfl, rfl, items.toList, items2.toList, ns, ms, rfl, hi, hj, by omega, h⟩
end
section
variable {prog : Program} {w : World} {A : Around} {E : Value → Shared → Prop} {s : Shared}
theorem Lq {l b : Addr} {items items2 : Array Value} {ns ms : List Int} {Q : Value → Shared → Prop} (hl : IsTup s.heap l items) (hb : IsTup s.heap b items2) (hi : IntsAre items.toList ns) (hj : IntsAre items2.toList ms)
    (hu : A.units < cLine) (h : Q (.bool (lexLt ns ms)) s) : wpAny (model prog w) A (compareOp .Lt (.ref l) (.ref b)) Q E s := by
  obtain ⟨⟨cls, dd, data, sl⟩, ho, hc, n, hd⟩ := id hl
  obtain ⟨⟨cls2, dd2, data2, sl2⟩, ho2, hc2, n2, hd2⟩ := id hb
  simp only at hc hd hc2 hd2
  subst hc hd hc2 hd2
  exact richCompare_meets_room (op := .Lt) ⟨_, ho, rfl⟩ ⟨_, ho2, rfl⟩ PySem.F.slot_tuple_lt PySem.F.entry_tuple_lt (PySem.F.args_tuple_lt_2 _ _) (Ng l b items items2 n n2 dd dd2 sl sl2 ns ms hi hj)
    ⟨ho, ho2, show Value.bool (lexLt ns ms) ≠ Value.notImplemented ∧ Q (.bool (lexLt ns ms)) s from ⟨(fun x => nomatch x), h⟩⟩ hu
noncomputable def sIx (n d : Nat) : Option Int → Nat
  | none => d
  | some v => if v < 0 then (v + (n : Int)).toNat else min v.toNat n
theorem KQ (n d k : Nat) : sIx n d (some (k : Int)) = min k n := by
  show (if (k : Int) < 0 then ((k : Int) + (n : Int)).toNat else min (k : Int).toNat n) = min k n
  rw [if_neg (by omega), Int.toNat_natCast]
end
end HT
namespace L2
open PySem PySem.Spec PyProof.Rows
noncomputable abbrev TO := St → Hp → (Option Int → Hp → Prop) → Prop
noncomputable def PO (X : Cx) (e : Option Expr) (t : TO) : Prop :=
  ∀ (pins : List (Addr × Obj)) (s : Shared) (σ : St) (H : Hp) (Q : Option Int → Hp → Prop), Inv X pins σ H s → t σ H Q →
    wpAny (model X.prog X.w) X.A (evalPart e X.env) (fun u s' => ∃ o H', Inv X pins σ H' s' ∧ IsPart u o ∧ Q o H') X.xe s
noncomputable def Ajj (t : TE) : TO := fun σ H Q => t σ H fun x H1 => ∃ i, x = .int i ∧ Q (some i) H1
theorem intsAre_of {ns : List Int} : ∀ {us : List Value}, Vals (ns.map V.int) us → IntsAre us ns := by
  induction ns with
  | nil => intro us r; rw [List.map_nil] at r; cases r; exact .nil
  | cons n ns ih =>
    intro us r
    rw [List.map_cons] at r
    cases r with
    | cons r1 r2 =>
      obtain ⟨t, e⟩ := r1
      subst e
      exact .cons n t (ih r2)
section
variable {X : Cx} {e : Expr} {te : TE} {lo hi : Option Expr} {tl th : TO} {pos p2 : Pos}
theorem AcZ (h : PE X e te) : PO X (some e) (Ajj te) := by
  intro pins s σ H Q I hw
  rw [evalPart_some]
  refine thn (h pins s σ H _ I hw) fun u s1 ⟨x, H1, I1, r1, q1⟩ => ?_
  obtain ⟨i, rfl, q⟩ := q1
  obtain ⟨t, rfl⟩ := r1
  exact ⟨some i, H1, I1, .int i t, q⟩
noncomputable def SlR (X : Cx) (r : V → Option Int → Option Int → Hp → VK → Prop) : Prop :=
  ∀ (pins : List (Addr × Obj)) (s : Shared) (σ : St) (H : Hp) (x : V) (v vl vu : Value) (lo hi : Option Int) (sl : Addr) (Q : VK), Inv X pins σ H s → RelV x v → s.heap.IsSliceOf sl vl vu .none → IsPart vl lo → IsPart vu hi → r x lo hi H Q →
    ∃ T id, typeLookup (.type T) "__getitem__" = pure (some (.builtin id)) ∧ s.TypeIs v T ∧ wpAny (model X.prog X.w) X.A (getItem v (.ref sl)) (EP X pins σ Q) X.xe s
noncomputable def tSl (r : V → Option Int → Option Int → Hp → VK → Prop) (te : TE) (tl th : TO) : TE := fun σ H Q => te σ H fun x H1 => tl σ H1 fun l H2 => th σ H2 fun u H3 => r x l u H3 Q
theorem Aao {r : V → Option Int → Option Int → Hp → VK → Prop} (hr : SlR X r) (he : PE X e te) (hl : PO X lo tl) (hu : PO X hi th) : PE X (.Subscript e (.Slice lo hi none p2) pos) (tSl r te tl th) := by
  intro pins s σ H Q I h
  refine Subscript_ (thn (he pins s σ H _ I h) fun v s1 ⟨x, H1, I1, r1, q1⟩ => ?_)
  refine wpAny_Slice (thn (hl pins s1 σ H1 _ I1 q1) fun vl s2 ⟨l, H2, I2, pl, q2⟩ => thn (hu pins s2 σ H2 _ I2 q2) fun vu s3 ⟨u, H3, I3, pu, q3⟩ => ?_)
  rw [evalPart_none]
  refine wpAny_pure ?_
  have I4 : Inv X pins σ H3 { s3 with heap := s3.heap.push { cls := .type "slice", data := .fields #[vl, vu, .none] } } := I3.kept (t' := s3.toks) fun b ob q => Heap.get?_push_of_some _ q
  obtain ⟨T, id, hT, ht, hg⟩ := hr pins { s3 with heap := s3.heap.push { cls := .type "slice", data := .fields #[vl, vu, .none] } } σ H3 x v vl vu l u s3.heap.objs.size Q I4 r1 (Heap.IsSliceOf.new ..) pl pu q3
  show wpAny (model X.prog X.w) X.A (subscriptTail e (.Slice lo hi none p2) v (.ref s3.heap.objs.size)) (EP X pins σ Q) X.xe { s3 with heap := s3.heap.push { cls := .type "slice", data := .fields #[vl, vu, .none] } }
  exact tail_any (ops := [.ref s3.heap.objs.size, v]) ht hT hg (by with_unfolding_all rfl)
noncomputable def WW (xs : List V) (lo hi : Option Int) : List V := (xs.drop (HT.sIx xs.length 0 lo)).take (HT.sIx xs.length xs.length hi - HT.sIx xs.length 0 lo)
theorem Ro (xs : List V) (lo hi : Option Int) : (WW xs lo hi).length ≤ xs.length := by
  unfold WW
  rw [List.length_take, List.length_drop]
  omega
end
end L2
namespace L2
open PySem PySem.Spec PyProof.Rows
noncomputable def ixN (n : Nat) (i : Int) : Option Nat := if 0 ≤ i then (if i < n then some i.toNat else none) else if -(n : Int) ≤ i then some (i + n).toNat else none
noncomputable def atI {α : Type} (xs : List α) (i : Int) : Option α := (ixN xs.length i).bind fun j => xs[j]?
theorem Aba {n : Nat} {i : Int} {j : Nat} (h : ixN n i = some j) : seqIndex? i n = some j ∧ j < n ∧ -(n : Int) ≤ i ∧ i < n := by
  unfold ixN at h
  by_cases h0 : 0 ≤ i
  · rw [if_pos h0] at h
    by_cases h1 : i < n
    · rw [if_pos h1] at h
      have e : i.toNat = j := Option.some.inj h
      exact ⟨by rw [seqIndex_of h0 h1, e], by omega, by omega, h1⟩
    · rw [if_neg h1] at h; cases h
  · rw [if_neg h0] at h
    by_cases h1 : -(n : Int) ≤ i
    · rw [if_pos h1] at h
      have e : (i + n).toNat = j := Option.some.inj h
      exact ⟨by rw [seqIndex_neg (by omega) h1, e], by omega, h1, by omega⟩
    · rw [if_neg h1] at h; cases h
theorem Qc {α : Type} {xs : List α} {i : Int} {v : α} (h : atI xs i = some v) : ∃ j, seqIndex? i xs.length = some j ∧ xs[j]? = some v ∧ j < xs.length ∧ -(xs.length : Int) ≤ i ∧ i < xs.length := by
  unfold atI at h
  cases e : ixN xs.length i with
  | none => rw [e] at h; cases h
  | some j =>
    rw [e] at h
    obtain ⟨h1, h2, h3, h4⟩ := Aba e
    exact ⟨j, h1, h, h2, h3, h4⟩
theorem AcB {α : Type} {xs : List α} {j : Nat} {v : α} (h : xs[j]? = some v) : atI xs (j : Int) = some v := by
  have hj : j < xs.length := (List.getElem?_eq_some_iff.mp h).1
  have e : ixN xs.length (j : Int) = some j := by
    unfold ixN
    rw [if_pos (by omega), if_pos (by omega)]; simp
  unfold atI; rw [e]; exact h
noncomputable def Oz (b : Expr) : Prop := ∀ o i, subscripted b false o i = operate [o, i] (getItem o i)
noncomputable def IxR (X : Cx) (r : R2) : Prop :=
  ∀ (value slice : Expr) (pins : List (Addr × Obj)) (s : Shared) (σ : St) (H : Hp) (x y : V) (v u : Value) (Q : VK), Inv X pins σ H s → RelV x v → RelV y u → r x y H Q →
    subscripted slice false v u = operate [v, u] (getItem v u) → wpAny (model X.prog X.w) X.A (subscriptTail value slice v u) (EP X pins σ Q) X.xe s
noncomputable def MtR (X : Cx) (id : String) (r : V → List V → Hp → VK → Prop) : Prop :=
  ∀ (pins : List (Addr × Obj)) (s : Shared) (σ : St) (H : Hp) (x : V) (xs : List V) (v : Value) (us : List Value) (Q : VK), Inv X pins σ H s → RelV x v → Vals xs us → r x xs H Q →
    wpAny (model X.prog X.w) X.A (call (.builtin id) (v :: us)) (EP X pins σ Q) X.xe s
section
variable {X : Cx} {a b : Expr} {ta tb : TE} {pos : Pos}
theorem IxR.or {r r' : R2} (h : IxR X r) (h' : IxR X r') : IxR X (fun x y H Q => r x y H Q ∨ r' x y H Q) := by
  intro value slice pins s σ H x y v u Q I rx ry q hs
  rcases q with q | q
  · exact h value slice pins s σ H x y v u Q I rx ry q hs
  · exact h' value slice pins s σ H x y v u Q I rx ry q hs
theorem AgA {r : R2} (hr : IxR X r) (ha : PE X a ta) (hb : PE X b tb) (hs : Oz b) : PE X (.Subscript a b pos) (tOp r ta tb) := by
  intro pins s σ H Q I h
  exact Subscript_ (Ae2 ha hb I h fun v u s2 x y H2 I2 rx ry q => hr a b pins s2 σ H2 x y v u Q I2 rx ry q (hs _ _))
noncomputable def AiC (K : PySem.W.Frag) : R2 := fun x y H Q => ∃ p xs i v, x = .ref p ∧ y = .int i ∧ SqL K H p xs ∧ atI xs i = some v ∧ Q v H
noncomputable def Aiz (K : PySem.W.Frag) : R2 := fun x y H Q => ∃ p xs i v, x = .ref p ∧ y = .int i ∧ SqT K H p xs ∧ atI xs i = some v ∧ Q v H
noncomputable def Ag2 : R2 := fun x y H Q => ∃ z i c, x = .str z ∧ y = .int i ∧ z.length ≤ sizeLine ∧ atI z.cps.toList i = some c ∧ Q (.str ⟨#[c]⟩) H
theorem Acr : IxR X (AiC X.K) := by
  intro value slice pins s σ H x y v u Q I rx ry h hs
  obtain ⟨p, xs, i, z, rfl, rfl, hq, he, q⟩ := h
  cases rx
  obtain ⟨t, rfl⟩ := ry
  obtain ⟨its, r, pl, hz⟩ := I.list hq
  obtain ⟨j, h1, h2, h3, h4, h5⟩ := Qc he
  obtain ⟨w, ew, rw'⟩ := r.get h2
  have hl := r.length
  have hn := Pk
  have fin : EP X pins σ Q w s := ⟨z, H, I, rw', q⟩
  by_cases h0 : 0 ≤ i
  · have hj : i.toNat = j := by
      rw [seqIndex_of h0 h5] at h1
      exact Option.some.inj h1
    exact item_listR pl.isList h0 (by omega) (by rw [hj]; simpa using ew) fin hs
  · have hj : (i + (its.toArray.size : Int)).toNat = j := by
      rw [seqIndex_neg (by omega) h4] at h1
      rw [List.size_toArray, ← hl]
      exact Option.some.inj h1
    exact subscriptTail_builtinR (x := w) pl.isList.typeIs slot_list_getitem.lookup
      (wpAny_getItem_list_neg (Q := fun r s' => r = w ∧ EP X pins σ Q r s') pl.isList (by omega) (by rw [List.size_toArray] <;> omega) (by omega) (by rw [hj]; simpa using ew) ⟨rfl, fin⟩) hs
theorem Agc : IxR X (Aiz X.K) := by
  intro value slice pins s σ H x y v u Q I rx ry h hs
  obtain ⟨p, xs, i, z, rfl, rfl, hq, he, q⟩ := h
  cases rx
  obtain ⟨t, rfl⟩ := ry
  obtain ⟨its, r, pl, hz⟩ := I.tuple hq
  obtain ⟨j, h1, h2, h3, h4, h5⟩ := Qc he
  obtain ⟨w, ew, rw'⟩ := r.get h2
  have hl := r.length
  have hn := Pk
  have fin : EP X pins σ Q w s := ⟨z, H, I, rw', q⟩
  exact subscriptTail_builtinR (x := w) pl.typeIs slot_tuple_getitem.lookup
    (getItem_tuple (j := j) (Q := fun r s' => r = w ∧ EP X pins σ Q r s') pl (by omega) (by omega) (by rw [List.size_toArray, ← hl]; exact h1) (by simpa using ew) ⟨rfl, fin⟩) hs
theorem AeR : IxR X Ag2 := by
  intro value slice pins s σ H x y v u Q I rx ry h hs
  obtain ⟨z, i, c, rfl, rfl, hz, he, q⟩ := h
  obtain ⟨t, rfl⟩ := rx
  obtain ⟨t', rfl⟩ := ry
  obtain ⟨j, h1, h2, h3, h4, h5⟩ := Qc he
  have hl : z.cps.toList.length = z.length := by simp [Str.length]
  rw [hl] at h1 h4 h5
  have hn := Pk
  exact tail_any (typeIs_str s z t) slot_str_getitem.lookup (getItem_str (c := c) (by
    have e1 : decide (i < -(2 ^ 63 : Int)) = false := decide_eq_false (by omega)
    have e2 : decide (i ≥ 2 ^ 63) = false := decide_eq_false (by omega)
    rw [e1, e2, Bool.or_false]) (by rw [h1]; simpa using h2) ⟨.str ⟨#[c]⟩, H, I.tok _, ⟨_, rfl⟩, q⟩) hs
noncomputable def rIx (K : PySem.W.Frag) : R2 := fun x y H Q => AiC K x y H Q ∨ Aiz K x y H Q ∨ Ag2 x y H Q
theorem Afm : IxR X (rIx X.K) := Acr.or (Agc.or AeR)
theorem O1 (lo hi : Option Int) (n : Nat) : (sliceBounds lo hi none n).1 = ((HT.sIx n 0 lo : Nat) : Int) ∧ (sliceBounds lo hi none n).2.1 = ((HT.sIx n n hi : Nat) : Int) ∧ (sliceBounds lo hi none n).2.2 = 1 := by
  refine ⟨?_, ?_, rfl⟩
  · cases lo with
    | none => simp [sliceBounds, HT.sIx]
    | some i =>
      simp only [sliceBounds, HT.sIx, Option.getD_none, show (1 : Int) > 0 by decide, if_true]
      by_cases h : i < 0
      · simp only [h, if_true] <;> omega
      · simp only [h, if_false] <;> omega
  · cases hi with
    | none => simp [sliceBounds, HT.sIx]
    | some i =>
      simp only [sliceBounds, HT.sIx, Option.getD_none, show (1 : Int) > 0 by decide, if_true]
      by_cases h : i < 0
      · simp only [h, if_true] <;> omega
      · simp only [h, if_false] <;> omega
theorem Nt (its : List Value) (lo hi : Option Int) : slicePick its.toArray lo hi none = ((its.drop (HT.sIx its.length 0 lo)).take (HT.sIx its.length its.length hi - HT.sIx its.length 0 lo)).toArray := by
  obtain ⟨h1, h2, h3⟩ := O1 lo hi its.toArray.size
  unfold slicePick
  rw [h1, h2, h3]
  simp only [sliceRange_one, pick_run, List.size_toArray] <;> rfl
noncomputable def Akq (K : PySem.W.Frag) : V → Option Int → Option Int → Hp → VK → Prop := fun x lo hi H Q => ∃ a xs, x = .ref a ∧ SqL K H a xs ∧ ∀ p, H p = none → Q (.ref p) (upd H p (.lst (WW xs lo hi)))
theorem Ab5 : SlR X (Akq X.K) := by
  intro pins s σ H x v vl vu lo hi sl Q I rx hs pl pu h
  obtain ⟨a, xs, rfl, hx, q⟩ := h
  cases rx
  obtain ⟨its, r, ht, hz⟩ := I.list hx
  have hlen := r.length
  refine ⟨"list", _, slot_list_getitem.lookup, ht.isList.typeIs, ?_⟩
  refine wpAny_getItem_list_slice ht.isList hs pl pu .none (by simp) ?_ (by rw [List.size_toArray] <;> omega)
  rw [Nt, ← hlen]
  refine ⟨.ref s.heap.objs.size, _, I.laid (t' := s.toks) (o := .lst (WW xs lo hi)) (fun b ob q => Heap.get?_push_of_some _ q) (Nat.le_refl _) ?_, rfl, q _ (I.hok.fresh (Nat.le_refl _))⟩
  exact ⟨Nat.le_trans (Ro xs lo hi) hz, _, 0, (r.drop (HT.sIx xs.length 0 lo)).take (HT.sIx xs.length xs.length hi - HT.sIx xs.length 0 lo), Heap.get?_push_size _ rfl⟩
noncomputable def Ke : V → Bool
  | .non => true
  | .bl _ => true
  | .int _ => true
  | .str _ => true
  | _ => false
noncomputable def eqV : V → V → Bool
  | .non, .non => true
  | .bl a, .bl b => a == b
  | .bl a, .int b => (if a then 1 else 0) == b
  | .int a, .bl b => a == (if b then 1 else 0)
  | .int a, .int b => a == b
  | .str a, .str b => a == b
  | _, _ => false
theorem AdX {A : Around} {s : Shared} {y x : V} {u v : Value} (ry : RelV y u) (rx : RelV x v) (fy : Ke y = true) (fx : Ke x = true) : SeqAt.EqAt A s u v (eqV y x) := by
  cases y with
  | non =>
    cases ry
    cases x with
    | non => cases rx; exact SeqAt.EqAt.same _
    | bl b => cases rx; exact SeqAt.EqAt.none_bool b
    | int b => obtain ⟨t, rfl⟩ := rx; exact SeqAt.EqAt.none_int b t
    | str b => obtain ⟨t, rfl⟩ := rx; exact SeqAt.EqAt.none_str b t
    | _ => exact absurd (show false = true from fx) Bool.false_ne_true
  | bl a =>
    cases ry
    cases x with
    | non => cases rx; exact SeqAt.EqAt.bool_none a
    | bl b => cases rx; exact SeqAt.EqAt.bool_bool a b
    | int b => obtain ⟨t, rfl⟩ := rx; exact SeqAt.EqAt.bool_int a b t
    | str b => obtain ⟨t, rfl⟩ := rx; exact SeqAt.EqAt.bool_str a b t
    | _ => exact absurd (show false = true from fx) Bool.false_ne_true
  | int a =>
    obtain ⟨t', rfl⟩ := ry
    cases x with
    | non => cases rx; exact SeqAt.EqAt.int_none a t'
    | bl b => cases rx; exact SeqAt.EqAt.int_bool a t' b
    | int b => obtain ⟨t, rfl⟩ := rx; exact SeqAt.EqAt.int_int a t' b t
    | str b => obtain ⟨t, rfl⟩ := rx; exact SeqAt.EqAt.int_str a t' b t
    | _ => exact absurd (show false = true from fx) Bool.false_ne_true
  | str a =>
    obtain ⟨t', rfl⟩ := ry
    cases x with
    | non => cases rx; exact SeqAt.EqAt.str_none a t'
    | bl b => cases rx; exact SeqAt.EqAt.str_bool a t' b
    | int b => obtain ⟨t, rfl⟩ := rx; exact SeqAt.EqAt.str_int a t' b t
    | str b => obtain ⟨t, rfl⟩ := rx; exact SeqAt.EqAt.str_str a t' b t
    | _ => exact absurd (show false = true from fx) Bool.false_ne_true
  | _ => exact absurd (show false = true from fy) Bool.false_ne_true
noncomputable def eqU (x : V) (u : Value) : Bool := match u with
  | .none => eqV .non x
  | .bool b => eqV (.bl b) x
  | .int i _ => eqV (.int i) x
  | .str z _ => eqV (.str z) x
  | _ => false
theorem Xv {x y : V} {u : Value} (r : RelV y u) (f : Ke y = true) : eqU x u = eqV y x := by
  cases y with
  | non => cases r; rfl
  | bl b => cases r; rfl
  | int i => obtain ⟨t, rfl⟩ := r; rfl
  | str z => obtain ⟨t, rfl⟩ := r; rfl
  | _ => exact absurd (show false = true from f) Bool.false_ne_true
theorem O2 {x : V} : ∀ {xs : List V} {us : List Value}, Vals xs us → xs.all Ke = true → us.any (eqU x) = xs.any fun y => eqV y x
  | _, _, .nil, _ => rfl
  | y :: xs, u :: us, .cons r t, f => by
    rw [List.all_cons, Bool.and_eq_true] at f
    rw [List.any_cons, List.any_cons, Xv r f.1, O2 t f.2]
theorem Lx {A : Around} {s : Shared} {x : V} {v : Value} (rx : RelV x v) (fx : Ke x = true) : ∀ {xs : List V} {us : List Value}, Vals xs us → xs.all Ke = true → ∀ u ∈ us, SeqAt.EqAt A s u v (eqU x u)
  | _, _, .nil, _ => fun u hu => by cases hu
  | y :: xs, u :: us, .cons r t, f => fun u' hu => by
    rw [List.all_cons, Bool.and_eq_true] at f
    rcases List.mem_cons.mp hu with rfl | hu
    · rw [Xv r f.1]; exact AdX r rx f.1 fx
    · exact Lx rx fx t f.2 u' hu
noncomputable def inV (x : V) (xs : List V) : Bool := xs.any fun y => eqV y x
noncomputable def rIn (K : PySem.W.Frag) (neg : Bool) : R2 := fun x y H Q => ∃ p xs, y = .ref p ∧ (SqL K H p xs ∨ SqT K H p xs) ∧ Ke x = true ∧ xs.all Ke = true ∧ Q (.bl (if neg then !inV x xs else inV x xs)) H
theorem WR : OpR X (compareOp .In) (rIn X.K false) := by
  intro pins s σ H x y v u Q I rx ry h
  obtain ⟨p, xs, rfl, hq, fx, fs, q⟩ := h
  cases ry
  rcases hq with hq | hq
  · obtain ⟨its, r, pl, hz⟩ := I.list hq
    refine SeqAt.in_listAt (eqU x) pl.isList (fun w hw => Lx rx fx r fs w (by simpa using hw)) ⟨.bl _, H, I, rfl, ?_⟩
    rw [show its.toArray.any (eqU x) = its.any (eqU x) by simp, O2 r fs]
    exact q
  · obtain ⟨its, r, pl, hz⟩ := I.tuple hq
    refine SeqAt.in_tupleAt (eqU x) pl (fun w hw => Lx rx fx r fs w (by simpa using hw)) ⟨.bl _, H, I, rfl, ?_⟩
    rw [show its.toArray.any (eqU x) = its.any (eqU x) by simp, O2 r fs]
    exact q
theorem Pu : Ig X (.builtin "len") (fun xs H Q => ∃ p ys, xs = [.ref p] ∧ (SqL X.K H p ys ∨ SqT X.K H p ys) ∧ Q (.int ys.length) H) := by
  intro pins s σ H xs us Q I r h
  obtain ⟨p, ys, rfl, hq, q⟩ := h
  obtain ⟨u, rfl, rx⟩ := vals1 r
  cases rx
  have hn := Pk
  rcases hq with hq | hq
  · obtain ⟨its, r', pl, hz⟩ := I.list hq
    have hlen := r'.length
    exact Calls.call_len_list pl.isList (by simp only [List.size_toArray] <;> omega) ⟨.int ys.length, H, I.tok _, ⟨s.toks + 1, by rw [List.size_toArray, hlen]⟩, q⟩
  · obtain ⟨its, r', pl, hz⟩ := I.tuple hq
    have hlen := r'.length
    exact len_tuple pl (by simp only [List.size_toArray] <;> omega) ⟨.int ys.length, H, I.tok _, ⟨s.toks + 1, by rw [List.size_toArray, hlen]⟩, q⟩
noncomputable def tyV (K : PySem.W.Frag) (T : String) (x : V) (H : Hp) : Prop := match x with
  | .str _ => T = "str"
  | .int _ => T = "int"
  | .ref p => (T = "list" ∧ ∃ xs, SqL K H p xs) ∨ (T = "tuple" ∧ ∃ o, K.lookup p = some o ∧ o.cls = .type "tuple" ∧ o.dict = none) ∨
      (T = "dict" ∧ ((∃ kvs, H p = some (.dK kvs)) ∨ ∃ kvs, H p = some (.dT kvs))) ∨ (T = "set" ∧ ∃ S n, H p = some (.set S n))
  | _ => False
theorem Aar {pins : List (Addr × Obj)} {σ : St} {H : Hp} {s : Shared} {T : String} {x : V} {v : Value} (I : Inv X pins σ H s) (r : RelV x v) (ty : tyV X.K T x H) :
    s.TypeIs v T ∧ ∀ a, v = .ref a → ∃ ob, s.heap.get? a = some ob ∧ ob.dict = none := by
  cases x with
  | str z =>
    obtain ⟨t, rfl⟩ := r
    cases (show T = "str" from ty)
    exact ⟨typeIs_str s z t, fun _ e => nomatch e⟩
  | int i =>
    obtain ⟨t, rfl⟩ := r
    cases (show T = "int" from ty)
    exact ⟨typeIs_int s i t, fun _ e => nomatch e⟩
  | ref p =>
    cases r
    rcases ty with ⟨rfl, xs, hq⟩ | ⟨rfl, o, hk, hc, hd⟩ | ⟨rfl, hk⟩ | ⟨rfl, S, n, hk⟩
    · obtain ⟨its, _, pl, _⟩ := I.list hq
      refine ⟨pl.isList.typeIs, fun a e => ?_⟩
      cases e
      obtain ⟨o, n, e, c, hd, _⟩ := pl
      exact ⟨o, e, hd⟩
    · refine ⟨⟨o, I.kIn p o hk, hc⟩, fun a e => ?_⟩
      cases e
      exact ⟨o, I.kIn _ o hk, hd⟩
    · have z : ∃ o, s.heap.get? p = some o ∧ o.ExactDict := by
        rcases hk with ⟨kvs, hk⟩ | ⟨kvs, hk⟩
        · obtain ⟨_, _, _, _, o, _, _, e, ex, _⟩ := I.hok p _ hk
          exact ⟨o, e, ex⟩
        · obtain ⟨_, _, _, _, o, _, _, e, ex, _⟩ := I.hok p _ hk
          exact ⟨o, e, ex⟩
      obtain ⟨o, e, ex⟩ := z
      refine ⟨⟨o, e, ex.1⟩, fun a e2 => ?_⟩
      cases e2
      exact ⟨o, e, ex.2.1⟩
    · obtain ⟨o, _, _, _, e, ex, _⟩ := I.hok p _ hk
      refine ⟨⟨o, e, ex.1⟩, fun a e2 => ?_⟩
      cases e2
      exact ⟨o, e, ex.2.1⟩
  | _ => exact False.elim ty
noncomputable def Akw (K : PySem.W.Frag) (T : String) (r : V → List V → Hp → VK → Prop) (to : TE) : TE := fun σ H Q => to σ H fun x H1 => tyV K T x H1 ∧ r x [] H1 Q
noncomputable def tBM (K : PySem.W.Frag) (T : String) (r : V → List V → Hp → VK → Prop) (to : TE) (t : TA) : TE := fun σ H Q => to σ H fun x H1 => tyV K T x H1 ∧ t σ H1 fun xs H2 => r x xs H2 Q
variable {o e : Expr} {es : List Expr} {to : TE} {t : TA} {name : Str} {apos cpos : Pos} {T id : String} {r : V → List V → Hp → VK → Prop}
theorem Afn (pa : PlainAttrs T) (slot : Slot T name id) (hty : typeOf (.builtin id) = pure (.type "method_descriptor")) (hm : MtR X id r) (ho : PE X o to)
    (hbase : attributeBase o name X.env (eval o X.env) = eval o X.env := by rfl) (hline : (apos.endLine == cpos.line) = true := by rfl) : PE X (.Call (.Attribute o name apos) [] [] cpos) (Akw X.K T r to) := by
  intro pins s σ H Q I h
  refine wpAny_Call_method0_late hbase hline (thn (ho pins s σ H _ I h) fun v s1 ⟨x, H1, I1, r1, ty, q1⟩ => ?_)
  obtain ⟨h1, h2⟩ := Aar I1 r1 ty
  exact ⟨T, id, pa, slot, hty, h1, h2, Calls.callWith_builtin rfl (PySem.evalArgs_none (hm pins s1 σ H1 x [] v [] Q I1 r1 .nil q1))⟩
theorem Aiy (pa : PlainAttrs T) (slot : Slot T name id) (hty : typeOf (.builtin id) = pure (.type "method_descriptor")) (hm : MtR X id r) (ho : PE X o to) (ha : PA X (e :: es) t)
    (hbase : attributeBase o name X.env (eval o X.env) = eval o X.env := by rfl)
    (hfew : ((backTo cpos (starEach (e :: es) X.env)).all (fun x => !x.1) && (backToKw cpos (keywordEach [] X.env)).all (fun x => x.1.isSome)
      && decide ((e :: es).length + ([] : List Keyword).length + (if ([] : List Keyword).isEmpty then 0 else 1) < 30)) = true := by rfl)
    (hline : (apos.endLine == cpos.line) = true := by rfl) (hs : starEach (e :: es) X.env = (false, eval e X.env) :: starEach es X.env := by rfl) (hplain : (backTo cpos (starEach es X.env)).any (·.1) = false := by rfl) :
    PE X (.Call (.Attribute o name apos) (e :: es) [] cpos) (tBM X.K T r to t) := by
  intro pins s σ H Q I h
  refine wpAny_Call_method_late hbase hfew hline rfl (thn (ho pins s σ H _ I h) fun v s1 ⟨x, H1, I1, r1, ty, q1⟩ => ?_)
  obtain ⟨h1, h2⟩ := Aar I1 r1 ty
  refine ⟨T, id, pa, slot, hty, h1, h2, ?_⟩
  have hA := ha cpos pins s1 σ H1 _ I1 q1
  rw [hs] at hA ⊢
  refine Calls.callWith_builtin (by show (false || (backTo cpos (starEach es X.env)).any (·.1)) = false; rw [hplain] <;> rfl) (Calls.evalArgs_plain ?_)
  exact thn hA fun us s2 ⟨vs, H2, I2, r2, q2⟩ => hm pins s2 σ H2 x vs v us Q I2 r1 r2 q2
end
end L2
namespace L2
open PySem PySem.Spec PyProof.Rows
noncomputable def MtM (X : Cx) (id : String) (r : V → List V → Hp → VK → Prop) : Prop :=
  ∀ (pins : List (Addr × Obj)) (s : Shared) (σ : St) (H : Hp) (x : V) (xs : List V) (v : Value) (us : List Value) (Q : VK), Inv X pins σ H s → RelV x v → Vals xs us → r x xs H Q →
    wpAny (model X.prog X.w) X.A (call (.builtin id) (v :: us)) (EP X pins σ Q) X.xe s
theorem Vals.one : ∀ {x : V} {us : List Value}, Vals [x] us → ∃ u, us = [u] ∧ RelV x u
  | _, _, .cons r .nil => ⟨_, rfl, r⟩
section
variable {X : Cx} {pins : List (Addr × Obj)} {σ : St} {H : Hp} {s : Shared} {l b : Addr} {xs ys zs : List V}
theorem Inv.lset {its its' : List Value} {n : Nat} {f : Array Value → Array Value} {t' : Nat} (I : Inv X pins σ H s) (hH : H l = some (.lst xs))
    (e : s.heap.get? l = some { cls := .type "list", data := .seq its.toArray n }) (hf : f its.toArray = its'.toArray) (hv : Vals ys its') (hz : ys.length ≤ sizeLine) :
    Inv X pins σ (upd H l (.lst ys)) { s with heap := s.heap.update l (Obj.mapSeq f), toks := t' } := by
  have q := PySem.IsL.update e f
  rw [hf] at q
  refine I.write (x := l) (e := l) (by rw [hH]; exact trivial) (.inl rfl) (fun b' u hb hu => (Heap.get?_update_other s.heap (Obj.mapSeq f) (Ne.symm hb)).trans hu) ⟨_, q⟩ ?_
  exact ⟨hz, its', _, hv, q⟩
theorem Inv.lnew {its : List Value} {t' : Nat} (I : Inv X pins σ H s) (hv : Vals ys its) (hz : ys.length ≤ sizeLine) :
    Inv X pins σ (upd H s.heap.objs.size (.lst ys)) { s with heap := s.heap.push { cls := .type "list", data := .seq its.toArray }, toks := t' } :=
  I.laid (fun _ _ q => Heap.get?_push_of_some _ q) (Nat.le_refl _) ⟨hz, its, 0, hv, Heap.get?_push_size _ rfl⟩
theorem Inv.fresh (I : Inv X pins σ H s) : H s.heap.objs.size = none := I.hok.fresh (Nat.le_refl _)
theorem Inv.lstM (I : Inv X pins σ H s) (hH : H l = some (.lst xs)) : xs.length ≤ sizeLine ∧ ∃ (its : List Value) (n : Nat), Vals xs its ∧ xs.length = its.length ∧ s.heap.get? l = some { cls := .type "list", data := .seq its.toArray n } := by
  obtain ⟨z, its, n, r, e⟩ := I.hok l _ hH
  exact ⟨z, its, n, r, r.length, e⟩
end
section
variable {X : Cx}
noncomputable def Abq : V → List V → Hp → VK → Prop := fun x vs H Q => ∃ l xs y, x = .ref l ∧ vs = [y] ∧ H l = some (.lst xs) ∧ xs.length < sizeLine ∧ Q .non (upd H l (.lst (xs ++ [y])))
theorem NT : MtM X "list.append" Abq := by
  intro pins s σ H x vs v us Q I rx rv h
  obtain ⟨l, xs, y, rfl, rfl, hH, hz, q⟩ := h
  cases rx
  obtain ⟨u, rfl, ru⟩ := rv.one
  obtain ⟨z, its, n, r, hl, e⟩ := I.lstM hH
  refine call_meets F.slot_list_append ⟨_, e, rfl⟩ F.entry_list_append (F.args_list_append_2 _ _) (PySem.list_append l its.toArray n u (by rw [List.size_toArray]; omega)) ⟨e, ?_⟩
  refine ⟨.non, _, I.lset (its' := its ++ [u]) hH e (by simp) (r.append (.cons ru .nil)) ?_, rfl, q⟩
  rw [List.length_append, List.length_singleton]
  omega
end
section
variable {prog : Program} {w : World} {A : Around} {E : Value → Shared → Prop} {s : Shared}
set_option maxRecDepth 100000 in
end
section
variable {X : Cx}
end
end L2
namespace Att
open PySem PySem.W PySem.Calls PyProof.Rows
theorem Ky {P : Params} {h : Heap} : ∀ (ns : List Int) (vs : List Value), WellAll P h vs (ns.map WData.int) → IntsAre vs ns := by
  intro ns
  induction ns with
  | nil =>
    intro vs w
    rw [List.map_nil] at w
    cases w
    exact .nil
  | cons n ns ih =>
    intro vs w
    rw [List.map_cons] at w
    cases w with
    | cons a b =>
      cases a
      exact .cons _ _ (ih _ b)
theorem WM {l : OpenLaw} {n : Nat} (hn : l.most = some n) {P : Params} {h : Heap} {args : List WData} {vals : List Value}
    (hpre : l.row.toRowW.claim.pre args = true) (hwl : WellAll P h vals args) :
    ∃ a vs ns, vals = [Value.ref a] ∧ args = [WData.list (ns.map WData.int)] ∧ h.get? a = some { cls := .type "list", data := .seq vs.toArray } ∧ IntsAre vs ns ∧ ns.length ≤ n := by
  have hsh : WShape.hasAll [] args [.list .int] = true := (pre_splitW hpre).1
  have hc : l.pre.holds [] { args := args } = true := (pre_splitW hpre).2
  obtain ⟨d, r, rfl, h1, h2⟩ := hasAllW_cons hsh
  obtain rfl := hasAllW_nil h2
  obtain ⟨xs, rfl, h3⟩ := hasW_list h1
  obtain ⟨ns, rfl⟩ := items_int h3
  have hlen : ns.length ≤ n := by
    unfold OpenLaw.pre at hc
    have h4 : (WTm.not (.lt (.lit (.int (n : Int))) (.len (.arg 0)))).holds [] { args := [.list (ns.map .int)] } = true := by
      have h4 := (holds_andW hc).1
      rw [hn] at h4
      exact h4
    have h5 := condW_of h4 (w_not (w_lt w_lit (w_len_list (w_arg rfl))))
    rw [List.length_map] at h5
    refine Nat.le_of_not_lt fun q => ?_
    have q' : (n : Int) < ((ns.length : Nat) : Int) := by omega
    first
      | (rw [decide_eq_true q'] at h5; exact absurd h5 (by decide))
      | (simp at h5; omega)
  cases hwl with
  | cons w1 w2 =>
    cases w2
    cases w1 with
    | list ho hall => exact ⟨_, _, ns, rfl, rfl, ho, Ky ns _ hall, hlen⟩
theorem Xk (l : OpenLaw) (args : List WData) : l.row.toRowW.claim.post args (.bool true) args = true :=
  postW_of (r := l.row.toRowW) (X := (true == true))
    (show WShape.has [] (.bool true) .bool = true by first | rfl | decide | simp [WShape.has, WShape.arms, WShape.armsAll])
    (show (WTm.eq .res (.lit (.bool true))).value [] { args := args, res := some (.bool true), after := args } = some (.bool (true == true)) from w_eq_bool (w_res rfl) w_lit) rfl
section
variable {prog : Program} {w : World} {A : Around} {E : Value → Shared → Prop} {s : Shared} {K : Frag}
noncomputable def ledger (h : Heap) (L d : Addr) : List (Addr × Obj) := (List.range h.objs.size).filterMap fun a => if a = L ∨ a = d then none else (h.get? a).map fun o => (a, o)
end
end Att
namespace L2
open PySem PySem.Spec PyProof.Rows
theorem Oe : ∀ {vs : List Value} {ns : List Int}, IntsAre vs ns → Vals (ns.map V.int) vs
  | _, _, .nil => .nil
  | _, _, .cons n t h => .cons ⟨t, rfl⟩ (Oe h)
noncomputable def Only (H : Hp) : Prop := ∀ b, H b = none ∨ ∃ o xs, H b = some (.frz o (.lst xs))
theorem AaE {P : Program} {w : World} {K : PySem.W.Frag} {mg mb : Str → Option Value} {CX : CXT} {k : Nat} {fa a : Addr} {fd : FuncData} {x : Str} {sp : Sp} {s₁ : Shared} {vs : List Value} {ns : List Int}
    (KX : K.In s₁.heap) (hns : s₁.heap.Ns mainGlobals mg) (hb : s₁.heap.Ns builtinsNs mb) (hbb : ∀ x : Str, x ≠ "__name__" → mb x = bootBuiltins x) (hlim : s₁.heap.NoLimit) (hg : s₁.gens = #[])
    (ha : s₁.heap.get? a = some { cls := .type "list", data := .seq vs.toArray }) (hi : IntsAre vs ns) (hl : ns.length ≤ sizeLine) (hr : CN k callerA)
    (F : ∀ base : Heap, K.In base → base.Ns mainGlobals mg → Dl P w K mg base CX k fa fd [x] sp) (hbind : ∀ (s : Shared) (u : Value), BindsTo s fd ⟨[u], []⟩ [(x, u)])
    (hsp : ∀ H : Hp, Only H → SqL K H a (ns.map V.int) → sp [.ref a] H (fun v _ => v = .bl true) fun _ _ _ => False)
    (hCX : ∀ H e s', CX [] H s₁ (fun _ _ _ => False) e s' → False) :
    codeAny (model P w) callerA (.call (.ref fa) ⟨[.ref a], []⟩) (fun r s' => r = .ok (.ret (.bool true)) ∧ OldK s₁.heap s'.heap ∧ s'.os = s₁.os ∧ AllBare s'.gens) s₁ := by
  have rv := Oe hi
  have lenV := hi.length
  have core : ∀ H : Hp, Only H → SqL K H a (ns.map V.int) → HOk P w H s₁.heap → (∀ b, H b ≠ none → b = a) → (H a ≠ none → K.lookup a = none) →
      codeAny (model P w) callerA (.call (.ref fa) ⟨[.ref a], []⟩) (fun r s' => r = .ok (.ret (.bool true)) ∧ OldK s₁.heap s'.heap ∧ s'.os = s₁.os ∧ AllBare s'.gens) s₁ := by
    intro H hO hS hok hA hK
    have base_of : ∀ {b : Addr} {o : Obj}, s₁.heap.get? b = some o → H b = none → (Qi s₁.heap H).get? b = some o := fun e n => Yx e n
    have noA : ∀ {b : Addr} {o : Obj} {es : Array DictEntry} {ep : Nat}, s₁.heap.get? b = some o → o.data = .dict es ep → H b = none := fun {b o es ep} e d => by
      cases q : H b with
      | none => rfl
      | some u =>
        have e' : b = a := hA b (by rw [q]; simp)
        subst e'
        rw [ha] at e; cases e
        have d' : Data.seq vs.toArray _ = Data.dict es ep := d
        cases d'
    have nsK : ∀ {b : Addr} {m : Str → Option Value}, s₁.heap.Ns b m → (Qi s₁.heap H).Ns b m := fun {b m} ⟨o, es, ep, e, d, r⟩ => ⟨o, es, ep, base_of e (noA e d), d, r⟩
    have hKb : K.In (Qi s₁.heap H) := fun b o e => base_of (KX b o e) (by
      cases q : H b with
      | none => rfl
      | some u =>
        have e' : b = a := hA b (by rw [q]; simp)
        subst e'
        rw [hK (by rw [q]; simp)] at e; cases e)
    have hM : Mod K mg (Qi s₁.heap H) := ⟨hKb, nsK hns, ⟨mb, nsK hb, hbb⟩, let ⟨mc, h1, h2⟩ := hlim; ⟨mc, nsK h1, h2⟩⟩
    have e0 : Sh P w K mg (Qi s₁.heap H) callerA [] s₁ H := ⟨rfl, hM, fun b o e => Abe e, Nat.le_of_eq (WQ _ _), trivial, fun b hb => absurd (show b ∈ ([] : List Addr) from hb) (by simp), hok, .of_eq hg⟩
    refine codeAny_mono ((F _ hKb (nsK hns)).run callerA [] s₁ H ⟨[.ref a], []⟩ [.ref a] [.ref a] _ _ hr e0 (hbind s₁ (.ref a)) (.cons rfl .nil) (hsp H hO hS)) fun r s' h => ?_
    cases r with
    | error e => exact (hCX H e s' h).elim
    | ok fl =>
      cases fl with
      | next => exact False.elim h
      | brk => exact False.elim h
      | cont => exact False.elim h
      | ret u =>
        obtain ⟨v, H', os, bare, un, hok', r', q⟩ := h
        have q' : v = .bl true := q
        subst q'
        obtain rfl : u = Value.bool true := r'
        refine ⟨rfl, OldK.of_keep fun b o e => ?_, os, bare⟩
        cases q : H b with
        | none => exact un.keep b o e q (by intro z; exact absurd (show b ∈ ([] : List Addr) from z) (by simp)) (by simp)
        | some u =>
          rcases hO b with z | ⟨ob, xs, z⟩
          · rw [q] at z; cases z
          · have z2 := un.frzs b ob _ z
            obtain ⟨e1, _⟩ := hok b _ z
            obtain ⟨e2, _⟩ := hok' b _ z2
            rw [e] at e1; cases e1
            exact e2
  cases hk : K.lookup a with
  | some o =>
    have e := KX a o hk
    rw [ha] at e
    cases e
    refine core (fun _ => none) (fun _ => .inl rfl) (.inr ⟨_, vs.toArray, _, hk, rfl, rfl, rfl, by rw [List.size_toArray, lenV]; exact hl, by simpa using rv⟩) (fun b u z => by have z' : (none : Option HO) = some u := z; cases z') (fun b z => absurd rfl z) fun z => absurd rfl z
  | none =>
    refine core (fun b => if b = a then some (.frz { cls := .type "list", data := .seq vs.toArray } (.lst (ns.map V.int))) else none) (fun b => ?_) (.inl (.inr ⟨{ cls := .type "list", data := .seq vs.toArray }, if_pos rfl⟩)) (fun b u z => ?_) (fun b z => ?_) fun _ => hk
    · by_cases hb : b = a
      · exact .inr ⟨_, _, if_pos hb⟩
      · exact .inl (if_neg hb)
    · by_cases hb : b = a
      · have z' := (if_pos hb).symm.trans z
        cases z'
        subst hb
        exact ⟨ha, by rw [List.length_map]; exact hl, vs, _, rv, ha⟩
      · have z' := (if_neg hb).symm.trans z
        cases z'
    · by_cases hb : b = a
      · exact hb
      · exact absurd (if_neg hb) z
end L2
namespace L2
open PySem PySem.Spec PyProof.Rows
noncomputable abbrev KOf {K : PySem.W.Frag} {h : Heap} (_ : K.In h) : PySem.W.Frag := K
end L2
namespace L2
open PySem PySem.Spec PyProof.Rows
noncomputable def inClass (s : Stmt) (j : Nat) : Stmt := match s with
  | .ClassDef _ _ _ body _ _ _ _ _ _ _ => body.getD j (.Pass ⟨0, 0, 0, 0⟩)
  | _ => .Pass ⟨0, 0, 0, 0⟩
noncomputable def CT (s : Stmt) : Arguments := match s with
  | .FunctionDef _ a _ _ _ _ _ _ _ _ => a
  | _ => { posonlyargs := [], args := [], vararg := none, kwonlyargs := [], kw_defaults := [], kwarg := none, defaults := [] }
noncomputable def BZ (s : Stmt) : List Stmt := match s with
  | .FunctionDef _ _ b _ _ _ _ _ _ _ => b
  | _ => []
noncomputable def Ag (s : Stmt) : Scope := match s with
  | .FunctionDef _ _ _ _ _ _ sc _ _ _ => sc
  | _ => { kind := .function, names := [], isGenerator := false, isCoroutine := false }
noncomputable abbrev CX0 : CXT := fun _ _ _ _ _ _ => False
noncomputable abbrev E0 : XK := fun _ _ _ => False
theorem QX {X : Cx} : Passes CX0 X E0 := fun _ _ _ _ _ _ _ h => h.elim
structure Fun (K : PySem.W.Frag) (x qual : Str) (st : Stmt) (f : Addr) (fd : FuncData) : Prop where
  ex : ∃ (oc : Value) (od : Option Addr) (kV doc pm : Value) (an : Option Addr) (cdv ct : Value) (osl : Array (Option Value)),
    fd = PySem.W.fnOf x qual (CT st) (BZ st) (Ag st) .none kV doc pm an cdv ct ∧ K.lookup f = some ⟨oc, od, .func fd, osl⟩ ∧ PySem.W.codeIn K cdv qual = true
  kp : PySem.W.keepIn K (.ref f) = true
section
variable {P : Program} {w : World} {K : PySem.W.Frag} {mg : Str → Option Value} {base : Heap}
theorem Fun.ok {x qual : Str} {st : Stmt} {f : Addr} {fd : FuncData} {N ps : List Str} {k : Nat} {sp : Sp} (F : Fun K x qual st f fd) (S : Am N ps (Ag st)) (len : ∀ vs H Q E, sp vs H Q E → vs.length = ps.length)
    (hbody : ∀ (cdv : Value) (A : Around) (outer : List Env) (s : Shared) (H : Hp) (vs : List V) (Q : VK) (E : XK), CN k (A.deeper (envOfC qual (Ag st) s.heap.objs.size f cdv)) → sp vs H Q E →
      ∃ t, PSs (Pj CX0 P w K mg base N qual (Ag st) f cdv A outer s H E).nox (BZ st) t ∧ t { nx := fun _ H' => Q .non H', rt := Q } (start N vs) H) : Dl P w K mg base CX0 (k + 1) f fd ps sp := by
  obtain ⟨oc, od, kV, doc, pm, an, cdv, ct, osl, rfl, lk, hcd⟩ := F.ex
  refine Adh lk hcd S len fun A outer s H vs Q E hr hsp => ?_
  obtain ⟨t, h, q⟩ := hbody cdv A outer s H vs Q E hr hsp
  exact ⟨t, h.nox, q⟩
theorem Fun.binds {x qual : Str} {st : Stmt} {f : Addr} {fd : FuncData} {ps : List Str} (F : Fun K x qual st f fd)
    (h : ∀ (kV doc pm : Value) (an : Option Addr) (cdv ct : Value) (us : List Value), us.length = ps.length → bindArgs (PySem.W.fnOf x qual (CT st) (BZ st) (Ag st) .none kV doc pm an cdv ct) ⟨us, []⟩ = pure (ps.zip us)) : Binds K fd ps [] := by
  obtain ⟨oc, od, kV, doc, pm, an, cdv, ct, osl, rfl, lk, hcd⟩ := F.ex
  exact .all (h kV doc pm an cdv ct)
theorem HF {x qual : Str} {st : Stmt} {f : Addr} {oc : Value} {od an : Option Addr} {osl : Array (Option Value)} {kV doc pm cdv ct : Value} (l : K.lookup f = some ⟨oc, od, .func (PySem.W.fnOf x qual (CT st) (BZ st) (Ag st) .none kV doc pm an cdv ct), osl⟩)
    (c : PySem.W.codeIn K cdv qual = true) (k : PySem.W.keepIn K (.ref f) = true) : Fun K x qual st f (PySem.W.fnOf x qual (CT st) (BZ st) (Ag st) .none kV doc pm an cdv ct) := ⟨⟨oc, od, kV, doc, pm, an, cdv, ct, osl, rfl, l, c⟩, k⟩
end
theorem Ot {n : Nat} (h : n ≤ 1000) : n < sizeLine := Nat.lt_of_le_of_lt h (by decide)
section
variable {X : Cx}
theorem pv (i : Nat) {x : Str} {pos : Pos} (hN : X.N[i]? = some x := by rfl) (hv : Vis X.env.scope x := by first | exact Or.inl rfl | exact Or.inr (Or.inl rfl) | exact Or.inr (Or.inr rfl)) (hd : (x == ("__debug__" : Str)) = false := by decide)
    (hcd : (x == ("__classdict__" : Str)) = false := by decide) : PE X (.Name x pos) (AiX i) := Jd hN hv hd hcd
end
theorem Hh {c A B : Prop} [Decidable c] (h1 : c → A) (h2 : ¬ c → B) : if c then A else B := by
  by_cases h : c
  · rw [if_pos h]
    exact h1 h
  · rw [if_neg h]
    exact h2 h
noncomputable def Same (H H' : Hp) : Prop := ∀ b o, H b = some o → H' b = some o
theorem Same.refl (H : Hp) : Same H H := fun _ _ h => h
theorem Same.trans {H H1 H2 : Hp} (a : Same H H1) (b : Same H1 H2) : Same H H2 := fun c o h => b c o (a c o h)
theorem Same.seq {K : PySem.W.Frag} {H H' : Hp} {a : Addr} {xs : List V} (e : Same H H') (h : SqL K H a xs) : SqL K H' a xs := by
  rcases h with (h | ⟨o, h⟩) | h
  · exact .inl (.inl (e _ _ h))
  · exact .inl (.inr ⟨o, e _ _ h⟩)
  · exact .inr h
end L2
namespace L2
open PySem PySem.Spec PyProof.Rows
noncomputable def tbO (T : Addr) (h : Heap) : Prop := ∃ o ts, h.get? T = some o ∧ o.data = .fields ts ∧ ts[3]? = some .none
noncomputable def exO (a C dx : Addr) (h : Heap) : Prop := ∃ o vs, h.get? a = some o ∧ o.cls = .ref C ∧ o.dict = some dx ∧ o.data = .fields vs ∧ dx ≠ a
theorem Lk {T : Addr} (h1 h2 : Heap) (x : tbO T h1) (k : ∀ o, h1.get? T = some o → h2.get? T = some o) : tbO T h2 :=
  let ⟨o, ts, e, r⟩ := x; ⟨o, ts, k o e, r⟩
theorem Yw {a C dx : Addr} (h1 h2 : Heap) (x : exO a C dx h1) (k : ∀ o, h1.get? a = some o → h2.get? a = some o) : exO a C dx h2 :=
  let ⟨o, vs, e, r⟩ := x; ⟨o, vs, k o e, r⟩
noncomputable def Gj (h : Heap) (H : Hp) (a : Addr) : Prop := ∃ o vs, h.get? a = some o ∧ o.data = .fields vs ∧ (vs[1]? = some .none ∨ ∃ T, vs[1]? = some (.ref T) ∧ T ≠ a ∧ H T = some (.ext (tbO T)))
section
variable {M : Model} {A : Around} {E : Value → Shared → Prop} {s : Shared} {base : Heap} {env : Env} {outer : List Env} {L e : Addr}
structure V6 (fs : List Addr) (e : Addr) (old : Option Addr) (oe : Obj) (h h' : Heap) : Prop where
  keep : ∀ b o, b ∉ fs → b ≠ e → old ≠ some b → h.get? b = some o → h'.get? b = some o
  slot : ∀ b o, b ≠ e → old ≠ some b → h.get? b = some o → ∃ sl, h'.get? b = some { o with slots := sl }
  exc : ∃ vs T, h'.get? e = some { oe with data := .fields vs } ∧ vs[1]? = some (.ref T) ∧ T ≠ e ∧ h.objs.size ≤ T ∧ tbO T h'
  old : ∀ b, old = some b → tbO b h'
theorem Ul {oe : Obj} {vs : Array Value} {head : Value} {hadNext : Bool} {Q : Unit → Shared → Prop} (fr : A.frames = some (env :: outer)) (ff : s.heap.FunFrames base (env :: outer)) (ef : env.frame = some L)
    (oe_at : s.heap.get? e = some oe) (od : oe.data = .fields vs) (z : 1 < vs.size)
    (q : ∀ h', V6 (frs (env :: outer)) e none oe s.heap h' → Q () { s with heap := h' }) :
    wpAny M A (frameOf env >>= fun a => entryPlaceOf L hadNext >>= fun pl => EntryCells.newEntry head a .none (rawInt L) .none pl >>= fun b => setField (.ref e) 1 b)
      (fun _ s' => wpAny M A (setFlight (.ref e) none) Q E s') E s := by
  have ne : e ∉ frs (env :: outer) := fun hm => by
    obtain ⟨_, o, ho, hnf⟩ := ff.mem hm
    rw [oe_at] at ho; cases ho; exact hnf vs od
  refine wpAny_bind (wpAny_frameOf_fun fr ff ef fun h₁ sl₁ => wpAny_bind (wpAny_entryPlaceOf fun pl hpl => ?_))
  unfold EntryCells.newEntry newFields
  refine wpAny_bind (wpAny_newObj_type ?_ (hpl.sizeOk5 _ _ _ _ _))
  generalize hob : ({ cls := .type "traceback", dict := none, data := .fields ([head, .ref L, .none, rawInt L, .none] ++ (if pl.isEmpty then List.replicate 6 Value.none else pl)).toArray } : Obj) = ob
  have obd : ∃ ts : Array Value, ob.data = .fields ts ∧ 3 < ts.size := ⟨_, by rw [← hob], by simp only [List.size_toArray, List.length_append, List.length_cons, List.length_nil]; omega⟩
  obtain ⟨ts, obd, tz⟩ := obd
  have e₁ : h₁.get? e = some oe := (sl₁.2.1 e ne).trans oe_at
  have e₂ : (h₁.push ob).get? e = some oe := Heap.get?_push_of_some ob e₁
  refine wpAny_setField e₂ od z ?_
  have Te : h₁.objs.size ≠ e := Nat.ne_of_gt (Heap.lt_size e₁)
  have d₃ := Obj.data_mapFields od (·.setIfInBounds 1 (Value.ref h₁.objs.size))
  have e₃ := Heap.get?_update_self (Obj.mapFields (·.setIfInBounds 1 (Value.ref h₁.objs.size))) e₂ (Obj.isFreed_of_fields d₃)
  have t₂ : (h₁.push ob).get? h₁.objs.size = some ob := Heap.get?_push_size h₁ (Obj.isFreed_of_fields obd)
  have t₃ := (Heap.get?_update_other (h₁.push ob) (Obj.mapFields (·.setIfInBounds 1 (Value.ref h₁.objs.size))) (Ne.symm Te)).trans t₂
  unfold setFlight
  refine wpAny_bind (wpAny_field e₃ d₃ (x := .ref h₁.objs.size) (by simp [z]) ?_)
  rw [if_pos (by simp)]
  refine wpAny_setField t₃ obd tz (q _ ?_)
  have kk : ∀ b o, b ≠ e → h₁.get? b = some o → (((h₁.push ob).update e (Obj.mapFields (·.setIfInBounds 1 (Value.ref h₁.objs.size)))).update h₁.objs.size (Obj.mapFields (·.setIfInBounds 3 ((none : Option Addr).elim Value.none fun f => rawInt f)))).get? b = some o := by
    intro b o nb hb
    rw [Heap.get?_update_other _ _ (Nat.ne_of_gt (Heap.lt_size hb)), Heap.get?_update_other _ _ (Ne.symm nb)]
    exact Heap.get?_push_of_some ob hb
  refine ⟨fun b o nf nb _ hb => kk b o nb ((sl₁.2.1 b nf).trans hb), fun b o nb _ hb => ?_, ⟨vs.setIfInBounds 1 (Value.ref h₁.objs.size), h₁.objs.size, ?_, by simp [z], Te, by rw [sl₁.1]; exact Nat.le_refl _, ?_⟩, fun b z => by cases z⟩
  · obtain ⟨sl, hs⟩ := sl₁.2.2 b o hb
    exact ⟨sl, kk b _ nb hs⟩
  · rw [Heap.get?_update_other _ _ Te, e₃]
    obtain ⟨c, d, dt, sl⟩ := oe
    cases od
    rfl
  · exact ⟨_, _, Heap.get?_update_self _ t₃ (Obj.isFreed_of_fields (Obj.data_mapFields obd _)), Obj.data_mapFields obd _, by simp [tz]⟩
theorem fly {oe : Obj} {vs : Array Value} {old : Option Addr} {Q : Unit → Shared → Prop} (fr : A.frames = some (env :: outer)) (ff : s.heap.FunFrames base (env :: outer)) (ef : env.frame = some L)
    (oe_at : s.heap.get? e = some oe) (od : oe.data = .fields vs) (ht : vs[1]? = some (old.elim .none .ref)) (ho : ∀ T, old = some T → T ≠ e ∧ tbO T s.heap)
    (q : ∀ h', V6 (frs (env :: outer)) e old oe s.heap h' → Q () { s with heap := h' }) :
    wpAny M A (noteFrame (.ref e) env) (fun _ s' => wpAny M A (setFlight (.ref e) none) Q E s') E s := by
  have z : 1 < vs.size := (Array.getElem?_eq_some_iff.mp ht).1
  unfold noteFrame
  simp only [ef]
  refine wpAny_bind (wpAny_field oe_at od ht ?_)
  cases old with
  | none =>
    rw [if_neg (by simp)]
    exact Ul fr ff ef oe_at od z q
  | some T =>
    obtain ⟨Te, oT, ts, hT, dT, h3⟩ := ho T rfl
    rw [if_pos (by simp)]
    refine wpAny_bind (wpAny_field hT dT h3 ?_)
    rw [if_neg (by simp [rawInt])]
    have tz : 3 < ts.size := (Array.getElem?_eq_some_iff.mp h3).1
    refine wpAny_bind (wpAny_setField hT dT tz ?_)
    have oth : ∀ b, b ≠ T → (s.heap.update T (Obj.mapFields (·.setIfInBounds 3 Value.none))).get? b = s.heap.get? b := fun b hb => Heap.get?_update_other _ _ (Ne.symm hb)
    have dT' := Obj.data_mapFields dT (·.setIfInBounds 3 Value.none)
    have hT' := Heap.get?_update_self (Obj.mapFields (·.setIfInBounds 3 Value.none)) hT (Obj.isFreed_of_fields dT')
    have nT : T ∉ frs (env :: outer) := fun hm => by
      obtain ⟨_, o, ho, hnf⟩ := ff.mem hm
      rw [hT] at ho; cases ho; exact hnf ts dT
    refine Ul (s := { s with heap := s.heap.update T (Obj.mapFields (·.setIfInBounds 3 Value.none)) }) fr (ff.of_keeps fun b o hb hnf => ⟨o, (oth b fun w => by subst w; rw [hT] at hb; cases hb; exact hnf ts dT).trans hb, rfl⟩) ef ((oth e (Ne.symm Te)).trans oe_at) od z fun h' F => q h' ?_
    obtain ⟨vs', T', x1, x2, x3, x4, x5⟩ := F.exc
    refine ⟨fun b o nf nb no hb => F.keep b o nf nb (by simp) ((oth b fun w => no (by rw [w])).trans hb), fun b o nb no hb => F.slot b o nb (by simp) ((oth b fun w => no (by rw [w])).trans hb), ⟨vs', T', x1, x2, x3, ?_, x5⟩, fun b w => ?_⟩
    · simpa [Heap.size_update] using x4
    · cases w
      exact ⟨_, _, F.keep T _ nT Te (by simp) hT', dT', by simp [tz]⟩
end
section
variable {P : Program} {w : World} {H : Hp} {h h' : Heap} {fs : List Addr} {e : Addr} {oe : Obj} {vs : Array Value} {old : Option Addr} {φ : Heap → Prop}
theorem V6.held (F : V6 fs e old oe h h') (oe_at : h.get? e = some oe) (hok : HOk P w H h) (ff : ∀ b ∈ fs, H b = none) (He : H e = some (.ext φ)) (hφ : ∀ h1 h2 : Heap, (∀ o vs, h1.get? e = some o → h2.get? e = some { o with data := .fields vs } → φ h1 → φ h2))
    (ho : ∀ T, old = some T → H T = some (.ext (tbO T))) :
    ∃ H', Same H H' ∧ Un fs [] H H' h h' ∧ HOk P w H' h' ∧ Gj h' H' e := by
  obtain ⟨vs', T, x1, x2, x3, x4, x5⟩ := F.exc
  have nT : H T = none := hok.fresh x4
  have eT : ∀ b, old = some b → b ≠ T := fun b w z => by
    have := ho b w
    rw [z, nT] at this; cases this
  have hs : Same H (upd H T (.ext (tbO T))) := fun b o q => by rw [Av (Bk q nT)]; exact q
  have tr : ∀ b o, H b = none → h.get? b = some o → b ≠ e ∧ old ≠ some b := fun b o n q => ⟨fun z => (by rw [z, He] at n; cases n), fun z => (by rw [ho b z] at n; cases n)⟩
  refine ⟨upd H T (.ext (tbO T)), hs, ⟨fun b o q n nf _ => F.keep b o nf (tr b o n q).1 (tr b o n q).2 q, fun b o q n _ _ => F.slot b o (tr b o n q).1 (tr b o n q).2 q, fun b o q n _ => ?_, fun b o q _ => ?_, fun b xs q => hs b _ q, fun b o u q => hs b _ q, fun b ps q => ⟨#[], by rw [hs b _ q]; simp⟩⟩, fun b u q => ?_, ⟨_, vs', x1, rfl, .inr ⟨T, x2, x3, Bb⟩⟩⟩
  · rw [Av]
    · exact n
    · intro z; rw [z, Heap.get?_none_of_le x4] at q; cases q
  · by_cases z : b = e
    · exact ⟨_, by rw [z]; exact x1⟩
    · by_cases z' : old = some b
      · obtain ⟨o', _, k, _⟩ := F.old b z'; exact ⟨o', k⟩
      · obtain ⟨sl, k⟩ := F.slot b o z z' q; exact ⟨_, k⟩
  · by_cases z : b = T
    · subst z
      rw [Bb] at q; cases q
      exact ⟨x5, let ⟨o, _, k, _⟩ := x5; ⟨o, k⟩, Lk⟩
    · rw [Av z] at q
      by_cases z1 : b = e
      · subst z1
        rw [He] at q; cases q
        obtain ⟨p1, _, p3⟩ := hok b _ He
        exact ⟨hφ h h' oe vs' oe_at x1 p1, ⟨_, x1⟩, p3⟩
      · by_cases z2 : old = some b
        · rw [ho b z2] at q; cases q
          have k := F.old b z2
          exact ⟨k, let ⟨o, _, k, _⟩ := k; ⟨o, k⟩, Lk⟩
        · refine (hok b u q).stay (fun c v hc r => ?_) (fun c r => hs c _ r) fun c xs r => hs c _ r
          have nf : c ∉ fs := fun m => by
            have := ff c m
            rcases hc with rfl | hc
            · rw [q] at this; cases this
            · rw [hc] at this; cases this
          refine F.keep c v nf ?_ ?_ r
          · rintro rfl
            rcases hc with rfl | hc
            · exact z1 rfl
            · rw [He] at hc; cases hc
          · intro m
            rcases hc with rfl | hc
            · exact z2 m
            · rw [ho c m] at hc; cases hc
end
theorem SJ {a C dx : Addr} (h1 h2 : Heap) (o : Obj) (vs : Array Value) (e1 : h1.get? a = some o) (e2 : h2.get? a = some { o with data := .fields vs }) (x : exO a C dx h1) : exO a C dx h2 := by
  obtain ⟨o', vs', q, r1, r2, r3, r4⟩ := x
  rw [e1] at q; cases q
  exact ⟨_, vs, e2, r1, r2, rfl, r4⟩
end L2
namespace L2
open PySem PySem.Spec PyProof.Rows
noncomputable def Exc (H : Hp) (a : Addr) : Prop := ∃ C dx, H a = some (.ext (exO a C dx))
theorem Exc.same {H H' : Hp} {a : Addr} (x : Exc H a) (s : Same H H') : Exc H' a := let ⟨C, dx, e⟩ := x; ⟨C, dx, s _ _ e⟩
noncomputable def CXe (P : Program) (w : World) : CXT := fun outer H s E e s' =>
  ∃ a H', e = .ref a ∧ s'.os = s.os ∧ AllBare s'.gens ∧ Un (frs outer) [] H H' s.heap s'.heap ∧ HOk P w H' s'.heap ∧ Gj s'.heap H' a ∧ Exc H' a ∧ E (.ref a) none H'
noncomputable def S8 (X : Cx) (σ : St) (a : Addr) (H : Hp) : Prop := ∀ (pins : List (Addr × Obj)) (s : Shared), Inv X pins σ H s → Gj s.heap H a → Exc H a → X.xe (.ref a) s
section
variable {X : Cx} {pins : List (Addr × Obj)} {σ : St} {H : Hp} {s : Shared} {a : Addr} {E : Value → Shared → Prop} {Q : Unit → Shared → Prop}
theorem Adl (I : Inv X pins σ H s) (hst : X.stack = X.env :: X.outer) (hfr : X.env.frame = some X.env.locals) (fl : Gj s.heap H a) (ex : Exc H a)
    (q : ∀ H' h', Same H H' → Un (frs X.stack) [] H H' s.heap h' → HOk X.prog X.w H' h' → Gj h' H' a → Q () { s with heap := h' }) :
    wpAny (model X.prog X.w) X.A (noteFrame (.ref a) X.env) (fun _ s' => wpAny (model X.prog X.w) X.A (setFlight (.ref a) none) Q E s') E s := by
  obtain ⟨o, vs, e1, e2, e3⟩ := fl
  obtain ⟨C, dx, He⟩ := ex
  have ff := I.stack
  have fr := I.ok.frames
  rw [hst] at ff fr
  have key : ∀ old : Option Addr, vs[1]? = some (old.elim .none .ref) → (∀ T, old = some T → T ≠ a ∧ H T = some (.ext (tbO T))) →
      wpAny (model X.prog X.w) X.A (noteFrame (.ref a) X.env) (fun _ s' => wpAny (model X.prog X.w) X.A (setFlight (.ref a) none) Q E s') E s := by
    intro old h1 h2
    refine fly fr ff hfr e1 e2 h1 (fun T z => ⟨(h2 T z).1, (I.hok T _ (h2 T z).2).1⟩) fun h' F => ?_
    obtain ⟨H', y1, y2, y3, y4⟩ := F.held e1 I.hok (fun b hb => I.stkFree b (by rw [hst]; exact hb)) He (fun h1 h2 o vs x1 x2 x3 => SJ h1 h2 o vs x1 x2 x3) fun T z => (h2 T z).2
    exact q H' h' y1 (by rw [hst]; exact y2) y3 y4
  rcases e3 with e3 | ⟨T, e3, e4, e5⟩
  · exact key none e3 fun _ z => by cases z
  · exact key (some T) e3 fun _ z => by cases z; exact ⟨e4, e5⟩
theorem lands (I : Inv X pins σ H s) (hst : X.stack = X.env :: X.outer) (hfr : X.env.frame = some X.env.locals) (fl : Gj s.heap H a) (ex : Exc H a)
    (q : ∀ H' s', Same H H' → Inv X pins σ H' s' → Gj s'.heap H' a → Q () s') :
    wpAny (model X.prog X.w) X.A (noteFrame (.ref a) X.env) (fun _ s' => wpAny (model X.prog X.w) X.A (setFlight (.ref a) none) Q E s') E s :=
  Adl I hst hfr fl ex fun H' h' y1 y2 y3 y4 => q H' _ y1 (I.call (t' := s.toks) (g' := s.gens) (d' := s.drawn) (ch := []) y2 y3 I.bare fun b z => absurd z (by simp)) y4
theorem leaves (I : Inv X pins σ H s) (hst : X.stack = X.env :: X.outer) (hfr : X.env.frame = some X.env.locals) (hx : X.ex = []) (fl : Gj s.heap H a) (ex : Exc H a)
    (q : ∀ H' s', s'.os = X.s₀.os → AllBare s'.gens → Same H H' → Un (frs X.outer) [] X.H₀ H' X.s₀.heap s'.heap → HOk X.prog X.w H' s'.heap → Gj s'.heap H' a → Exc H' a → Q () s') :
    wpAny (model X.prog X.w) X.A (leaving X.env (.ref a)) Q E s := by
  refine wpAny_bind (Adl I hst hfr fl ex fun H' h' y1 y2 y3 y4 => q H' _ I.os I.bare y1 ?_ y3 y4 (ex.same y1))
  have b := I.base
  rw [hx] at b
  have nl : ∀ c o, X.s₀.heap.get? c = some o → c ≠ X.env.locals := fun c o e => Nat.ne_of_lt (Nat.lt_of_lt_of_le (Heap.lt_size e) I.ok.above)
  have nf : ∀ c o, X.s₀.heap.get? c = some o → c ∉ frs X.outer → c ∉ frs X.stack := fun c o e n m => (List.mem_cons.mp (I.stkSub c m)).elim (nl c o e) n
  refine ⟨fun c o e n m _ => y2.keep c o (b.keep c o e n m (by simp)) (b.free c o e n (by simp)) (nf c o e m) (by simp), fun c o e n m _ => ?_, fun c o e n _ => ?_, fun c o e _ => ?_, fun c xs e => y2.tups c xs (b.tups c xs e), fun c o u e => y2.frzs c o u (b.frzs c o u e), fun c ps e => ?_⟩
  · obtain ⟨sl, e1⟩ := b.slot c o e n m (by simp)
    obtain ⟨sl', e2⟩ := y2.any e1 (b.free c o e n (by simp)) (by simp)
    exact ⟨sl', e2⟩
  · obtain ⟨o', e1⟩ := b.there c o e (by simp)
    exact y2.free c o' e1 (b.free c o e n (by simp)) (by simp)
  · obtain ⟨o', e1⟩ := b.there c o e (by simp)
    exact y2.there c o' e1 (by simp)
  · obtain ⟨m1, e1⟩ := b.tbls c ps e
    obtain ⟨m2, e2⟩ := y2.tbls c _ e1
    exact ⟨m1 ++ m2, by rw [e2, Array.append_assoc]⟩
end
theorem AcD {P : Program} {w : World} {K : PySem.W.Frag} {mg : Str → Option Value} {base : Heap} {N : List Str} {qual : Str} {scope : Scope} {f : Addr} {cd : Value} {A : Around} {outer : List Env} {s : Shared} {H₀ : Hp} {E : XK} {σ : St} {a : Addr} {H : Hp}
    (h : ∀ H', Same H H' → E (.ref a) none H') : S8 (Pj (CXe P w) P w K mg base N qual scope f cd A outer s H₀ E) σ a H := fun pins s1 I fl ex =>
  leaves I rfl rfl rfl fl ex fun H' s' y1 y2 y3 y4 y5 y6 y7 => ⟨a, H', rfl, y1, y2, y4, y5, y6, y7, h H' y3⟩
section
variable {X : Cx} {k : Nat} {f : Addr} {fd : FuncData} {ps : List Str} {sp : Sp} {x : Str} {p pos : Pos} {e : Expr} {es : List Expr} {t : TA}
noncomputable def Afu (X : Cx) (sp : Sp) (t : TA) : TE := fun σ H Q => t σ H fun vs H1 => sp vs H1 Q fun v _ H' => ∃ a, v = .ref a ∧ S8 X σ a H'
theorem Vh {pins : List (Addr × Obj)} {σ : St} {H : Hp} {s : Shared} {Q : VK} {us : List Value} {vs : List V} (F : Dl X.prog X.w X.K X.mg X.base (CXe X.prog X.w) k f fd ps sp) (hr : CN k X.A) (hb : Binds X.K fd ps [])
    (I : Inv X pins σ H s) (r : Vals vs us) (h : sp vs H Q fun v _ H' => ∃ a, v = .ref a ∧ S8 X σ a H') : wpAny (model X.prog X.w) X.A (call (.ref f) us) (EP X pins σ Q) X.xe s := by
  have hl : us.length = ps.length := by rw [← r.length]; exact F.len _ _ _ _ h
  have hb' := hb s us I.kIn (by rw [List.append_nil]; exact hl)
  rw [List.append_nil] at hb'
  refine wpAny_call (codeAny_mono (F.run X.A X.stack s H ⟨us, []⟩ us vs Q _ hr I.env0 hb' r h) fun r s' hq => ?_)
  cases r with
  | error e =>
    obtain ⟨a, H', rfl, y1, y2, y3, y4, y5, y6, a', y7, y8⟩ := hq
    cases y7
    exact y8 pins s' (I.call' (ch := []) y1 y3 y4 y2 fun b z => absurd z (by simp)) y5 y6
  | ok fl =>
    cases fl with
    | ret u => exact I.after hq
    | next => exact False.elim hq
    | brk => exact False.elim hq
    | cont => exact False.elim hq
theorem X4 (F : Dl X.prog X.w X.K X.mg X.base (CXe X.prog X.w) k f fd ps sp) (hr : CN k X.A) (hg : Gl X x) (hm : X.mg x = some (.ref f)) (hk : PySem.W.keepIn X.K (.ref f) = true) (hb : Binds X.K fd ps [])
    (ha : PA X (e :: es) t) (hdb : (x == ("__debug__" : Str)) = false := by decide) (he : starEach (e :: es) X.env = (false, eval e X.env) :: starEach es X.env := by rfl) (hpl : (backTo pos (starEach es X.env)).any (·.1) = false := by rfl) :
    PE X (.Call (.Name x p) (e :: es) [] pos) (Afu X sp t) := by
  intro pins s σ H Q I h
  refine wpAny_Call_Name_kw (HX I hg hm ?_ hdb)
  refine PySem.W.callWith_K (h₀ := X.base) I.ok.mod.kin hk (thn (ha pos pins s σ H _ I h) fun us s1 ⟨vs, H1, I1, r, q⟩ => ⟨I1.kIn, Vh F hr hb I1 r q⟩) he hpl
theorem Dl.calm {P : Program} {w : World} {K : PySem.W.Frag} {mg : Str → Option Value} {base : Heap} {k : Nat} {f : Addr} {fd : FuncData} {ps : List Str} {sp sp' : Sp} (F : Dl P w K mg base (CXe P w) k f fd ps sp)
    (h : ∀ vs H Q E, sp' vs H Q E → sp vs H Q E0) : Dl P w K mg base CX0 k f fd ps sp' :=
  ⟨fun vs H Q E q => F.len vs H Q E0 (h _ _ _ _ q), fun A outer s H args us vs Q E hr he hb hv hs => codeAny_mono (F.run A outer s H args us vs Q E0 hr he hb hv (h _ _ _ _ hs)) fun r s' hq => by
    cases r with
    | error e => obtain ⟨_, _, _, _, _, _, _, _, _, z⟩ := hq; exact z.elim
    | ok fl => cases fl <;> exact hq⟩
end
end L2
namespace L2
open PySem PySem.Spec PyProof.Rows
noncomputable abbrev bmV : List Value := [.type "ValueError", .type "Exception", .type "BaseException", .type "object"]
noncomputable def AeC (es : Array DictEntry) : Bool := es.toList.all fun e => match e.key with | .str _ _ => true | _ => false
theorem AaS {es : Array DictEntry} (h : AeC es = true) : StrKeys es := fun e he => by
  have := List.all_eq_true.mp h e (Array.mem_toList_iff.mpr he)
  split at this
  · rename_i n t q; exact ⟨n, t, q⟩
  · cases this
structure XC (K : PySem.W.Frag) (C F : Addr) : Prop where
  obj : ∃ nm q N bs sn sub ab col dd k0 k1 k2 k3 k5, K.lookup C = some (excClassObj nm q C N bs (.ref F :: bmV) true sn sub ab col dd k0 k1 k2 k3 k5 "ValueError.__new__")
  tail : ∃ c0 dd cd sl oc od es ep sl', K.lookup F = some ⟨c0, dd, .cls cd, sl⟩ ∧ K.lookup cd.ns = some ⟨oc, od, .dict es ep, sl'⟩ ∧ AeC es = true ∧ nsFind es "__init__" = none
  sa : PySem.W.findIn K (.ref C) "__setattr__" = some (some (.builtin "object.__setattr__"))
  ga : PySem.W.findIn K (.ref C) "__getattribute__" = some (some (.builtin "BaseException.__getattribute__"))
  gh : PySem.W.findIn K (.ref C) "__getattr__" = some none
  cl : PySem.W.findIn K (.ref C) "__class__" = some (some (.builtin "object.__class__"))
  gg : PySem.W.specialIn K (.builtin "object.__class__") "__get__" = some (some (.builtin "getset_descriptor.__get__"))
  gt : PySem.W.takesIn K (.builtin "object.__class__") = some true
theorem XC.own {K : PySem.W.Frag} {C F : Addr} {h : Heap} (c : XC K C F) (X : K.In h) : OwnTail h bmV (.ref F :: bmV) := by
  obtain ⟨c0, dd, cd, sl, oc, od, es, ep, sl', h1, h2, h3, h4⟩ := c.tail
  exact .own (X _ _ h1) ⟨_, es, ep, X _ _ h2, rfl, AaS h3, fun _ => rfl⟩ h4 .base
noncomputable def excAt (C t : Addr) : Obj := { cls := .ref C, data := .fields #[.ref t, .none, .none, .none, .bool false, .none] }
noncomputable def Ada (vs : List Value) : Obj := { cls := .type "tuple", data := .seq vs.toArray }
noncomputable def withExc (h : Heap) (C : Addr) (vs : List Value) : Heap := (h.push (Ada vs)).push (excAt C h.objs.size)
theorem JG {h : Heap} {C : Addr} {vs : List Value} {b : Addr} {o : Obj} (e : h.get? b = some o) : (withExc h C vs).get? b = some o := Heap.get?_push_of_some _ (Heap.get?_push_of_some _ e)
theorem Ir {h : Heap} {C : Addr} {vs : List Value} : (withExc h C vs).get? (h.objs.size + 1) = some (excAt C h.objs.size) := by
  unfold withExc
  have e : h.objs.size + 1 = (h.push (Ada vs)).objs.size := (Heap.size_push _ _).symm
  rw [e]; exact Heap.get?_push_size _ rfl
section
variable {prog : Program} {w : World} {A : Around} {E : Value → Shared → Prop} {s : Shared} {K : PySem.W.Frag} {C U fI : Addr} {rest : List Value}
theorem Wy {Q : Fin → Shared → Prop} (X : K.In s.heap) (c : XC K C U) (hi : PySem.W.findIn K (.ref C) "__init__" = some (some (.ref fI))) (hf : PySem.W.typeIn K (.ref fI) = some (.type "function")) (hz : rest.length ≤ sizeLine)
    (hq : wpAny (model prog w) A (call (.ref fI) (.ref (s.heap.objs.size + 1) :: rest)) (fun r s' => r = .none ∧ Q (.done (.ret (.ref (s.heap.objs.size + 1)))) s') E { s with heap := withExc s.heap C rest }) :
    wpAny (model prog w) A (Builtin.«type.__call__» ⟨.ref C :: rest, []⟩) Q E s := by
  obtain ⟨nm, q, N, bs, sn, sub, ab, col, dd, k0, k1, k2, k3, k5, lk⟩ := c.obj
  obtain ⟨h, g, d, t, os⟩ := s
  have oC : h.get? C = some _ := X _ _ lk
  have T := c.own X
  have FB := F.excBase_ValueError
  repeat (first | with_reducible refine wpAny_loadPart_at oC ?_ | with_reducible refine wpAny_madeBy_exc oC ?_ | wp_step)
  refine codeAny_call_builtin_code (Code.quiet_builtin _ FB.quiet) (wpAny_check_new_subT FB T oC (codeAny_exc_new_subT FB T oC ?_ hz))
  show wpAny (model prog w) A _ Q E { heap := withExc h C rest, gens := g, drawn := d, toks := t, os := os }
  have X1 : K.In (withExc h C rest) := X.keeps fun _ _ => JG
  have oC1 : (withExc h C rest).get? C = some _ := X1 _ _ lk
  have oe : (withExc h C rest).get? (h.objs.size + 1) = some { cls := .ref C, data := .fields #[.ref h.objs.size, .none, .none, .none, .bool false, .none] } := Ir
  have cC : (Value.ref C :: (.ref U :: bmV)).contains (.ref C) = true := by simp
  unfold isInstance
  repeat (first | with_reducible refine wpAny_loadPart_at oe ?_ | (with_reducible refine wpAny_isSubtype_exc oC1 ?_; rw [cC]) | wp_step)
  show wpAny _ _ (typeLookup (.ref C) _) _ _ _
  refine (PySem.W.looks_findIn X1 hi) _ _ _ _ (fun _ _ e => e) ?_
  refine wpAny_holding (wpAny_bind ((PySem.W.bind_fn X1 (.ref (h.objs.size + 1)) hf) _ _ _ _ (fun _ _ e => e) ?_))
  refine wpAny_bind (wpAny_mono hq (fun r s' hr => ?_) fun _ _ x => x)
  obtain ⟨rfl, hQ⟩ := hr
  wp_walk
  exact hQ
theorem ZC {Q : Value → Shared → Prop} (X : K.In s.heap) (c : XC K C U) (hi : PySem.W.findIn K (.ref C) "__init__" = some (some (.ref fI))) (hf : PySem.W.typeIn K (.ref fI) = some (.type "function")) (hz : rest.length ≤ sizeLine)
    (hq : wpAny (model prog w) (A.under (.builtin "type.__call__" ⟨.ref C :: rest, []⟩)) (call (.ref fI) (.ref (s.heap.objs.size + 1) :: rest)) (fun r s' => r = .none ∧ Q (.ref (s.heap.objs.size + 1)) s') E { s with heap := withExc s.heap C rest }) :
    wpAny (model prog w) A (call (.ref C) rest) Q E s := by
  obtain ⟨nm, q, N, bs, sn, sub, ab, col, dd, k0, k1, k2, k3, k5, lk⟩ := id c.obj
  obtain ⟨h, g, d, t, os⟩ := s
  have oC : h.get? C = some _ := X _ _ lk
  have u1 := tc_lookup
  have u2 := tc_bind (.ref C)
  have u3 : (⟨h, g, d, t, os⟩ : Shared).TypeIs (.ref C) "type" := ⟨_, oC, rfl⟩
  refine wpAny_call (codeAny_of_tree ?_)
  show wpAny _ _ (callAny (.ref C) _) _ _ _
  repeat (any_goals (first | assumption | with_reducible refine wpAny_loadPart_at oC ?_ | wp_step))
  exact ⟨rfl, codeAny_call_builtin_at (Code.quiet_builtin _ (by decide +kernel)) entry_typeCall (wpAny_check_type_call_sub oC (Wy X c hi hf hz hq))⟩
theorem Xq {env : Env} {x : Sem Value} {Q : Flow → Shared → Prop} (c : XC K C U) (hh : A.handled = none)
    (h : wpAny (model prog w) A x (fun v s₁ => K.In s₁.heap ∧ ∃ e od vs sl, v = .ref e ∧ s₁.heap.get? e = some ⟨.ref C, od, .fields vs, sl⟩ ∧ vs[1]? = some .none ∧ E (.ref e) s₁) E s) :
    wpAny (model prog w) A (raiseStmt env (some x) none) Q E s := by
  obtain ⟨nm, q, N, bs, sn, sub, ab, col, dd, k0, k1, k2, k3, k5, lk⟩ := c.obj
  have cB : (Value.ref C :: (.ref U :: bmV)).contains (.type "BaseException") = true := by simp
  unfold raiseStmt
  refine wpAny_bind (wpAny_mono h (fun v s₁ h₁ => ?_) fun _ _ x => x)
  obtain ⟨X, e, od, vs, sl, rfl, he, h1, hE⟩ := h₁
  obtain ⟨hp, g, d, tk, os⟩ := s₁
  have oC : hp.get? C = some _ := X _ _ lk
  repeat (first | with_reducible refine wpAny_loadPart_at he ?_ | with_reducible refine wpAny_field he rfl h1 ?_ | with_reducible refine wpAny_loadPart_at oC ?_ | (with_reducible refine wpAny_isSubtype_exc oC ?_; rw [cB]) | wp_step)
  exact wpAny_raiseNew_none hh hE
end
end L2
namespace L2
open PySem PySem.Spec PyProof.Rows PySem.W PySem.Builtin PySem.Builtin.ObjectAttr
section
variable {prog : Program} {w : World} {A : Around} {E : Value → Shared → Prop} {s : Shared} {K : PySem.W.Frag} {C U x : Addr} {name : Str} {v : Value}
theorem XC.cls (c : XC K C U) : ∃ cd, clsIn K C = some cd ∧ cd.mro = .ref C :: .ref U :: bmV ∧ cd.hasDict = true := by
  obtain ⟨nm, q, N, bs, sn, sub, ab, col, dd, k0, k1, k2, k3, k5, lk⟩ := c.obj
  exact ⟨_, by unfold clsIn; rw [lk], rfl, rfl⟩
theorem XC.sub (c : XC K C U) (b : Value) : mroIn K C b = some ((Value.ref C :: .ref U :: bmV).contains b) := by
  obtain ⟨cd, h1, h2, _⟩ := c.cls
  unfold mroIn
  rw [h1, Option.bind_some, h2]
  rfl
theorem AeA {R : Result → Shared → Prop} {od : Option Obj} {ox : Obj} {tk : Tok} (X : K.In s.heap) (c : XC K C U) (I : InstAt s.heap x ox C od) (ht : takerIn K C name = some none)
    (h : ∀ b, wpAny (model prog w) A.in1 (storeInOwnDict (.ref x) (.ref C) (.str name tk) name v b)
      (fun fin s' => match fin with | .done f => R (.ok f) s' | .again c' => c'.quiet = true ∧ codeAny (model prog w) A c' R s') (fun e s' => R (.error e) s') s) :
    codeAny (model prog w) A (.call (.builtin "object.__setattr__") ⟨[.ref x, .str name tk, v], []⟩) R s := by
  have SF := PySem.F.store_object
  have SV := PySem.F.store_ValueError
  obtain ⟨cd, hc, hm, _⟩ := c.cls
  have sub : Looks (model prog w) s.heap (isInstance (.ref x) (.type "object")) true := I.type.andThen (looks_mroIn X (by rw [c.sub]; simp))
  refine codeAny_call_builtin SF.slot.plain SF.entry (@check_slot (model prog w) _ _ s "object.__setattr__" "object" "__setattr__" (.ref x) [.str name tk, v] [] _ SF.kind SF.split sub (SF.args (.ref x) (.str name tk) v) ?_)
  obtain ⟨attr, ha, hr⟩ := Option.bind_eq_some_iff.mp ht
  have mr : Looks (model prog w) s.heap (mroOf (.ref C)) cd.mro := (looks_clsIn X hc).andThen .now
  have tk3 : Looks (model prog w) s.heap (storeTaker? attr) none := by
    cases attr with
    | none => exact .now
    | some a =>
      obtain ⟨b, hb, hn⟩ := Option.map_eq_some_iff.mp hr
      refine (looks_takesIn X hb).andThen ?_
      cases b with
      | true => cases hn
      | false => exact .now
  rw [osa_eq, refuse_eq]
  refine wpAny_bind (wpAny_bind (I.type.here (wpAny_bind (mr.here ?_))))
  rw [hm, refuseLoop_ref, refuseLoop_ref, SV.passes]
  exact wpAny_pure (wpAny_bind (I.type.here (wpAny_bind ((looks_findIn X ha).here (wpAny_bind (tk3.here (h _)))))))
theorem Ai0 {Q : Unit → Shared → Prop} {vs : Array Value} {sl : Array (Option Value)} (X : K.In s.heap) (c : XC K C U) (ht : takerIn K C name = some none) (hx : s.heap.get? x = some ⟨.ref C, none, .fields vs, sl⟩)
    (h : ∀ h' tk', h'.get? x = some ⟨.ref C, some s.heap.objs.size, .fields vs, sl⟩ → h'.Ns1 s.heap.objs.size (fun y => if y = name then some v else none) → (∀ b o, b ≠ x → s.heap.get? b = some o → h'.get? b = some o) → Q () { s with heap := h', toks := tk' }) :
    wpAny (model prog w) A (setAttr (.ref x) name v) Q E s := by
  have I : InstAt s.heap x ⟨.ref C, none, .fields vs, sl⟩ C none := ⟨hx, rfl, rfl, trivial⟩
  refine set_plain X I c.sa (AeA (s := { s with toks := s.toks + 1 }) X c I ht fun b => ?_)
  obtain ⟨cd, hc, hm, hd⟩ := c.cls
  refine wpAny_bind (wpAny_pure (wpAny_bind ?_))
  show wpAny _ _ (instanceDict x true) _ _ _
  unfold instanceDict
  refine wpAny_bind (wpAny_loadPart hx ?_)
  dsimp only
  refine wpAny_bind ((looks_clsIn X hc).here (s := { s with toks := s.toks + 1 }) ?_)
  rw [hd]
  obtain ⟨hp, g, d, t, os⟩ := s
  have x1 : (hp.push { cls := .type "dict", data := .dict #[] }).get? x = some ⟨.ref C, none, .fields vs, sl⟩ := Heap.get?_push_of_some _ hx
  have nx : x ≠ hp.objs.size := Nat.ne_of_lt (Heap.lt_size hx)
  refine wpAny_bind (wpAny_alloc' (wpAny_bind (wpAny_update' x1 ?_)))
  refine wpAny_pure ?_
  have x2 := Heap.get?_update_self (fun o : Obj => { cls := o.cls, dict := some hp.objs.size, data := o.data, slots := o.slots }) x1 rfl
  have gd : ((hp.push { cls := .type "dict", data := .dict #[] }).update x fun o => { cls := o.cls, dict := some hp.objs.size, data := o.data, slots := o.slots }).get? hp.objs.size = some { cls := .type "dict", data := .dict #[] } :=
    (Heap.get?_update_ne _ _ _ _ nx.symm).trans (Heap.get?_push_at rfl rfl)
  have nd : ((hp.push { cls := .type "dict", data := .dict #[] }).update x fun o => { cls := o.cls, dict := some hp.objs.size, data := o.data, slots := o.slots }).Ns hp.objs.size (fun _ => none) :=
    ⟨_, #[], _, gd, rfl, fun e he => absurd he (by simp), fun _ => rfl⟩
  show wpAny _ _ (storeInDict hp.objs.size (.str name _) name v) _ _ _
  unfold storeInDict newKeyGuard
  refine wpAny_bind (wpAny_pure (wpAny_bind (wpAny_nsSet1 (Heap.Ns1.of_empty nd) fun h' hn' hs => ?_)))
  obtain ⟨oD, esD, epD, hoD, hdD, hcD⟩ := hn'.count (Within.cons name v Within.nil)
  refine wpAny_bind (wpAny_lookBehind hoD (by rw [hdD]; exact pastItsLine_dict (Nat.le_trans hcD (by rw [List.length_cons, List.length_nil, sizeLine_eq]; omega))) ?_)
  refine wpAny_pure (h h' _ ((hs.2 x nx).trans x2) hn' fun b o nb hb => ?_)
  exact (hs.2 b (Nat.ne_of_lt (Heap.lt_size hb))).trans ((Heap.get?_update_ne _ _ _ _ nb).trans (Heap.get?_push_of_some _ hb))
end
end L2
namespace L2
open PySem PySem.Spec PyProof.Rows PySem.W PySem.Builtin PySem.Builtin.ObjectAttr
section
variable {prog : Program} {w : World} {A : Around} {E : Value → Shared → Prop} {s : Shared} {K : PySem.W.Frag} {C U x : Addr} {name : Str} {v : Value} {ox : Obj} {od : Option Obj}
theorem U6 {tk : Tok} {fill expr : Bool} {Q : Value → Shared → Prop} (X : K.In s.heap) (c : XC K C U) (I : InstAt s.heap x ox C od) (hv : handedIn v = true)
    (h : wpAny (model prog w) A.in1 (Builtin.«object.__getattribute__» ⟨[.ref x, .str name tk], []⟩) (fun fin s' => fin = .done (.ret v) ∧ Q v s') (fun _ _ => False) s) :
    wpAny (model prog w) A (getAttrBy (.ref x) (.str name tk) fill expr) Q E s := by
  have FX := PySem.F.excAttr_ValueError
  have e0 : (expr && onTheHeap (Value.builtin "BaseException.__getattribute__")) = false := by cases expr <;> rfl
  have e2 : (Value.builtin "BaseException.__getattribute__" == Value.builtin "object.__getattribute__") = false := by decide +kernel
  have L0 := I.type (M := model prog w)
  have L1 := looks_findIn (M := model prog w) X c.ga
  have L2 := looks_findIn (M := model prog w) X c.gh
  have sub : Looks (model prog w) s.heap (isInstance (.ref x) (.type "BaseException")) true := I.type.andThen (looks_mroIn X (by rw [c.sub]; simp))
  unfold getAttrBy
  refine wpAny_holding (wpAny_bind (L0.here (wpAny_bind (L1.here ?_))))
  dsimp only
  rw [show (onTheHeap (Value.ref C) && Value.builtin "BaseException.__getattribute__" == Value.builtin "object.__getattribute__") = false by rw [e2]; rfl]
  unfold getAttrByItsOwn hookBefore
  refine wpAny_bind (L2.here (wpAny_bind (wpAny_attempt ?_)))
  unfold callGetattribute
  rw [e0]
  refine wpAny_holding ?_
  unfold boundAndCalled
  rw [show (if false = true then runValue (.builtin "lifetime.attribute" ⟨[.ref x, .str name tk, .builtin "BaseException.__getattribute__"], []⟩) else (do let (g, first) ← bindSpecial (.builtin "BaseException.__getattribute__") (.ref x); call g (first ++ [.str name tk]))) = (do let (g, first) ← bindSpecial (.builtin "BaseException.__getattribute__") (.ref x); call g (first ++ [.str name tk])) from rfl, FX.ga.bind]
  refine wpAny_bind (wpAny_pure (wpAny_call (codeAny_call_builtin FX.ga.plain F.entry_bexc_ga (check_slot (i := "BaseException.__getattribute__") (owner := "BaseException") (n := "__getattribute__") (by decide +kernel) (by decide +kernel) sub (F.args_bexc_ga _ _) (wpAny_mono h (fun fin s' hq => ?_) fun _ _ z => z.elim)))))
  obtain ⟨rfl, q⟩ := hq
  show wpAny _ _ (handedOut v) _ _ _
  rw [handedOut_of hv]
  exact wpAny_pure q
theorem Ako {expr : Bool} {Q : Value → Shared → Prop} (X : K.In s.heap) (c : XC K C U) (I : InstAt s.heap x ox C od) (hf : findObj K C od name = some (.value v)) (hv : handedIn v = true) (h : Q v { s with toks := s.toks + 1 }) :
    wpAny (model prog w) A (getAttr (.ref x) name expr) Q E s := by
  unfold getAttr
  refine wpAny_bind (wpAny_mkText (U6 (s := { s with toks := s.toks + 1 }) X c I hv ?_))
  refine wpAny_bind (wpAny_pure (wpAny_bind (wpAny_pure (wpAny_bind (I.type.here (s := { s with toks := s.toks + 1 }) (wpAny_bind ((looks_find X I hf).here (s := { s with toks := s.toks + 1 }) ?_)))))))
  exact wpAny_pure ⟨rfl, h⟩
theorem Af1 {o' : Obj} {Q : Option Value → Shared → Prop} (X : K.In s.heap) (c : XC K C U) (I : InstAt s.heap x ox C (some o')) (h : Q (some (.ref C)) { s with toks := s.toks + 1 }) :
    wpAny (model prog w) A (getAttr? (.ref x) "__class__") Q E s := by
  obtain ⟨cd, hc, _, _⟩ := c.cls
  have hf : findObj K C (some o') "__class__" = some (.bind (.builtin "getset_descriptor.__get__") (.builtin "object.__class__")) := findObj_data (by rw [hc]; rfl) c.cl c.gg c.gt
  unfold getAttr? getAttrBy?
  refine wpAny_bind (wpAny_mkText (wpAny_bind (wpAny_attempt (U6 (v := .ref C) (s := { s with toks := s.toks + 1 }) X c I rfl ?_))))
  refine wpAny_bind (wpAny_pure (wpAny_bind (wpAny_pure (wpAny_bind (I.type.here (s := { s with toks := s.toks + 1 }) (wpAny_bind ((looks_find X I hf).here (s := { s with toks := s.toks + 1 }) ?_)))))))
  show wpAny _ _ (holding [.builtin "object.__class__"] (call (.builtin "getset_descriptor.__get__") [.builtin "object.__class__", .ref x, .ref C]) >>= ret) _ _ _
  exact wpAny_bind (wpAny_holding (wpAny_call (class_get (s := { s with toks := s.toks + 1 }) X I (by rw [c.sub]; simp) (wpAny_pure ⟨rfl, wpAny_pure h⟩))))
theorem AfR (c : XC K C U) : KitX K (.ref x) (.ref C) (fun h => ∃ ox o', InstAt h x ox C (some o')) where
  ty := fun _ _ _ ⟨_, _, I⟩ => I.type
  it := fun _ _ X _ => by
    obtain ⟨nm, q, N, bs, sn, sub, ab, col, dd, k0, k1, k2, k3, k5, lk⟩ := c.obj
    intro A' Q' E' s' k q
    unfold isType loadHead
    exact wpAny_bind (wpAny_loadPart (k _ _ (X _ _ lk)) (wpAny_pure q))
  ne := fun h tp dd its n sl X htp => by
    obtain ⟨nm, q, N, bs, sn, sub, ab, col, dd, k0, k1, k2, k3, k5, lk⟩ := c.obj
    refine Bool.eq_false_iff.mpr fun q => ?_
    have e : C = tp := Value.ref.inj (beq_iff_eq.mp q)
    subst e
    have z := congrArg Obj.cls (Option.some.inj ((X _ _ lk).symm.trans htp))
    exact absurd (Value.type.inj z) (by decide)
  ca := fun X ⟨_, _, I⟩ k => Af1 X c I k
end
end L2
namespace L2
open PySem PySem.Spec PyProof.Rows PySem.SeqAt
inductive Dt where
  | non | bl (b : Bool) | int (i : Int) | str (x : Str) | tup (ds : List Dt) | lst (ds : List Dt) | fn (a : Addr)
    | exc (c : Str) (ns : List Str) (ds : List Dt)
    | obj (c : Str) (ns : List Str) (ds : List Dt)
noncomputable def LsD (K : PySem.W.Frag) (H : Hp) (a : Addr) (xs : List V) : Prop := H a = some (.lst xs) ∨ (SqL K H a xs ∧ ∀ x ∈ xs, ∃ i : Int, x = .int i)
theorem LsD.sq {K : PySem.W.Frag} {H : Hp} {a : Addr} {xs : List V} (h : LsD K H a xs) : SqL K H a xs := by
  rcases h with h | ⟨h, _⟩
  · exact SqL.of h
  · exact h
theorem LsD.mono {K : PySem.W.Frag} {H H' : Hp} {a : Addr} {xs : List V} (s : Same H H') (h : LsD K H a xs) : LsD K H' a xs := by
  rcases h with h | ⟨h, q⟩
  · exact .inl (s _ _ h)
  · exact .inr ⟨s.seq h, q⟩
mutual
noncomputable def Rp (K : PySem.W.Frag) (H : Hp) : Dt → V → Prop
  | .non, v => v = .non
  | .bl b, v => v = .bl b
  | .int i, v => v = .int i
  | .str x, v => v = .str x
  | .fn a, v => v = .ref a
  | .exc c ns ds, v => ∃ a C U dx vs, v = .ref a ∧ PySem.W.nsIn K mainGlobals c = some (some (.ref C)) ∧ XC K C U ∧ H a = some (.ext (exO a C dx)) ∧ H dx = some (.xd (ns.zip vs)) ∧ ns.length = ds.length ∧ RpL K H ds vs
  | .obj c ns ds, v => ∃ a C dx vs, v = .ref a ∧ PySem.W.nsIn K mainGlobals c = some (some (.ref C)) ∧ Cls K C ∧ H a = some (.ins C dx (ns.zip vs)) ∧ ns.length = ds.length ∧ RpL K H ds vs
  | .tup ds, v => ∃ a xs, v = .ref a ∧ SqT K H a xs ∧ RpL K H ds xs
  | .lst ds, v => ∃ a xs, v = .ref a ∧ LsD K H a xs ∧ RpL K H ds xs
noncomputable def RpL (K : PySem.W.Frag) (H : Hp) : List Dt → List V → Prop
  | [], xs => xs = []
  | d :: ds, xs => ∃ v r, xs = v :: r ∧ Rp K H d v ∧ RpL K H ds r
end
theorem Same.seqT {K : PySem.W.Frag} {H H' : Hp} {a : Addr} {xs : List V} (e : Same H H') (h : SqT K H a xs) : SqT K H' a xs := by
  rcases h with (h | ⟨o, h⟩) | h
  · exact .inl (.inl (e _ _ h))
  · exact .inl (.inr ⟨o, e _ _ h⟩)
  · exact .inr h
mutual
theorem Rp.mono {K : PySem.W.Frag} {H H' : Hp} (s : Same H H') : ∀ {d : Dt} {v : V}, Rp K H d v → Rp K H' d v
  | .non, _, h => by unfold Rp at h ⊢; exact h
  | .bl _, _, h => by unfold Rp at h ⊢; exact h
  | .int _, _, h => by unfold Rp at h ⊢; exact h
  | .str _, _, h => by unfold Rp at h ⊢; exact h
  | .fn _, _, h => by unfold Rp at h ⊢; exact h
  | .exc _ _ _, _, h => by
    unfold Rp at h ⊢
    obtain ⟨a, C, U, dx, vs, e, q, x, h1, h2, l, r⟩ := h
    exact ⟨a, C, U, dx, vs, e, q, x, s _ _ h1, s _ _ h2, l, RpL.mono s r⟩
  | .obj _ _ _, _, h => by
    unfold Rp at h ⊢
    obtain ⟨a, C, dx, vs, e, q, x, h1, l, r⟩ := h
    exact ⟨a, C, dx, vs, e, q, x, s _ _ h1, l, RpL.mono s r⟩
  | .tup ds, _, h => by
    unfold Rp at h ⊢
    obtain ⟨a, xs, e, q, r⟩ := h
    exact ⟨a, xs, e, s.seqT q, RpL.mono s r⟩
  | .lst ds, _, h => by
    unfold Rp at h ⊢
    obtain ⟨a, xs, e, q, r⟩ := h
    exact ⟨a, xs, e, q.mono s, RpL.mono s r⟩
theorem RpL.mono {K : PySem.W.Frag} {H H' : Hp} (s : Same H H') : ∀ {ds : List Dt} {vs : List V}, RpL K H ds vs → RpL K H' ds vs
  | [], _, h => by unfold RpL at h ⊢; exact h
  | d :: ds, _, h => by
    unfold RpL at h ⊢
    obtain ⟨v, r, e, q, p⟩ := h
    exact ⟨v, r, e, Rp.mono s q, RpL.mono s p⟩
end
section
variable {K : PySem.W.Frag} {H : Hp}
theorem GR {v : V} : Rp K H .non v ↔ v = .non := by unfold Rp; exact Iff.rfl
theorem BX {b : Bool} {v : V} : Rp K H (.bl b) v ↔ v = .bl b := by unfold Rp; exact Iff.rfl
theorem Bd {i : Int} {v : V} : Rp K H (.int i) v ↔ v = .int i := by unfold Rp; exact Iff.rfl
theorem J3 {x : Str} {v : V} : Rp K H (.str x) v ↔ v = .str x := by unfold Rp; exact Iff.rfl
theorem QM {a : Addr} {v : V} : Rp K H (.fn a) v ↔ v = .ref a := by unfold Rp; exact Iff.rfl
theorem Ho {c : Str} {ns : List Str} {ds : List Dt} {v : V} : Rp K H (.exc c ns ds) v ↔ ∃ a C U dx vs, v = .ref a ∧ PySem.W.nsIn K mainGlobals c = some (some (.ref C)) ∧ XC K C U ∧ H a = some (.ext (exO a C dx)) ∧ H dx = some (.xd (ns.zip vs)) ∧ ns.length = ds.length ∧ RpL K H ds vs := by rw [Rp]
theorem JN {c : Str} {ns : List Str} {ds : List Dt} {v : V} : Rp K H (.obj c ns ds) v ↔ ∃ a C dx vs, v = .ref a ∧ PySem.W.nsIn K mainGlobals c = some (some (.ref C)) ∧ Cls K C ∧ H a = some (.ins C dx (ns.zip vs)) ∧ ns.length = ds.length ∧ RpL K H ds vs := by rw [Rp]
theorem Ds {ds : List Dt} {v : V} : Rp K H (.tup ds) v ↔ ∃ a xs, v = .ref a ∧ SqT K H a xs ∧ RpL K H ds xs := by rw [Rp]
theorem O8 {ds : List Dt} {v : V} : Rp K H (.lst ds) v ↔ ∃ a xs, v = .ref a ∧ LsD K H a xs ∧ RpL K H ds xs := by rw [Rp]
theorem K8 {ds : List Dt} {v : V} (h : ∃ a xs, v = .ref a ∧ H a = some (.lst xs) ∧ RpL K H ds xs) : Rp K H (.lst ds) v := let ⟨a, xs, e, h1, h2⟩ := h; O8.mpr ⟨a, xs, e, .inl h1, h2⟩
theorem Ec {ds : List Dt} {v : V} (h : Rp K H (.lst ds) v) : ∃ a xs, v = .ref a ∧ SqL K H a xs ∧ RpL K H ds xs := let ⟨a, xs, e, h1, h2⟩ := O8.mp h; ⟨a, xs, e, h1.sq, h2⟩
theorem Acg {ns : List Int} {a : Addr} (h : SqL K H a (ns.map V.int)) (r : RpL K H (ns.map Dt.int) (ns.map V.int)) : Rp K H (.lst (ns.map Dt.int)) (.ref a) := O8.mpr ⟨a, _, rfl, .inr ⟨h, fun x hx => by obtain ⟨i, _, rfl⟩ := List.mem_map.mp hx; exact ⟨i, rfl⟩⟩, r⟩
theorem Bs {vs : List V} : RpL K H [] vs ↔ vs = [] := by rw [RpL]
theorem Ay {d : Dt} {ds : List Dt} {vs : List V} : RpL K H (d :: ds) vs ↔ ∃ v r, vs = v :: r ∧ Rp K H d v ∧ RpL K H ds r := by rw [RpL]
theorem RpL.nil : RpL K H [] [] := Bs.mpr rfl
theorem RpL.cons {d : Dt} {ds : List Dt} {v : V} {vs : List V} (h : Rp K H d v) (r : RpL K H ds vs) : RpL K H (d :: ds) (v :: vs) := Ay.mpr ⟨v, vs, rfl, h, r⟩
theorem RpL.len : ∀ {ds : List Dt} {vs : List V}, RpL K H ds vs → vs.length = ds.length
  | [], _, h => by rw [Bs.mp h]; rfl
  | d :: ds, _, h => by
    obtain ⟨v, r, rfl, _, p⟩ := Ay.mp h
    simp [RpL.len p]
theorem RpL.get : ∀ {ds : List Dt} {vs : List V} {i : Nat} {d : Dt}, RpL K H ds vs → ds[i]? = some d → ∃ v, vs[i]? = some v ∧ Rp K H d v
  | [], _, _, _, _, e => by simp at e
  | d :: ds, _, 0, _, h, e => by
    obtain ⟨v, r, rfl, q, p⟩ := Ay.mp h
    simp at e; subst e
    exact ⟨v, rfl, q⟩
  | d :: ds, _, i + 1, _, h, e => by
    obtain ⟨v, r, rfl, q, p⟩ := Ay.mp h
    obtain ⟨u, e1, e2⟩ := RpL.get (i := i) p (by simpa using e)
    exact ⟨u, by simpa using e1, e2⟩
theorem RpL.get' : ∀ {ds : List Dt} {vs : List V} {i : Nat} {v : V}, RpL K H ds vs → vs[i]? = some v → ∃ d, ds[i]? = some d ∧ Rp K H d v
  | [], _, _, _, h, e => by rw [Bs.mp h] at e; simp at e
  | d :: ds, _, 0, _, h, e => by
    obtain ⟨v, r, rfl, q, p⟩ := Ay.mp h
    simp at e; subst e
    exact ⟨d, rfl, q⟩
  | d :: ds, _, i + 1, _, h, e => by
    obtain ⟨v, r, rfl, q, p⟩ := Ay.mp h
    obtain ⟨u, e1, e2⟩ := RpL.get' (i := i) p (by simpa using e)
    exact ⟨u, by simpa using e1, e2⟩
theorem RpL.append : ∀ {ds es : List Dt} {vs ws : List V}, RpL K H ds vs → RpL K H es ws → RpL K H (ds ++ es) (vs ++ ws)
  | [], _, _, _, h, q => by rw [Bs.mp h]; exact q
  | d :: ds, _, _, _, h, q => by
    obtain ⟨v, r, rfl, a, p⟩ := Ay.mp h
    exact .cons a (RpL.append p q)
theorem RpL.drop : ∀ {ds : List Dt} {vs : List V} (n : Nat), RpL K H ds vs → RpL K H (ds.drop n) (vs.drop n)
  | _, _, 0, h => by simpa using h
  | [], _, n + 1, h => by rw [Bs.mp h]; simpa using RpL.nil
  | d :: ds, _, n + 1, h => by
    obtain ⟨v, r, rfl, a, p⟩ := Ay.mp h
    simpa using RpL.drop n p
theorem RpL.take : ∀ {ds : List Dt} {vs : List V} (n : Nat), RpL K H ds vs → RpL K H (ds.take n) (vs.take n)
  | _, _, 0, h => by simpa using RpL.nil
  | [], _, n + 1, h => by rw [Bs.mp h]; simpa using RpL.nil
  | d :: ds, _, n + 1, h => by
    obtain ⟨v, r, rfl, a, p⟩ := Ay.mp h
    simpa using RpL.cons a (RpL.take n p)
theorem RpL.ints : ∀ (ns : List Int), RpL K H (ns.map Dt.int) (ns.map V.int)
  | [] => RpL.nil
  | _ :: ns => RpL.cons (Bd.mpr rfl) (RpL.ints ns)
end
noncomputable def mask (O : List Addr) (H : Hp) : Hp := fun a => if a ∈ O then none else H a
theorem CW {O : List Addr} {H : Hp} {a : Addr} (h : a ∈ O) : mask O H a = none := if_pos h
theorem Ba {O : List Addr} {H : Hp} {a : Addr} (h : a ∉ O) : mask O H a = H a := if_neg h
theorem Dq {O : List Addr} {H : Hp} {a : Addr} {o : HO} (h : mask O H a = some o) : a ∉ O ∧ H a = some o := by
  by_cases q : a ∈ O
  · rw [CW q] at h; cases h
  · rw [Ba q] at h; exact ⟨q, h⟩
theorem Bh {O : List Addr} {H : Hp} : Same (mask O H) H := fun _ _ h => (Dq h).2
theorem Same.mask {O : List Addr} {H H' : Hp} (s : Same H H') : Same (mask O H) (L2.mask O H') := fun a o h => by
  obtain ⟨q, e⟩ := Dq h
  rw [Ba q]; exact s a o e
theorem Fy {O O' : List Addr} {H : Hp} (h : ∀ a ∈ O', a ∈ O) : Same (mask O H) (mask O' H) := fun a o e => by
  obtain ⟨q, e⟩ := Dq e
  rw [Ba fun z => q (h a z)]; exact e
theorem Same.upd {H : Hp} {p : Addr} {o : HO} (h : H p = none) : Same H (L2.upd H p o) := fun a u e => by
  rw [Av (Bk e h)]; exact e
noncomputable def tabAt (a : Addr) (xs : List (List Key × Addr × Value)) (h : Heap) : Prop := (a == sysModules) = false ∧ ∃ (P : Program) (w : World) (o : Obj) (es : Array DictEntry) (ep : Nat), h.get? a = some o ∧ o.ExactDict ∧ o.data = .dict es ep ∧ es.toList = xs.map (entryOfKey (tupleKind (Ph P w))) ∧ (xs.map (·.1)).Nodup
noncomputable def AaR (K : PySem.W.Frag) (H : Hp) (ks : List (List Int)) (xs : List (List Key × Addr × Value)) : Prop := xs.map (·.1) = ks.map (·.map Sum.inl) ∧ ∀ x ∈ xs, SqT K H x.2.1 (x.1.map kV)
theorem AaR.mono {K : PySem.W.Frag} {H H' : Hp} {ks : List (List Int)} {xs : List (List Key × Addr × Value)} (s : Same H H') (h : AaR K H ks xs) : AaR K H' ks xs := ⟨h.1, fun x hx => s.seqT (h.2 x hx)⟩
inductive En where
  | is (d : Dt) | own (ds : List Dt) | tab (ks : List (List Int))
noncomputable abbrev Bv := List (Option En)
noncomputable abbrev DTE := Bv → (Dt → Prop) → Prop
noncomputable abbrev DTT := Bv → (Bool → Prop) → Prop
noncomputable abbrev DTA := Bv → (List Dt → Prop) → Prop
structure Es where
  nx : Bv → Prop
  rt : Dt → Prop
  bk : Bv → Prop := fun _ => False
  ct : Bv → Prop := fun _ => False
noncomputable abbrev DTS := Es → Bv → Prop
structure Rep (K : PySem.W.Frag) (B : Hp) (F O : List Addr) (H : Hp) (σ : St) (ρ : Bv) : Prop where
  len : σ.length = ρ.length
  base : Same B H
  fr : ∀ a ∈ O, B a = none
  th : ∀ a ∈ F ++ O, H a ≠ none
  is : ∀ (i : Nat) (d : Dt), ρ[i]? = some (some (.is d)) → ∃ v, σ[i]? = some (some v) ∧ Rp K (mask (F ++ O) H) d v
  own : ∀ (i : Nat) (ds : List Dt), ρ[i]? = some (some (.own ds)) → ∃ a xs, σ[i]? = some (some (.ref a)) ∧ a ∈ O ∧ a ∉ F ∧ H a = some (.lst xs) ∧ RpL K (mask (F ++ O) H) ds xs
  inj : ∀ (i j : Nat) (ds es : List Dt) (a : Addr), ρ[i]? = some (some (.own ds)) → ρ[j]? = some (some (.own es)) → σ[i]? = some (some (.ref a)) → σ[j]? = some (some (.ref a)) → i = j
  tab : ∀ (i : Nat) (ks : List (List Int)), ρ[i]? = some (some (.tab ks)) → ∃ a xs, σ[i]? = some (some (.ref a)) ∧ a ∈ O ∧ a ∉ F ∧ H a = some (.ext (tabAt a xs)) ∧ AaR K (mask (F ++ O) H) ks xs
  tinj : ∀ (i j : Nat) (ks ls : List (List Int)) (a : Addr), ρ[i]? = some (some (.tab ks)) → ρ[j]? = some (some (.tab ls)) → σ[i]? = some (some (.ref a)) → σ[j]? = some (some (.ref a)) → i = j
section
variable {K : PySem.W.Frag} {B : Hp} {F O : List Addr} {H H' : Hp} {σ : St} {ρ : Bv}
theorem Rep.same (r : Rep K B F O H σ ρ) (s : Same H H') : Rep K B F O H' σ ρ where
  len := r.len
  base := r.base.trans s
  fr := r.fr
  th := fun a h e => by
    have := r.th a h
    cases q : H a with
    | none => exact this q
    | some o => rw [s a o q] at e; cases e
  is := fun i d e => let ⟨v, h1, h2⟩ := r.is i d e; ⟨v, h1, h2.mono s.mask⟩
  own := fun i ds e => let ⟨a, xs, h1, h2, h3, h4, h5⟩ := r.own i ds e; ⟨a, xs, h1, h2, h3, s _ _ h4, h5.mono s.mask⟩
  inj := r.inj
  tab := fun i ks e => let ⟨a, xs, h1, h2, h3, h4, h5⟩ := r.tab i ks e; ⟨a, xs, h1, h2, h3, s _ _ h4, h5.mono s.mask⟩
  tinj := r.tinj
theorem Rep.below (r : Rep K B F O H σ ρ) : Same (mask F B) (mask (F ++ O) H) := fun a o e => by
  obtain ⟨q, e⟩ := Dq e
  rw [Ba]
  · exact r.base a o e
  · intro z
    rcases List.mem_append.mp z with z | z
    · exact q z
    · rw [r.fr a z] at e; cases e
theorem Rep.set (r : Rep K B F O H σ ρ) (i : Nat) {d : Dt} {v : V} (h : Rp K (mask (F ++ O) H) d v) : Rep K B F O H (σ.set i (some v)) (ρ.set i (some (.is d))) := by
  have hl := r.len
  have back : ∀ (j : Nat) (ds : En), (∀ z, ds ≠ .is z) → (ρ.set i (some (.is d)))[j]? = some (some ds) → j ≠ i ∧ ρ[j]? = some (some ds) := fun j ds nz e => by
    by_cases hj : j = i
    · subst hj
      by_cases hk : j < ρ.length
      · rw [List.getElem?_set_self hk] at e; cases e; exact (nz d rfl).elim
      · rw [List.getElem?_eq_none (by simpa using hk)] at e; cases e
    · rw [List.getElem?_set_ne (Ne.symm hj)] at e; exact ⟨hj, e⟩
  refine ⟨by simpa using hl, r.base, r.fr, r.th, fun j e q => ?_, fun j ds q => ?_, fun j k ds es a h1 h2 h3 h4 => ?_, fun j ks q => ?_, fun j k ds es a h1 h2 h3 h4 => ?_⟩
  · by_cases hj : j = i
    · subst hj
      by_cases hk : j < ρ.length
      · rw [List.getElem?_set_self hk] at q
        cases q
        exact ⟨v, List.getElem?_set_self (by omega), h⟩
      · rw [List.getElem?_eq_none (by simpa using hk)] at q; cases q
    · rw [List.getElem?_set_ne (Ne.symm hj)] at q ⊢
      exact r.is j e q
  · obtain ⟨hj, q⟩ := back j _ (fun _ z => by cases z) q
    rw [List.getElem?_set_ne (Ne.symm hj)]
    exact r.own j ds q
  · obtain ⟨hj, q1⟩ := back j _ (fun _ z => by cases z) h1
    obtain ⟨hk, q2⟩ := back k _ (fun _ z => by cases z) h2
    rw [List.getElem?_set_ne (Ne.symm hj)] at h3
    rw [List.getElem?_set_ne (Ne.symm hk)] at h4
    exact r.inj j k ds es a q1 q2 h3 h4
  · obtain ⟨hj, q⟩ := back j _ (fun _ z => by cases z) q
    rw [List.getElem?_set_ne (Ne.symm hj)]
    exact r.tab j ks q
  · obtain ⟨hj, q1⟩ := back j _ (fun _ z => by cases z) h1
    obtain ⟨hk, q2⟩ := back k _ (fun _ z => by cases z) h2
    rw [List.getElem?_set_ne (Ne.symm hj)] at h3
    rw [List.getElem?_set_ne (Ne.symm hk)] at h4
    exact r.tinj j k ds es a q1 q2 h3 h4
end
noncomputable def lE (K : PySem.W.Frag) (t : DTE) : TE := fun σ H Q => ∃ B F O ρ, Rep K B F O H σ ρ ∧ t ρ fun d => ∀ v H', Same H H' → Rp K (mask (F ++ O) H') d v → Q v H'
noncomputable def lT (K : PySem.W.Frag) (t : DTT) : TT := fun σ H Q => ∃ B F O ρ, Rep K B F O H σ ρ ∧ t ρ fun b => ∀ H', Same H H' → Q b H'
noncomputable def lA (K : PySem.W.Frag) (t : DTA) : TA := fun σ H Q => ∃ B F O ρ, Rep K B F O H σ ρ ∧ t ρ fun ds => ∀ vs H', Same H H' → RpL K (mask (F ++ O) H') ds vs → Q vs H'
noncomputable def lD (K : PySem.W.Frag) (B : Hp) (F : List Addr) (D : Ends) : Es where
  nx := fun ρ' => ∀ O' σ' H', Rep K B F O' H' σ' ρ' → D.nx σ' H'
  rt := fun d => ∀ v H', Same B H' → Rp K (mask F H') d v → D.rt v H'
  bk := fun ρ' => ∀ O' σ' H', Rep K B F O' H' σ' ρ' → D.bk σ' H'
  ct := fun ρ' => ∀ O' σ' H', Rep K B F O' H' σ' ρ' → D.ct σ' H'
noncomputable def lS (K : PySem.W.Frag) (t : DTS) : TS := fun D σ H => ∃ B F O ρ, Rep K B F O H σ ρ ∧ t (lD K B F D) ρ
structure Es.le (D D' : Es) : Prop where
  nx : ∀ ρ, D.nx ρ → D'.nx ρ
  rt : ∀ d, D.rt d → D'.rt d
  bk : ∀ ρ, D.bk ρ → D'.bk ρ
  ct : ∀ ρ, D.ct ρ → D'.ct ρ
structure DE (X : Cx) (e : Expr) (t : DTE) : Prop where
  mono : ∀ {ρ Q Q'}, (∀ d, Q d → Q' d) → t ρ Q → t ρ Q'
  pe : PE X e (lE X.K t)
structure DT (X : Cx) (e : Expr) (t : DTT) : Prop where
  mono : ∀ {ρ Q Q'}, (∀ d, Q d → Q' d) → t ρ Q → t ρ Q'
  pt : PT X e (lT X.K t)
structure DA (X : Cx) (es : List Expr) (t : DTA) : Prop where
  mono : ∀ {ρ Q Q'}, (∀ d, Q d → Q' d) → t ρ Q → t ρ Q'
  pa : PA X es (lA X.K t)
structure DS (X : Cx) (st : Stmt) (t : DTS) : Prop where
  mono : ∀ {ρ D D'}, Es.le D D' → t D ρ → t D' ρ
  ps : PS X st (lS X.K t)
structure DSs (X : Cx) (st : List Stmt) (t : DTS) : Prop where
  mono : ∀ {ρ D D'}, Es.le D D' → t D ρ → t D' ρ
  ps : PSs X st (lS X.K t)
theorem PE.imp {X : Cx} {e : Expr} {t t' : TE} (h : PE X e t) (i : ∀ σ H Q, t' σ H Q → t σ H Q) : PE X e t' := fun pins s σ H Q I q => h pins s σ H Q I (i _ _ _ q)
theorem PT.imp {X : Cx} {e : Expr} {t t' : TT} (h : PT X e t) (i : ∀ σ H Q, t' σ H Q → t σ H Q) : PT X e t' := fun pins s σ H Q I q => h pins s σ H Q I (i _ _ _ q)
theorem PA.imp {X : Cx} {e : List Expr} {t t' : TA} (h : PA X e t) (i : ∀ σ H Q, t' σ H Q → t σ H Q) : PA X e t' := fun pos pins s σ H Q I q => h pos pins s σ H Q I (i _ _ _ q)
theorem PS.imp {X : Cx} {e : Stmt} {t t' : TS} (h : PS X e t) (i : ∀ D σ H, t' D σ H → t D σ H) : PS X e t' := fun pins s σ H D I q => h pins s σ H D I (i _ _ _ q)
theorem PSs.imp {X : Cx} {e : List Stmt} {t t' : TS} (h : PSs X e t) (i : ∀ D σ H, t' D σ H → t D σ H) : PSs X e t' := fun pins s σ H D I q => h pins s σ H D I (i _ _ _ q)
section
variable {X : Cx} {a b c e : Expr} {es : List Expr} {ta tb tc te : DTE} {tA tB : DTT} {tl : DTA} {pos : Pos}
noncomputable def Tn (i : Nat) : DTE := fun ρ Q => match ρ[i]? with
  | some (some (.is d)) => Q d
  | _ => False
noncomputable def dC (d : Dt) : DTE := fun _ Q => Q d
theorem dv (i : Nat) {x : Str} {pos : Pos} (hN : X.N[i]? = some x := by rfl) (hv : Vis X.env.scope x := by first | exact Or.inl rfl | exact Or.inr (Or.inl rfl) | exact Or.inr (Or.inr rfl)) (hd : (x == ("__debug__" : Str)) = false := by decide)
    (hcd : (x == ("__classdict__" : Str)) = false := by decide) : DE X (.Name x pos) (Tn i) where
  mono := fun {ρ Q Q'} hq h => by
    unfold Tn at h ⊢
    split at h
    · exact hq _ h
    · exact h.elim
  pe := (Jd hN hv hd hcd).imp fun σ H Q ⟨B, F, O, ρ, r, h⟩ => by
    unfold Tn at h
    split at h
    · rename_i d e
      obtain ⟨v, h1, h2⟩ := r.is i d e
      exact ⟨v, h1, h v H (Same.refl H) h2⟩
    · exact h.elim
theorem AcL {v : V} {d : Dt} (h : PE X e (tC v)) (hr : ∀ K H, Rp K H d v) : DE X e (dC d) where
  mono := fun hq h => hq _ h
  pe := h.imp fun σ H Q ⟨B, F, O, ρ, r, h⟩ => h v H (Same.refl H) (hr _ _)
theorem Ab {i j pos} : DE X (.Constant (.int i) j pos) (dC (.int i)) := AcL AfA fun _ _ => Bd.mpr rfl
theorem Jq {i j pos} : DE X (.Constant (.bool i) j pos) (dC (.bl i)) := AcL AgW fun _ _ => BX.mpr rfl
theorem PB {j pos} : DE X (.Constant .none j pos) (dC .non) := AcL Ad2 fun _ _ => GR.mpr rfl
theorem Hy {x j pos} : DE X (.Constant (.str x) j pos) (dC (.str x)) := AcL AdW fun _ _ => J3.mpr rfl
theorem KR {x : Str} {v : V} {u : Value} {d : Dt} {pos : Pos} (hg : Gl X x) (hm : X.mg x = some u) (r : RelV v u) (hr : ∀ H, Rp X.K H d v) (hd : (x == ("__debug__" : Str)) = false := by decide) : DE X (.Name x pos) (dC d) where
  mono := fun hq h => hq _ h
  pe := (V8 hg hm r hd).imp fun σ H Q ⟨B, F, O, ρ, _, h⟩ => h v H (Same.refl H) (hr _)
noncomputable abbrev D2 := Dt → Dt → (Dt → Prop) → Prop
structure Gg (K : PySem.W.Frag) (r : R2) (t : D2) : Prop where
  mono : ∀ {a b Q Q'}, (∀ d, Q d → Q' d) → t a b Q → t a b Q'
  ok : ∀ (O : List Addr) (H : Hp) (a b : Dt) (x y : V) (Q : VK), (∀ p ∈ O, H p ≠ none) → Rp K (mask O H) a x → Rp K (mask O H) b y →
    t a b (fun d => ∀ v H', Same H H' → Rp K (mask O H') d v → Q v H') → r x y H Q
noncomputable def dOp (t : D2) (ta tb : DTE) : DTE := fun ρ Q => ta ρ fun a => tb ρ fun b => t a b Q
theorem PL {K : PySem.W.Frag} {r : R2} {t : D2} (S : Gg K r t) {ta tb : DTE} (ma : ∀ {ρ Q Q'}, (∀ d, Q d → Q' d) → ta ρ Q → ta ρ Q') (mb : ∀ {ρ Q Q'}, (∀ d, Q d → Q' d) → tb ρ Q → tb ρ Q')
    (σ : St) (H : Hp) (Q : VK) (h : lE K (dOp t ta tb) σ H Q) : tOp r (lE K ta) (lE K tb) σ H Q := by
  obtain ⟨B, F, O, ρ, R, h⟩ := h
  refine ⟨B, F, O, ρ, R, ma (fun a h v H1 s1 r1 => ?_) h⟩
  refine ⟨B, F, O, ρ, R.same s1, mb (fun b h u H2 s2 r2 => ?_) h⟩
  exact S.ok _ H2 a b v u Q ((R.same s1).same s2).th (r1.mono s2.mask) r2 (S.mono (fun d q w H3 s3 r3 => q w H3 ((s1.trans s2).trans s3) r3) h)
theorem Hq {t : D2} (m : ∀ {a b Q Q'}, (∀ d, Q d → Q' d) → t a b Q → t a b Q') (ma : ∀ {ρ Q Q'}, (∀ d, Q d → Q' d) → ta ρ Q → ta ρ Q') (mb : ∀ {ρ Q Q'}, (∀ d, Q d → Q' d) → tb ρ Q → tb ρ Q') :
    ∀ {ρ Q Q'}, (∀ d, Q d → Q' d) → dOp t ta tb ρ Q → dOp t ta tb ρ Q' := fun hq h => ma (fun _ h => mb (fun _ h => m hq h) h) h
theorem Mh {op : Operator} {r : R2} {t : D2} (ho : OpR X (binaryOp op) r) (S : Gg X.K r t) (ha : DE X a ta) (hb : DE X b tb) : DE X (.BinOp a op b pos) (dOp t ta tb) where
  mono := Hq (t := t) (ta := ta) (tb := tb) S.mono ha.mono hb.mono
  pe := (AiZ ho ha.pe hb.pe).imp (PL (ta := ta) (tb := tb) S ha.mono hb.mono)
theorem Px {op : CmpOp} {r : R2} {t : D2} (ho : OpR X (compareOp op) r) (S : Gg X.K r t) (ha : DE X a ta) (hb : DE X b tb) (hm : behindInMarks op b = false) : DE X (.Compare a [op] [b] pos) (dOp t ta tb) where
  mono := Hq (t := t) (ta := ta) (tb := tb) S.mono ha.mono hb.mono
  pe := (Wo ho ha.pe hb.pe hm).imp (PL (ta := ta) (tb := tb) S ha.mono hb.mono)
theorem Aib {r : R2} {t : D2} (ho : IxR X r) (S : Gg X.K r t) (ha : DE X a ta) (hb : DE X b tb) (hs : Oz b) : DE X (.Subscript a b pos) (dOp t ta tb) where
  mono := Hq (t := t) (ta := ta) (tb := tb) S.mono ha.mono hb.mono
  pe := (AgA ho ha.pe hb.pe hs).imp (PL (ta := ta) (tb := tb) S ha.mono hb.mono)
noncomputable def dI (C : Int → Int → Prop) (g : Int → Int → Int) : D2 := fun a b Q => match a, b with
  | .int i, .int j => C i j ∧ Q (.int (g i j))
  | _, _ => False
noncomputable def dI0 (g : Int → Int → Int) : D2 := fun a b Q => match a, b with
  | .int i, .int j => Q (.int (g i j))
  | _, _ => False
noncomputable def dB0 (g : Int → Int → Bool) : D2 := fun a b Q => match a, b with
  | .int i, .int j => Q (.bl (g i j))
  | _, _ => False
theorem QG {K : PySem.W.Frag} {C : Int → Int → Prop} {g : Int → Int → Int} : Gg K (rI C fun i j => .int (g i j)) (dI C g) where
  mono := fun {a b Q Q'} hq h => by
    unfold dI at h ⊢
    split at h
    · exact ⟨h.1, hq _ h.2⟩
    · exact h.elim
  ok := fun O H a b x y Q _ ra rb h => by
    unfold dI at h
    split at h
    · exact ⟨_, _, Bd.mp ra, Bd.mp rb, h.1, h.2 _ H (Same.refl H) (Bd.mpr rfl)⟩
    · exact h.elim
theorem Y0 {K : PySem.W.Frag} {g : Int → Int → Int} : Gg K (rI0 fun i j => .int (g i j)) (dI0 g) where
  mono := fun {a b Q Q'} hq h => by
    unfold dI0 at h ⊢
    split at h
    · exact hq _ h
    · exact h.elim
  ok := fun O H a b x y Q _ ra rb h => by
    unfold dI0 at h
    split at h
    · exact ⟨_, _, Bd.mp ra, Bd.mp rb, h _ H (Same.refl H) (Bd.mpr rfl)⟩
    · exact h.elim
theorem Gi {K : PySem.W.Frag} {g : Int → Int → Bool} : Gg K (rI0 fun i j => .bl (g i j)) (dB0 g) where
  mono := fun {a b Q Q'} hq h => by
    unfold dB0 at h ⊢
    split at h
    · exact hq _ h
    · exact h.elim
  ok := fun O H a b x y Q _ ra rb h => by
    unfold dB0 at h
    split at h
    · exact ⟨_, _, Bd.mp ra, Bd.mp rb, h _ H (Same.refl H) (BX.mpr rfl)⟩
    · exact h.elim
theorem Ac7 : OpR X (binaryOp .Mult) (rI IntMulOk fun i j => .int (i * j)) := opI fun _ _ _ _ _ _ _ hc q => mul_int q hc
noncomputable def CDv (_ j : Int) : Prop := j ≠ 0 ∧ j.natAbs < 2 ^ 9000
theorem log2_small {n : Nat} (h : n < 2 ^ 9000) : n.log2 < 9000 := by
  by_cases h0 : n = 0
  · subst h0; decide +kernel
  · exact (Nat.log2_lt h0).mpr h
theorem Zx : OpR X (binaryOp .FloorDiv) (rI CDv fun i j => .int (i.fdiv j)) := opI fun _ _ _ _ _ _ _ hc q => floordiv_int hc.1 q (.inl (PyProof.noPylong_of_log2 (log2_small hc.2)))
noncomputable def AdM : D2 := dI0 fun i j => i + j
noncomputable def AgK : D2 := dI0 fun i j => i - j
noncomputable def AcQ : D2 := dI IntMulOk fun i j => i * j
noncomputable def Aif : D2 := dI (fun _ j => j ≠ 0) fun i j => i.fmod j
noncomputable def Ai6 : D2 := dI CDv fun i j => i.fdiv j
noncomputable def Aig : D2 := dI Rk fun i j => i ^ j.toNat
noncomputable def Aid : D2 := dI Rk fun i j => i * 2 ^ j.toNat
noncomputable def Akb : D2 := dI (fun _ j => 0 ≤ j) fun i j => i / 2 ^ j.toNat
theorem Bo (ha : DE X a ta) (hb : DE X b tb) : DE X (.BinOp a .Add b pos) (dOp AdM ta tb) := Mh AeO Y0 ha hb
theorem Cm (ha : DE X a ta) (hb : DE X b tb) : DE X (.BinOp a .Sub b pos) (dOp AgK ta tb) := Mh Aes Y0 ha hb
theorem Ak (ha : DE X a ta) (hb : DE X b tb) : DE X (.BinOp a .Mult b pos) (dOp AcQ ta tb) := Mh Ac7 QG ha hb
theorem Bp (ha : DE X a ta) (hb : DE X b tb) : DE X (.BinOp a .Mod b pos) (dOp Aif ta tb) := Mh AcF QG ha hb
theorem Cp (ha : DE X a ta) (hb : DE X b tb) : DE X (.BinOp a .FloorDiv b pos) (dOp Ai6 ta tb) := Mh Zx QG ha hb
theorem Pb (ha : DE X a ta) (hb : DE X b tb) : DE X (.BinOp a .Pow b pos) (dOp Aig ta tb) := Mh Aey QG ha hb
theorem AfU (ha : DE X a ta) (hb : DE X b tb) : DE X (.BinOp a .LShift b pos) (dOp Aid ta tb) := Mh Aek QG ha hb
noncomputable def dLt : D2 := dB0 fun i j => decide (i < j)
noncomputable def dLe : D2 := dB0 fun i j => decide (i ≤ j)
noncomputable def dGt : D2 := dB0 fun i j => decide (j < i)
noncomputable def dGe : D2 := dB0 fun i j => decide (j ≤ i)
theorem AhZ (ha : DE X a ta) (hb : DE X b tb) : DE X (.Compare a [.GtE] [b] pos) (dOp dGe ta tb) := Px AhO Gi ha hb (Gd _)
noncomputable def ixL : Int → List Dt → Option Dt
  | .ofNat n, ds => ds[n]?
  | .negSucc m, ds => if m < ds.length then ds[ds.length - 1 - m]? else none
noncomputable def ixD (i : Int) : Dt → Option Dt
  | .tup ds => ixL i ds
  | .lst ds => ixL i ds
  | _ => none
theorem YH {i : Int} {ds : List Dt} {d : Dt} (h : ixL i ds = some d) : atI ds i = some d := by
  cases i with
  | ofNat n => exact AcB h
  | negSucc m =>
    have h' : (if m < ds.length then ds[ds.length - 1 - m]? else none) = some d := h
    by_cases hm : m < ds.length
    · rw [if_pos hm] at h'
      unfold atI ixN
      have h1 : ¬ (0 : Int) ≤ Int.negSucc m := by omega
      have h2 : -(ds.length : Int) ≤ Int.negSucc m := by omega
      have h3 : (Int.negSucc m + (ds.length : Int)).toNat = ds.length - 1 - m := by omega
      rw [if_neg h1, if_pos h2, Option.bind_some, h3]
      exact h'
    · rw [if_neg hm] at h'; cases h'
noncomputable def dIx : D2 := fun a b Q => match b with
  | .int i => match ixD i a with
    | some d => Q d
    | none => False
  | _ => False
theorem Aaw {K : PySem.W.Frag} {H : Hp} {ds : List Dt} {xs : List V} {i : Int} {d : Dt} (r : RpL K H ds xs) (h : atI ds i = some d) : ∃ v, atI xs i = some v ∧ Rp K H d v := by
  unfold atI at h ⊢
  rw [r.len]
  cases e : ixN ds.length i with
  | none => rw [e] at h; cases h
  | some j =>
    rw [e] at h
    exact r.get h
theorem Aer {K : PySem.W.Frag} : Gg K (rIx K) dIx where
  mono := fun {a b Q Q'} hq h => by
    unfold dIx at h ⊢
    split at h
    · split at h
      · rename_i e; exact hq _ h
      · exact h.elim
    · exact h.elim
  ok := fun O H a b x y Q _ ra rb h => by
    unfold dIx at h
    split at h
    · split at h
      · rename_i i _ d e
        have eb := Bd.mp rb
        subst eb
        cases a with
        | tup ds =>
          obtain ⟨p, xs, rfl, hs, hl⟩ := Ds.mp ra
          obtain ⟨v, e1, e2⟩ := Aaw hl (YH e)
          exact .inr (.inl ⟨p, xs, i, v, rfl, rfl, Bh.seqT hs, e1, h v H (Same.refl H) e2⟩)
        | lst ds =>
          obtain ⟨p, xs, rfl, hs, hl⟩ := Ec ra
          obtain ⟨v, e1, e2⟩ := Aaw hl (YH e)
          exact .inl ⟨p, xs, i, v, rfl, rfl, Bh.seq hs, e1, h v H (Same.refl H) e2⟩
        | _ => cases e
      · exact h.elim
    · exact h.elim
theorem Ac (ha : DE X a ta) (hb : DE X b tb) (hs : Oz b := by exact fun _ _ => rfl) : DE X (.Subscript a b pos) (dOp dIx ta tb) := Aib Afm Aer ha hb hs
noncomputable def Acb : Dt → (Dt → Prop) → Prop := fun a Q => match a with
  | .int i => Q (.int (-i))
  | _ => False
noncomputable def dUn (t : Dt → (Dt → Prop) → Prop) (ta : DTE) : DTE := fun ρ Q => ta ρ fun a => t a Q
theorem GZ (ha : DE X a ta) : DE X (.UnaryOp .USub a pos) (dUn Acb ta) where
  mono := fun hq h => ha.mono (fun d h => by
    unfold Acb at h ⊢
    split at h
    · exact hq _ h
    · exact h.elim) h
  pe := (Ajk Ad3 ha.pe).imp fun σ H Q ⟨B, F, O, ρ, R, h⟩ => ⟨B, F, O, ρ, R, ha.mono (fun d h v H1 s1 r1 => by
    unfold Acb at h
    split at h
    · exact ⟨_, Bd.mp r1, h _ H1 s1 (Bd.mpr rfl)⟩
    · exact h.elim) h⟩
noncomputable def Agj (ta : DTE) : DTE := fun ρ Q => ta ρ fun a => match a with
  | .bl k => Q (.bl (!k))
  | _ => False
noncomputable def Aha (ta tb : DTE) : DTE := fun ρ Q => ta ρ fun a => match a with
  | .bl k => if k = true then tb ρ Q else Q (.bl false)
  | _ => False
noncomputable def dOr (ta tb : DTE) : DTE := fun ρ Q => ta ρ fun a => match a with
  | .bl k => if k = true then Q (.bl true) else tb ρ Q
  | _ => False
theorem Yc (ha : DE X a ta) : DE X (.UnaryOp .Not a pos) (Agj ta) where
  mono := fun hq h => ha.mono (fun d h => by
    split at h
    · exact hq _ h
    · exact h.elim) h
  pe := (Afh ha.pe).imp fun σ H Q ⟨B, F, O, ρ, R, h⟩ => ⟨B, F, O, ρ, R, ha.mono (fun d h v H1 s1 r1 => by
    split at h
    · exact ⟨_, BX.mp r1, h _ H1 s1 (BX.mpr rfl)⟩
    · exact h.elim) h⟩
theorem JV {op} (h : DE X a ta) : DE X (.BoolOp op [a] pos) ta := ⟨h.mono, AeQ h.pe⟩
theorem MJ {rest : List Expr} (ha : DE X a ta) (hb : DE X (.BoolOp .And (b :: rest) pos) tb) : DE X (.BoolOp .And (a :: b :: rest) pos) (Aha ta tb) where
  mono := fun hq h => ha.mono (fun d h => by
    split at h
    · split at h
      · rename_i e; simp only [e, if_true]; exact hb.mono hq h
      · rename_i e; simp only [e]; exact hq _ h
    · exact h.elim) h
  pe := (Af9 ha.pe hb.pe).imp fun σ H Q ⟨B, F, O, ρ, R, h⟩ => ⟨B, F, O, ρ, R, ha.mono (fun d h v H1 s1 r1 => by
    split at h
    · rename_i k
      refine ⟨k, BX.mp r1, ?_⟩
      cases k with
      | true => exact ⟨B, F, O, ρ, R.same s1, hb.mono (fun d q v H2 s2 r2 => q v H2 (s1.trans s2) r2) h⟩
      | false => exact h _ H1 s1 (BX.mpr rfl)
    · exact h.elim) h⟩
theorem Ai4 {rest : List Expr} (ha : DE X a ta) (hb : DE X (.BoolOp .Or (b :: rest) pos) tb) : DE X (.BoolOp .Or (a :: b :: rest) pos) (dOr ta tb) where
  mono := fun hq h => ha.mono (fun d h => by
    split at h
    · split at h
      · rename_i e; simp only [e, if_true]; exact hq _ h
      · rename_i e; simp only [e]; exact hb.mono hq h
    · exact h.elim) h
  pe := (Ai2 ha.pe hb.pe).imp fun σ H Q ⟨B, F, O, ρ, R, h⟩ => ⟨B, F, O, ρ, R, ha.mono (fun d h v H1 s1 r1 => by
    split at h
    · rename_i k
      refine ⟨k, BX.mp r1, ?_⟩
      cases k with
      | false => exact ⟨B, F, O, ρ, R.same s1, hb.mono (fun d q v H2 s2 r2 => q v H2 (s1.trans s2) r2) h⟩
      | true => exact h _ H1 s1 (BX.mpr rfl)
    · exact h.elim) h⟩
noncomputable def Mq (t : DTE) : DTT := fun ρ Q => t ρ fun a => match a with
  | .bl k => Q k
  | _ => False
theorem Oa {t : DTE} (m : ∀ {ρ Q Q'}, (∀ d, Q d → Q' d) → t ρ Q → t ρ Q') : ∀ {ρ Q Q'}, (∀ d, Q d → Q' d) → Mq t ρ Q → Mq t ρ Q' := fun hq h => m (fun d h => by
    split at h
    · exact hq _ h
    · exact h.elim) h
theorem Ew (h : DE X e te) (he : ∀ whole, isTrue e X.env whole = (do let v ← whole; standAt e.pos; holding [v] (truthy v)) := by intro _; rfl) : DT X e (Mq te) where
  mono := Oa (t := te) h.mono
  pt := (Afi h.pe he).imp fun σ H Q ⟨B, F, O, ρ, R, q⟩ => ⟨B, F, O, ρ, R, h.mono (fun d q v H1 s1 r1 => by
    split at q
    · exact ⟨_, BX.mp r1, q H1 s1⟩
    · exact q.elim) q⟩
theorem J8 {op : CmpOp} {r : R2} {t : D2} (ho : OpR X (compareOp op) r) (S : Gg X.K r t) (ha : DE X a ta) (hb : DE X b tb) (hm : behindInMarks op b = false) : DT X (.Compare a [op] [b] pos) (Mq (dOp t ta tb)) where
  mono := Oa (t := dOp t ta tb) (Hq (t := t) (ta := ta) (tb := tb) S.mono ha.mono hb.mono)
  pt := (AbQ ho ha.pe hb.pe hm).imp fun σ H Q ⟨B, F, O, ρ, R, q⟩ => PL (ta := ta) (tb := tb) S ha.mono hb.mono σ H _ ⟨B, F, O, ρ, R, Hq (t := t) (ta := ta) (tb := tb) S.mono ha.mono hb.mono (fun d q v H1 s1 r1 => by
    split at q
    · exact ⟨_, BX.mp r1, q H1 s1⟩
    · exact q.elim) q⟩
theorem Uv (ha : DE X a ta) (hb : DE X b tb) : DT X (.Compare a [.Lt] [b] pos) (Mq (dOp dLt ta tb)) := J8 XH Gi ha hb (Gd _)
theorem Ws (ha : DE X a ta) (hb : DE X b tb) : DT X (.Compare a [.Gt] [b] pos) (Mq (dOp dGt ta tb)) := J8 Aiq Gi ha hb (Gd _)
noncomputable def Adv (t : DTT) : DTT := fun ρ Q => t ρ fun k => Q (!k)
noncomputable def Adk (t u : DTT) : DTT := fun ρ Q => t ρ fun k => if k = true then u ρ Q else Q false
noncomputable def AhA (t u : DTT) : DTT := fun ρ Q => t ρ fun k => if k = true then Q true else u ρ Q
theorem Gb (ha : DT X a tA) : DT X (.UnaryOp .Not a pos) (Adv tA) where
  mono := fun hq h => ha.mono (fun _ h => hq _ h) h
  pt := (Aee ha.pt).imp fun σ H Q ⟨B, F, O, ρ, R, q⟩ => ⟨B, F, O, ρ, R, q⟩
structure DW (X : Cx) (e : Expr) (t : DTT) : Prop where
  mono : ∀ {ρ Q Q'}, (∀ d, Q d → Q' d) → t ρ Q → t ρ Q'
  pw : PW X e (lT X.K t)
theorem DW.dt {t : DTT} (h : DW X e t) : DT X e t := ⟨h.mono, h.pw.pt⟩
theorem VR (ha : DT X a tA) : DW X (.BoolOp .And [a] pos) tA := ⟨ha.mono, AbX ha.pt⟩
theorem OJ (ha : DT X a tA) : DW X (.BoolOp .Or [a] pos) tA := ⟨ha.mono, AfO ha.pt⟩
theorem PW.imp {t t' : TT} (h : PW X e t) (i : ∀ σ H Q, t' σ H Q → t σ H Q) : PW X e t' := fun wh pins s σ H Q I q => h wh pins s σ H Q I (i _ _ _ q)
theorem Za {rest : List Expr} (ha : DT X a tA) (hb : DW X (.BoolOp .And (b :: rest) pos) tB) : DW X (.BoolOp .And (a :: b :: rest) pos) (Adk tA tB) where
  mono := fun hq h => ha.mono (fun k h => by
    cases k with
    | true => exact hb.mono hq h
    | false => exact hq _ h) h
  pw := (Aeq ha.pt hb.pw).imp fun σ H Q ⟨B, F, O, ρ, R, q⟩ => ⟨B, F, O, ρ, R, ha.mono (fun k h H1 s1 => by
    cases k with
    | true => exact ⟨B, F, O, ρ, R.same s1, hb.mono (fun k q H2 s2 => q H2 (s1.trans s2)) h⟩
    | false => exact h H1 s1) q⟩
theorem Vv {rest : List Expr} (ha : DT X a tA) (hb : DW X (.BoolOp .Or (b :: rest) pos) tB) : DW X (.BoolOp .Or (a :: b :: rest) pos) (AhA tA tB) where
  mono := fun hq h => ha.mono (fun k h => by
    cases k with
    | true => exact hq _ h
    | false => exact hb.mono hq h) h
  pw := (AiJ ha.pt hb.pw).imp fun σ H Q ⟨B, F, O, ρ, R, q⟩ => ⟨B, F, O, ρ, R, ha.mono (fun k h H1 s1 => by
    cases k with
    | false => exact ⟨B, F, O, ρ, R.same s1, hb.mono (fun k q H2 s2 => q H2 (s1.trans s2)) h⟩
    | true => exact h H1 s1) q⟩
noncomputable def Aj7 (t : DTT) (ta tb : DTE) : DTE := fun ρ Q => t ρ fun k => if k = true then ta ρ Q else tb ρ Q
noncomputable def Aca : DTA := fun _ Q => Q []
noncomputable def Wf (te : DTE) (tl : DTA) : DTA := fun ρ Q => te ρ fun d => tl ρ fun ds => Q (d :: ds)
theorem Af : DA X [] Aca := ⟨fun hq h => hq _ h, O6.imp fun σ H Q ⟨B, F, O, ρ, R, q⟩ => q [] H (Same.refl H) RpL.nil⟩
theorem Aa (ha : DE X e te) (hr : DA X es tl) (hs : starEach (e :: es) X.env = (false, eval e X.env) :: starEach es X.env := by rfl) : DA X (e :: es) (Wf te tl) where
  mono := fun hq h => ha.mono (fun d h => hr.mono (fun ds h => hq _ h) h) h
  pa := (GF ha.pe hr.pa hs).imp fun σ H Q ⟨B, F, O, ρ, R, q⟩ => ⟨B, F, O, ρ, R, ha.mono (fun d h v H1 s1 r1 => ⟨B, F, O, ρ, R.same s1, hr.mono (fun ds h vs H2 s2 r2 =>
    h (v :: vs) H2 (s1.trans s2) (RpL.cons (r1.mono s2.mask) r2)) h⟩) q⟩
noncomputable def dTup (tl : DTA) : DTE := fun ρ Q => tl ρ fun ds => ds.length ≤ sizeLine ∧ Q (.tup ds)
noncomputable def AgU (tl : DTA) : DTE := fun ρ Q => tl ρ fun ds => ds.length ≤ sizeLine ∧ Q (.lst ds)
theorem Mj {O : List Addr} {H : Hp} {p : Addr} {o : HO} (hp : p ∉ O) : mask O (upd H p o) p = some o := by rw [Ba hp, Bb]
theorem BW {k} (h : DA X es tl) : DE X (.Tuple es k pos) (dTup tl) where
  mono := fun hq z => h.mono (fun ds q => ⟨q.1, hq _ q.2⟩) z
  pe := (AdI h.pa).imp fun σ H Q ⟨B, F, O, ρ, R, q⟩ => ⟨B, F, O, ρ, R, h.mono (fun ds z vs H1 s1 r1 => ⟨by rw [r1.len]; exact z.1, fun p hp => by
    have np : p ∉ F ++ O := fun m => (R.same s1).th p m hp
    exact z.2 (.ref p) _ (s1.trans (Same.upd hp)) (Ds.mpr ⟨p, vs, rfl, SqT.of (Mj np), r1.mono (Same.upd hp).mask⟩)⟩) q⟩
theorem AeY (h : DA X es tl) : DE X (.List es pos) (AgU tl) where
  mono := fun hq z => h.mono (fun ds q => ⟨q.1, hq _ q.2⟩) z
  pe := (AaF h.pa).imp fun σ H Q ⟨B, F, O, ρ, R, q⟩ => ⟨B, F, O, ρ, R, h.mono (fun ds z vs H1 s1 r1 => ⟨by rw [r1.len]; exact z.1, fun p hp => by
    have np : p ∉ F ++ O := fun m => (R.same s1).th p m hp
    exact z.2 (.ref p) _ (s1.trans (Same.upd hp)) (K8 ⟨p, vs, rfl, (Mj np), r1.mono (Same.upd hp).mask⟩)⟩) q⟩
noncomputable abbrev DSp := List Dt → (Dt → Prop) → Prop
noncomputable def lSp (K : PySem.W.Frag) (sp : DSp) : Sp := fun vs H Q _ => ∃ F ds, (∀ a ∈ F, H a ≠ none) ∧ RpL K (mask F H) ds vs ∧ sp ds fun d => ∀ v H', Same H H' → Rp K (mask F H') d v → Q v H'
noncomputable def Gh (sp : DSp) : Prop := ∀ ds Q Q', (∀ d, Q d → Q' d) → sp ds Q → sp ds Q'
noncomputable def dCall (sp : DSp) (tl : DTA) : DTE := fun ρ Q => tl ρ fun ds => sp ds Q
theorem Acm {CX : CXT} {k : Nat} {f : Addr} {fd : FuncData} {ps : List Str} {sp : DSp} {x : Str} {p : Pos} (m : Gh sp) (G : Dl X.prog X.w X.K X.mg X.base CX0 k f fd ps (lSp X.K sp)) (hr : CN k X.A) (hg : Gl X x) (hm : X.mg x = some (.ref f))
    (hk : PySem.W.keepIn X.K (.ref f) = true) (hb : Binds X.K fd ps []) (ha : DA X (e :: es) tl) (hdb : (x == ("__debug__" : Str)) = false := by decide)
    (he : starEach (e :: es) X.env = (false, eval e X.env) :: starEach es X.env := by rfl) (hpl : (backTo pos (starEach es X.env)).any (·.1) = false := by rfl) : DE X (.Call (.Name x p) (e :: es) [] pos) (dCall sp tl) where
  mono := fun hq z => ha.mono (fun ds q => m _ _ _ hq q) z
  pe := (Aa5 G hr hg hm hk hb .nil QX ha.pa hdb he hpl).imp fun σ H Q ⟨B, F, O, ρ, R, q⟩ => ⟨B, F, O, ρ, R, ha.mono (fun ds z vs H1 s1 r1 => by
    show lSp X.K sp (vs ++ []) H1 Q E0
    rw [List.append_nil]
    exact ⟨F ++ O, ds, (R.same s1).th, r1, m _ _ _ (fun d q v H2 s2 r2 => q v H2 (s1.trans s2) r2) z⟩) q⟩
variable {st : Stmt} {sts : List Stmt} {t u : DTS}
noncomputable def Ade : DTS := fun D ρ => D.nx ρ
noncomputable def Aet (t u : DTS) : DTS := fun D ρ => t { D with nx := u D } ρ
theorem AiK {D D' : Es} {P P' : Bv → Prop} (h : Es.le D D') (hp : ∀ ρ, P ρ → P' ρ) : Es.le { D with nx := P } { D' with nx := P' } := ⟨hp, h.rt, h.bk, h.ct⟩
theorem le_refl {D : Es} : Es.le D D := ⟨fun _ h => h, fun _ h => h, fun _ h => h, fun _ h => h⟩
theorem Az : DSs X [] Ade := ⟨fun hd h => hd.nx _ h, U7.imp fun D σ H ⟨B, F, O, ρ, R, h⟩ => h O σ H R⟩
theorem Ad (h1 : DS X st t) (h2 : DSs X sts u) : DSs X (st :: sts) (Aet t u) where
  mono := fun hd h => h1.mono (AiK hd fun ρ q => h2.mono hd q) h
  ps := (Jx h1.ps h2.ps).imp fun D σ H ⟨B, F, O, ρ, R, h⟩ => ⟨B, F, O, ρ, R, h1.mono (D := { lD X.K B F D with nx := u (lD X.K B F D) }) ⟨fun ρ' q O' σ' H' R' => ⟨B, F, O', ρ', R', q⟩, fun _ q => q, fun _ q => q, fun _ q => q⟩ h⟩
theorem Ai (h1 : DS X st t) : DSs X [st] t := ⟨h1.mono, Jv h1.ps⟩
noncomputable def YQ : DTS := fun _ _ => False
theorem Ji : DS X st YQ := ⟨fun _ h => h.elim, AaD.imp fun D σ H ⟨B, F, O, ρ, R, h⟩ => h.elim⟩
noncomputable def Adb (te : DTE) : DTS := fun D ρ => te ρ fun _ => D.nx ρ
theorem Jy (he : DE X e te) (hs : swapsWith e none pos.line X.env = pure false := by rfl) : DS X (.Expr e pos) (Adb te) where
  mono := fun hd h => he.mono (fun _ h => hd.nx _ h) h
  ps := (K4 he.pe hs).imp fun D σ H ⟨B, F, O, ρ, R, h⟩ => ⟨B, F, O, ρ, R, he.mono (fun d q v H1 s1 _ => q O σ H1 (R.same s1)) h⟩
noncomputable def AgO (te : DTE) : DTS := fun D ρ => te ρ D.rt
theorem Mz {F O : List Addr} {H : Hp} : Same (mask (F ++ O) H) (mask F H) := Fy fun _ h => List.mem_append_left _ h
theorem Aq (he : DE X e te) : DS X (.Return (some e) pos) (AgO te) where
  mono := fun hd h => he.mono (fun _ h => hd.rt _ h) h
  ps := (Yq he.pe).imp fun D σ H ⟨B, F, O, ρ, R, h⟩ => ⟨B, F, O, ρ, R, he.mono (fun d q v H1 s1 r1 => q v H1 (R.base.trans s1) (r1.mono Mz)) h⟩
noncomputable def Agw : DTS := fun D _ => D.rt .non
noncomputable def dIf (c : DTT) (t u : DTS) : DTS := fun D ρ => c ρ fun k => if k = true then t D ρ else u D ρ
theorem BK {sa sb : List Stmt} (hc : DT X c tA) (ha : DSs X sa t) (hb : DSs X sb u) : DS X (.If c sa sb pos) (dIf tA t u) where
  mono := fun hd h => hc.mono (fun k h => by
    cases k with
    | true => exact ha.mono hd h
    | false => exact hb.mono hd h) h
  ps := (AdC hc.pt ha.ps hb.ps).imp fun D σ H ⟨B, F, O, ρ, R, h⟩ => ⟨B, F, O, ρ, R, hc.mono (fun k h H1 s1 => by
    cases k with
    | true => exact ⟨B, F, O, ρ, R.same s1, h⟩
    | false => exact ⟨B, F, O, ρ, R.same s1, h⟩) h⟩
noncomputable abbrev DTG := Dt → Bv → (Bv → Prop) → Prop
noncomputable abbrev Nf := List Dt → Bv → (Bv → Prop) → Prop
noncomputable def lG (K : PySem.W.Frag) (g : DTG) : TG := fun v σ H Q => ∃ B F O ρ d, Rep K B F O H σ ρ ∧ Rp K (mask (F ++ O) H) d v ∧ g d ρ fun ρ' => ∀ σ', Rep K B F O H σ' ρ' → Q σ' H
noncomputable def lGs (K : PySem.W.Frag) (g : Nf) : TGs := fun vs σ H Q => ∃ B F O ρ ds, Rep K B F O H σ ρ ∧ RpL K (mask (F ++ O) H) ds vs ∧ g ds ρ fun ρ' => ∀ σ', Rep K B F O H σ' ρ' → Q σ' H
structure DG (X : Cx) (tg : Expr) (g : DTG) : Prop where
  mono : ∀ {d ρ Q Q'}, (∀ ρ', Q ρ' → Q' ρ') → g d ρ Q → g d ρ Q'
  pg : PG X tg (lG X.K g)
structure DGs (X : Cx) (tgs : List Expr) (g : Nf) : Prop where
  mono : ∀ {d ρ Q Q'}, (∀ ρ', Q ρ' → Q' ρ') → g d ρ Q → g d ρ Q'
  pg : PGs X tgs (lGs X.K g)
theorem PG.imp {e : Expr} {t t' : TG} (h : PG X e t) (i : ∀ v σ H Q, t' v σ H Q → t v σ H Q) : PG X e t' := fun pins s σ H v u Q I r q => h pins s σ H v u Q I r (i _ _ _ _ q)
theorem PGs.imp {e : List Expr} {t t' : TGs} (h : PGs X e t) (i : ∀ v σ H Q, t' v σ H Q → t v σ H Q) : PGs X e t' := fun pins s σ H v u Q I r q => h pins s σ H v u Q I r (i _ _ _ _ q)
noncomputable def MK (i : Nat) : DTG := fun d ρ Q => Q (ρ.set i (some (.is d)))
theorem Ej (i : Nat) {x : Str} (hN : X.N.Nodup) (hi : X.N[i]? = some x := by rfl) (hx : Loc X.env.scope x := by first | exact Or.inl rfl | exact Or.inr rfl)
    (hf : X.fn x = true ∨ X.env.scope.names.lookup x = some .local := by first | exact .inl rfl | exact .inr rfl | assumption) : DG X (.Name x pos) (MK i) where
  mono := fun hq h => hq _ h
  pg := (Wu hN hi hx hf).imp fun v σ H Q ⟨B, F, O, ρ, d, R, r, h⟩ => h _ (R.set i r)
noncomputable def V2 : Nf := fun ds ρ Q => match ds with
  | [] => Q ρ
  | _ => False
noncomputable def Qe (g : DTG) (gs : Nf) : Nf := fun ds ρ Q => match ds with
  | d :: r => g d ρ fun ρ' => gs r ρ' Q
  | [] => False
theorem Qh : DGs X [] V2 where
  mono := fun hq h => by
    unfold V2 at h ⊢
    split at h
    · exact hq _ h
    · exact h.elim
  pg := Ac8.imp fun vs σ H Q ⟨B, F, O, ρ, ds, R, r, h⟩ => by
    unfold V2 at h
    split at h
    · exact ⟨Bs.mp r, h σ R⟩
    · exact h.elim
theorem Du {g : DTG} {gs : Nf} (h1 : DG X e g) (h2 : DGs X es gs) (hs : (assignEach (e :: es) X.env).map (·.2) = assign e X.env :: (assignEach es X.env).map (·.2) := by rfl) : DGs X (e :: es) (Qe g gs) where
  mono := fun hq h => by
    unfold Qe at h ⊢
    split at h
    · exact h1.mono (fun ρ' q => h2.mono hq q) h
    · exact h.elim
  pg := (Y9 h1.pg h2.pg hs).imp fun vs σ H Q ⟨B, F, O, ρ, ds, R, r, h⟩ => by
    unfold Qe at h
    split at h
    · obtain ⟨v, vr, rfl, r1, r2⟩ := Ay.mp r
      exact ⟨v, vr, rfl, B, F, O, ρ, _, R, r1, h1.mono (fun ρ' q σ' R' => ⟨B, F, O, ρ', _, R', r2, q⟩) h⟩
    · exact h.elim
noncomputable def Vc (n : Nat) (gs : Nf) : DTG := fun d ρ Q => match d with
  | .tup ds => ds.length = n ∧ gs ds ρ Q
  | _ => False
theorem ZQ {k : Nat} {gs : Nf} {n : Nat} (hc : X.calm = true) (h : DGs X es gs) (hn : (assignEach es X.env).length = n := by rfl) (hst : (assignEach es X.env).findIdx? (·.1) = none := by rfl) : DG X (.Tuple es k pos) (Vc n gs) where
  mono := fun hq z => by
    unfold Vc at z ⊢
    split at z
    · exact ⟨z.1, h.mono hq z.2⟩
    · exact z.elim
  pg := (AfB hc h.pg hn hst).imp fun v σ H Q ⟨B, F, O, ρ, d, R, r, z⟩ => by
    unfold Vc at z
    split at z
    · obtain ⟨a, xs, rfl, hs, hl⟩ := Ds.mp r
      exact ⟨a, xs, rfl, Bh.seqT hs, by rw [hl.len]; exact z.1, B, F, O, ρ, _, R, hl, z.2⟩
    · exact z.elim
noncomputable def AaW (te : DTE) (g : DTG) : DTS := fun D ρ => te ρ fun d => g d ρ D.nx
theorem RB {tg : Expr} {g : DTG} (he : DE X e te) (hg : DG X tg g) (hs : swapsWithSole [tg] e pos.line X.env = pure false := by rfl) (hw : swappedStores [tg] e X.env = pure none := by rfl)
    (h1 : (assignEach [tg] X.env).map (·.2) = [assign tg X.env] := by rfl) : DS X (.Assign [tg] e pos) (AaW te g) where
  mono := fun hd h => he.mono (fun _ h => hg.mono (fun _ h => hd.nx _ h) h) h
  ps := (AdJ he.pe hg.pg hs hw h1).imp fun D σ H ⟨B, F, O, ρ, R, h⟩ => ⟨B, F, O, ρ, R, he.mono (fun d q v H1 s1 r1 => ⟨B, F, O, ρ, d, R.same s1, r1, hg.mono (fun ρ' q σ' R' => q O σ' H1 R') q⟩) h⟩
noncomputable def Aat (c : DTT) (tb : DTS) : DTS := fun D ρ => ∃ W : Nat → Bv → Prop, (∃ m, W m ρ) ∧ ∀ m ρ, W m ρ →
  c ρ fun k => if k = true then tb { D with nx := fun ρ' => ∃ m', m' < m ∧ W m' ρ', ct := fun ρ' => ∃ m', m' < m ∧ W m' ρ', bk := D.nx } ρ else D.nx ρ
theorem HB {body : List Stmt} (hp : PassesOwn (model X.prog X.w) X.A X.env X.xe) (hc : DT X c tA) (hb : DSs X body t) : DS X (.While c body [] pos) (Aat tA t) where
  mono := fun {ρ D D'} hd ⟨W, h0, h⟩ => ⟨W, h0, fun m ρ w => hc.mono (fun k h => by
    cases k with
    | true => exact hb.mono (D := { D with nx := fun ρ' => ∃ m', m' < m ∧ W m' ρ', ct := fun ρ' => ∃ m', m' < m ∧ W m' ρ', bk := D.nx }) ⟨fun _ q => q, hd.rt, hd.nx, fun _ q => q⟩ h
    | false => exact hd.nx _ h) (h m ρ w)⟩
  ps := (Z6 hp hc.pt hb.ps).imp fun D σ H ⟨B, F, O, ρ, R, W, ⟨m0, w0⟩, h⟩ => by
    refine ⟨fun m σ H => ∃ O ρ, Rep X.K B F O H σ ρ ∧ W m ρ, ⟨m0, O, ρ, R, w0⟩, ?_⟩
    rintro m σ H ⟨O, ρ, R, w⟩
    refine ⟨B, F, O, ρ, R, hc.mono (fun k h H1 s1 => ?_) (h m ρ w)⟩
    cases k with
    | true =>
      refine ⟨fun σ' H' => ∃ m', m' < m ∧ ∃ O ρ, Rep X.K B F O H' σ' ρ ∧ W m' ρ, fun σ' H' ⟨m', l, q⟩ => ⟨m', l, q⟩, B, F, O, ρ, R.same s1, hb.mono (D := { lD X.K B F D with nx := fun ρ' => ∃ m', m' < m ∧ W m' ρ', ct := fun ρ' => ∃ m', m' < m ∧ W m' ρ', bk := (lD X.K B F D).nx }) ⟨?_, fun _ q => q, fun _ q => q, ?_⟩ h⟩
      · rintro ρ' ⟨m', l, w'⟩ O' σ' H' R'
        exact ⟨m', l, O', ρ', R', w'⟩
      · rintro ρ' ⟨m', l, w'⟩ O' σ' H' R'
        exact ⟨m', l, O', ρ', R', w'⟩
    | false => exact h O σ H1 (R.same s1)
noncomputable def ItD (K : PySem.W.Frag) (M : Hp) (J : It) (items : List Dt) : Prop := ∀ H, Same M H →
  (∀ (k : Nat) d, items[k]? = some d → J.go k H ∧ ∀ x H', J.yld k H x H' → H' = H ∧ Rp K M d x) ∧ J.stop items.length H
noncomputable abbrev DTI := Bv → (List Dt → Prop) → Prop
noncomputable def lI (K : PySem.W.Frag) (ti : DTI) : TI := fun σ H R => ∃ B F O ρ, Rep K B F O H σ ρ ∧ ti ρ fun items => ∀ J H', Same H H' → ItD K (mask (F ++ O) H') J items → R J H'
structure DI (X : Cx) (tg iter : Expr) (ti : DTI) : Prop where
  mono : ∀ {ρ Q Q'}, (∀ d, Q d → Q' d) → ti ρ Q → ti ρ Q'
  pi : PI X tg iter (lI X.K ti)
theorem PI.imp {tg e : Expr} {t t' : TI} (h : PI X tg e t) (i : ∀ σ H Q, t' σ H Q → t σ H Q) : PI X tg e t' := fun pins s σ H R I q => h pins s σ H R I (i _ _ _ q)
noncomputable def AhL (ti : DTI) (g : DTG) (tb : DTS) : DTS := fun D ρ => ti ρ fun items => ∃ W : Nat → Bv → Prop, W 0 ρ ∧
  (∀ (k : Nat) d ρ', items[k]? = some d → W k ρ' → g d ρ' fun ρ2 => tb { D with nx := W (k + 1), ct := W (k + 1), bk := D.nx } ρ2) ∧ ∀ ρ', W items.length ρ' → D.nx ρ'
theorem Rep.rebase {K : PySem.W.Frag} {B : Hp} {F O : List Addr} {H : Hp} {σ : St} {ρ : Bv} (r : Rep K B F O H σ ρ) : Rep K (mask O H) F O H σ ρ :=
  ⟨r.len, Bh, fun _ h => CW h, r.th, r.is, r.own, r.inj, r.tab, r.tinj⟩
theorem Rep.unbase {K : PySem.W.Frag} {B B' : Hp} {F O O' : List Addr} {H H' : Hp} {σ σ' : St} {ρ ρ' : Bv} (r : Rep K B F O H σ ρ) (r' : Rep K (mask O H) F O' H' σ' ρ') : Rep K B F O' H' σ' ρ' := by
  have s : Same B (mask O H) := fun a o e => by
    rw [Ba]
    · exact r.base a o e
    · intro z; rw [r.fr a z] at e; cases e
  refine ⟨r'.len, s.trans r'.base, fun a h => ?_, r'.th, r'.is, r'.own, r'.inj, r'.tab, r'.tinj⟩
  cases q : B a with
  | none => rfl
  | some o => have := s a o q; rw [r'.fr a h] at this; cases this
theorem Rep.sub {K : PySem.W.Frag} {B : Hp} {F O : List Addr} {H : Hp} {σ : St} {ρ : Bv} (r : Rep K B F O H σ ρ) : Same B (mask O H) := fun a o e => by
  rw [Ba]
  · exact r.base a o e
  · intro z; rw [r.fr a z] at e; cases e
theorem Xi {F O : List Addr} {H : Hp} : mask F (mask O H) = mask (F ++ O) H := by
  funext a
  by_cases h1 : a ∈ F
  · rw [CW h1, CW (List.mem_append_left _ h1)]
  · rw [Ba h1]
    by_cases h2 : a ∈ O
    · rw [CW h2, CW (List.mem_append_right _ h2)]
    · rw [Ba h2, Ba fun z => (List.mem_append.mp z).elim h1 h2]
theorem AfD {tg iter : Expr} {body : List Stmt} {ti : DTI} {g : DTG} (hp : PassesOwn (model X.prog X.w) X.A X.env X.xe) (hc : X.calm = true) (hi : DI X tg iter ti) (hg : DG X tg g) (hb : DSs X body t)
    (hs : ∀ x, foldedSetIterable iter X.env x = pure x := by intro _; rfl) : DS X (.For tg iter body [] pos) (AhL ti g t) where
  mono := fun {ρ D D'} hd h => hi.mono (fun items ⟨W, h0, h, he⟩ => ⟨W, h0, fun k d ρ' e w => hg.mono (fun ρ2 q => hb.mono (D := { D with nx := W (k + 1), ct := W (k + 1), bk := D.nx }) ⟨fun _ q => q, hd.rt, hd.nx, fun _ q => q⟩ q) (h k d ρ' e w), fun ρ' w => hd.nx _ (he ρ' w)⟩) h
  ps := (AfI hp hc hi.pi hg.pg hb.ps hs).imp fun D σ H ⟨B, F, O, ρ, R, h⟩ => by
    refine ⟨B, F, O, ρ, R, hi.mono (fun items z J H1 s1 it => ?_) h⟩
    obtain ⟨W, h0, h, he⟩ := z
    have R1 := R.same s1
    refine ⟨fun i m σ H => m + i = items.length ∧ ∃ O' ρ', Rep X.K (mask O H1) F O' H σ ρ' ∧ W i ρ', ⟨items.length, by omega, O, ρ, R1.rebase, h0⟩, ?_⟩
    rintro i m σ2 H2 ⟨hm, O', ρ', R2, w⟩
    have sb : Same (mask (F ++ O) H1) H2 := fun a o e => R2.base a o (by
      obtain ⟨q, e⟩ := Dq e
      rw [Ba fun z => q (List.mem_append_right _ z)]; exact e)
    obtain ⟨go, stop⟩ := it H2 sb
    by_cases hlt : i < items.length
    · refine .inr ⟨(go i items[i] (by simp [hlt])).1, fun σ' H' => ∃ O' ρ', Rep X.K (mask O H1) F O' H' σ' ρ' ∧ W (i + 1) ρ', fun σ' H' q => ⟨m - 1, by omega, by omega, q⟩, fun x H3 y => ?_⟩
      obtain ⟨e, r⟩ := (go i items[i] (by simp [hlt])).2 x H3 y
      subst e
      have r' : Rp X.K (mask (F ++ O') H3) items[i] x := r.mono (by rw [← Xi]; exact R2.below)
      refine ⟨_, F, O', ρ', _, R2, r', hg.mono (fun ρ2 q σ3 R3 => ⟨_, F, O', ρ2, R3, hb.mono (D := { lD X.K B F D with nx := W (i + 1), ct := W (i + 1), bk := (lD X.K B F D).nx }) ⟨?_, ?_, ?_, ?_⟩ q⟩) (h i _ ρ' (by simp [hlt]) w)⟩
      · exact fun ρ4 w4 O4 σ4 H4 R4 => ⟨O4, ρ4, R4, w4⟩
      · exact fun d q v H4 s4 r4 => q v H4 (R1.sub.trans s4) r4
      · exact fun ρ4 q O4 σ4 H4 R4 => q O4 σ4 H4 (R1.unbase (B' := B) R4)
      · exact fun ρ4 w4 O4 σ4 H4 R4 => ⟨O4, ρ4, R4, w4⟩
    · have e : i = items.length := by omega
      subst e
      exact .inl ⟨stop, he ρ' w O' σ2 H2 (R1.unbase (B' := B) R2)⟩
noncomputable def Ado (te : DTE) : DTI := fun ρ Q => te ρ fun d => match d with
  | .lst ds => Q ds
  | _ => False
noncomputable def Ac9 (te : DTE) : DTI := fun ρ Q => te ρ fun d => match d with
  | .tup ds => Q ds
  | _ => False
theorem Ae0 {tg : Expr} (h : DE X e te) : DI X tg e (Ado te) where
  mono := fun hq z => h.mono (fun d z => by
    split at z
    · exact hq _ z
    · exact z.elim) z
  pi := (Abb h.pe).imp fun σ H Q ⟨B, F, O, ρ, R, z⟩ => ⟨B, F, O, ρ, R, h.mono (fun d z v H1 s1 r1 => by
    split at z
    · obtain ⟨a, xs, rfl, hs, hl⟩ := Ec r1
      refine ⟨a, rfl, ⟨xs, Bh.seq hs⟩, z _ H1 s1 fun H2 s2 => ⟨fun k d e => ?_, xs, s2.seq hs, by rw [hl.len]; exact Nat.le_refl _⟩⟩
      obtain ⟨x, e1, e2⟩ := hl.get e
      refine ⟨⟨xs, x, s2.seq hs, e1⟩, fun y H3 ⟨e3, e4⟩ => ⟨e3, ?_⟩⟩
      have e5 := e4 xs (s2.seq hs)
      rw [e1] at e5; cases e5; exact e2
    · exact z.elim) z⟩
theorem AdR {tg : Expr} (h : DE X e te) : DI X tg e (Ac9 te) where
  mono := fun hq z => h.mono (fun d z => by
    split at z
    · exact hq _ z
    · exact z.elim) z
  pi := (Af7 h.pe).imp fun σ H Q ⟨B, F, O, ρ, R, z⟩ => ⟨B, F, O, ρ, R, h.mono (fun d z v H1 s1 r1 => by
    split at z
    · obtain ⟨a, xs, rfl, hs, hl⟩ := Ds.mp r1
      refine ⟨a, rfl, ⟨xs, Bh.seqT hs⟩, z _ H1 s1 fun H2 s2 => ⟨fun k d e => ?_, xs, s2.seqT hs, by rw [hl.len]; exact Nat.le_refl _⟩⟩
      obtain ⟨x, e1, e2⟩ := hl.get e
      refine ⟨⟨xs, x, s2.seqT hs, e1⟩, fun y H3 ⟨e3, e4⟩ => ⟨e3, ?_⟩⟩
      have e5 := e4 xs (s2.seqT hs)
      rw [e1] at e5; cases e5; exact e2
    · exact z.elim) z⟩
noncomputable def ups (lo : Int) (n : Nat) : List Dt := (List.range n).map fun i => .int (lo + (i : Nat))
theorem Vq {lo : Int} {n : Nat} : (ups lo n).length = n := by simp [ups]
theorem PK {lo : Int} {n k : Nat} {d : Dt} (h : (ups lo n)[k]? = some d) : k < n ∧ d = .int (lo + (k : Nat)) := by
  unfold ups at h
  rw [List.getElem?_map] at h
  by_cases hk : k < n
  · rw [List.getElem?_range hk] at h
    exact ⟨hk, (Option.some.inj h).symm⟩
  · rw [List.getElem?_eq_none (by simpa using hk)] at h; cases h
theorem W9 {K : PySem.W.Frag} {M : Hp} {lo : Int} {n : Nat} : ItD K M (Itr lo n) (ups lo n) := fun H _ => by
  refine ⟨fun k d e => ?_, ?_⟩
  · obtain ⟨hk, rfl⟩ := PK e
    exact ⟨hk, fun x H' y => ⟨y.1, Bd.mpr y.2⟩⟩
  · rw [Vq]; exact Nat.le_refl n
noncomputable def Uj (tl : DTA) : DTI := fun ρ Q => tl ρ fun ds => match ds with
  | [.int j] => (-(2 ^ 62) ≤ j ∧ j < 2 ^ 62) ∧ Q (ups 0 j.toNat)
  | _ => False
noncomputable def Aem (tl : DTA) : DTI := fun ρ Q => tl ρ fun ds => match ds with
  | [.int i, .int j] => (-(2 ^ 62) ≤ i ∧ i < 2 ^ 62 ∧ -(2 ^ 62) ≤ j ∧ j < 2 ^ 62) ∧ Q (ups i (j - i).toNat)
  | _ => False
theorem V1 {tg : Expr} {p : Pos} (hg : Gl X "range") (hm : X.mg "range" = none) (ha : DA X [a] tl) (hs : starEach [a] X.env = [(false, eval a X.env)] := by rfl) : DI X tg (.Call (.Name "range" p) [a] [] pos) (Uj tl) where
  mono := fun hq z => ha.mono (fun d z => by
    split at z
    · exact ⟨z.1, hq _ z.2⟩
    · exact z.elim) z
  pi := (W0 hg hm ha.pa hs).imp fun σ H Q ⟨B, F, O, ρ, R, z⟩ => ⟨B, F, O, ρ, R, ha.mono (fun d z vs H1 s1 r1 => by
    split at z
    · obtain ⟨v, r, rfl, r2, r3⟩ := Ay.mp r1
      rw [Bs.mp r3, Bd.mp r2]
      exact ⟨_, rfl, z.1.1, z.1.2, z.2 _ H1 s1 W9⟩
    · exact z.elim) z⟩
end
noncomputable def Dr (N : List Str) (ds : List Dt) : Bv := ds.map (fun d => some (.is d)) ++ List.replicate (N.length - ds.length) none
theorem Nz {K : PySem.W.Frag} {F : List Addr} {H : Hp} {N : List Str} {ds : List Dt} {vs : List V} (hF : ∀ a ∈ F, H a ≠ none) (r : RpL K (mask F H) ds vs) : Rep K H F [] H (start N vs) (Dr N ds) := by
  have hl := r.len
  have noown : ∀ (i : Nat) (es : En), (∀ z, es ≠ .is z) → (Dr N ds)[i]? = some (some es) → False := fun i es nz e => by
    unfold Dr at e
    by_cases hi : i < ds.length
    · rw [List.getElem?_append_left (by simpa using hi), List.getElem?_map] at e
      cases q : ds[i]? with
      | none => rw [q] at e; cases e
      | some d => rw [q] at e; cases e; exact nz d rfl
    · rw [List.getElem?_append_right (by simpa using hi), List.getElem?_replicate] at e
      split at e <;> cases e
  refine ⟨?_, Same.refl H, fun a h => (nomatch h), fun a h => hF a (by simpa using h), fun i d e => ?_, fun i es e => (noown i _ (fun _ z => by cases z) e).elim, fun i j es es' a h1 => (noown i _ (fun _ z => by cases z) h1).elim, fun i es e => (noown i _ (fun _ z => by cases z) e).elim, fun i j es es' a h1 => (noown i _ (fun _ z => by cases z) h1).elim⟩
  · unfold start Dr; simp [hl]
  · unfold Dr at e
    by_cases hi : i < ds.length
    · rw [List.getElem?_append_left (by simpa using hi), List.getElem?_map] at e
      cases q : ds[i]? with
      | none => rw [q] at e; cases e
      | some d' =>
        rw [q] at e; cases e
        obtain ⟨v, e1, e2⟩ := r.get q
        refine ⟨v, ?_, by rw [List.append_nil]; exact e2⟩
        unfold start
        rw [List.getElem?_append_left (by simp; omega), List.getElem?_map, e1]; rfl
    · rw [List.getElem?_append_right (by simpa using hi), List.getElem?_replicate] at e
      split at e <;> cases e
section
variable {P : Program} {w : World} {K : PySem.W.Frag} {mg : Str → Option Value} {base : Heap}
theorem Fun.okD {x qual : Str} {st : Stmt} {f : Addr} {fd : FuncData} {N ps : List Str} {k : Nat} {sp : DSp} (F : Fun K x qual st f fd) (S : Am N ps (Ag st)) (len : ∀ ds Q, sp ds Q → ds.length = ps.length)
    (hbody : ∀ (cdv : Value) (A : Around) (outer : List Env) (s : Shared) (H : Hp) (E : XK), CN k (A.deeper (envOfC qual (Ag st) s.heap.objs.size f cdv)) →
      ∃ t, DSs (Pj CX0 P w K mg base N qual (Ag st) f cdv A outer s H E).nox (BZ st) t ∧ ∀ ds Q, sp ds Q → t { nx := fun _ => Q .non, rt := Q } (Dr N ds)) : Dl P w K mg base CX0 (k + 1) f fd ps (lSp K sp) := by
  refine F.ok S (fun vs H Q E ⟨F, ds, _, r, h⟩ => by rw [r.len]; exact len _ _ h) fun cdv A outer s H vs Q E hr ⟨F', ds, hF, r, h⟩ => ?_
  obtain ⟨t, T, q⟩ := hbody cdv A outer s H E hr
  refine ⟨_, T.ps, H, F', [], Dr N ds, Nz hF r, T.mono (D := { nx := fun _ => ∀ v H', Same H H' → Rp K (mask F' H') .non v → Q v H', rt := fun d => ∀ v H', Same H H' → Rp K (mask F' H') d v → Q v H' }) ⟨?_, ?_, fun _ z => False.elim z, fun _ z => False.elim z⟩ (q ds _ h)⟩
  · exact fun ρ z O' σ' H' R' => z .non H' R'.base (GR.mpr rfl)
  · exact fun d z v H' s' r' => z v H' s' r'
end
end L2
namespace L2
open PySem PySem.Spec PyProof.Rows PySem.SeqAt
structure FnT (K : PySem.W.Frag) (mg : Str → Option Value) (x : Str) (st : Stmt) (ps : List Str) (f : Addr) (fd : FuncData) : Prop where
  fn : Fun K x x st f fd
  mg : mg x = some (.ref f)
  bd : Binds K fd ps []
noncomputable def Pm (P : Program) (w : World) (K : PySem.W.Frag) (mg : Str → Option Value) (base : Heap) (k : Nat) (x : Str) (st : Stmt) (ps : List Str) (sp : DSp) : Prop :=
  ∃ f fd, FnT K mg x st ps f fd ∧ Dl P w K mg base CX0 k f fd ps (lSp K sp)
theorem Fun.uniq {K : PySem.W.Frag} {x q : Str} {st : Stmt} {f : Addr} {fd fd' : FuncData} (a : Fun K x q st f fd) (b : Fun K x q st f fd') : fd = fd' := by
  obtain ⟨oc, od, kV, doc, pm, an, cdv, ct, osl, _, h1, _⟩ := a.ex
  obtain ⟨oc', od', kV', doc', pm', an', cdv', ct', osl', _, h2, _⟩ := b.ex
  rw [h1] at h2
  injection h2 with h2
  injection h2 with _ _ h2 _
  injection h2
noncomputable def spec {τ : Type} (args : τ → List Dt) (pre : τ → Prop) (post : τ → Dt → Prop) : DSp := fun ds Q => ∃ p, ds = args p ∧ pre p ∧ ∀ d, post p d → Q d
theorem Ae {τ : Type} {args : τ → List Dt} {pre : τ → Prop} {post : τ → Dt → Prop} : Gh (spec args pre post) := fun _ _ _ hq ⟨p, e, h, q⟩ => ⟨p, e, h, fun d z => hq _ (q d z)⟩
noncomputable abbrev Cv {τ : Type} (args : τ → List Dt) (pre : τ → Prop) (val : τ → Dt) : DSp := spec args pre fun p d => d = val p
noncomputable abbrev T2 (a b : Int) : Dt := .tup [.int a, .int b]
noncomputable abbrev T3 (a b c : Int) : Dt := .tup [.int a, .int b, .int c]
noncomputable abbrev T4 (a b c d : Int) : Dt := .tup [.int a, .int b, .int c, .int d]
noncomputable def Agp : DSp := spec (fun ns : List Int => [.lst (ns.map Dt.int)]) (fun ns => ns.length ≤ 63) fun _ d => d = .bl true
theorem Zd {H : Hp} : mask [] H = H := by funext a; exact Ba (by simp)
section
variable {X : Cx} {a b c e : Expr} {es : List Expr} {ta tb tc te : DTE} {tA tB : DTT} {tl : DTA} {pos : Pos}
theorem Ah {k : Nat} {ps : List Str} {sp : DSp} {x : Str} {stx : Stmt} {p : Pos} (m : Gh sp) (G : Pm X.prog X.w X.K X.mg X.base k x stx ps sp) (hr : CN k X.A) (hg : Gl X x)
    (ha : DA X (e :: es) tl) (hdb : (x == ("__debug__" : Str)) = false := by decide)
    (he : starEach (e :: es) X.env = (false, eval e X.env) :: starEach es X.env := by rfl) (hpl : (backTo pos (starEach es X.env)).any (·.1) = false := by rfl) : DE X (.Call (.Name x p) (e :: es) [] pos) (dCall sp tl) := by
  obtain ⟨f, fd, F, G⟩ := G
  exact Acm (CX := CX0) m G hr hg F.mg F.fn.kp F.bd ha hdb he hpl
theorem Ar (i : Nat) {x : Str} {pos' : Pos} (hN : X.N.Nodup) (he : DE X e te) (hi : X.N[i]? = some x := by rfl) (hx : Loc X.env.scope x := by first | exact Or.inl rfl | exact Or.inr rfl) (hs : swapsWith e (some (.Name x pos')) pos.line X.env = pure false := by rfl)
    (hf : X.fn x = true ∨ X.env.scope.names.lookup x = some .local := by first | exact .inl rfl | exact .inr rfl | assumption) : DS X (.Assign [.Name x pos'] e pos) (AaW te (MK i)) where
  mono := fun hd h => he.mono (fun _ h => hd.nx _ h) h
  ps := (ZL hN hi hx he.pe hs hf).imp fun D σ H ⟨B, F, O, ρ, R, h⟩ => ⟨B, F, O, ρ, R, he.mono (fun d q v H1 s1 r1 => q O _ H1 ((R.same s1).set i r1)) h⟩
noncomputable def Adm (i j : Nat) (tl : DTA) : DTS := fun D ρ => tl ρ fun ds => match ds with
  | [d, e] => D.nx ((ρ.set i (some (.is d))).set j (some (.is e)))
  | _ => False
theorem AcA {x y : Str} {px py pt : Pos} {kt k2 pt2} (hc : X.calm = true) (hN : X.N.Nodup) (i j : Nat) (ha : DA X [a, b] tl) (hi : X.N[i]? = some x := by rfl) (hj : X.N[j]? = some y := by rfl) (hij : i ≠ j := by decide)
    (hx : X.env.scope.names.lookup x = some .local := by rfl) (hy : X.env.scope.names.lookup y = some .local := by rfl)
    (hw : swappedStores [.Tuple [.Name x px, .Name y py] kt pt] (.Tuple [a, b] k2 pt2) X.env = pure (some [x, y]) := by rfl)
    (hs : swapsWithSole [.Tuple [.Name x px, .Name y py] kt pt] (.Tuple [a, b] k2 pt2) pos.line X.env = pure false := by rfl) :
    DS X (.Assign [.Tuple [.Name x px, .Name y py] kt pt] (.Tuple [a, b] k2 pt2) pos) (Adm i j tl) where
  mono := fun hd h => ha.mono (fun ds h => by
    split at h
    · exact hd.nx _ h
    · exact h.elim) h
  ps := (Agf hc hN hi hj hij hx hy ha.pa hw hs).imp fun D σ H ⟨B, F, O, ρ, R, h⟩ => ⟨B, F, O, ρ, R, ha.mono (fun ds q vs H1 s1 r1 => by
    split at q
    · obtain ⟨v, r, rfl, r2, r3⟩ := Ay.mp r1
      obtain ⟨v', r', rfl, r4, r5⟩ := Ay.mp r3
      obtain rfl := Bs.mp r5
      exact ⟨v, v', rfl, q O _ H1 (((R.same s1).set i r2).set j r4)⟩
    · exact q.elim) h⟩
mutual
noncomputable def Dt.py : Dt → PyData
  | .non => .none
  | .bl b => .bool b
  | .int i => .int i
  | .str x => .str x
  | .tup ds => .tuple (Dt.pys ds)
  | .lst ds => .list (Dt.pys ds)
  | .fn _ => .dict []
  | .exc _ _ _ => .dict []
  | .obj _ _ _ => .dict []
noncomputable def Dt.pys : List Dt → List PyData
  | [] => []
  | d :: ds => d.py :: Dt.pys ds
end
mutual
theorem Hv {X : Cx} {pins : List (Addr × Obj)} {σ : St} {H : Hp} {s : Shared} (I : Inv X pins σ H s) : ∀ {d : Dt} {v : V} {u : Value}, d.py.canLay0 = true → Rp X.K H d v → RelV v u → ∃ as, Reads s.heap u d.py as
  | .non, v, u, _, h, r => by rw [GR.mp h] at r; cases (show u = .none from r); exact ⟨_, by rw [Dt.py]; exact .none⟩
  | .bl b, v, u, _, h, r => by rw [BX.mp h] at r; cases (show u = .bool b from r); exact ⟨_, by rw [Dt.py]; exact .bool b⟩
  | .int i, v, u, _, h, r => by rw [Bd.mp h] at r; obtain ⟨t, rfl⟩ := r; exact ⟨_, by rw [Dt.py]; exact .int i t⟩
  | .str x, v, u, _, h, r => by rw [J3.mp h] at r; obtain ⟨t, rfl⟩ := r; exact ⟨_, by rw [Dt.py]; exact .str x t⟩
  | .fn a, v, u, c, h, r => by rw [Dt.py] at c; exact (nomatch c)
  | .exc _ _ _, v, u, c, h, r => by rw [Dt.py] at c; exact (nomatch c)
  | .obj _ _ _, v, u, c, h, r => by rw [Dt.py] at c; exact (nomatch c)
  | .tup ds, v, u, c, h, r => by
    obtain ⟨a, xs, rfl, hs, hl⟩ := Ds.mp h
    cases (show u = .ref a from r)
    obtain ⟨its, rv, ⟨o, h1, h2, n, h3⟩, _⟩ := I.tuple hs
    rw [Dt.py] at c
    obtain ⟨as, ra⟩ := JQ I (ds := ds) (by simpa [PyData.canLay0] using c) hl rv
    exact ⟨_, by rw [Dt.py]; exact .tuple h1 h2 h3 (by simpa using ra)⟩
  | .lst ds, v, u, c, h, r => by
    obtain ⟨a, xs, rfl, hs, hl⟩ := Ec h
    cases (show u = .ref a from r)
    obtain ⟨its, rv, ⟨o, n, h1, h2, _, h3⟩, _⟩ := I.list hs
    rw [Dt.py] at c
    obtain ⟨as, ra⟩ := JQ I (ds := ds) (by simpa [PyData.canLay0] using c) hl rv
    exact ⟨_, by rw [Dt.py]; exact .list h1 h2 h3 (by simpa using ra)⟩
theorem JQ {X : Cx} {pins : List (Addr × Obj)} {σ : St} {H : Hp} {s : Shared} (I : Inv X pins σ H s) : ∀ {ds : List Dt} {vs : List V} {us : List Value}, PyData.canLayAll0 (Dt.pys ds) = true → RpL X.K H ds vs → Vals vs us → ∃ as, ReadsAll s.heap us (Dt.pys ds) as
  | [], vs, us, _, h, r => by rw [Bs.mp h] at r; cases r; exact ⟨_, by rw [Dt.pys]; exact .nil⟩
  | d :: ds, vs, us, c, h, r => by
    obtain ⟨v, vr, rfl, h1, h2⟩ := Ay.mp h
    rw [Dt.pys] at c
    have c' : d.py.canLay0 = true ∧ PyData.canLayAll0 (Dt.pys ds) = true := by simpa [PyData.canLayAll0] using c
    cases r with
    | cons r1 r2 =>
      obtain ⟨as, ra⟩ := Hv I c'.1 h1 r1
      obtain ⟨bs, rb⟩ := JQ I c'.2 h2 r2
      exact ⟨_, by rw [Dt.pys]; exact .cons ra rb⟩
end
mutual
noncomputable def Dt.eq : Dt → Dt → Bool
  | .non, .non => true
  | .bl a, .bl b => a == b
  | .bl a, .int j => (if a then 1 else 0) == j
  | .int i, .bl b => i == (if b then 1 else 0)
  | .int i, .int j => decide (i = j)
  | .str x, .str y => x == y
  | .tup xs, .tup ys => Dt.eqs xs ys
  | .lst xs, .lst ys => Dt.eqs xs ys
  | _, _ => false
noncomputable def Dt.eqs : List Dt → List Dt → Bool
  | [], [] => true
  | x :: xs, y :: ys => Dt.eq x y && Dt.eqs xs ys
  | _, _ => false
end
mutual
noncomputable def Dt.flat : Nat → Dt → Bool
  | _, .fn _ => false
  | _, .exc _ _ _ => false
  | _, .obj _ _ _ => false
  | _, .str x => (PyData.str x).canLay0
  | 0, .tup _ => false
  | 0, .lst _ => false
  | n + 1, .tup ds => Dt.flats n ds
  | n + 1, .lst ds => Dt.flats n ds
  | _, _ => true
noncomputable def Dt.flats : Nat → List Dt → Bool
  | _, [] => true
  | n, d :: ds => Dt.flat n d && Dt.flats n ds
end
mutual
theorem Fv : ∀ (d : Dt) (n : Nat), d.flat n = true → d.py.canLay0 = true ∧ d.py.depth ≤ n
  | .non, n, h => by rw [Dt.py]; exact ⟨rfl, Nat.zero_le _⟩
  | .bl _, n, h => by rw [Dt.py]; exact ⟨rfl, Nat.zero_le _⟩
  | .int _, n, h => by rw [Dt.py]; exact ⟨rfl, Nat.zero_le _⟩
  | .str _, n, h => by rw [Dt.py]; exact ⟨by simpa [Dt.flat] using h, Nat.zero_le _⟩
  | .fn _, n, h => by simp [Dt.flat] at h
  | .exc _ _ _, n, h => by simp [Dt.flat] at h
  | .obj _ _ _, n, h => by simp [Dt.flat] at h
  | .tup ds, 0, h => by simp [Dt.flat] at h
  | .lst ds, 0, h => by simp [Dt.flat] at h
  | .tup ds, n + 1, h => by
    have := J2 ds n (by simpa [Dt.flat] using h)
    rw [Dt.py]
    exact ⟨by simpa [PyData.canLay0] using this.1, by simpa [PyData.depth] using this.2⟩
  | .lst ds, n + 1, h => by
    have := J2 ds n (by simpa [Dt.flat] using h)
    rw [Dt.py]
    exact ⟨by simpa [PyData.canLay0] using this.1, by simpa [PyData.depth] using this.2⟩
theorem J2 : ∀ (ds : List Dt) (n : Nat), Dt.flats n ds = true → PyData.canLayAll0 (Dt.pys ds) = true ∧ PyData.depthAll (Dt.pys ds) ≤ n
  | [], n, h => by rw [Dt.pys]; exact ⟨rfl, Nat.zero_le _⟩
  | d :: ds, n, h => by
    have h' : d.flat n = true ∧ Dt.flats n ds = true := by simpa [Dt.flats] using h
    have h1 := Fv d n h'.1
    have h2 := J2 ds n h'.2
    rw [Dt.pys]
    exact ⟨by simp [PyData.canLayAll0, h1.1, h2.1], by simp only [PyData.depthAll]; omega⟩
end
mutual
theorem Py : ∀ (a b : Dt), a.py.canLay0 = true → b.py.canLay0 = true → PyData.eqv a.py b.py = a.eq b
  | .fn _, b, h, _ => by rw [Dt.py] at h; exact (nomatch h)
  | .exc _ _ _, b, h, _ => by rw [Dt.py] at h; exact (nomatch h)
  | .obj _ _ _, b, h, _ => by rw [Dt.py] at h; exact (nomatch h)
  | a, .fn _, _, h => by rw [Dt.py] at h; exact (nomatch h)
  | a, .exc _ _ _, _, h => by rw [Dt.py] at h; exact (nomatch h)
  | a, .obj _ _ _, _, h => by rw [Dt.py] at h; exact (nomatch h)
  | .non, .non, _, _ => by simp [Dt.py, Dt.eq, PyData.eqv]
  | .non, .bl _, _, _ => by simp [Dt.py, Dt.eq, PyData.eqv]
  | .non, .int _, _, _ => by simp [Dt.py, Dt.eq, PyData.eqv]
  | .non, .str _, _, _ => by simp [Dt.py, Dt.eq, PyData.eqv]
  | .non, .tup _, _, _ => by simp [Dt.py, Dt.eq, PyData.eqv]
  | .non, .lst _, _, _ => by simp [Dt.py, Dt.eq, PyData.eqv]
  | .bl _, .non, _, _ => by simp [Dt.py, Dt.eq, PyData.eqv]
  | .bl _, .bl _, _, _ => by simp [Dt.py, Dt.eq, PyData.eqv]
  | .bl _, .int _, _, _ => by simp [Dt.py, Dt.eq, PyData.eqv]
  | .bl _, .str _, _, _ => by simp [Dt.py, Dt.eq, PyData.eqv]
  | .bl _, .tup _, _, _ => by simp [Dt.py, Dt.eq, PyData.eqv]
  | .bl _, .lst _, _, _ => by simp [Dt.py, Dt.eq, PyData.eqv]
  | .int _, .non, _, _ => by simp [Dt.py, Dt.eq, PyData.eqv]
  | .int _, .bl _, _, _ => by simp [Dt.py, Dt.eq, PyData.eqv]
  | .int i, .int j, _, _ => by
    simp only [Dt.py, Dt.eq, PyData.eqv]
    exact Bool.beq_eq_decide_eq i j
  | .int _, .str _, _, _ => by simp [Dt.py, Dt.eq, PyData.eqv]
  | .int _, .tup _, _, _ => by simp [Dt.py, Dt.eq, PyData.eqv]
  | .int _, .lst _, _, _ => by simp [Dt.py, Dt.eq, PyData.eqv]
  | .str _, .non, _, _ => by simp [Dt.py, Dt.eq, PyData.eqv]
  | .str _, .bl _, _, _ => by simp [Dt.py, Dt.eq, PyData.eqv]
  | .str _, .int _, _, _ => by simp [Dt.py, Dt.eq, PyData.eqv]
  | .str _, .str _, _, _ => by simp [Dt.py, Dt.eq, PyData.eqv]
  | .str _, .tup _, _, _ => by simp [Dt.py, Dt.eq, PyData.eqv]
  | .str _, .lst _, _, _ => by simp [Dt.py, Dt.eq, PyData.eqv]
  | .tup _, .non, _, _ => by simp [Dt.py, Dt.eq, PyData.eqv]
  | .tup _, .bl _, _, _ => by simp [Dt.py, Dt.eq, PyData.eqv]
  | .tup _, .int _, _, _ => by simp [Dt.py, Dt.eq, PyData.eqv]
  | .tup _, .str _, _, _ => by simp [Dt.py, Dt.eq, PyData.eqv]
  | .tup xs, .tup ys, h1, h2 => by
    rw [Dt.py] at h1 h2
    rw [Dt.py, Dt.py, Dt.eq, PyData.eqv]
    exact P0 xs ys (by simpa [PyData.canLay0] using h1) (by simpa [PyData.canLay0] using h2)
  | .tup _, .lst _, _, _ => by simp [Dt.py, Dt.eq, PyData.eqv]
  | .lst _, .non, _, _ => by simp [Dt.py, Dt.eq, PyData.eqv]
  | .lst _, .bl _, _, _ => by simp [Dt.py, Dt.eq, PyData.eqv]
  | .lst _, .int _, _, _ => by simp [Dt.py, Dt.eq, PyData.eqv]
  | .lst _, .str _, _, _ => by simp [Dt.py, Dt.eq, PyData.eqv]
  | .lst _, .tup _, _, _ => by simp [Dt.py, Dt.eq, PyData.eqv]
  | .lst xs, .lst ys, h1, h2 => by
    rw [Dt.py] at h1 h2
    rw [Dt.py, Dt.py, Dt.eq, PyData.eqv]
    exact P0 xs ys (by simpa [PyData.canLay0] using h1) (by simpa [PyData.canLay0] using h2)
theorem P0 : ∀ (xs ys : List Dt), PyData.canLayAll0 (Dt.pys xs) = true → PyData.canLayAll0 (Dt.pys ys) = true → PyData.eqvAll (Dt.pys xs) (Dt.pys ys) = Dt.eqs xs ys
  | [], [], _, _ => by simp [Dt.pys, Dt.eqs, PyData.eqvAll]
  | [], _ :: _, _, _ => by simp [Dt.pys, Dt.eqs, PyData.eqvAll]
  | _ :: _, [], _, _ => by simp [Dt.pys, Dt.eqs, PyData.eqvAll]
  | x :: xs, y :: ys, h1, h2 => by
    rw [Dt.pys] at h1 h2
    have h1' : x.py.canLay0 = true ∧ PyData.canLayAll0 (Dt.pys xs) = true := by simpa [PyData.canLayAll0] using h1
    have h2' : y.py.canLay0 = true ∧ PyData.canLayAll0 (Dt.pys ys) = true := by simpa [PyData.canLayAll0] using h2
    rw [Dt.pys, Dt.pys, Dt.eqs, PyData.eqvAll, Py x y h1'.1 h2'.1, P0 xs ys h1'.2 h2'.2]
end
noncomputable def Aa1 (K : PySem.W.Frag) (neg : Bool) : R2 := fun x y H Q => ∃ a b, Rp K H a x ∧ Rp K H b y ∧ a.flat 8 = true ∧ b.flat 8 = true ∧ Q (.bl (if neg then !a.eq b else a.eq b)) H
theorem SN (hu : X.A.units + 64 < cLine) : OpR X (compareOp .Eq) (Aa1 X.K false) := by
  intro pins s σ H x y v u Q I rx ry ⟨a, b, ra, rb, fa, fb, q⟩
  obtain ⟨ca, da⟩ := Fv a 8 fa
  obtain ⟨cb, db⟩ := Fv b 8 fb
  obtain ⟨as, r1⟩ := Hv I ca ra rx
  obtain ⟨bs, r2⟩ := Hv I cb rb ry
  refine rcAt_reads r1 r2 ca cb (by omega) _ _ _ _ ?_
  rw [Py a b ca cb]
  exact ⟨.bl _, H, I, rfl, q⟩
theorem YX (hu : X.A.units + 64 < cLine) : OpR X (compareOp .NotEq) (Aa1 X.K true) := by
  intro pins s σ H x y v u Q I rx ry ⟨a, b, ra, rb, fa, fb, q⟩
  obtain ⟨ca, da⟩ := Fv a 8 fa
  obtain ⟨cb, db⟩ := Fv b 8 fb
  obtain ⟨as, r1⟩ := Hv I ca ra rx
  obtain ⟨bs, r2⟩ := Hv I cb rb ry
  refine compareNe_reads r1 r2 ca cb (by omega) ?_
  rw [Py a b ca cb]
  exact ⟨.bl _, H, I, rfl, q⟩
noncomputable def dEq : D2 := fun a b Q => (a.flat 8 = true ∧ b.flat 8 = true) ∧ Q (.bl (a.eq b))
noncomputable def dNe : D2 := fun a b Q => (a.flat 8 = true ∧ b.flat 8 = true) ∧ Q (.bl (!a.eq b))
theorem RW {K : PySem.W.Frag} : Gg K (Aa1 K false) dEq := ⟨fun hq h => ⟨h.1, hq _ h.2⟩, fun O H a b x y Q _ ra rb h => ⟨a, b, ra.mono Bh, rb.mono Bh, h.1.1, h.1.2, h.2 _ H (Same.refl H) (BX.mpr rfl)⟩⟩
theorem Z9 {K : PySem.W.Frag} : Gg K (Aa1 K true) dNe := ⟨fun hq h => ⟨h.1, hq _ h.2⟩, fun O H a b x y Q _ ra rb h => ⟨a, b, ra.mono Bh, rb.mono Bh, h.1.1, h.1.2, h.2 _ H (Same.refl H) (BX.mpr rfl)⟩⟩
theorem Kh (hu : X.A.units + 64 < cLine) (ha : DE X a ta) (hb : DE X b tb) : DE X (.Compare a [.Eq] [b] pos) (dOp dEq ta tb) := Px (SN hu) RW ha hb (Gd _)
theorem Adf (hu : X.A.units + 64 < cLine) (ha : DE X a ta) (hb : DE X b tb) : DE X (.Compare a [.NotEq] [b] pos) (dOp dNe ta tb) := Px (YX hu) Z9 ha hb (Gd _)
theorem Gn (hu : X.A.units + 64 < cLine) (ha : DE X a ta) (hb : DE X b tb) : DT X (.Compare a [.Eq] [b] pos) (Mq (dOp dEq ta tb)) := J8 (SN hu) RW ha hb (Gd _)
theorem Im (hu : X.A.units + 64 < cLine) (ha : DE X a ta) (hb : DE X b tb) : DT X (.Compare a [.NotEq] [b] pos) (Mq (dOp dNe ta tb)) := J8 (YX hu) Z9 ha hb (Gd _)
noncomputable def isB (k : Bool) : Dt → Bool
  | .bl b => b == k
  | _ => false
noncomputable def isN : Dt → Bool
  | .non => true
  | _ => false
theorem ZW : OpR X (compareOp .Is) (fun x y H Q => ∃ k : Bool, y = .bl k ∧ Q (.bl (decide (x = .bl k))) H) := by
  intro pins s σ H x y v u Q I rx ry ⟨k, e, q⟩
  subst e
  cases (show u = .bool k from ry)
  cases x with
  | non => cases (show v = .none from rx); exact wpAny_is_plain rfl (GP I q (by simp))
  | bl b => cases (show v = .bool b from rx); exact wpAny_is_plain rfl (GP I q (by cases b <;> cases k <;> rfl))
  | int i => obtain ⟨t, rfl⟩ := rx; exact wpAny_is_plain rfl (GP I q (by simp))
  | str i => obtain ⟨t, rfl⟩ := rx; exact wpAny_is_plain rfl (GP I q (by simp))
  | byt i => obtain ⟨t, rfl⟩ := rx; exact wpAny_is_plain rfl (GP I q (by simp))
  | flt i => obtain ⟨t, rfl⟩ := rx; exact wpAny_is_plain rfl (GP I q (by simp))
  | ref i => cases (show v = .ref i from rx); exact wpAny_is_plain rfl (GP I q (by simp))
  | ty i => cases (show v = .type i from rx); exact wpAny_is_plain rfl (GP I q (by simp))
theorem AfF {K : PySem.W.Frag} {H : Hp} {d : Dt} {v : V} {k : Bool} (r : Rp K H d v) : decide (v = .bl k) = isB k d := by
  cases d with
  | non => rw [GR.mp r]; simp [isB]
  | bl b => rw [BX.mp r]; cases b <;> cases k <;> simp [isB]
  | int i => rw [Bd.mp r]; simp [isB]
  | str i => rw [J3.mp r]; simp [isB]
  | fn a => rw [QM.mp r]; simp [isB]
  | exc _ _ _ => obtain ⟨a, _, _, _, _, rfl, _⟩ := Ho.mp r; simp [isB]
  | obj _ _ _ => obtain ⟨a, _, _, _, rfl, _⟩ := JN.mp r; simp [isB]
  | tup ds => obtain ⟨a, xs, rfl, _⟩ := Ds.mp r; simp [isB]
  | lst ds => obtain ⟨a, xs, rfl, _⟩ := Ec r; simp [isB]
theorem AeW {K : PySem.W.Frag} {H : Hp} {d : Dt} {v : V} (r : Rp K H d v) : decide (v = .non) = isN d := by
  cases d with
  | non => rw [GR.mp r]; simp [isN]
  | bl b => rw [BX.mp r]; simp [isN]
  | int i => rw [Bd.mp r]; simp [isN]
  | str i => rw [J3.mp r]; simp [isN]
  | fn a => rw [QM.mp r]; simp [isN]
  | exc _ _ _ => obtain ⟨a, _, _, _, _, rfl, _⟩ := Ho.mp r; simp [isN]
  | obj _ _ _ => obtain ⟨a, _, _, _, rfl, _⟩ := JN.mp r; simp [isN]
  | tup ds => obtain ⟨a, xs, rfl, _⟩ := Ds.mp r; simp [isN]
  | lst ds => obtain ⟨a, xs, rfl, _⟩ := Ec r; simp [isN]
noncomputable def dIs (neg : Bool) : D2 := fun a b Q => match b with
  | .bl k => Q (.bl (if neg then !isB k a else isB k a))
  | .non => Q (.bl (if neg then !isN a else isN a))
  | _ => False
theorem Yl {neg : Bool} : ∀ {a b Q Q'}, (∀ d, Q d → Q' d) → dIs neg a b Q → dIs neg a b Q' := fun {a b Q Q'} hq h => by
  unfold dIs at h ⊢
  split at h
  · exact hq _ h
  · exact hq _ h
  · exact h.elim
theorem Yh {K : PySem.W.Frag} : Gg K (fun x y H Q => (∃ k : Bool, y = .bl k ∧ Q (.bl (decide (x = .bl k))) H) ∨ (y = .non ∧ Q (.bl (decide (x = .non))) H)) (dIs false) := ⟨Yl, fun O H a b x y Q _ ra rb h => by
  unfold dIs at h
  split at h
  · exact .inl ⟨_, BX.mp rb, by rw [AfF ra]; exact h _ H (Same.refl H) (BX.mpr rfl)⟩
  · exact .inr ⟨GR.mp rb, by rw [AeW ra]; exact h _ H (Same.refl H) (BX.mpr rfl)⟩
  · exact h.elim⟩
theorem AfH (ha : DE X a ta) (hb : DE X b tb) : DE X (.Compare a [.Is] [b] pos) (dOp (dIs false) ta tb) := Px (ZW.or YS) Yh ha hb (Gd _)
theorem Afo (ha : DE X a ta) (hb : DE X b tb) : DT X (.Compare a [.Is] [b] pos) (Mq (dOp (dIs false) ta tb)) := J8 (ZW.or YS) Yh ha hb (Gd _)
noncomputable def Lp (t t' : D2) (ta tb tc : DTE) : DTE := fun ρ Q => ta ρ fun a => tb ρ fun b => t a b fun z => match z with
  | .bl k => if k = true then tc ρ fun c => t' b c Q else Q (.bl false)
  | _ => False
theorem RJ {t t' : D2} {ta tb tc : DTE} (m : ∀ {a b Q Q'}, (∀ d, Q d → Q' d) → t a b Q → t a b Q') (m' : ∀ {a b Q Q'}, (∀ d, Q d → Q' d) → t' a b Q → t' a b Q')
    (ma : ∀ {ρ Q Q'}, (∀ d, Q d → Q' d) → ta ρ Q → ta ρ Q') (mb : ∀ {ρ Q Q'}, (∀ d, Q d → Q' d) → tb ρ Q → tb ρ Q') (mc : ∀ {ρ Q Q'}, (∀ d, Q d → Q' d) → tc ρ Q → tc ρ Q') :
    ∀ {ρ Q Q'}, (∀ d, Q d → Q' d) → Lp t t' ta tb tc ρ Q → Lp t t' ta tb tc ρ Q' := fun hq h => ma (fun _ h => mb (fun _ h => m (fun z h => by
      split at h
      · rename_i k
        cases k with
        | true => exact mc (fun _ h => m' hq h) h
        | false => exact hq _ h
      · exact h.elim) h) h) h
theorem Xp {K : PySem.W.Frag} {r r' : R2} {t t' : D2} (S : Gg K r t) (S' : Gg K r' t') {ta tb tc : DTE} (ma : ∀ {ρ Q Q'}, (∀ d, Q d → Q' d) → ta ρ Q → ta ρ Q') (mb : ∀ {ρ Q Q'}, (∀ d, Q d → Q' d) → tb ρ Q → tb ρ Q') (mc : ∀ {ρ Q Q'}, (∀ d, Q d → Q' d) → tc ρ Q → tc ρ Q')
    (σ : St) (H : Hp) (Q : VK) (h : lE K (Lp t t' ta tb tc) σ H Q) : Aal r r' (lE K ta) (lE K tb) (lE K tc) σ H Q := by
  obtain ⟨B, F, O, ρ, R, h⟩ := h
  refine ⟨B, F, O, ρ, R, ma (fun a h v H1 s1 r1 => ⟨B, F, O, ρ, R.same s1, mb (fun b h u H2 s2 r2 => ?_) h⟩) h⟩
  refine S.ok _ H2 a b v u _ ((R.same s1).same s2).th (r1.mono s2.mask) r2 (S.mono (fun z h w H3 s3 r3 => ?_) h)
  split at h
  · rename_i k
    refine ⟨k, BX.mp r3, ?_⟩
    have s123 := (s1.trans s2).trans s3
    cases k with
    | true => exact ⟨B, F, O, ρ, R.same s123, mc (fun c h y H4 s4 r4 => S'.ok _ H4 b c u y Q ((R.same s123).same s4).th ((r2.mono s3.mask).mono s4.mask) r4 (S'.mono (fun d q w' H5 s5 r5 => q w' H5 ((s123.trans s4).trans s5) r5) h)) h⟩
    | false => exact h _ H3 s123 (BX.mpr rfl)
  · exact h.elim
theorem Rq {op op' : CmpOp} {r r' : R2} {t t' : D2} (ho : OpR X (compareOp op) r) (ho' : OpR X (compareOp op') r') (S : Gg X.K r t) (S' : Gg X.K r' t') (ha : DE X a ta) (hb : DE X b tb) (hc : DE X c tc)
    (hm : lastMarks [op, op'] [b, c] = false := by with_unfolding_all rfl) : DE X (.Compare a [op, op'] [b, c] pos) (Lp t t' ta tb tc) where
  mono := RJ (t := t) (t' := t') (ta := ta) (tb := tb) (tc := tc) S.mono S'.mono ha.mono hb.mono hc.mono
  pe := (Aac ho ho' ha.pe hb.pe hc.pe hm).imp (Xp (ta := ta) (tb := tb) (tc := tc) S S' ha.mono hb.mono hc.mono)
noncomputable abbrev DL := List Dt → (Dt → Prop) → Prop
structure Qw (K : PySem.W.Frag) (r : List V → Hp → VK → Prop) (t : DL) : Prop where
  mono : ∀ {ds Q Q'}, (∀ d, Q d → Q' d) → t ds Q → t ds Q'
  ok : ∀ (O : List Addr) (H : Hp) (ds : List Dt) (xs : List V) (Q : VK), (∀ p ∈ O, H p ≠ none) → RpL K (mask O H) ds xs →
    t ds (fun d => ∀ v H', Same H H' → Rp K (mask O H') d v → Q v H') → r xs H Q
noncomputable def dCB (t : DL) (tl : DTA) : DTE := fun ρ Q => tl ρ fun ds => t ds Q
theorem AdZ {K : PySem.W.Frag} {r : List V → Hp → VK → Prop} {t : DL} (S : Qw K r t) {tl : DTA} (m : ∀ {ρ Q Q'}, (∀ d, Q d → Q' d) → tl ρ Q → tl ρ Q') (σ : St) (H : Hp) (Q : VK) (h : lE K (dCB t tl) σ H Q) : tCB r (lA K tl) σ H Q := by
  obtain ⟨B, F, O, ρ, R, h⟩ := h
  exact ⟨B, F, O, ρ, R, m (fun ds h vs H1 s1 r1 => S.ok _ H1 ds vs Q (R.same s1).th r1 (S.mono (fun d q v H2 s2 r2 => q v H2 (s1.trans s2) r2) h)) h⟩
theorem Oc {id : String} {x : Str} {p : Pos} {r : List V → Hp → VK → Prop} {t : DL} (hc : Ig X (.builtin id) r) (S : Qw X.K r t) (hg : Gl X x) (hm : X.mg x = none) (hv : bootBuiltins x = some (.builtin id)) (ha : DA X (e :: es) tl) (hn : x ≠ "__name__" := by decide)
    (hdb : (x == ("__debug__" : Str)) = false := by decide) (he : starEach (e :: es) X.env = (false, eval e X.env) :: starEach es X.env := by rfl) (hpl : (backTo pos (starEach es X.env)).any (·.1) = false := by rfl) : DE X (.Call (.Name x p) (e :: es) [] pos) (dCB t tl) where
  mono := fun hq h => ha.mono (fun _ h => S.mono hq h) h
  pe := (Le hc hg hm hv ha.pa hn hdb he hpl).imp (AdZ (tl := tl) S ha.mono)
noncomputable def ZK : DL := fun ds Q => match ds with
  | [.lst xs] => Q (.int xs.length)
  | [.tup xs] => Q (.int xs.length)
  | _ => False
noncomputable def ZV : DL := fun ds Q => match ds with
  | [.int i] => Q (.int (if i < 0 then -i else i))
  | _ => False
noncomputable def Xw : DL := fun ds Q => match ds with
  | [.int i, .int j] => Q (.int (if j > i then j else i))
  | _ => False
noncomputable def Aj1 : DL := fun ds Q => match ds with
  | [.int i, .int j] => Q (.int (if j < i then j else i))
  | _ => False
noncomputable def Ahk : DL := fun ds Q => match ds with
  | [.int i] => Q (.int i)
  | [.bl k] => Q (.int (if k then 1 else 0))
  | _ => False
theorem Abs {K : PySem.W.Frag} : Qw K (fun xs H Q => ∃ p ys, xs = [.ref p] ∧ (SqL K H p ys ∨ SqT K H p ys) ∧ Q (.int ys.length) H) ZK where
  mono := fun hq h => by
    unfold ZK at h ⊢
    split at h
    · exact hq _ h
    · exact hq _ h
    · exact h.elim
  ok := fun O H ds xs Q _ r h => by
    unfold ZK at h
    split at h
    · obtain ⟨v, r', rfl, r2, r3⟩ := Ay.mp r
      obtain rfl := Bs.mp r3
      obtain ⟨a, ys, rfl, hs, hl⟩ := Ec r2
      exact ⟨a, ys, rfl, .inl (Bh.seq hs), by rw [hl.len]; exact h _ H (Same.refl H) (Bd.mpr rfl)⟩
    · obtain ⟨v, r', rfl, r2, r3⟩ := Ay.mp r
      obtain rfl := Bs.mp r3
      obtain ⟨a, ys, rfl, hs, hl⟩ := Ds.mp r2
      exact ⟨a, ys, rfl, .inr (Bh.seqT hs), by rw [hl.len]; exact h _ H (Same.refl H) (Bd.mpr rfl)⟩
    · exact h.elim
theorem AiW {K : PySem.W.Frag} {H : Hp} {i : Int} {xs : List V} (h : RpL K H [.int i] xs) : xs = [.int i] := by
  obtain ⟨v, r, rfl, r2, r3⟩ := Ay.mp h
  rw [Bs.mp r3, Bd.mp r2]
theorem Aki {K : PySem.W.Frag} {H : Hp} {i j : Int} {xs : List V} (h : RpL K H [.int i, .int j] xs) : xs = [.int i, .int j] := by
  obtain ⟨v, r, rfl, r2, r3⟩ := Ay.mp h
  rw [AiW r3, Bd.mp r2]
theorem AbN {K : PySem.W.Frag} : Qw K (fun xs H Q => ∃ i, xs = [.int i] ∧ Q (.int (if i < 0 then -i else i)) H) ZV where
  mono := fun hq h => by
    unfold ZV at h ⊢
    split at h
    · exact hq _ h
    · exact h.elim
  ok := fun O H ds xs Q _ r h => by
    unfold ZV at h
    split at h
    · exact ⟨_, AiW r, h _ H (Same.refl H) (Bd.mpr rfl)⟩
    · exact h.elim
theorem Abm {K : PySem.W.Frag} : Qw K (fun xs H Q => ∃ i j, xs = [.int i, .int j] ∧ Q (.int (if j > i then j else i)) H) Xw where
  mono := fun hq h => by
    unfold Xw at h ⊢
    split at h
    · exact hq _ h
    · exact h.elim
  ok := fun O H ds xs Q _ r h => by
    unfold Xw at h
    split at h
    · exact ⟨_, _, Aki r, h _ H (Same.refl H) (Bd.mpr rfl)⟩
    · exact h.elim
theorem Qj {p : Pos} (hm : X.mg "len" = none) (ha : DA X [a] tl) (hg : Gl X "len" := by rfl) (he : starEach [a] X.env = (false, eval a X.env) :: starEach [] X.env := by rfl) (hpl : (backTo pos (starEach [] X.env)).any (·.1) = false := by rfl) :
    DE X (.Call (.Name "len" p) [a] [] pos) (dCB ZK tl) := Oc Pu Abs hg hm PySem.boot_len ha (he := he) (hpl := hpl)
theorem Qk {p : Pos} (hm : X.mg "abs" = none) (ha : DA X [a] tl) (hg : Gl X "abs" := by rfl) (hv : bootBuiltins "abs" = some (.builtin "abs") := by rfl) (he : starEach [a] X.env = (false, eval a X.env) :: starEach [] X.env := by rfl) (hpl : (backTo pos (starEach [] X.env)).any (·.1) = false := by rfl) :
    DE X (.Call (.Name "abs" p) [a] [] pos) (dCB ZV tl) := Oc Zb AbN hg hm hv ha (he := he) (hpl := hpl)
theorem Aec {p : Pos} (hm : X.mg "max" = none) (ha : DA X [a, b] tl) (hc : X.calm = true := by rfl) (hg : Gl X "max" := by rfl) (hv : bootBuiltins "max" = some (.builtin "max") := by rfl) (he : starEach [a, b] X.env = (false, eval a X.env) :: starEach [b] X.env := by rfl)
    (hpl : (backTo pos (starEach [b] X.env)).any (·.1) = false := by rfl) : DE X (.Call (.Name "max" p) [a, b] [] pos) (dCB Xw tl) := Oc (WY hc) Abm hg hm hv ha (he := he) (hpl := hpl)
noncomputable def tyOf : Dt → String
  | .non => "NoneType"
  | .bl _ => "bool"
  | .int _ => "int"
  | .str _ => "str"
  | .tup _ => "tuple"
  | .lst _ => "list"
  | .fn _ => "function"
  | .exc _ _ _ => "exception"
  | .obj _ _ _ => "instance"
noncomputable def noFn : Dt → Bool
  | .fn _ => false
  | .exc _ _ _ => false
  | .obj _ _ _ => false
  | _ => true
noncomputable def isT (T : String) (d : Dt) : Bool := tyOf d == T || (T == "int" && tyOf d == "bool")
noncomputable def QB (T : String) : Prop := ∀ (K : PySem.W.Frag) (d : Dt), noFn d = true → PySem.W.kitOne K (.type (tyOf d)) (.type T) = some (isT T d)
theorem Yp {T : String} (hT : QB T) : Ig X (.builtin "isinstance") (fun xs H Q => ∃ d x, xs = [x, .ty T] ∧ Rp X.K H d x ∧ noFn d = true ∧ Q (.bl (isT T d)) H) := by
  intro pins s σ H xs us Q I r ⟨d, x, e, rp, nf, q⟩
  subst e
  obtain ⟨u, u2, rfl, r1, r2⟩ := vals2 r
  cases (show u2 = .type T from r2)
  have hk := hT X.K d nf
  have fin : ∀ tk, EP X pins σ Q (.bool (isT T d)) { s with toks := tk } := fun tk => ⟨.bl _, H, I.tok tk, rfl, q⟩
  cases d with
  | non => rw [GR.mp rp] at r1; cases (show u = Value.none from r1); exact PySem.W.kia_one PySem.W.kitx_none I.kIn True.intro hk (fun z => nomatch z) fin
  | bl y => rw [BX.mp rp] at r1; cases (show u = Value.bool y from r1); exact PySem.W.kia_one PySem.W.kitx_bool I.kIn True.intro hk (fun z => nomatch z) fin
  | int i => rw [Bd.mp rp] at r1; obtain ⟨t, q⟩ := (show ∃ t, u = Value.int i t from r1); cases q; exact PySem.W.kia_one PySem.W.kitx_int I.kIn True.intro hk (fun z => nomatch z) fin
  | str y => rw [J3.mp rp] at r1; obtain ⟨t, q⟩ := (show ∃ t, u = Value.str y t from r1); cases q; exact PySem.W.kia_one PySem.W.kitx_str I.kIn True.intro hk (fun z => nomatch z) fin
  | fn a => cases nf
  | exc _ _ _ => cases nf
  | obj _ _ _ => cases nf
  | tup ds =>
    obtain ⟨a, ys, rfl, hs, _⟩ := Ds.mp rp
    cases (show u = Value.ref a from r1)
    obtain ⟨_, _, ⟨o, h1, h2, _⟩, _⟩ := I.tuple hs
    exact PySem.W.kia_one PySem.W.kitx_tuple I.kIn ⟨o, h1, h2⟩ hk (fun z => nomatch z) fin
  | lst ds =>
    obtain ⟨a, ys, rfl, hs, _⟩ := Ec rp
    cases (show u = Value.ref a from r1)
    obtain ⟨_, _, ⟨o, n, h1, h2, _⟩, _⟩ := I.list hs
    exact PySem.W.kia_one PySem.W.kitx_list I.kIn ⟨o, h1, h2⟩ hk (fun z => nomatch z) fin
noncomputable def Aiw (T : String) (ta : DTE) : DTE := fun ρ Q => ta ρ fun d => noFn d = true ∧ Q (.bl (isT T d))
theorem Qg {T : String} {Ts : Str} {p p2 : Pos} (hm : X.mg "isinstance" = none) (hmT : X.mg Ts = none) (hT : QB T) (ha : DE X a ta) (hg : Gl X "isinstance" := by rfl) (hgT : Gl X Ts := by rfl) (hv : bootBuiltins "isinstance" = some (.builtin "isinstance") := by rfl)
    (hvT : bootBuiltins Ts = some (.type T) := by rfl) (hn : Ts ≠ "__name__" := by decide) (hd : (Ts == ("__debug__" : Str)) = false := by decide)
    (hs1 : starEach [a, .Name Ts p2] X.env = (false, eval a X.env) :: starEach [.Name Ts p2] X.env := by rfl) (hs2 : starEach [.Name Ts p2] X.env = (false, eval (.Name Ts p2) X.env) :: starEach [] X.env := by rfl)
    (hpl : (backTo pos (starEach [.Name Ts p2] X.env)).any (·.1) = false := by rfl) : DE X (.Call (.Name "isinstance" p) [a, .Name Ts p2] [] pos) (Aiw T ta) where
  mono := fun hq h => ha.mono (fun _ h => ⟨h.1, hq _ h.2⟩) h
  pe := (Le (Yp hT) hg hm hv (GF ha.pe (GF (U3 (v := .ty T) hgT hmT hvT rfl hn hd) O6 hs2) hs1) (he := hs1) (hpl := hpl)).imp fun σ H Q ⟨B, F, O, ρ, R, h⟩ =>
    ⟨B, F, O, ρ, R, ha.mono (fun d h v H1 s1 r1 => ⟨d, v, rfl, r1.mono Bh, h.1, h.2 _ H1 s1 (BX.mpr rfl)⟩) h⟩
noncomputable abbrev DTO := Bv → (Option Int → Prop) → Prop
noncomputable def lO (K : PySem.W.Frag) (t : DTO) : TO := fun σ H Q => ∃ B F O ρ, Rep K B F O H σ ρ ∧ t ρ fun o => ∀ H', Same H H' → Q o H'
structure DO (X : Cx) (e : Option Expr) (t : DTO) : Prop where
  mono : ∀ {ρ Q Q'}, (∀ d, Q d → Q' d) → t ρ Q → t ρ Q'
  po : PO X e (lO X.K t)
noncomputable def AcT : DTO := fun _ Q => Q none
noncomputable def AaM (te : DTE) : DTO := fun ρ Q => te ρ fun d => match d with
  | .int i => Q (some i)
  | _ => False
theorem PO.imp {e : Option Expr} {t t' : TO} (h : PO X e t) (i : ∀ σ H Q, t' σ H Q → t σ H Q) : PO X e t' := fun pins s σ H Q I q => h pins s σ H Q I (i _ _ _ q)
theorem KZ (h : DE X e te) : DO X (some e) (AaM te) where
  mono := fun hq z => h.mono (fun d z => by
    split at z
    · exact hq _ z
    · exact z.elim) z
  po := (AcZ h.pe).imp fun σ H Q ⟨B, F, O, ρ, R, z⟩ => ⟨B, F, O, ρ, R, h.mono (fun d z v H1 s1 r1 => by
    split at z
    · exact ⟨_, Bd.mp r1, z H1 s1⟩
    · exact z.elim) z⟩
noncomputable def cutD (xs : List Dt) (lo hi : Option Int) : List Dt := (xs.drop (HT.sIx xs.length 0 lo)).take (HT.sIx xs.length xs.length hi - HT.sIx xs.length 0 lo)
theorem RpL.cut {K : PySem.W.Frag} {H : Hp} {ds : List Dt} {xs : List V} {lo hi : Option Int} (h : RpL K H ds xs) : RpL K H (cutD ds lo hi) (WW xs lo hi) := by
  unfold cutD WW
  rw [h.len]
  exact (h.drop _).take _
noncomputable def TX (te : DTE) (tl th : DTO) : DTE := fun ρ Q => te ρ fun d => tl ρ fun lo => th ρ fun hi => match d with
  | .lst ds => Q (.lst (cutD ds lo hi))
  | _ => False
theorem Qs {lo hi : Option Expr} {t1 t2 : DTO} {p2 : Pos} (he : DE X e te) (hl : DO X lo t1) (hh : DO X hi t2) : DE X (.Subscript e (.Slice lo hi none p2) pos) (TX te t1 t2) where
  mono := fun hq z => he.mono (fun d z => hl.mono (fun l z => hh.mono (fun h z => by
    split at z
    · exact hq _ z
    · exact z.elim) z) z) z
  pe := (Aao Ab5 he.pe hl.po hh.po).imp fun σ H Q ⟨B, F, O, ρ, R, z⟩ => ⟨B, F, O, ρ, R, he.mono (fun d z v H1 s1 r1 => ⟨B, F, O, ρ, R.same s1, hl.mono (fun l z H2 s2 => ⟨B, F, O, ρ, (R.same s1).same s2, hh.mono (fun h z H3 s3 => by
    split at z
    · obtain ⟨a, xs, rfl, hs, hr⟩ := Ec ((r1.mono s2.mask).mono s3.mask)
      refine ⟨a, xs, rfl, Bh.seq hs, fun p hp => ?_⟩
      have R3 := ((R.same s1).same s2).same s3
      have np : p ∉ F ++ O := fun m => R3.th p m hp
      refine z (.ref p) _ (((s1.trans s2).trans s3).trans (Same.upd hp)) (K8 ⟨p, _, rfl, (Mj np), ?_⟩)
      exact hr.cut.mono (Same.upd hp).mask
    · exact z.elim) z⟩) z⟩) z⟩
end
theorem AbU : QB "int" := fun K d h => by cases d <;> first | rfl | cases h
theorem Q8 : QB "bool" := fun K d h => by cases d <;> first | rfl | cases h
theorem Wx : QB "tuple" := fun K d h => by cases d <;> first | rfl | cases h
end L2
namespace L2
open PySem PySem.Spec PyProof.Rows PySem.SeqAt
theorem Ja (env : Env) : ∀ (names : List (Str × NameKind)) (cs : List (Str × Addr)), (∀ y ∈ names, y.2 = .free → ∃ c, env.cells.lookup y.1 = some c) → (∀ n c, cs.lookup n = some c → env.cells.lookup n = some c) →
    ∃ cl, (forIn names cs fun (x : Str × NameKind) (r : List (Str × Addr)) => (if (x.2 == NameKind.free) = true then (do let c ← cellOf env x.1; pure (ForInStep.yield ((x.1, c) :: r))) else pure (ForInStep.yield r) : Sem (ForInStep (List (Str × Addr))))) = pure cl ∧
      (∀ n c, cl.lookup n = some c → env.cells.lookup n = some c) ∧ (∀ n, (cs.lookup n).isSome = true → (cl.lookup n).isSome = true) ∧ ∀ n, (n, NameKind.free) ∈ names → (cl.lookup n).isSome = true
  | [], cs, _, h2 => ⟨cs, rfl, h2, fun _ h => h, fun n h => (nomatch h)⟩
  | (x, k) :: names, cs, h1, h2 => by
    rw [List.forIn_cons]
    by_cases hk : k = .free
    · subst hk
      obtain ⟨c, hc⟩ := h1 (x, .free) List.mem_cons_self rfl
      have e : cellOf env x = pure c := by unfold cellOf; rw [hc]
      have h3 : ∀ n c', ((x, c) :: cs).lookup n = some c' → env.cells.lookup n = some c' := fun n c' q => by
        rw [List.lookup_cons] at q
        split at q
        · rename_i b; cases q; rw [eq_of_beq b]; exact hc
        · exact h2 n c' q
      obtain ⟨cl, g1, g2, g3, g4⟩ := Ja env names ((x, c) :: cs) (fun y hy => h1 y (List.mem_cons_of_mem _ hy)) h3
      refine ⟨cl, ?_, g2, fun n q => g3 n ?_, fun n hn => ?_⟩
      · simp only [beq_self_eq_true, if_true, e, pure_bind]
        exact g1
      · rw [List.lookup_cons]; split
        · rfl
        · exact q
      · rcases List.mem_cons.mp hn with q | q
        · cases q
          exact g3 x (by rw [List.lookup_cons]; simp)
        · exact g4 n q
    · have hb : (k == NameKind.free) = false := by simpa using hk
      obtain ⟨cl, g1, g2, g3, g4⟩ := Ja env names cs (fun y hy => h1 y (List.mem_cons_of_mem _ hy)) h2
      refine ⟨cl, ?_, g2, g3, fun n hn => ?_⟩
      · simp only [hb, Bool.false_eq_true, if_false, pure_bind]
        exact g1
      · rcases List.mem_cons.mp hn with q | q
        · cases q; exact absurd rfl hk
        · exact g4 n q
theorem S5 {env : Env} {scope : Scope} (h : ∀ y ∈ scope.names, y.2 = .free → ∃ c, env.cells.lookup y.1 = some c) :
    ∃ cl, closureFor scope env = pure cl ∧ (∀ n c, cl.lookup n = some c → env.cells.lookup n = some c) ∧ ∀ n, (n, NameKind.free) ∈ scope.names → ∃ c, cl.lookup n = some c := by
  obtain ⟨cl, g1, g2, _, g4⟩ := Ja env scope.names [] h (fun n c q => by simp at q)
  refine ⟨cl, ?_, g2, fun n q => Option.isSome_iff_exists.mp (g4 n q)⟩
  unfold closureFor
  simp only [bind_pure]
  exact g1
noncomputable def Cz (X : Cx) (scope : Scope) (N : List Str) (cl : List (Str × Addr)) (C : Addr) (s₀ : Shared) (H₀ : Hp) (ex : List Addr) : Cx where
  prog := X.prog
  w := X.w
  K := X.K
  mg := X.mg
  base := X.base
  A := X.A
  N := N
  s₀ := s₀
  H₀ := H₀
  env := compEnvC scope cl C X.env
  outer := X.stack
  stack := X.stack
  ex := ex
  fn := fun _ => false
  calm := X.calm
  pn := []
  xe := fun _ _ => False
noncomputable def PTs (X : Cx) (ifs : List Expr) (t : TT) : Prop :=
  ∀ (pins : List (Addr × Obj)) (s : Shared) (σ : St) (H : Hp) (Q : Bool → Hp → Prop), Inv X pins σ H s → t σ H Q →
    wpAny (model X.prog X.w) X.A (forIn ifs true fun c r => if r = true then do let ok ← isTrue c X.env (eval c X.env); pure (ForInStep.yield ok) else pure (ForInStep.yield r)) (TP X pins σ Q) X.xe s
theorem Acu {X : Cx} : PTs X [] (fun _ H Q => Q true H) := fun pins s σ H Q I h => wpAny_tests_nil ⟨H, I, h⟩
theorem Aa3 {X : Cx} {c : Expr} {t : TT} (h : PT X c t) : PTs X [c] t := fun pins s σ H Q I q => wpAny_tests_one (h pins s σ H Q I q)
noncomputable def Ads (sl : List Nat) (wi : TI) (tt : TT) (te : TE) : TE := fun σ H Q => wi σ H fun J H1 => ∃ vs : List V, sl.map (fun j => σ[j]?) = vs.map (fun v => some (some v)) ∧ ∀ D, H1 D = none →
  ∃ W : Nat → Nat → List V → Hp → Prop, (∃ m, W 0 m [] (upd H1 D (.lst []))) ∧ ∀ i m acc H, W i m acc H →
    (J.stop i H ∧ Q (.ref D) H) ∨
    (J.go i H ∧ ∀ x H', J.yld i H x H' → tt (some x :: vs.map some) H' fun b H2 =>
      if b = true then te (some x :: vs.map some) H2 fun y H3 => H3 D = some (.lst acc) ∧ acc.length < sizeLine ∧ ∃ m', m' < m ∧ W (i + 1) m' (acc ++ [y]) (upd H3 D (.lst (acc ++ [y])))
      else ∃ m', m' < m ∧ W (i + 1) m' acc H2)
theorem Ez {env : Env} : ∀ {names : List (Str × NameKind)} {x : Str}, names.lookup x = some .free → env.scope.kind = .function → env.kindOf x = some .cell →
    (names.map fun (n, k) => if (k == NameKind.free && env.scope.kind == .function && env.kindOf n == some .cell) then (n, NameKind.cell) else (n, k)).lookup x = some .cell
  | [], _, h, _, _ => by simp at h
  | (n, k) :: r, x, h, hk, he => by
    have ih := @Ez env r x
    show List.lookup x ((if (k == NameKind.free && env.scope.kind == .function && env.kindOf n == some .cell) = true then (n, NameKind.cell) else (n, k)) :: _) = _
    cases hx : x == n with
    | true =>
      simp only [List.lookup_cons, hx] at h
      cases h
      have e := eq_of_beq hx
      subst e
      simp [List.lookup_cons, hk, he]
    | false =>
      simp only [List.lookup_cons, hx] at h
      by_cases hc : (k == NameKind.free && env.scope.kind == .function && env.kindOf n == some .cell) = true
      · rw [if_pos hc]; simp only [List.lookup_cons, hx]; exact ih h hk he
      · rw [if_neg hc]; simp only [List.lookup_cons, hx]; exact ih h hk he
theorem Jw {env : Env} : ∀ {names : List (Str × NameKind)} {x : Str}, (∀ y ∈ names, y.2 ≠ .cell) →
    ((names.map fun (n, k) => if (k == NameKind.free && env.scope.kind == .function && env.kindOf n == some .cell) then (n, NameKind.cell) else (n, k)).lookup x = some .cell ∨
     (names.map fun (n, k) => if (k == NameKind.free && env.scope.kind == .function && env.kindOf n == some .cell) then (n, NameKind.cell) else (n, k)).lookup x = some .free) → (x, NameKind.free) ∈ names
  | [], _, _, h => by simp at h
  | (n, k) :: r, x, hn, h => by
    have ih := @Jw env r x fun y hy => hn y (List.mem_cons_of_mem _ hy)
    have nk : k ≠ .cell := hn (n, k) List.mem_cons_self
    rw [List.map_cons] at h
    by_cases hc : (k == NameKind.free && env.scope.kind == .function && env.kindOf n == some .cell) = true
    · simp only [hc, if_true, List.lookup_cons] at h
      have kf : k = .free := by simp at hc; exact hc.1.1
      subst kf
      cases hx : x == n with
      | true => rw [eq_of_beq hx]; exact List.mem_cons_self
      | false => simp only [hx] at h; exact List.mem_cons_of_mem _ (ih h)
    · have hc' : (k == NameKind.free && env.scope.kind == .function && env.kindOf n == some .cell) = false := by simpa using hc
      simp only [hc', Bool.false_eq_true, if_false, List.lookup_cons] at h
      cases hx : x == n with
      | true =>
        simp only [hx] at h
        have kf : k = .free := by
          rcases h with h | h
          · exact absurd (Option.some.inj h) nk
          · exact Option.some.inj h
        subst kf
        rw [eq_of_beq hx]; exact List.mem_cons_self
      | false => simp only [hx] at h; exact List.mem_cons_of_mem _ (ih h)
section
variable {X : Cx} {elt iter : Expr} {x : Str} {px : Pos} {ifs : List Expr} {scope : Scope} {pos : Pos} {N : List Str} {sl : List Nat} {wi : TI} {tt : TT} {te : TE}
structure Gv (X : Cx) (scope : Scope) (x : Str) (N : List Str) (sl : List Nat) : Prop where
  hx : scope.names.lookup x = some .local
  kind : scope.kind = .function
  cell : ∀ y ∈ scope.names, y.2 ≠ .cell
  names : ∀ y ∈ scope.names, y.2 = .local → scope.names.lookup y.1 = some .local
  free : ∀ y ∈ scope.names, y.2 = .free → X.env.kindOf y.1 = some .cell
  nd : (x :: N).Nodup
  sl : N.map some = sl.map (fun j => X.N[j]?)
  frN : ∀ n ∈ N, scope.names.lookup n = some .free
theorem Aak (S : Gv X scope x N sl) {pins : List (Addr × Obj)} {σ : St} {H : Hp} {s : Shared} {h₁ : Heap} {tk : Nat} {fp : List Addr} {cl : List (Str × Addr)} {vs : List V} {o : Obj} (I : Inv X pins σ H s)
    (hfp : ∀ b ∈ fp, PX X pins H b) (hob : ∀ b ∈ fp, ∃ o, s.heap.get? b = some o) (hns : h₁.Ns s.heap.objs.size (fun _ => none)) (hsb : Heap.SameBut s.heap.objs.size (s.heap.push o) h₁)
    (hcl : ∀ n c, cl.lookup n = some c → X.env.cells.lookup n = some c) (hcl2 : ∀ n, (n, NameKind.free) ∈ scope.names → ∃ c, cl.lookup n = some c)
    (hvs : sl.map (fun j => σ[j]?) = vs.map (fun v => some (some v))) :
    Inv (Cz X scope (x :: N) cl s.heap.objs.size s H fp) [] (none :: vs.map some) H { s with heap := h₁, toks := tk } := by
  have hL := I.lt
  have keep : ∀ b o, s.heap.get? b = some o → h₁.get? b = some o := fun b o e => (hsb.2 b (Nat.ne_of_lt (Heap.lt_size e))).trans (Heap.get?_push_of_some _ e)
  have kf : X.env.scope.kind = .function := I.ok.kind
  refine ⟨⟨I.ok.mod, ?_, I.ok.glob, I.ok.blt, Nat.le_refl _, fun y z c h1 h2 => I.ok.inj y z c (hcl y c h1) (hcl z c h2), fun y hy => ?_, fun y c h => (by cases h), I.ok.hd, I.ok.frames, .inl rfl, fun b hb => ⟨?_, fun y c e => ?_⟩, fun b o e => I.bs b o e,
    Nat.le_trans I.ok.bsz I.sz, fun b o e hb => ?_, fun b hb hz => ?_, I.stack, I.stkFree⟩, rfl, I.bare, Un.kept keep, ⟨_, hns, fun i y v e1 e2 e3 => ?_⟩, fun y c e => ?_, I.hok.fresh (Nat.le_refl _), fun y c e => I.freeC y c (hcl y c e),
    fun p hp => absurd (show p ∈ ([] : List (Addr × Obj)) from hp) (by simp), I.hok.kept keep, ?_⟩
  · exact S.kind
  · exact hcl2 y (Jw (env := X.env) (fun z hz => S.cell z hz) hy)
  · obtain ⟨o', e⟩ := hob b hb
    exact Nat.ne_of_lt (Heap.lt_size e)
  · exact (hfp b hb).2.2.2.2.1 y c (hcl y c e)
  · rcases (hfp b hb).2.2.2.1 with z | z
    · exact I.ok.noex b o e z
    · exact absurd (Nat.lt_of_lt_of_le (Heap.lt_size e) (Nat.le_trans I.ok.bsz z)) (Nat.lt_irrefl _)
  · rcases List.mem_cons.mp (I.stkSub b hz) with q | q
    · exact (hfp b hb).2.1 q
    · exact (hfp b hb).2.2.1 q
  · cases i with
    | zero => simp at e2
    | succ j =>
      have e1' : N[j]? = some y := by simpa [Cz] using e1
      have e2' : vs[j]? = some v := by
        rw [List.getElem?_cons_succ, List.getElem?_map] at e2
        cases q : vs[j]? with
        | none => rw [q] at e2; cases e2
        | some v' => rw [q] at e2; cases e2; rfl
      have q1 := congrArg (fun l => l[j]?) S.sl
      have q2 := congrArg (fun l => l[j]?) hvs
      simp only [List.getElem?_map, e1', e2', Option.map_some] at q1 q2
      cases hk : sl[j]? with
      | none => rw [hk] at q1; cases q1
      | some k =>
        rw [hk] at q1 q2
        have n1 : X.N[k]? = some y := (Option.some.inj q1).symm
        have n2 : σ[k]? = some (some v) := Option.some.inj q2
        have hfr := S.frN y (List.mem_of_getElem? e1')
        have hm := PySem.mem_of_lookup hfr
        have hc := S.free _ hm rfl
        obtain ⟨m, hn, hl⟩ := I.loc
        obtain ⟨u, r, lk⟩ := hl k y v n1 n2 (.inr (.inl hc))
        refine ⟨u, r, .inr ⟨.inl (Ez hfr kf hc), ?_⟩⟩
        rcases lk with ⟨kl, _⟩ | ⟨_, c, ec, ⟨o', ho, hd⟩⟩
        · rw [hc] at kl; cases kl
        · obtain ⟨c', ec'⟩ := hcl2 y hm
          have := hcl y c' ec'
          rw [ec] at this; cases this
          exact ⟨c, ec', o', keep _ _ ho, hd⟩
  · obtain ⟨v, o', ho, hd⟩ := I.cell y c (hcl y c e)
    exact ⟨v, o', keep _ _ ho, hd⟩
  · have l1 := congrArg List.length S.sl
    have l2 := congrArg List.length hvs
    simp only [List.length_map] at l1 l2
    simp [Cz]; omega
theorem AbM (S : Gv X scope x N sl) (hc : X.calm = true) (hi : PI X (.Name x px) iter wi) (ht : ∀ cl C s₀ H₀ ex, PTs (Cz X scope (x :: N) cl C s₀ H₀ ex) ifs tt) (he : ∀ cl C s₀ H₀ ex, PE (Cz X scope (x :: N) cl C s₀ H₀ ex) elt te)
    (hs : ∀ x, foldedSetIterable iter X.env x = pure x := by intro _; rfl) : PE X (.ListComp elt [⟨.Name x px, iter, ifs, 0⟩] scope pos) (Ads sl wi tt te) := by
  intro pins s σ H Q I h
  obtain ⟨cl, hclos, hcl, hcl2⟩ := S5 (env := X.env) (scope := scope) fun y hy hf => I.ok.has y.1 (.inl (S.free y hy hf))
  rw [eval_ListComp]
  refine wpAny_comprehension_free (use := none) rfl hs hclos S.kind S.names (thn (hi pins s σ H _ I h) fun v s1 h1 => thn h1 fun itv s2 h2 => ?_)
  obtain ⟨it, fp, tn, J, H2, e, I2, T, st2, f2, vs, hvs, hW⟩ := h2
  subst e
  refine wpAny_newObj_type (wpAny_newFunctionEnv S.cell (by intro y hy; simp at hy) (fun h₁ hns₁ hsb₁ => ?_) S.kind)
  have hD : H2 s2.heap.objs.size = none := I2.fresh
  have I3 : Inv X pins σ (upd H2 s2.heap.objs.size (.lst [])) { s2 with heap := s2.heap.push { cls := .type "list", data := .seq ([] : List Value).toArray }, toks := s2.toks } := I2.lnew (its := []) (ys := []) .nil (Nat.zero_le _)
  have hbD : ∀ b ∈ fp, b ≠ s2.heap.objs.size := fun b hb z => by
    obtain ⟨o', e', _⟩ := T.obj _ _ st2 b hb
    exact absurd (Heap.lt_size e') (by rw [z]; exact Nat.lt_irrefl _)
  have f3 : ∀ b ∈ fp, PX X pins (upd H2 s2.heap.objs.size (.lst [])) b := fun b hb => ⟨by rw [Av (hbD b hb)]; exact (f2 b hb).1, (f2 b hb).2⟩
  have ob3 : ∀ b ∈ fp, ∃ o, (s2.heap.push { cls := .type "list", data := .seq ([] : List Value).toArray }).get? b = some o := fun b hb => by
    obtain ⟨o', e', _⟩ := T.obj _ _ st2 b hb
    exact ⟨o', Heap.get?_push_of_some _ e'⟩
  have IC := Aak (tk := s2.toks + ([] : List (Str × Value)).length) S I3 f3 ob3 hns₁ hsb₁ hcl hcl2 hvs
  dsimp only at hsb₁ IC ⊢
  generalize hCC : (s2.heap.push { cls := .type "list", data := .seq ([] : List Value).toArray }).objs.size = C at hns₁ hsb₁ IC ⊢
  have old : ∀ b o, s2.heap.get? b = some o → h₁.get? b = some o := fun b o e => by
    have e1 : (s2.heap.push { cls := .type "list", data := .seq ([] : List Value).toArray }).get? b = some o := Heap.get?_push_of_some _ e
    exact (hsb₁.2 b (by rw [← hCC]; exact Nat.ne_of_lt (Heap.lt_size e1))).trans (Heap.get?_push_of_some _ e1)
  have st₁ : tn 0 h₁ := T.keep _ _ _ st2 fun b hb o e => old b o e
  obtain ⟨W, ⟨m0, w0⟩, turn⟩ := hW s2.heap.objs.size hD
  have fpC : ∀ {H' : Hp} {pl : List (Addr × Obj)}, (∀ b ∈ fp, H' b = none) → (∀ p ∈ pl, p.1 ∉ fp) → ∀ b ∈ fp, PX (Cz X scope (x :: N) cl C { s2 with heap := s2.heap.push { cls := .type "list", data := .seq ([] : List Value).toArray }, toks := s2.toks } (upd H2 s2.heap.objs.size (.lst [])) fp) pl H' b := fun {H' pl} hn hp b hb => by
    refine ⟨hn b hb, (IC.ok.exf b hb).1, IC.ok.exfs b hb, .inl hb, (IC.ok.exf b hb).2, fun p hq z => ?_⟩
    have hq' : p ∈ pl := by simpa [Cz] using hq
    exact hp p hq' (by rw [z]; exact hb)
  have done : ∀ {σ' : St} {H' : Hp} {s' : Shared}, Inv (Cz X scope (x :: N) cl C { s2 with heap := s2.heap.push { cls := .type "list", data := .seq ([] : List Value).toArray }, toks := s2.toks } (upd H2 s2.heap.objs.size (.lst [])) fp) [] σ' H' s' → Q (.ref s2.heap.objs.size) H' →
      ∃ m, s'.heap.Ns C m ∧ ∀ h', Heap.SameBut C s'.heap h' → EP X pins σ Q (.ref s2.heap.objs.size) { s' with heap := h' } := fun {σ' H' s'} J q => by
    obtain ⟨m, hn, _⟩ := id J.loc
    refine ⟨m, hn, fun h' hs' => ⟨.ref s2.heap.objs.size, H', ?_, rfl, q⟩⟩
    have u : Un (frs X.stack) fp H2 H' s2.heap s'.heap := (Un.laid (fun b u e => Heap.get?_push_of_some _ e) (Nat.le_refl _) hD).trans J.base
    have nC : ∀ b o, s2.heap.get? b = some o → b ≠ C := fun b o e => by
      have e1 : (s2.heap.push { cls := .type "list", data := .seq ([] : List Value).toArray }).get? b = some o := Heap.get?_push_of_some _ e
      rw [← hCC]; exact Nat.ne_of_lt (Heap.lt_size e1)
    have u' : Un (frs X.stack) fp H2 H' s2.heap h' :=
      ⟨fun b o e n hb hx => (hs'.2 b (nC b o e)).trans (u.keep b o e n hb hx), fun b o e n hb hx => let ⟨sl, q⟩ := u.slot b o e n hb hx; ⟨sl, (hs'.2 b (nC b o e)).trans q⟩, u.free, fun b o e hx => let ⟨o', q⟩ := u.there b o e hx; ⟨o', (hs'.2 b (nC b o e)).trans q⟩, u.tups, u.frzs, u.tbls⟩
    have hok : HOk X.prog X.w H' h' := fun b ob e => (J.hok b ob e).stay (fun c w' hc q => (hs'.2 c (by
      rintro rfl
      have hf : H' c = none := J.free
      rcases hc with rfl | hc
      · rw [hf] at e; cases e
      · rw [hf] at hc; cases hc)).trans q) (fun _ q => q) fun _ _ q => q
    have hos : s'.os = s2.os := J.os
    exact I2.call' (s' := { s' with heap := h' }) (ch := fp) hos u' hok J.bare fun b hb => ⟨(f2 b hb).2.2.2.1, (f2 b hb).2.1, (f2 b hb).2.2.2.2.1, (f2 b hb).2.2.2.2.2⟩
  have loop : codeAny (model X.prog X.w) X.A (.compLoop (.ListComp elt [⟨.Name x px, iter, ifs, 0⟩] scope pos) 0 (.ref it) (.ref s2.heap.objs.size) (compEnvC scope cl C X.env)) (compPost (model X.prog X.w) X.A X.xe none (EP X pins σ Q) (.ref s2.heap.objs.size) C)
      { s2 with heap := h₁, toks := s2.toks + ([] : List (Str × Value)).length } := by
    refine codeAny_compLoop_tests (fun n s' => ∃ i acc σ' H', Inv (Cz X scope (x :: N) cl C { s2 with heap := s2.heap.push { cls := .type "list", data := .seq ([] : List Value).toArray }, toks := s2.toks } (upd H2 s2.heap.objs.size (.lst [])) fp) [] σ' H' s' ∧ (∃ y, σ' = y :: vs.map some) ∧
      tn i s'.heap ∧ (∀ b ∈ fp, H' b = none) ∧ W i n acc H') ?_ m0 ⟨0, [], _, _, IC, ⟨none, rfl⟩, st₁, fun b hb => (f3 b hb).1, w0⟩
    rintro n s3 ⟨i, acc, σ3, H3, I4, ⟨y, rfl⟩, st3, fr3, w3⟩
    rcases turn i n acc H3 w3 with ⟨stop, qn⟩ | ⟨go, step⟩
    · refine wpAny_mono (T.done (Cz X scope (x :: N) cl C { s2 with heap := s2.heap.push { cls := .type "list", data := .seq ([] : List Value).toArray }, toks := s2.toks } (upd H2 s2.heap.objs.size (.lst [])) fp) rfl rfl rfl hc i [] s3 _ H3 (fun _ _ => False) I4 (fpC fr3 (by simp)) st3 stop) (fun r s4 ⟨hr, I5⟩ => ?_) fun _ _ z => False.elim z
      subst hr
      exact done I5 qn
    · refine wpAny_mono (T.item (Cz X scope (x :: N) cl C { s2 with heap := s2.heap.push { cls := .type "list", data := .seq ([] : List Value).toArray }, toks := s2.toks } (upd H2 s2.heap.objs.size (.lst [])) fp) rfl rfl rfl hc i [] s3 _ H3 (fun _ _ => False) I4 (fpC fr3 (by simp)) st3 go) (fun r s4 ⟨u, hr, h4⟩ => ?_) fun _ _ z => False.elim z
      subst hr
      have e0 : ∀ (k : Unit → Sem Unit), (letOwnedTupleGo (.Name x px) (.ref it) u >>= k) = k () := fun k => rfl
      have hg : PG (Cz X scope (x :: N) cl C { s2 with heap := s2.heap.push { cls := .type "list", data := .seq ([] : List Value).toArray }, toks := s2.toks } (upd H2 s2.heap.objs.size (.lst [])) fp) (.Name x px) (Zh 0) := Wu S.nd rfl (.inl (lookup_relabel_local S.hx)) (.inr (lookup_relabel_local S.hx))
      show wpAny (model X.prog X.w) X.A (assign (.Name x px) (compEnvC scope cl C X.env) u) _ _ s4
      rw [← e0 fun _ => assign (.Name x px) (compEnvC scope cl C X.env) u]
      refine wpAny_bind (wpAny_mono h4 (fun _ s5 ⟨z, H5, I5, r5, y5, st5, fr5⟩ => ?_) fun _ _ z => False.elim z)
      have I5' := I5.pinned (fpC fr5 (by simp)) (T.obj _ _ st5)
      have W5 := hg _ s5 _ H5 z u (fun σ' H' => σ' = some z :: vs.map some ∧ H' = H5) I5' r5 ⟨rfl, rfl⟩
      refine wpAny_mono W5 (fun _ s6 ⟨σ6, H6, I6, e6, e7⟩ => ?_) fun _ _ z => False.elim z
      subst e6 e7
      refine wpAny_mono (ht _ _ _ _ _ _ s6 _ H6 _ I6 (step z H6 y5)) (fun b s7 ⟨H7, I7, q7⟩ => ?_) fun _ _ z => False.elim z
      have again : ∀ {H8 : Hp} {s8 : Shared} {acc' : List V}, Inv (Cz X scope (x :: N) cl C { s2 with heap := s2.heap.push { cls := .type "list", data := .seq ([] : List Value).toArray }, toks := s2.toks } (upd H2 s2.heap.objs.size (.lst [])) fp) ([] ++ M9 fp s5.heap) (some z :: vs.map some) H8 s8 → (∃ m', m' < n ∧ W (i + 1) m' acc' H8) → ∃ m, m < n ∧ ∃ i acc σ' H', Inv (Cz X scope (x :: N) cl C { s2 with heap := s2.heap.push { cls := .type "list", data := .seq ([] : List Value).toArray }, toks := s2.toks } (upd H2 s2.heap.objs.size (.lst [])) fp) [] σ' H' s8 ∧ (∃ y, σ' = y :: vs.map some) ∧ tn i s8.heap ∧ (∀ b ∈ fp, H' b = none) ∧ W i m acc H' := fun {H8 s8 acc'} I8 ⟨m', hm, w8⟩ => by
        refine ⟨m', hm, i + 1, acc', _, H8, I8.unpinned, ⟨_, rfl⟩, T.keep _ _ _ st5 fun b hb o e => (I8.pin (b, o) (List.mem_append_right _ (List.mem_append_right _ (GK hb e)))).1, fun b hb => ?_, w8⟩
        obtain ⟨o, e, d⟩ := T.obj _ _ st5 b hb
        exact (I8.pin (b, o) (List.mem_append_right _ (List.mem_append_right _ (GK hb e)))).2.1
      cases b with
      | false => exact again I7 q7
      | true =>
        rw [if_pos rfl]
        refine wpAny_mono (he _ _ _ _ _ _ s7 _ H7 _ I7 q7) (fun v8 s8 ⟨x8, H8, I8, r8, hD8, hz8, q8⟩ => ?_) fun _ _ z => False.elim z
        refine wpAny_mono (NT (X := (Cz X scope (x :: N) cl C { s2 with heap := s2.heap.push { cls := .type "list", data := .seq ([] : List Value).toArray }, toks := s2.toks } (upd H2 s2.heap.objs.size (.lst [])) fp)) _ s8 _ H8 (.ref s2.heap.objs.size) [x8] (.ref s2.heap.objs.size) [v8] (fun _ H9 => H9 = upd H8 s2.heap.objs.size (.lst (acc ++ [x8]))) I8 rfl (.cons r8 .nil) ⟨_, acc, x8, rfl, rfl, hD8, hz8, rfl⟩) (fun _ s9 ⟨_, H9, I9, _, e9⟩ => ?_) fun _ _ z => False.elim z
        subst e9
        exact again I9 q8
  exact codeAny_compStart_list loop (T.self _ 0 _ _ _ st₁ loop)
noncomputable def inner (sl : List Nat) (ρ : Bv) (d : Dt) : Bv := some (.is d) :: sl.map fun j => (ρ[j]?).join
structure DTs (X : Cx) (ifs : List Expr) (t : DTT) : Prop where
  mono : ∀ {ρ Q Q'}, (∀ d, Q d → Q' d) → t ρ Q → t ρ Q'
  pts : PTs X ifs (lT X.K t)
noncomputable def K9 : DTT := fun _ Q => Q true
theorem AcN : DTs X [] K9 := ⟨fun hq h => hq _ h, fun pins s σ H Q I ⟨B, F, O, ρ, R, h⟩ => Acu pins s σ H Q I (h H (Same.refl H))⟩
theorem Abx {c : Expr} {t : DTT} (h : DT X c t) : DTs X [c] t := ⟨h.mono, Aa3 h.pt⟩
noncomputable def caught (sl : List Nat) (ρ : Bv) : Prop := ∀ j ∈ sl, ∃ d, ρ[j]? = some (some (.is d))
noncomputable def Js (sl : List Nat) (ti : DTI) (tt : DTT) (te : DTE) : DTE := fun ρ Q => ti ρ fun items => items.length ≤ sizeLine ∧ caught sl ρ ∧
  ∃ W : Nat → List Dt → Prop, W 0 [] ∧ (∀ (k : Nat) d acc, items[k]? = some d → W k acc → tt (inner sl ρ d) fun b => if b = true then te (inner sl ρ d) fun e => W (k + 1) (acc ++ [e]) else W (k + 1) acc) ∧
    ∀ acc, acc.length ≤ items.length → W items.length acc → Q (.lst acc)
theorem Ko {K : PySem.W.Frag} {B : Hp} {F O : List Addr} {H : Hp} {σ : St} {ρ : Bv} (R : Rep K B F O H σ ρ) : ∀ {sl : List Nat}, caught sl ρ → ∃ vs ds, sl.map (fun j => σ[j]?) = vs.map (fun v => some (some v)) ∧ sl.map (fun j => (ρ[j]?).join) = ds.map (fun d => some (En.is d)) ∧ RpL K (mask (F ++ O) H) ds vs
  | [], _ => ⟨[], [], rfl, rfl, RpL.nil⟩
  | j :: sl, h => by
    obtain ⟨d, e⟩ := h j List.mem_cons_self
    obtain ⟨v, e1, e2⟩ := R.is j d e
    obtain ⟨vs, ds, h1, h2, h3⟩ := Ko R (sl := sl) fun k hk => h k (List.mem_cons_of_mem _ hk)
    exact ⟨v :: vs, d :: ds, by simp [e1, h1], by simp [e, h2], RpL.cons e2 h3⟩
theorem Xh {K : PySem.W.Frag} {F : List Addr} {H : Hp} {d : Dt} {v : V} {ds : List Dt} {vs : List V} (th : ∀ a ∈ F, H a ≠ none) (r : Rp K (mask F H) d v) (rs : RpL K (mask F H) ds vs) :
    Rep K (fun _ => none) F [] H (some v :: vs.map some) (some (.is d) :: ds.map fun d => some (En.is d)) := by
  have e : mask (F ++ []) H = mask F H := by rw [List.append_nil]
  have noown : ∀ (i : Nat) (es : En), (∀ z, es ≠ .is z) → (some (En.is d) :: ds.map fun d => some (En.is d))[i]? = some (some es) → False := fun i es nz q => by
    cases i with
    | zero => cases q; exact nz _ rfl
    | succ j =>
      rw [List.getElem?_cons_succ, List.getElem?_map] at q
      cases z : ds[j]? with
      | none => rw [z] at q; cases q
      | some y => rw [z] at q; cases q; exact nz _ rfl
  refine ⟨by simp [rs.len], fun a o q => (nomatch q), fun a h => (nomatch h), fun a h => th a (by simpa using h), fun i y q => ?_, fun i es q => (noown i _ (fun _ z => by cases z) q).elim, fun i j es es' a h1 => (noown i _ (fun _ z => by cases z) h1).elim, fun i es q => (noown i _ (fun _ z => by cases z) q).elim, fun i j es es' a h1 => (noown i _ (fun _ z => by cases z) h1).elim⟩
  rw [e]
  cases i with
  | zero => cases q; exact ⟨v, rfl, r⟩
  | succ j =>
    rw [List.getElem?_cons_succ, List.getElem?_map] at q
    cases z : ds[j]? with
    | none => rw [z] at q; cases q
    | some y' =>
      rw [z] at q; cases q
      obtain ⟨u, h1, h2⟩ := rs.get z
      exact ⟨u, by rw [List.getElem?_cons_succ, List.getElem?_map, h1]; rfl, h2⟩
theorem YZ {K : PySem.W.Frag} {sl : List Nat} {ti : DTI} {dt : DTT} {de : DTE} (mi : ∀ {ρ Q Q'}, (∀ d, Q d → Q' d) → ti ρ Q → ti ρ Q') (mt : ∀ {ρ Q Q'}, (∀ d, Q d → Q' d) → dt ρ Q → dt ρ Q') (me : ∀ {ρ Q Q'}, (∀ d, Q d → Q' d) → de ρ Q → de ρ Q')
    (σ : St) (H : Hp) (Q : VK) (h : lE K (Js sl ti dt de) σ H Q) : Ads sl (lI K ti) (lT K dt) (lE K de) σ H Q := by
  obtain ⟨B, F, O, ρ, R, h⟩ := h
  refine ⟨B, F, O, ρ, R, mi (fun items ⟨h1, h2, W, w0, st, fin⟩ J H1 s1 it => ?_) h⟩
  have R1 := R.same s1
  obtain ⟨vs, ds, ev, ed, rs⟩ := Ko R1 h2
  refine ⟨vs, ev, fun D hD => ?_⟩
  have nD : D ∉ F ++ O := fun z => R1.th D z hD
  have sM : Same (mask (F ++ O) H1) (mask (F ++ O) (upd H1 D (.lst []))) := (Same.upd hD).mask
  refine ⟨fun i m acc H2 => m + i = items.length ∧ H2 D = some (.lst acc) ∧ acc.length ≤ i ∧ Same H1 H2 ∧ ∃ as, RpL K (mask (D :: (F ++ O)) H2) as acc ∧ W i as, ⟨items.length, by omega, Bb, Nat.le_refl _, Same.upd hD, [], RpL.nil, w0⟩, ?_⟩
  rintro i m acc H2 ⟨hm, e2, hl, s2, as, ra, w⟩
  have sb : Same (mask (F ++ O) H1) H2 := fun a o e => s2 a o (Dq e).2
  have sD : Same (mask (F ++ O) H1) (mask (D :: (F ++ O)) H2) := fun a o e => by
    obtain ⟨q, e⟩ := Dq e
    rw [Ba fun z => by
      rcases List.mem_cons.mp z with z | z
      · rw [z, hD] at e; cases e
      · exact q z]
    exact s2 a o e
  obtain ⟨go, stop⟩ := it H2 sb
  by_cases hlt : i < items.length
  · refine .inr ⟨(go i items[i] (by simp [hlt])).1, fun z H3 y => ?_⟩
    obtain ⟨e, r⟩ := (go i items[i] (by simp [hlt])).2 z H3 y
    subst e
    have th : ∀ a ∈ D :: (F ++ O), H3 a ≠ none := fun a ha q => by
      rcases List.mem_cons.mp ha with z | z
      · rw [z, e2] at q; cases q
      · have := R1.th a z
        cases q' : H1 a with
        | none => exact this q'
        | some o => rw [s2 a o q'] at q; cases q
    have R3 := Xh th (r.mono sD) (rs.mono sD)
    have ei : some (En.is items[i]) :: ds.map (fun d => some (En.is d)) = inner sl ρ items[i] := by unfold inner; rw [ed]
    rw [ei] at R3
    refine ⟨_, _, _, _, R3, mt (fun b q H4 s4 => ?_) (st i _ as (by simp [hlt]) w)⟩
    cases b with
    | false =>
      refine ⟨m - 1, by omega, by omega, s4 _ _ e2, by omega, s2.trans s4, as, ra.mono s4.mask, q⟩
    | true =>
      refine ⟨_, _, _, _, R3.same s4, me (fun e q v5 H5 s5 r5 => ?_) q⟩
      have e5 : H5 D = some (.lst acc) := s5 _ _ (s4 _ _ e2)
      have hz : acc.length < sizeLine := by omega
      have s6 : Same (mask (D :: (F ++ O)) H5) (mask (D :: (F ++ O)) (upd H5 D (.lst (acc ++ [v5])))) := fun a o q => by
        obtain ⟨n, q⟩ := Dq q
        rw [Ba n, Av fun z => n (by rw [z]; exact List.mem_cons_self)]; exact q
      have em : mask (D :: (F ++ O) ++ []) H5 = mask (D :: (F ++ O)) H5 := by rw [List.append_nil]
      rw [em] at r5
      refine ⟨e5, hz, m - 1, by omega, by omega, Bb, by simp; omega, fun a o q => ?_, as ++ [e], (((ra.mono s4.mask).mono s5.mask).append (RpL.cons r5 RpL.nil)).mono s6, q⟩
      rw [Av (Bk q hD)]
      exact s5 _ _ (s4 _ _ (s2 a o q))
  · have e : i = items.length := by omega
    subst e
    refine .inl ⟨stop, fin as (by rw [← ra.len]; exact hl) w (.ref D) H2 (s1.trans s2) (K8 ⟨D, acc, rfl, (by rw [Ba nD]; exact e2), ra.mono (Fy fun a h => List.mem_cons_of_mem _ h)⟩)⟩
theorem Qq {ti : DTI} {dt : DTT} {de : DTE} (S : Gv X scope x N sl) (hc : X.calm = true) (hi : DI X (.Name x px) iter ti) (ht : ∀ cl C s₀ H₀ ex, DTs (Cz X scope (x :: N) cl C s₀ H₀ ex) ifs dt) (he : ∀ cl C s₀ H₀ ex, DE (Cz X scope (x :: N) cl C s₀ H₀ ex) elt de)
    (hs : ∀ x, foldedSetIterable iter X.env x = pure x := by intro _; rfl) : DE X (.ListComp elt [⟨.Name x px, iter, ifs, 0⟩] scope pos) (Js sl ti dt de) := by
  have mt : ∀ {ρ Q Q'}, (∀ d, Q d → Q' d) → dt ρ Q → dt ρ Q' := (ht [] 0 X.s₀ X.H₀ []).mono
  have me : ∀ {ρ Q Q'}, (∀ d, Q d → Q' d) → de ρ Q → de ρ Q' := (he [] 0 X.s₀ X.H₀ []).mono
  refine ⟨fun hq h => hi.mono (fun items ⟨h1, h2, W, w0, st, fin⟩ => ⟨h1, h2, W, w0, st, fun acc l w => hq _ (fin acc l w)⟩) h, ?_⟩
  refine (AbM (tt := lT X.K dt) (te := lE X.K de) S hc hi.pi (fun cl C s₀ H₀ ex => (ht cl C s₀ H₀ ex).pts) (fun cl C s₀ H₀ ex => (he cl C s₀ H₀ ex).pe) hs).imp (YZ (ti := ti) (dt := dt) (de := de) hi.mono mt me)
theorem Vs {ti : DTI} {de : DTE} (S : Gv X scope x N sl) (hc : X.calm = true) (hi : DI X (.Name x px) iter ti) (he : ∀ cl C s₀ H₀ ex, DE (Cz X scope (x :: N) cl C s₀ H₀ ex) elt de)
    (hs : ∀ x, foldedSetIterable iter X.env x = pure x := by intro _; rfl) : DE X (.ListComp elt [⟨.Name x px, iter, [], 0⟩] scope pos) (Js sl ti K9 de) := Qq S hc hi (fun _ _ _ _ _ => AcN) he hs
theorem Yt {c : Expr} {ti : DTI} {dt : DTT} {de : DTE} (S : Gv X scope x N sl) (hc : X.calm = true) (hi : DI X (.Name x px) iter ti) (ht : ∀ cl C s₀ H₀ ex, DT (Cz X scope (x :: N) cl C s₀ H₀ ex) c dt) (he : ∀ cl C s₀ H₀ ex, DE (Cz X scope (x :: N) cl C s₀ H₀ ex) elt de)
    (hs : ∀ x, foldedSetIterable iter X.env x = pure x := by intro _; rfl) : DE X (.ListComp elt [⟨.Name x px, iter, [c], 0⟩] scope pos) (Js sl ti dt de) := Qq S hc hi (fun _ _ _ _ _ => Abx (ht _ _ _ _ _)) he hs
end
end L2
namespace L2
open PySem PySem.Spec PyProof.Rows PySem.SeqAt
noncomputable def Adw (sc scope : Scope) (NN : List Str) (x : Str) (N : List Str) (sl : List Nat) : Bool :=
  decide (scope.names.lookup x = some .local) && decide (scope.kind = .function) && scope.names.all (fun y => decide (y.2 ≠ .cell)) && scope.names.all (fun y => decide (y.2 = .local → scope.names.lookup y.1 = some .local)) &&
    scope.names.all (fun y => decide (y.2 = .free → sc.names.lookup y.1 = some .cell)) && decide (x :: N).Nodup && decide (N.map some = sl.map (fun j => NN[j]?)) && N.all (fun n => decide (scope.names.lookup n = some .free))
theorem JW {X : Cx} {sc scope : Scope} {NN : List Str} {x : Str} {N : List Str} {sl : List Nat} (h1 : X.env.scope = sc) (h2 : X.N = NN) (h : Adw sc scope NN x N sl = true) : Gv X scope x N sl := by
  subst h1 h2
  unfold Adw at h
  simp only [Bool.and_eq_true, decide_eq_true_eq, List.all_eq_true] at h
  obtain ⟨⟨⟨⟨⟨⟨⟨a, b⟩, c⟩, d⟩, e⟩, f⟩, g⟩, i⟩ := h
  exact ⟨a, b, c, d, e, f, g, i⟩
noncomputable def Bt (n : Nat) (x : Int) : Prop := x.natAbs < 2 ^ n
theorem Bt.le {n m : Nat} {x : Int} (h : Bt n x) (l : n ≤ m) : Bt m x := Nat.lt_of_lt_of_le h (Nat.pow_le_pow_right (by decide) l)
theorem Bt.mul {n m : Nat} {x y : Int} (a : Bt n x) (b : Bt m y) : Bt (n + m) (x * y) := by
  unfold Bt at *
  rw [Int.natAbs_mul, Nat.pow_add]
  exact Nat.mul_lt_mul'' a b
theorem Bt.add {n m : Nat} {x y : Int} (a : Bt n x) (b : Bt m y) : Bt (max n m + 1) (x + y) := by
  have a' := a.le (Nat.le_max_left n m)
  have b' := b.le (Nat.le_max_right n m)
  unfold Bt at *
  rw [Nat.pow_succ]
  have := Int.natAbs_add_le x y
  omega
theorem Bt.neg {n : Nat} {x : Int} (a : Bt n x) : Bt n (-x) := by unfold Bt at *; rw [Int.natAbs_neg]; exact a
theorem Bt.sub {n m : Nat} {x y : Int} (a : Bt n x) (b : Bt m y) : Bt (max n m + 1) (x - y) := by rw [Int.sub_eq_add_neg]; exact a.add b.neg
theorem Bt.of_abs {n : Nat} {x : Int} (h : x.natAbs < 2 ^ n) : Bt n x := h
theorem Bt.of {n : Nat} {x : Int} (h1 : -(2 ^ n) < x) (h2 : x < 2 ^ n) : Bt n x := by
  unfold Bt
  have : ((x.natAbs : Nat) : Int) < ((2 ^ n : Nat) : Int) := by push_cast; omega
  omega
theorem Bt.mulOk {n m : Nat} {x y : Int} (a : Bt n x) (b : Bt m y) (hn : n ≤ 1048576 := by decide) (hm : m ≤ 1048576 := by decide) : IntMulOk x y :=
  IntMulOk.of_bits (intBits_le_iff.mpr (a.le hn)) (intBits_le_iff.mpr (b.le hm))
theorem Bt.divOk {n : Nat} {x y : Int} (a : Bt n y) (h : y ≠ 0) (hn : n ≤ 9000 := by decide) : CDv x y := ⟨h, a.le hn⟩
theorem Bt.zero : Bt 0 0 := by unfold Bt; decide
theorem Bt.one : Bt 1 1 := by unfold Bt; decide
end L2
namespace L2
open PySem PySem.Spec PyProof.Rows PySem.SeqAt
section
variable {a b c d e f : Dt} {r s : List Dt} {i j : Int} {k l : Bool} {n : Nat} {x y : Str}
theorem Akt : ixD 0 (.tup (a :: r)) = some a := rfl
theorem AjL : ixD 1 (.tup (a :: b :: r)) = some b := rfl
theorem AjA : ixD 2 (.tup (a :: b :: c :: r)) = some c := rfl
theorem Akr : ixD 3 (.tup (a :: b :: c :: d :: r)) = some d := rfl
theorem AjW : ixD 0 (.lst (a :: r)) = some a := rfl
theorem Akx : ixD 1 (.lst (a :: b :: r)) = some b := rfl
theorem AjI : ixD 2 (.lst (a :: b :: c :: r)) = some c := rfl
theorem Akl : ixD 3 (.lst (a :: b :: c :: d :: r)) = some d := rfl
theorem Qm : Dt.eq (.int i) (.int j) = decide (i = j) := by rw [Dt.eq]
theorem Aiu : Dt.eq (.bl k) (.bl l) = (k == l) := by rw [Dt.eq]
theorem Kl : Dt.eq (.str x) (.str y) = (x == y) := by rw [Dt.eq]
theorem AhN : Dt.eq .non .non = true := by rw [Dt.eq]
theorem Ajh : Dt.eq .non (.int i) = false := by simp [Dt.eq]
theorem Agh : Dt.eq .non (.tup r) = false := by simp [Dt.eq]
theorem AiY : Dt.eq (.tup r) .non = false := by simp [Dt.eq]
theorem Um : Dt.eq (.tup r) (.tup s) = Dt.eqs r s := by rw [Dt.eq]
theorem Ajr : Dt.eq (.lst r) (.lst s) = Dt.eqs r s := by rw [Dt.eq]
theorem TV : Dt.eqs [] [] = true := by rw [Dt.eqs]
theorem Tv : Dt.eqs (a :: r) (b :: s) = (Dt.eq a b && Dt.eqs r s) := by rw [Dt.eqs]
theorem Afy : Dt.eqs [] (b :: s) = false := by simp [Dt.eqs]
theorem Afe : Dt.eqs (b :: s) [] = false := by simp [Dt.eqs]
theorem JR : Dt.flat n (.int i) = true := by cases n <;> rw [Dt.flat] <;> simp
theorem Ad1 : Dt.flat n (.bl k) = true := by cases n <;> rw [Dt.flat] <;> simp
theorem Ad0 : Dt.flat n .non = true := by cases n <;> rw [Dt.flat] <;> simp
theorem RG : Dt.flat (n + 1) (.tup r) = Dt.flats n r := by rw [Dt.flat]
theorem Zc : Dt.flat (n + 1) (.lst r) = Dt.flats n r := by rw [Dt.flat]
theorem K7 : Dt.flat 8 (.tup r) = Dt.flats 7 r := RG
theorem Ac2 : Dt.flat 8 (.lst r) = Dt.flats 7 r := Zc
theorem Aa7 : Dt.flat 7 (.tup r) = Dt.flats 6 r := RG
theorem Aa0 : Dt.flat 7 (.lst r) = Dt.flats 6 r := Zc
theorem AbI : Dt.flat 6 (.tup r) = Dt.flats 5 r := RG
theorem KN : Dt.flats n [] = true := by rw [Dt.flats]
theorem KY : Dt.flats n (a :: r) = (Dt.flat n a && Dt.flats n r) := by rw [Dt.flats]
theorem Ri {N : Str} {M : List Str} : Dr (N :: M) (a :: r) = some (.is a) :: Dr M r := by
  unfold Dr
  simp only [List.map_cons, List.length_cons, List.cons_append, Nat.add_sub_add_right]
theorem Rm {N : Str} {M : List Str} : Dr (N :: M) [] = none :: Dr M [] := by
  unfold Dr
  simp [List.replicate_succ]
theorem Qo : Dr [] [] = [] := rfl
theorem Bc (h : n ≤ 1000) : n ≤ sizeLine := Nat.le_of_lt (Ot h)
theorem AfT : isT "tuple" (.tup r) = true := rfl
theorem Age : isT "list" (.lst r) = true := rfl
theorem Af2 : isT "int" (.int i) = true := rfl
theorem Afx : isT "bool" (.int i) = false := rfl
theorem AeD : isT "int" (.bl k) = true := rfl
theorem Ae7 : isT "bool" (.bl k) = true := rfl
theorem Aex : isT "tuple" .non = false := rfl
theorem AeH : isT "int" .non = false := rfl
theorem Ad4 : isT "int" (.tup r) = false := rfl
theorem AeJ : isT "bool" (.tup r) = false := rfl
theorem Akj : noFn (.int i) = true := rfl
theorem AkB : noFn (.bl k) = true := rfl
theorem AjU : noFn .non = true := rfl
theorem Ajw : noFn (.tup r) = true := rfl
theorem Aj6 : noFn (.lst r) = true := rfl
theorem AjK : noFn (.str x) = true := rfl
theorem Ahh : isB true (.bl k) = k := by cases k <;> rfl
theorem Ah9 : isB false (.bl k) = !k := by cases k <;> rfl
theorem AhI : isB k (.int i) = false := rfl
theorem Aic : isB k .non = false := rfl
theorem AfV : isB k (.tup r) = false := rfl
theorem AhV : isB k (.lst r) = false := rfl
theorem Ajn : isN .non = true := rfl
theorem AiP : isN (.int i) = false := rfl
theorem AgT : isN (.bl k) = false := rfl
theorem Ai9 : isN (.tup r) = false := rfl
theorem AiU : isN (.lst r) = false := rfl
end
end L2
namespace L2
open PySem PySem.Spec PyProof.Rows PySem.SeqAt
theorem ifn {c : Bool} {A B : Prop} (h : c = true) (b : B) : if (!c) = true then A else B := by subst h; exact b
theorem ift {c : Bool} {A B : Prop} (h : c = true) (a : A) : if c = true then A else B := by subst h; exact a
theorem GQ {c : Bool} {A B : Prop} (h : c = false) (b : B) : if c = true then A else B := by subst h; exact b
theorem Aks {c : Bool} {A B : Prop} (h : c = false) (a : A) : if (!c) = true then A else B := by subst h; exact a
theorem Al {τ : Type} {args : τ → List Dt} {pre : τ → Prop} {val : τ → Dt} {Q : Dt → Prop} (p : τ) (h : pre p) (k : Q (val p)) : Cv args pre val (args p) Q := ⟨p, rfl, h, fun d e => by rw [e]; exact k⟩
theorem Bw {τ : Type} {args : τ → List Dt} {pre : τ → Prop} {post : τ → Dt → Prop} {Q : Dt → Prop} (p : τ) (h : pre p) (k : ∀ d, post p d → Q d) : spec args pre post (args p) Q := ⟨p, rfl, h, k⟩
theorem Kf {sl : List Nat} {tt : DTT} {te : DTE} {ρ : Bv} {Q : Dt → Prop} {items : List Dt} (p : Dt → Bool) (f : Dt → Dt) (ht : ∀ d ∈ items, ∀ R : Bool → Prop, R (p d) → tt (inner sl ρ d) R) (he : ∀ d ∈ items, p d = true → ∀ R : Dt → Prop, R (f d) → te (inner sl ρ d) R)
    (hq : Q (.lst ((items.filter p).map f))) : ∃ W : Nat → List Dt → Prop, W 0 [] ∧ (∀ (k : Nat) d acc, items[k]? = some d → W k acc → tt (inner sl ρ d) fun b => if b = true then te (inner sl ρ d) fun e => W (k + 1) (acc ++ [e]) else W (k + 1) acc) ∧
      ∀ acc, acc.length ≤ items.length → W items.length acc → Q (.lst acc) := by
  refine ⟨fun k acc => acc = ((items.take k).filter p).map f, by simp, fun k d acc e w => ?_, fun acc _ w => by rw [w, List.take_length]; exact hq⟩
  have hm := List.mem_of_getElem? e
  refine ht d hm _ ?_
  have ht := take_succ_filter p items k d e
  by_cases hp : p d = true
  · rw [if_pos hp]
    refine he d hm hp _ ?_
    show acc ++ [f d] = _
    rw [w, ht, if_pos hp]; simp
  · rw [if_neg hp]
    show acc = _
    rw [w, ht, if_neg hp]; simp
theorem comp_map {sl : List Nat} {te : DTE} {ρ : Bv} {Q : Dt → Prop} {items : List Dt} (f : Dt → Dt) (he : ∀ d ∈ items, ∀ R : Dt → Prop, R (f d) → te (inner sl ρ d) R)
    (hq : Q (.lst (items.map f))) : ∃ W : Nat → List Dt → Prop, W 0 [] ∧ (∀ (k : Nat) d acc, items[k]? = some d → W k acc → K9 (inner sl ρ d) fun b => if b = true then te (inner sl ρ d) fun e => W (k + 1) (acc ++ [e]) else W (k + 1) acc) ∧
      ∀ acc, acc.length ≤ items.length → W items.length acc → Q (.lst acc) :=
  Kf (fun _ => true) f (fun _ _ _ h => h) (fun d hm _ R h => he d hm R h) (by rw [List.filter_eq_self.mpr (fun _ _ => rfl)]; exact hq)
theorem Pa {sl : List Nat} {ti : DTI} {tt : DTT} {te : DTE} {ρ : Bv} {Q : Dt → Prop} (items : List Dt) (p : Dt → Bool) (f : Dt → Dt) (hi : ∀ R : List Dt → Prop, R items → ti ρ R) (hl : items.length ≤ sizeLine) (hc : caught sl ρ)
    (ht : ∀ d ∈ items, ∀ R : Bool → Prop, R (p d) → tt (inner sl ρ d) R) (he : ∀ d ∈ items, p d = true → ∀ R : Dt → Prop, R (f d) → te (inner sl ρ d) R) (hq : Q (.lst ((items.filter p).map f))) : Js sl ti tt te ρ Q :=
  hi _ ⟨hl, hc, Kf p f ht he hq⟩
theorem WD {sl : List Nat} {ti : DTI} {te : DTE} {ρ : Bv} {Q : Dt → Prop} (items : List Dt) (f : Dt → Dt) (hi : ∀ R : List Dt → Prop, R items → ti ρ R) (hl : items.length ≤ sizeLine) (hc : caught sl ρ)
    (he : ∀ d ∈ items, ∀ R : Dt → Prop, R (f d) → te (inner sl ρ d) R) (hq : Q (.lst (items.map f))) : Js sl ti K9 te ρ Q :=
  hi _ ⟨hl, hc, comp_map f he hq⟩
theorem Abi {ti : DTI} {g : DTG} {tb : DTS} {D : Es} {ρ : Bv} (items : List Dt) (hi : ∀ R : List Dt → Prop, R items → ti ρ R) (W : Nat → Bv → Prop) (h0 : W 0 ρ)
    (hs : ∀ (k : Nat) d ρ', items[k]? = some d → W k ρ' → g d ρ' fun ρ2 => tb { D with nx := W (k + 1), ct := W (k + 1), bk := D.nx } ρ2) (he : ∀ ρ', W items.length ρ' → D.nx ρ') : AhL ti g tb D ρ := hi _ ⟨W, h0, hs, he⟩
theorem Iu {ρ : Bv} : caught [] ρ := fun _ h => (nomatch h)
theorem Ow {ns : List Int} {k : Int} (h0 : 0 ≤ k) (h1 : k < ns.length) : ixD k (.lst (ns.map Dt.int)) = some (.int (ns.getD k.toNat 0)) := by
  obtain ⟨j, rfl⟩ := Int.eq_ofNat_of_zero_le h0
  have hj : j < ns.length := by omega
  show (ns.map Dt.int)[j]? = _
  rw [List.getElem?_map]
  simp [hj]
end L2
namespace L2
theorem Ac4 {te : DTE} {i : Nat} {u : DTS} {D : Es} {ρ : Bv} (h : te ρ fun d => u D (ρ.set i (some (.is d)))) : Aet (AaW te (MK i)) u D ρ := h
theorem Hw {c : DTT} {tb : DTS} {D : Es} {ρ : Bv} (W : Nat → Bv → Prop) (m : Nat) (h0 : W m ρ) (h : ∀ m ρ, W m ρ → c ρ fun k => if k = true then tb { D with nx := fun ρ' => ∃ m', m' < m ∧ W m' ρ', ct := fun ρ' => ∃ m', m' < m ∧ W m' ρ', bk := D.nx } ρ else D.nx ρ) : Aat c tb D ρ := ⟨W, ⟨m, h0⟩, h⟩
end L2
namespace L2
open PySem PySem.Spec PyProof.Rows PySem.SeqAt
section
variable {X : Cx} {a b c e : Expr} {es : List Expr} {ta tb te : DTE} {tl : DTA} {pos : Pos}
noncomputable def downs (hi : Int) (n : Nat) : List Dt := (List.range n).map fun i => .int (hi - (i : Nat))
noncomputable def Aen (tl : DTA) : DTI := fun ρ Q => tl ρ fun ds => match ds with
  | [.int i, .int j, .int k] => k = -1 ∧ (-(2 ^ 62) ≤ i ∧ i < 2 ^ 62 ∧ -(2 ^ 62) ≤ j ∧ j < 2 ^ 62) ∧ Q (downs i (i - j).toNat)
  | _ => False
theorem AaU : MtR X "int.bit_length" (fun x xs H Q => ∃ i, x = .int i ∧ xs = [] ∧ Q (.int (Builtin.Int.intBits i)) H) := by
  intro pins s σ H x xs v us Q I rx rs ⟨i, e, e2, q⟩
  subst e e2
  cases rs
  obtain ⟨t, rfl⟩ := rx
  exact call_int_bit_length ⟨.int _, H, I.tok _, ⟨_, rfl⟩, q⟩
noncomputable def Adn (ta : DTE) : DTE := fun ρ Q => ta ρ fun d => match d with
  | .int i => Q (.int (Builtin.Int.intBits i))
  | _ => False
theorem Aa8 {apos : Pos} (ha : DE X a ta) (hbase : attributeBase a "bit_length" X.env (eval a X.env) = eval a X.env := by rfl) (hline : (apos.endLine == pos.line) = true := by rfl) : DE X (.Call (.Attribute a "bit_length" apos) [] [] pos) (Adn ta) where
  mono := fun hq h => ha.mono (fun d h => by
    split at h
    · exact hq _ h
    · exact h.elim) h
  pe := (Afn PySem.F.plainAttrs_int PySem.F.slot_int_bit_length PySem.F.type_int_bit_length AaU ha.pe hbase hline).imp fun σ H Q ⟨B, F, O, ρ, R, h⟩ => ⟨B, F, O, ρ, R, ha.mono (fun d h v H1 s1 r1 => by
    split at h
    · rw [Bd.mp r1]
      exact ⟨rfl, _, rfl, rfl, h _ H1 s1 (Bd.mpr rfl)⟩
    · exact h.elim) h⟩
noncomputable def Ah5 (P : Program) (w : World) (K : PySem.W.Frag) (mg : Str → Option Value) (base : Heap) (k : Nat) (a : Addr) (sp : DSp) : Prop :=
  ∃ fd ps, Dl P w K mg base CX0 k a fd ps (lSp K sp) ∧ Binds K fd ps [] ∧ PySem.W.keepIn K (.ref a) = true
noncomputable def Afk (P : Program) (w : World) (K : PySem.W.Frag) (mg : Str → Option Value) (base : Heap) (k : Nat) (tf : DTE) (tl : DTA) : DTE := fun ρ Q => tf ρ fun d => match d with
  | .fn a => PySem.W.keepIn K (.ref a) = true ∧ tl ρ fun ds => ∃ sp, Gh sp ∧ Ah5 P w K mg base k a sp ∧ sp ds Q
  | _ => False
noncomputable def dOf (t : DTA) : DTE := fun ρ Q => t ρ fun ds => Q (.lst ds)
noncomputable def Ajd (tl : DTA) : DTA := fun ρ Q => tl ρ fun ds => ds.length ≤ sizeLine ∧ Q ds
noncomputable def Acs (te : DTE) (tl th : DTO) : DTA := fun ρ Q => te ρ fun d => tl ρ fun lo => th ρ fun hi => match d with
  | .lst ds => Q (cutD ds lo hi)
  | _ => False
noncomputable def Air (t u : DTA) : DTA := fun ρ Q => t ρ fun xs => u ρ fun ys => xs.length + ys.length ≤ sizeLine ∧ Q (xs ++ ys)
end
end L2
namespace L2
open PySem PySem.Spec PyProof.Rows PySem.SeqAt
section
variable {X : Cx} {elt iter : Expr} {x : Str} {px : Pos} {ifs : List Expr} {scope : Scope} {pos : Pos} {N : List Str} {sl : List Nat} {wi : TI} {tt : TT} {te : TE}
noncomputable def Ahd (i : Nat) (sl : List Nat) (ti : DTI) (tt : DTT) (te : DTE) : DTS := fun D ρ => Js sl ti tt te ρ fun d => D.nx (ρ.set i (some (.is d)))
end
section
variable {prog : Program} {w : World} {A : Around} {E : Value → Shared → Prop} {s : Shared}
theorem Oi {it t : Addr} {items : Array Value} (hne : t ≠ it) : ∀ (n i : Nat) (s : Shared) (Q : List Value → Shared → Prop), s.heap.IsListIter it t i → s.heap.IsList t items → i + n ≤ items.size →
    (∀ h', h'.IsListIter it t (i + n) → Heap.SameBut it s.heap h' → Q ((items.toList.drop i).take n) { s with heap := h' }) → wpAny (model prog w) A (draw (.ref it) n) Q E s
  | 0, i, s, Q, hit, _, _, hQ => by
    show wpAny _ _ (pure []) Q E s
    exact wpAny_pure (by simpa using hQ s.heap hit (Heap.SameBut.refl ..))
  | n + 1, i, s, Q, hit, ht, hle, hQ => by
    have hlt : i < items.size := by omega
    show wpAny _ _ (pyNext (.ref it) >>= _) Q E s
    refine wpAny_bind (wpAny_pyNext_list_item hit ht (x := items[i]) (by simp [hlt]) fun h₁ hit₁ hs₁ => ?_)
    refine wpAny_bind (wpAny_holding (Oi hne n (i + 1) _ _ hit₁ (ht.extBut hs₁.extBut hne) (by omega) fun h₂ hit₂ hs₂ => wpAny_pure ?_))
    have hd : items.toList.drop i = items[i] :: items.toList.drop (i + 1) := by simp [List.drop_eq_getElem_cons, hlt]
    have := hQ h₂ (by rw [show i + (n + 1) = i + 1 + n by omega]; exact hit₂) (hs₁.trans hs₂)
    rw [hd, List.take_succ_cons] at this
    exact this
theorem Ka {t : Addr} {items : Array Value} {Q : List Value → Shared → Prop} (hh : A.handled = none) (ht : s.heap.IsList t items)
    (hQ : ∀ h', Heap.ExtBut s.heap.objs.size s.heap h' → Q items.toList { s with heap := h' }) : wpAny (model prog w) A (unpackItems (.ref t) items.size none) Q E s := by
  have hlt : t ≠ s.heap.objs.size := by obtain ⟨o, ho, _⟩ := ht; exact Nat.ne_of_lt (Heap.lt_size ho)
  unfold unpackItems
  refine wpAny_bind ?_
  · unfold notIterableAtAll
    refine wpAny_bind (wpAny_specialOf ht.typeIs slot_list_iter.lookup ?_)
    refine wpAny_pure ?_
    simp only [Bool.false_eq_true, if_false]
    refine wpAny_bind (wpAny_holding (wpAny_pyIter_list ht ?_))
    have ht' : (s.heap.push { cls := .type "list_iterator", data := .fields #[.ref t, .int 0 0] }).IsList t items := by
      obtain ⟨o, ho, r⟩ := ht
      exact ⟨o, Heap.get?_push_of_some _ ho, r⟩
    refine wpAny_bind (wpAny_holding (Oi hlt items.size 0 _ _ ⟨_, Heap.get?_push_size _ rfl, rfl, rfl⟩ ht' (by omega) fun h₁ hit₁ hs₁ => ?_))
    have hall : List.take items.size (List.drop 0 items.toList) = items.toList := by
      rw [List.drop_zero]; exact List.take_of_length_le (by simp)
    rw [hall]
    rw [if_neg (by simp)]
    have ht₁ : h₁.IsList t items := ht'.extBut hs₁.extBut hlt
    refine wpAny_bind (wpAny_holding (wpAny_pyNext_list_end hh hit₁ ht₁ (by simp) fun h₂ he₂ => ?_))
    simp only [Option.isSome_none, Bool.false_eq_true, if_false]
    refine wpAny_pure (hQ h₂ fun b o hb e => he₂ b o hb (hs₁.extBut b o hb (Heap.get?_push_of_some _ e)))
end
section
variable {X : Cx} {es : List Expr} {pos : Pos}
noncomputable def Akk (K : PySem.W.Frag) (n : Nat) (t : TGs) : TG := fun v σ H Q => ∃ a xs, v = .ref a ∧ SqL K H a xs ∧ xs.length = n ∧ t xs σ H Q
theorem AdK {k : Nat} {t : TGs} {n : Nat} (hc : X.calm = true) (h : PGs X es t) (hn : (assignEach es X.env).length = n := by rfl) (hst : (assignEach es X.env).findIdx? (·.1) = none := by rfl) : PG X (.Tuple es k pos) (Akk X.K n t) := by
  intro pins s σ H v u Q I r hw
  obtain ⟨a, xs, e1, hq, hl, hw⟩ := hw
  subst e1
  cases r
  obtain ⟨its, rv, ht, hz⟩ := I.list hq
  rw [assign_Tuple]
  refine wpAny_bind (wpAny_standAt ?_)
  unfold unpack
  have e2 : (assignEach es X.env).length = its.toArray.size := by simp [hn, ← hl, rv.length]
  rw [e2, hst]
  refine wpAny_bind (wpAny_holding (Ka (I.ok.hd hc) ht.isList fun h' hx => ?_))
  have I1 : Inv X pins σ H { s with heap := h' } := I.kept (t' := s.toks) fun b o e => hx b o (Nat.ne_of_lt (Heap.lt_size e)) e
  exact h pins _ σ H xs _ Q I1 (by simpa using rv) hw
noncomputable def V7 (n : Nat) (gs : Nf) : DTG := fun d ρ Q => match d with
  | .lst ds => ds.length = n ∧ gs ds ρ Q
  | _ => False
theorem AfL {k : Nat} {gs : Nf} {n : Nat} (hc : X.calm = true) (h : DGs X es gs) (hn : (assignEach es X.env).length = n := by rfl) (hst : (assignEach es X.env).findIdx? (·.1) = none := by rfl) : DG X (.Tuple es k pos) (V7 n gs) where
  mono := fun hq z => by
    unfold V7 at z ⊢
    split at z
    · exact ⟨z.1, h.mono hq z.2⟩
    · exact z.elim
  pg := (AdK hc h.pg hn hst).imp fun v σ H Q ⟨B, F, O, ρ, d, R, r, z⟩ => by
    unfold V7 at z
    split at z
    · obtain ⟨a, xs, rfl, hs, hl⟩ := Ec r
      exact ⟨a, xs, rfl, Bh.seq hs, by rw [hl.len]; exact z.1, B, F, O, ρ, _, R, hl, z.2⟩
    · exact z.elim
end
end L2
namespace L2
theorem WL {sl : List Nat} {ti : DTI} {te : DTE} {ρ : Bv} {Q : Dt → Prop} (items : List Dt) (P : Dt → Prop) (hi : ∀ R : List Dt → Prop, R items → ti ρ R) (hl : items.length ≤ PySem.sizeLine) (hc : caught sl ρ)
    (he : ∀ d ∈ items, ∀ R : Dt → Prop, (∀ e, P e → R e) → te (inner sl ρ d) R) (hq : ∀ acc : List Dt, acc.length = items.length → (∀ e ∈ acc, P e) → Q (.lst acc)) : Js sl ti K9 te ρ Q := by
  refine hi _ ⟨hl, hc, fun k acc => acc.length = k ∧ ∀ e ∈ acc, P e, ⟨rfl, fun _ h => (nomatch h)⟩, fun k d acc e w => ?_, fun acc _ w => hq acc w.1 w.2⟩
  refine he d (List.mem_of_getElem? e) _ fun x hx => ⟨?_, fun y hy => ?_⟩
  · rw [List.length_append, w.1]; rfl
  · rcases List.mem_append.mp hy with z | z
    · exact w.2 y z
    · rw [List.mem_singleton.mp z]; exact hx
end L2
namespace L2
theorem Je {n : Nat} {x : PySem.Str} : Dt.flat n (.str x) = (PySem.PyData.str x).canLay0 := by cases n <;> rw [Dt.flat]
end L2
namespace L2
open PySem PySem.Spec PyProof.Rows PySem.SeqAt
noncomputable def exN (a C : Addr) (h : Heap) : Prop := ∃ vs sl, h.get? a = some ⟨.ref C, none, .fields vs, sl⟩ ∧ vs[1]? = some .none
noncomputable def exF (a C dx : Addr) (h : Heap) : Prop := ∃ vs sl, h.get? a = some ⟨.ref C, some dx, .fields vs, sl⟩ ∧ vs[1]? = some .none ∧ dx ≠ a
theorem Aae {a C : Addr} (h1 h2 : Heap) (x : exN a C h1) (k : ∀ o, h1.get? a = some o → h2.get? a = some o) : exN a C h2 := let ⟨vs, sl, e, r⟩ := x; ⟨vs, sl, k _ e, r⟩
theorem Yd {a C dx : Addr} (h1 h2 : Heap) (x : exF a C dx h1) (k : ∀ o, h1.get? a = some o → h2.get? a = some o) : exF a C dx h2 := let ⟨vs, sl, e, r⟩ := x; ⟨vs, sl, k _ e, r⟩
theorem exF.ex {a C dx : Addr} {h : Heap} (x : exF a C dx h) : exO a C dx h := let ⟨vs, sl, e, _, r⟩ := x; ⟨_, vs, e, rfl, rfl, rfl, r⟩
section
variable {X : Cx} {pins : List (Addr × Obj)} {σ : St} {H : Hp} {s : Shared} {h' : Heap} {a dx C U f fI : Addr} {φ ψ : Heap → Prop}
theorem Inv.put2 {od : HO} {t' : Nat} (I : Inv X pins σ H s) (Ha : H a = some (.ext φ)) (hd : s.heap.objs.size ≤ dx) (k : ∀ b u, b ≠ a → s.heap.get? b = some u → h'.get? b = some u) (ha : ∃ u, h'.get? a = some u)
    (n1 : Ey X.prog X.w (upd (upd H dx od) a (.ext ψ)) h' a (.ext ψ)) (n2 : Ey X.prog X.w (upd (upd H dx od) a (.ext ψ)) h' dx od) : Inv X pins σ (upd (upd H dx od) a (.ext ψ)) { s with heap := h', toks := t' } := by
  have nd : H dx = none := I.hok.fresh hd
  have na : a ≠ dx := Bk Ha nd
  have keepH : ∀ b u, H b = some u → b ≠ a → upd (upd H dx od) a (.ext ψ) b = some u := fun b u e n => by rw [Av n, Av (Bk e nd)]; exact e
  have nt : ∀ b u, H b = none → s.heap.get? b = some u → b ≠ a := fun b u n _ z => by rw [z, Ha] at n; cases n
  refine I.un ⟨fun b u e n _ _ => k b u (nt b u n e) e, fun b u e n _ _ => ⟨u.slots, k b u (nt b u n e) e⟩, fun b u e n _ => ?_, fun b u e _ => ?_, fun b xs e => keepH b _ e fun z => (by rw [z, Ha] at e; cases e), fun b o u e => keepH b _ e fun z => (by rw [z, Ha] at e; cases e), fun b ps e => ⟨#[], by rw [keepH b _ e fun z => by rw [z, Ha] at e; cases e]; simp⟩⟩ ?_
  · rw [Av (nt b u n e), Av (Nat.ne_of_lt (Nat.lt_of_lt_of_le (Heap.lt_size e) hd))]; exact n
  · by_cases z : b = a
    · rw [z]; exact ha
    · exact ⟨u, k b u z e⟩
  · intro b u e
    by_cases z : b = a
    · subst z; rw [Bb] at e; cases e; exact n1
    · rw [Av z] at e
      by_cases z' : b = dx
      · subst z'; rw [Bb] at e; cases e; exact n2
      · rw [Av z'] at e
        refine (I.hok b u e).stay (fun c v hc q => k c v ?_ q) (fun c q => keepH c _ q fun w => by rw [w, Ha] at q; cases q) fun c xs q => keepH c _ q fun w => by rw [w, Ha] at q; cases q
        rcases hc with rfl | hc
        · exact z
        · rintro rfl; rw [Ha] at hc; cases hc
theorem Inv.again (I : Inv X pins σ H s) (Ha : H a = some (.ext φ)) (n : ψ s.heap) (st : ∀ h1 h2 : Heap, ψ h1 → (∀ o, h1.get? a = some o → h2.get? a = some o) → ψ h2) : Inv X pins σ (upd H a (.ext ψ)) s := by
  obtain ⟨_, th, _⟩ := I.hok a _ Ha
  exact I.write (t' := s.toks) (h' := s.heap) (by rw [Ha]; exact True.intro) (.inl rfl) (fun _ _ _ e => e) th ⟨n, th, st⟩
noncomputable def sX1 (C : Addr) (ta tv : TE) (f : Str) : TS := fun D σ H => tv σ H fun y H1 => ta σ H1 fun x H2 => ∃ a, x = .ref a ∧ H2 a = some (.ext (exN a C)) ∧ ∀ dx, H2 dx = none → dx ≠ a → D.nx σ (upd (upd H2 dx (.xd [(f, y)])) a (.ext (exF a C dx)))
theorem AiD {o value : Expr} {f : Str} {pos pos' : Pos} {ta tv : TE} (c : XC X.K C U) (ht : PySem.W.takerIn X.K C f = some none) (ha : PE X o ta) (hv : PE X value tv) (hs : swapsWith value (some (.Attribute o f pos')) pos.line X.env = pure false := by rfl) :
    PS X (.Assign [.Attribute o f pos'] value pos) (sX1 C ta tv f) := by
  intro pins s σ H D I h
  refine plainObj_wpAny_Assign_Attribute (thn (hv pins s σ H _ I h) fun u s1 ⟨y, H1, I1, ry, q⟩ => thn (ha pins s1 σ H1 _ I1 q) fun ov s2 ⟨x, H2, I2, rx, a, ex, ea, q2⟩ => ?_) hs
  subst ex
  obtain rfl : ov = Value.ref a := rx
  obtain ⟨⟨vs, sl, hx, h1⟩, _, _⟩ := I2.hok a _ ea
  have nx : s2.heap.objs.size ≠ a := Nat.ne_of_gt (Heap.lt_size hx)
  refine Ai0 I2.kIn c ht hx fun h' tk' x1 x2 x3 => ⟨σ, _, I2.put2 (dx := s2.heap.objs.size) (od := .xd [(f, y)]) (ψ := exF a C s2.heap.objs.size) (t' := tk') ea (Nat.le_refl _) x3 ⟨_, x1⟩ ⟨⟨vs, sl, x1, h1, nx⟩, ⟨_, x1⟩, Yd⟩ ⟨_, x2, fun g => ?_⟩, q2 _ (I2.hok.fresh (Nat.le_refl _)) nx⟩
  show J5 (List.lookup g [(f, y)]) (if g = f then some u else none)
  by_cases q : g = f
  · rw [if_pos q, show List.lookup g [(f, y)] = some y by simp [List.lookup, beq_iff_eq.mpr q]]; exact ry
  · rw [if_neg q, show List.lookup g [(f, y)] = none by simp [List.lookup, beq_eq_false_iff_ne.mpr q]]; trivial
noncomputable def Adu (C : Addr) (ns : List Str) : Sp := fun vs H Q _ => ∃ a ys, vs = .ref a :: ys ∧ ys.length = ns.length ∧ H a = some (.ext (exN a C)) ∧ ∀ dx, H dx = none → dx ≠ a → Q .non (upd (upd H dx (.xd (ns.zip ys))) a (.ext (exF a C dx)))
structure XR (P : Program) (w : World) (K : PySem.W.Frag) (mg : Str → Option Value) (base : Heap) (k : Nat) (c : Str) (ns : List Str) (C U fI : Addr) (fd : FuncData) (ps : List Str) : Prop where
  at_ : PySem.W.nsIn K mainGlobals c = some (some (.ref C))
  gl : mg c = some (.ref C)
  kp : PySem.W.keepIn K (.ref C) = true
  xc : XC K C U
  hi : PySem.W.findIn K (.ref C) "__init__" = some (some (.ref fI))
  hf : PySem.W.typeIn K (.ref fI) = some (.type "function")
  bd : Binds K fd ps []
  ln : ps.length = ns.length + 1
  ok : Dl P w K mg base CX0 k fI fd ps (Adu C ns)
noncomputable def AeB (C : Addr) (ns : List Str) (t : TA) : TE := fun σ H Q => t σ H fun vs H1 => vs.length = ns.length ∧ vs.length ≤ 1000 ∧ ∀ a dx, H1 a = none → H1 dx = none → dx ≠ a → Q (.ref a) (upd (upd (upd H1 a (.ext (exN a C))) dx (.xd (ns.zip vs))) a (.ext (exF a C dx)))
theorem XD {k : Nat} {c : Str} {ns ps : List Str} {fd : FuncData} {e : Expr} {es : List Expr} {p pos : Pos} {t : TA} (G : XR X.prog X.w X.K X.mg X.base k c ns C U fI fd ps) (hr : CN (k + 1) X.A) (hg : Gl X c) (ha : PA X (e :: es) t)
    (hdb : (c == ("__debug__" : Str)) = false := by decide) (he : starEach (e :: es) X.env = (false, eval e X.env) :: starEach es X.env := by rfl) (hpl : (backTo pos (starEach es X.env)).any (·.1) = false := by rfl) :
    PE X (.Call (.Name c p) (e :: es) [] pos) (AeB C ns t) := by
  intro pins s σ H Q I h
  refine wpAny_Call_Name_kw (HX I hg G.gl ?_ hdb)
  refine PySem.W.callWith_K (h₀ := X.base) I.ok.mod.kin G.kp (thn (ha pos pins s σ H _ I h) fun us s1 ⟨vs, H1, I1, r, l1, l2, q⟩ => ⟨I1.kIn, ?_⟩) he hpl
  have nz : H1 (s1.heap.objs.size + 1) = none := I1.hok.fresh (Nat.le_succ _)
  have lu : us.length = vs.length := r.length.symm
  have I2 : Inv X pins σ (upd H1 (s1.heap.objs.size + 1) (.ext (exN (s1.heap.objs.size + 1) C))) { s1 with heap := withExc s1.heap C us } :=
    I1.laid (t' := s1.toks) (fun _ _ => JG) (Nat.le_succ _) ⟨⟨_, _, Ir, rfl⟩, ⟨_, Ir⟩, Aae⟩
  refine ZC I1.kIn G.xc G.hi G.hf (by rw [List.nil_append, lu]; exact Nat.le_of_lt (Ot l2)) ?_
  have hb := G.bd { s1 with heap := withExc s1.heap C us } (.ref (s1.heap.objs.size + 1) :: us) I2.kIn (by rw [List.append_nil, List.length_cons, lu, l1, G.ln])
  rw [List.append_nil] at hb
  refine wpAny_call (codeAny_mono (G.ok.run _ X.stack { s1 with heap := withExc s1.heap C us } _ ⟨.ref (s1.heap.objs.size + 1) :: us, []⟩ _ (.ref (s1.heap.objs.size + 1) :: vs) (fun v H2 => v = .non ∧ Q (.ref (s1.heap.objs.size + 1)) H2) E0 (hr.make C us []) (I2.env0.make C us []) hb (.cons rfl r)
    ⟨_, vs, rfl, l1, Bb, fun dx h1 h2 => ⟨rfl, ?_⟩⟩) fun r' s' hq => ?_)
  · rw [Av h2] at h1
    exact q _ dx nz h1 h2
  · cases r' with
    | error e => exact False.elim hq
    | ok fl =>
      cases fl with
      | ret u =>
        obtain ⟨v, H', I3, ru, e1, q3⟩ := I2.after hq
        rw [e1] at ru
        exact ⟨ru, .ref _, H', I3, rfl, q3⟩
      | next => exact False.elim hq
      | brk => exact False.elim hq
      | cont => exact False.elim hq
noncomputable def Afv (X : Cx) (C : Addr) (te : TE) : TS := fun _ σ H => te σ H fun v H2 => ∃ a dx, v = .ref a ∧ H2 a = some (.ext (exF a C dx)) ∧ S8 X σ a (upd H2 a (.ext (exO a C dx)))
theorem YM {e : Expr} {pos : Pos} {te : TE} (c : XC X.K C U) (hc : X.calm = true) (he : PE X e te) : PS X (.Raise (some e) none pos) (Afv X C te) := by
  intro pins s σ H D I h
  rw [arm_exec_Raise]
  have key : wpAny (model X.prog X.w) X.A (eval e X.env) (fun v s₁ => X.K.In s₁.heap ∧ ∃ b od vs sl, v = .ref b ∧ s₁.heap.get? b = some ⟨.ref C, od, .fields vs, sl⟩ ∧ vs[1]? = some .none ∧ X.xe (.ref b) s₁) X.xe s := by
    refine thn (he pins s σ H _ I h) fun u s1 ⟨v, H2, I2, rv, a, dx, e1, e2, wi⟩ => ⟨I2.kIn, ?_⟩
    subst e1
    obtain rfl : u = Value.ref a := rv
    obtain ⟨⟨vs, sl, hx, h1, nd⟩, _, _⟩ := I2.hok a _ e2
    refine ⟨a, _, vs, sl, rfl, hx, h1, wi pins s1 (I2.again e2 (exF.ex ⟨vs, sl, hx, h1, nd⟩) Yw) ⟨_, vs, hx, rfl, .inl h1⟩ ⟨C, dx, Bb⟩⟩
  refine wpAny_bind (wpAny_standAt (Xq c (I.ok.hd hc) ?_))
  first
    | exact wpAny_bind (thn key fun v s₃ h₃ => wpAny_bind (wpAny_standAt (wpAny_pure h₃)))
    | exact key
end
end L2
namespace L2
open PySem PySem.Spec PyProof.Rows PySem.SeqAt
structure JX where
  d : Es
  ex : Bv → Dt → Prop
noncomputable abbrev Gz := JX → Bv → Prop
noncomputable abbrev Iz := Bv → (Dt → Prop) → (Dt → Prop) → Prop
structure JX.le (D D' : JX) : Prop where
  d : Es.le D.d D'.d
  ex : ∀ ρ x, D.ex ρ x → D'.ex ρ x
noncomputable def lDX (X : Cx) (B : Hp) (F : List Addr) (D : Ends) : JX := ⟨lD X.K B F D, fun ρ' x => ∀ O' σ' a H', Rep X.K B F O' H' σ' ρ' → Rp X.K (mask (F ++ O') H') x (.ref a) → S8 X σ' a H'⟩
noncomputable def lSX (X : Cx) (t : Gz) : TS := fun D σ H => ∃ B F O ρ, Rep X.K B F O H σ ρ ∧ t (lDX X B F D) ρ
noncomputable def lEX (X : Cx) (t : Iz) : TE := fun σ H Q => ∃ B F O ρ, Rep X.K B F O H σ ρ ∧ t ρ (fun d => ∀ v H', Same H H' → Rp X.K (mask (F ++ O) H') d v → Q v H') (fun x => ∀ a H', Same H H' → Rp X.K (mask (F ++ O) H') x (.ref a) → S8 X σ a H')
structure DSX (X : Cx) (st : Stmt) (t : Gz) : Prop where
  mono : ∀ {ρ D D'}, JX.le D D' → t D ρ → t D' ρ
  ps : PS X st (lSX X t)
structure QK (X : Cx) (st : List Stmt) (t : Gz) : Prop where
  mono : ∀ {ρ D D'}, JX.le D D' → t D ρ → t D' ρ
  ps : PSs X st (lSX X t)
structure DEX (X : Cx) (e : Expr) (t : Iz) : Prop where
  mono : ∀ {ρ Q Q' E E'}, (∀ d, Q d → Q' d) → (∀ d, E d → E' d) → t ρ Q E → t ρ Q' E'
  pe : PE X e (lEX X t)
section
variable {X : Cx} {a b c e : Expr} {es : List Expr} {st : Stmt} {sts sa sb : List Stmt} {t u : Gz} {ts us : DTS} {te : Iz} {tA : DTT} {tl : DTA} {pos : Pos}
theorem PS.nox {st : Stmt} {t : TS} (h : PS X.nox st t) : PS X st t := fun pins s σ H D I hw =>
  wpAny_mono (h pins s σ H D (I.wish _) hw) (fun _ _ q => q.unwish) fun _ _ z => False.elim z
noncomputable def Zr (t : DTS) : Gz := fun D ρ => t D.d ρ
theorem RX (h : DS X.nox st ts) : DSX X st (Zr ts) where
  mono := fun hd z => h.mono hd.d z
  ps := (PS.nox h.ps).imp fun D σ H ⟨B, F, O, ρ, R, z⟩ => ⟨B, F, O, ρ, R, z⟩
noncomputable def Yn : Gz := fun D ρ => D.d.nx ρ
noncomputable def Adr (t u : Gz) : Gz := fun D ρ => t ⟨{ D.d with nx := u D }, D.ex⟩ ρ
theorem Y8 : QK X [] Yn := ⟨fun hd h => hd.d.nx _ h, U7.imp fun D σ H ⟨B, F, O, ρ, R, h⟩ => h O σ H R⟩
theorem J4 (h1 : DSX X st t) (h2 : QK X sts u) : QK X (st :: sts) (Adr t u) where
  mono := fun {ρ D D'} hd h => h1.mono (D := ⟨{ D.d with nx := u D }, D.ex⟩) ⟨⟨fun ρ q => h2.mono hd q, hd.d.rt, hd.d.bk, hd.d.ct⟩, hd.ex⟩ h
  ps := (Jx h1.ps h2.ps).imp fun D σ H ⟨B, F, O, ρ, R, h⟩ => ⟨B, F, O, ρ, R, h1.mono (D := ⟨{ (lDX X B F D).d with nx := u (lDX X B F D) }, (lDX X B F D).ex⟩) ⟨⟨fun ρ' q O' σ' H' R' => ⟨B, F, O', ρ', R', q⟩, fun _ q => q, fun _ q => q, fun _ q => q⟩, fun _ _ q => q⟩ h⟩
theorem Hl (h1 : DSX X st t) : QK X [st] t := ⟨h1.mono, Jv h1.ps⟩
noncomputable def Aji (c : DTT) (t u : Gz) : Gz := fun D ρ => c ρ fun k => if k = true then t D ρ else u D ρ
theorem Afz (hc : DT X c tA) (ha : QK X sa t) (hb : QK X sb u) : DSX X (.If c sa sb pos) (Aji tA t u) where
  mono := fun hd h => hc.mono (fun k h => by
    cases k with
    | true => exact ha.mono hd h
    | false => exact hb.mono hd h) h
  ps := (AdC hc.pt ha.ps hb.ps).imp fun D σ H ⟨B, F, O, ρ, R, h⟩ => ⟨B, F, O, ρ, R, hc.mono (fun k h H1 s1 => by
    cases k with
    | true => exact ⟨B, F, O, ρ, R.same s1, h⟩
    | false => exact ⟨B, F, O, ρ, R.same s1, h⟩) h⟩
noncomputable def Ym (te : Iz) : Gz := fun D ρ => te ρ (fun _ => D.d.nx ρ) (D.ex ρ)
theorem QZ (he : DEX X e te) (hs : swapsWith e none pos.line X.env = pure false := by rfl) : DSX X (.Expr e pos) (Ym te) where
  mono := fun hd h => he.mono (fun _ h => hd.d.nx _ h) (fun _ h => hd.ex _ _ h) h
  ps := (K4 he.pe hs).imp fun D σ H ⟨B, F, O, ρ, R, h⟩ => ⟨B, F, O, ρ, R, he.mono (fun d q v H1 s1 _ => q O σ H1 (R.same s1)) (fun x q a H1 s1 r1 => q O σ a H1 (R.same s1) r1) h⟩
noncomputable def AdE (te : Iz) : Gz := fun D ρ => te ρ D.d.rt (D.ex ρ)
theorem Abp (he : DEX X e te) : DSX X (.Return (some e) pos) (AdE te) where
  mono := fun hd h => he.mono (fun _ h => hd.d.rt _ h) (fun _ h => hd.ex _ _ h) h
  ps := (Yq he.pe).imp fun D σ H ⟨B, F, O, ρ, R, h⟩ => ⟨B, F, O, ρ, R, he.mono (fun d q v H1 s1 r1 => q v H1 (R.base.trans s1) (r1.mono Mz)) (fun x q a H1 s1 r1 => q O σ a H1 (R.same s1) r1) h⟩
noncomputable def Ais (te : Iz) (g : DTG) : Gz := fun D ρ => te ρ (fun d => g d ρ D.d.nx) (D.ex ρ)
noncomputable abbrev Jf := List Dt → (Dt → Prop) → (Dt → Prop) → Prop
noncomputable def AeL (K : PySem.W.Frag) (sp : Jf) : Sp := fun vs H Q E => ∃ F ds, (∀ a ∈ F, H a ≠ none) ∧ RpL K (mask F H) ds vs ∧ sp ds (fun d => ∀ v H', Same H H' → Rp K (mask F H') d v → Q v H') (fun x => ∀ a H', Same H H' → Rp K (mask F H') x (.ref a) → E (.ref a) none H')
noncomputable def QL (sp : Jf) : Prop := ∀ ds Q Q' E E', (∀ d, Q d → Q' d) → (∀ d, E d → E' d) → sp ds Q E → sp ds Q' E'
noncomputable def Yk (sp : Jf) (tl : DTA) : Iz := fun ρ Q E => tl ρ fun ds => sp ds Q E
noncomputable def PmX (P : Program) (w : World) (K : PySem.W.Frag) (mg : Str → Option Value) (base : Heap) (k : Nat) (x : Str) (st : Stmt) (ps : List Str) (sp : Jf) : Prop :=
  ∃ f fd, FnT K mg x st ps f fd ∧ Dl P w K mg base (CXe P w) k f fd ps (AeL K sp)
theorem QW {k : Nat} {ps : List Str} {sp : Jf} {x : Str} {stx : Stmt} {p : Pos} (m : QL sp) (G : PmX X.prog X.w X.K X.mg X.base k x stx ps sp) (hr : CN k X.A) (hg : Gl X x)
    (ha : DA X (e :: es) tl) (hdb : (x == ("__debug__" : Str)) = false := by decide)
    (he : starEach (e :: es) X.env = (false, eval e X.env) :: starEach es X.env := by rfl) (hpl : (backTo pos (starEach es X.env)).any (·.1) = false := by rfl) : DEX X (.Call (.Name x p) (e :: es) [] pos) (Yk sp tl) := by
  obtain ⟨f, fd, F, G⟩ := G
  refine ⟨fun hq hx h => ha.mono (fun ds h => m ds _ _ _ _ hq hx h) h, (X4 G hr hg F.mg F.fn.kp F.bd ha.pa hdb he hpl).imp fun σ H Q ⟨B, F, O, ρ, R, h⟩ => ⟨B, F, O, ρ, R, ha.mono (fun ds q vs H1 s1 r1 => ⟨F ++ O, ds, (R.same s1).th, r1, m ds _ _ _ _ (fun d z v H2 s2 r2 => z v H2 (s1.trans s2) r2) (fun x z a H2 s2 r2 => ⟨a, rfl, z a H2 (s1.trans s2) r2⟩) q⟩) h⟩⟩
theorem PmX.pm {P : Program} {w : World} {K : PySem.W.Frag} {mg : Str → Option Value} {base : Heap} {k : Nat} {x : Str} {st : Stmt} {ps : List Str} {sp : Jf} {sp' : DSp} (G : PmX P w K mg base k x st ps sp) (m : QL sp)
    (h : ∀ ds Q, sp' ds Q → sp ds Q fun _ => False) : Pm P w K mg base k x st ps sp' := by
  obtain ⟨f, fd, F, G⟩ := G
  exact ⟨f, fd, F, G.calm fun vs H Q E ⟨F', ds, h1, r, q⟩ => ⟨F', ds, h1, r, m ds _ _ _ _ (fun _ z => z) (fun _ z => z.elim) (h ds _ q)⟩⟩
noncomputable def Aay (c : Str) (ns : List Str) (tl : DTA) : Gz := fun D ρ => tl ρ fun ds => ds.length = ns.length ∧ ds.length ≤ 1000 ∧ D.ex ρ (.exc c ns ds)
theorem WK {k : Nat} {c : Str} {ns ps : List Str} {fd : FuncData} {C U fI : Addr} {p cp : Pos} (G : XR X.prog X.w X.K X.mg X.base k c ns C U fI fd ps) (hr : CN (k + 1) X.A) (hc : X.calm = true) (hg : Gl X c) (ha : DA X (e :: es) tl)
    (hdb : (c == ("__debug__" : Str)) = false := by decide) (he : starEach (e :: es) X.env = (false, eval e X.env) :: starEach es X.env := by rfl) (hpl : (backTo cp (starEach es X.env)).any (·.1) = false := by rfl) :
    DSX X (.Raise (some (.Call (.Name c p) (e :: es) [] cp)) none pos) (Aay c ns tl) where
  mono := fun hd h => ha.mono (fun ds ⟨h1, h2, h3⟩ => ⟨h1, h2, hd.ex _ _ h3⟩) h
  ps := (YM G.xc hc (XD G hr hg ha.pa hdb he hpl)).imp fun D σ H ⟨B, F, O, ρ, R, h⟩ => ⟨B, F, O, ρ, R, ha.mono (fun ds ⟨h1, h2, h3⟩ vs H1 s1 r1 => by
    refine ⟨by rw [r1.len]; exact h1, by rw [r1.len]; exact h2, fun a dx na nd ne => ⟨a, dx, rfl, Bb, ?_⟩⟩
    have R1 := R.same s1
    have oa : a ∉ F ++ O := fun z => R1.th a z na
    have od : dx ∉ F ++ O := fun z => R1.th dx z nd
    have s2 : Same H1 (upd (upd (upd (upd H1 a (.ext (exN a C))) dx (.xd (ns.zip vs))) a (.ext (exF a C dx))) a (.ext (exO a C dx))) := fun b o q => by
      rw [Av (Bk q na), Av (Bk q na), Av (Bk q nd), Av (Bk q na)]; exact q
    refine h3 O σ a _ (R1.same s2) (Ho.mpr ⟨a, C, U, dx, vs, rfl, G.at_, G.xc, ?_, ?_, h1.symm, r1.mono s2.mask⟩)
    · rw [Ba oa]; exact Bb
    · rw [Ba od, Av ne, Av ne]; exact Bb) h⟩
end
section
variable {P : Program} {w : World} {K : PySem.W.Frag} {mg : Str → Option Value} {base : Heap}
theorem Fun.okX {x qual : Str} {st : Stmt} {f : Addr} {fd : FuncData} {N ps : List Str} {k : Nat} {sp : Jf} (F : Fun K x qual st f fd) (S : Am N ps (Ag st)) (len : ∀ ds Q E, sp ds Q E → ds.length = ps.length)
    (hbody : ∀ (cdv : Value) (A : Around) (outer : List Env) (s : Shared) (H : Hp) (E : XK), CN k (A.deeper (envOfC qual (Ag st) s.heap.objs.size f cdv)) →
      ∃ t, QK (Pj (CXe P w) P w K mg base N qual (Ag st) f cdv A outer s H E) (BZ st) t ∧ ∀ ds Q Ex, sp ds Q Ex → t ⟨{ nx := fun _ => Q .non, rt := Q }, fun _ => Ex⟩ (Dr N ds)) : Dl P w K mg base (CXe P w) (k + 1) f fd ps (AeL K sp) := by
  obtain ⟨oc, od, kV, doc, pm, an, cdv, ct, osl, rfl, lk, hcd⟩ := F.ex
  refine Adh lk hcd S (fun vs H Q E ⟨F, ds, _, r, h⟩ => by rw [r.len]; exact len _ _ _ h) fun A outer s H vs Q E hr ⟨F', ds, hF, r, h⟩ => ?_
  obtain ⟨t, T, q⟩ := hbody cdv A outer s H E hr
  refine ⟨_, T.ps, H, F', [], Dr N ds, Nz hF r, T.mono (D := ⟨{ nx := fun _ => ∀ v H', Same H H' → Rp K (mask F' H') .non v → Q v H', rt := fun d => ∀ v H', Same H H' → Rp K (mask F' H') d v → Q v H' }, fun _ x => ∀ a H', Same H H' → Rp K (mask F' H') x (.ref a) → E (.ref a) none H'⟩) ⟨⟨?_, ?_, fun _ z => False.elim z, fun _ z => False.elim z⟩, ?_⟩ (q ds _ _ h)⟩
  · exact fun ρ z O' σ' H' R' => z .non H' R'.base (GR.mpr rfl)
  · exact fun d z v H' s' r' => z v H' s' r'
  · exact fun ρ x z O' σ' a H' R' r' => AcD fun H2 s2 => z a H2 (R'.base.trans s2) ((r'.mono Mz).mono s2.mask)
end
noncomputable def QJ {τ : Type} (args : τ → List Dt) (pre : τ → Prop) (good : τ → Prop) (post : τ → Dt → Prop) (exc : τ → Dt) : Jf := fun ds Q E => ∃ p, ds = args p ∧ pre p ∧ (good p → ∀ d, post p d → Q d) ∧ (¬ good p → E (exc p))
theorem El {τ : Type} {args : τ → List Dt} {pre good : τ → Prop} {post : τ → Dt → Prop} {exc : τ → Dt} : QL (QJ args pre good post exc) := fun _ _ _ _ _ hq hx ⟨p, e, h, q, x⟩ => ⟨p, e, h, fun g d z => hq _ (q g d z), fun g => hx _ (x g)⟩
theorem Ly {τ : Type} {args : τ → List Dt} {pre good : τ → Prop} {post : τ → Dt → Prop} {exc : τ → Dt} {Q E : Dt → Prop} (p : τ) (h : pre p) (k : good p → ∀ d, post p d → Q d) (x : ¬ good p → E (exc p)) : QJ args pre good post exc (args p) Q E := ⟨p, rfl, h, k, x⟩
end L2
namespace L2
open PySem PySem.Spec PyProof.Rows PySem.SeqAt
section
variable {X : Cx} {pins : List (Addr × Obj)} {σ : St} {H : Hp} {s : Shared}
theorem Inv.forget {j : Nat} {n : Str} {m : Str → Option Value} {u : Option Value} {h' : Heap} (I : Inv X pins σ H s) (hN : X.N.Nodup) (hj : X.N[j]? = some n) (hl : ∀ (i : Nat) (x : Str) (v : V), X.N[i]? = some x → σ[i]? = some (some v) → Vis X.env.scope x → ∃ u, RelV v u ∧ Look X.env s.heap m x u)
    (hn : h'.Ns X.env.locals (fun x => if x = n then u else m x)) (sb : Heap.SameBut X.env.locals s.heap h') : Inv X pins (σ.set j none) H { s with heap := h' } := by
  have ne : ∀ b o, X.s₀.heap.get? b = some o → b ≠ X.env.locals := fun b o e => Nat.ne_of_lt (Nat.lt_of_lt_of_le (Heap.lt_size e) I.ok.above)
  refine ⟨I.ok, I.os, I.bare, ⟨fun b o e n hb hx => (sb.2 b (ne b o e)).trans (I.base.keep b o e n hb hx), fun b o e n hb hx => ?_, I.base.free, fun b o e hx => ?_, I.base.tups, I.base.frzs, I.base.tbls⟩, ⟨_, hn, fun i y v e1 e2 e3 => ?_⟩, fun y c e => ?_, I.free, I.freeC, fun p hp => ?_, fun b ob e => ?_, by simpa using I.len⟩
  · obtain ⟨sl, e1⟩ := I.base.slot b o e n hb hx
    exact ⟨sl, (sb.2 b (ne b o e)).trans e1⟩
  · obtain ⟨o', e1⟩ := I.base.there b o e hx
    exact ⟨o', (sb.2 b (ne b o e)).trans e1⟩
  · have hij : i ≠ j := fun z => by
      subst z
      by_cases hk : i < σ.length
      · rw [List.getElem?_set_self hk] at e2; cases e2
      · rw [List.getElem?_eq_none (by simpa using hk)] at e2; cases e2
    rw [List.getElem?_set_ne (Ne.symm hij)] at e2
    obtain ⟨u', r', q⟩ := hl i y v e1 e2 e3
    refine ⟨u', r', ?_⟩
    rcases q with ⟨k, e⟩ | ⟨k, c, e, z⟩
    · have : y ≠ n := fun e => hij (Ms hN e1 (e ▸ hj))
      exact .inl ⟨k, by simp [this, e]⟩
    · exact .inr ⟨k, c, e, z.sameBut sb (I.cne y c e)⟩
  · obtain ⟨w', z⟩ := I.cell y c e
    exact ⟨w', z.sameBut sb (I.cne y c e)⟩
  · obtain ⟨e, n, ne, nf, d⟩ := I.pin p hp
    exact ⟨(sb.2 p.1 ne).trans e, n, ne, nf, d⟩
  · refine (I.hok b ob e).stay (fun c w' hc q => (sb.2 c ?_).trans q) (fun _ q => q) fun _ _ q => q
    rintro rfl
    rcases hc with hc | hc
    · rw [← hc, I.free] at e; cases e
    · rw [I.free] at hc; cases hc
theorem Xc {M : Model} {A : Around} {E : Value → Shared → Prop} {j : Nat} {n : Str} {pos : Pos} {Q : Unit → Shared → Prop} (I : Inv X pins σ H s) (hN : X.N.Nodup) (hj : X.N[j]? = some n) (hk : X.env.scope.names.lookup n = some .local)
    (h : ∀ s', Inv X pins (σ.set j none) H s' → Q () s') : wpAny M A (bindName X.env n .none >>= fun _ => unbindBehindTheSuite X.env n pos) Q E s := by
  refine wpAny_bind (wpAny_bindName (Gs (v := .non) I hN hj (.inl hk) rfl (fun s1 I1 => ?_) (.inr hk)))
  obtain ⟨m, hn, hl⟩ := id I1.loc
  have hjσ : j < σ.length := by rw [I.len]; exact (List.getElem?_eq_some_iff.mp hj).1
  obtain ⟨u, r, q⟩ := hl j n .non hj (List.getElem?_set_self hjσ) (.inl hk)
  have hm : m n = some u := by
    rcases q with ⟨_, e⟩ | ⟨k, _⟩
    · exact e
    · rcases k with k | k
      · have k : X.env.scope.names.lookup n = some .cell := k
        rw [hk] at k; cases k
      · have k : X.env.scope.names.lookup n = some .free := k
        rw [hk] at k; cases k
  have hp : (X.env.scope.kind == .class || (X.env.scope.kind == .module && X.env.locals != X.env.globals)) = false := by rw [I.ok.kind]; rfl
  unfold unbindBehindTheSuite
  refine wpAny_onRaise (wpAny_mono (wpAny_unbindName_local (E := fun _ _ => False) hk hn hm hp fun h' u' hn' sb => ?_) (fun _ _ z => z) fun _ _ z => z.elim)
  refine h _ ?_
  have := I1.forget hN hj hl hn' sb
  rwa [List.set_set] at this
noncomputable abbrev Cx.body (X : Cx) (W : Value → Shared → Prop) (pn : List (Addr × Obj)) : Cx := { X with xe := W, pn := pn }
noncomputable abbrev Cx.suite (X : Cx) (a : Addr) : Cx := { X with A := X.A.mark (some (.ref a)), calm := false, xe := fun _ _ => False }
theorem Inv.body (I : Inv X pins σ H s) (W : Value → Shared → Prop) : Inv (X.body W (X.pn ++ pins)) [] σ H s :=
  ⟨⟨I.ok.mod, I.ok.kind, I.ok.glob, I.ok.blt, I.ok.above, I.ok.inj, I.ok.has, I.ok.cab, I.ok.hd, I.ok.frames, I.ok.stk, I.ok.exf, I.ok.bs, I.ok.bsz, I.ok.noex, I.ok.exfs, I.ok.funs, I.ok.frf⟩, I.os, I.bare, I.base, I.loc, I.cell, I.free, I.freeC, fun p hp => I.pin p (by simpa using hp), I.hok, I.len⟩
theorem Inv.unbody {W : Value → Shared → Prop} {pins' : List (Addr × Obj)} (I : Inv (X.body W (X.pn ++ pins)) pins' σ H s) : Inv X pins σ H s :=
  ⟨⟨I.ok.mod, I.ok.kind, I.ok.glob, I.ok.blt, I.ok.above, I.ok.inj, I.ok.has, I.ok.cab, I.ok.hd, I.ok.frames, I.ok.stk, I.ok.exf, I.ok.bs, I.ok.bsz, I.ok.noex, I.ok.exfs, I.ok.funs, I.ok.frf⟩, I.os, I.bare, I.base, I.loc, I.cell, I.free, I.freeC, fun p hp => I.pin p (List.mem_append_left _ hp), I.hok, I.len⟩
theorem Inv.suite (I : Inv X pins σ H s) (a : Addr) : Inv (X.suite a) pins σ H s :=
  ⟨⟨I.ok.mod, I.ok.kind, I.ok.glob, I.ok.blt, I.ok.above, I.ok.inj, I.ok.has, I.ok.cab, fun z => (by cases z), I.ok.frames, I.ok.stk, I.ok.exf, I.ok.bs, I.ok.bsz, I.ok.noex, I.ok.exfs, I.ok.funs, I.ok.frf⟩, I.os, I.bare, I.base, I.loc, I.cell, I.free, I.freeC, I.pin, I.hok, I.len⟩
theorem Inv.unsuite {a : Addr} (I : Inv (X.suite a) pins σ H s) (hd : X.calm = true → X.A.handled = none) : Inv X pins σ H s :=
  ⟨⟨I.ok.mod, I.ok.kind, I.ok.glob, I.ok.blt, I.ok.above, I.ok.inj, I.ok.has, I.ok.cab, hd, I.ok.frames, I.ok.stk, I.ok.exf, I.ok.bs, I.ok.bsz, I.ok.noex, I.ok.exfs, I.ok.funs, I.ok.frf⟩, I.os, I.bare, I.base, I.loc, I.cell, I.free, I.freeC, I.pin, I.hok, I.len⟩
end
structure XU (K : PySem.W.Frag) (mg : Str → Option Value) (c : Str) (U : Addr) : Prop where
  gl : mg c = some (.ref U)
  obj : ∃ nm q N bs hd sn sub ab col dd k0 k1 k2 k3 k5 id, K.lookup U = some (excClassObj nm q U N bs bmV hd sn sub ab col dd k0 k1 k2 k3 k5 id)
theorem AdH {M : Model} {A : Around} {E : Value → Shared → Prop} {s : Shared} {K : PySem.W.Frag} {mg : Str → Option Value} {C U e : Addr} {oe : Obj} {c : Str} {Q : Bool → Shared → Prop} (X : K.In s.heap) (x : XC K C U) (u : XU K mg c U) (he : s.heap.get? e = some oe) (hc : oe.cls = .ref C) (q : Q true s) :
    wpAny M A (excMatches (.ref e) (.ref U)) Q E s := by
  obtain ⟨nm, q1, N, bs, sn, sub, ab, col, dd, k0, k1, k2, k3, k5, lk⟩ := x.obj
  obtain ⟨nm', q1', N', bs', hd', sn', sub', ab', col', dd', k0', k1', k2', k3', k5', id', lk'⟩ := u.obj
  obtain ⟨h, g, d, t, os⟩ := s
  have oC : h.get? C = some _ := X _ _ lk
  have oU : h.get? U = some _ := X _ _ lk'
  have c1 : (Value.ref U :: bmV).contains (.type "BaseException") = true := by simp
  have c2 : (Value.ref C :: (.ref U :: bmV)).contains (.ref U) = true := by simp
  have nt := tc_notTuple
  unfold excMatches
  repeat (first | (with_reducible refine wpAny_loadPart_at he ?_; rw [hc]) | with_reducible refine wpAny_loadPart_at oU ?_ | (with_reducible refine wpAny_isSubtype_exc oU ?_; rw [c1]) | (with_reducible refine wpAny_isSubtype_exc oC ?_; rw [c2]) | wp_step)
  exact q
theorem XC.uniq {K : PySem.W.Frag} {C U U' : Addr} (x : XC K C U) (y : XC K C U') : U = U' := by
  obtain ⟨nm, q1, N, bs, sn, sub, ab, col, dd, k0, k1, k2, k3, k5, lk⟩ := x.obj
  obtain ⟨nm', q1', N', bs', sn', sub', ab', col', dd', k0', k1', k2', k3', k5', lk'⟩ := y.obj
  rw [lk] at lk'
  injection lk' with e
  injection e with _ _ e _
  injection e with e
  injection e with _ _ e
  injection e with _ e
  injection e with e _
  injection e
noncomputable def Under (K : PySem.W.Frag) (mg : Str → Option Value) (c T : Str) : Prop := ∀ C U, PySem.W.nsIn K mainGlobals c = some (some (.ref C)) → XC K C U → mg T = some (.ref U)
theorem Rep.unset {K : PySem.W.Frag} {B : Hp} {F O : List Addr} {H : Hp} {σ : St} {ρ : Bv} (r : Rep K B F O H σ ρ) (j : Nat) : Rep K B F O H (σ.set j none) (ρ.set j none) := by
  have back : ∀ (i : Nat) (x : En), (ρ.set j none)[i]? = some (some x) → i ≠ j ∧ ρ[i]? = some (some x) := fun i x e => by
    by_cases hi : i = j
    · subst hi
      by_cases hk : i < ρ.length
      · rw [List.getElem?_set_self hk] at e; cases e
      · rw [List.getElem?_eq_none (by simpa using hk)] at e; cases e
    · rw [List.getElem?_set_ne (Ne.symm hi)] at e; exact ⟨hi, e⟩
  refine ⟨by simpa using r.len, r.base, r.fr, r.th, fun i d e => ?_, fun i ds e => ?_, fun i k ds es a h1 h2 h3 h4 => ?_, fun i ks e => ?_, fun i k ds es a h1 h2 h3 h4 => ?_⟩
  · obtain ⟨n, e⟩ := back i _ e
    rw [List.getElem?_set_ne (Ne.symm n)]; exact r.is i d e
  · obtain ⟨n, e⟩ := back i _ e
    rw [List.getElem?_set_ne (Ne.symm n)]; exact r.own i ds e
  · obtain ⟨n1, e1⟩ := back i _ h1
    obtain ⟨n2, e2⟩ := back k _ h2
    rw [List.getElem?_set_ne (Ne.symm n1)] at h3
    rw [List.getElem?_set_ne (Ne.symm n2)] at h4
    exact r.inj i k ds es a e1 e2 h3 h4
  · obtain ⟨n, e⟩ := back i _ e
    rw [List.getElem?_set_ne (Ne.symm n)]; exact r.tab i ks e
  · obtain ⟨n1, e1⟩ := back i _ h1
    obtain ⟨n2, e2⟩ := back k _ h2
    rw [List.getElem?_set_ne (Ne.symm n1)] at h3
    rw [List.getElem?_set_ne (Ne.symm n2)] at h4
    exact r.tinj i k ds es a e1 e2 h3 h4
theorem Agb {X : Cx} {pins : List (Addr × Obj)} {σ : St} {H : Hp} {s : Shared} {a : Addr} {M : Model} {A : Around} {E : Value → Shared → Prop} {Q : Unit → Shared → Prop} (I : Inv X pins σ H s) (fl : Gj s.heap H a) (q : ∀ s', Inv X pins σ H s' → Q () s') : wpAny M A (setFlight (.ref a) none) Q E s := by
  obtain ⟨o, vs, e1, e2, e3⟩ := fl
  unfold setFlight
  rcases e3 with e3 | ⟨T, e3, e4, e5⟩
  · refine wpAny_bind (wpAny_field e1 e2 e3 ?_)
    rw [if_neg (by simp)]
    exact wpAny_pure (q s I)
  · refine wpAny_bind (wpAny_field e1 e2 e3 ?_)
    rw [if_pos (by simp)]
    obtain ⟨⟨oT, ts, t1, t2, t3⟩, _, _⟩ := I.hok T _ e5
    have tz : 3 < ts.size := (Array.getElem?_eq_some_iff.mp t3).1
    have d' := Obj.data_mapFields t2 (·.setIfInBounds 3 Value.none)
    have t' := Heap.get?_update_self (Obj.mapFields (·.setIfInBounds 3 Value.none)) t1 (Obj.isFreed_of_fields d')
    refine wpAny_setField t1 t2 tz (q _ ?_)
    have J := I.write (x := T) (e := T) (o := .ext (tbO T)) (t' := s.toks) (h' := s.heap.update T (Obj.mapFields (·.setIfInBounds 3 Value.none))) (by rw [e5]; exact True.intro) (.inl rfl) (fun b u n e => (Heap.get?_update_other _ _ (Ne.symm n)).trans e) ⟨_, t'⟩ ⟨⟨_, _, t', d', by simp [tz]⟩, ⟨_, t'⟩, Lk⟩
    have eH : upd H T (.ext (tbO T)) = H := by
      funext b
      by_cases z : b = T
      · rw [z, Bb, e5]
      · rw [Av z]
    rw [eH] at J
    exact J
section
variable {X : Cx} {tb : Gz} {ts : DTS} {pos tp hp : Pos} {T n : Str} {U : Addr} {body suite : List Stmt} {b₀ : Stmt}
noncomputable def Kd (K : PySem.W.Frag) (mg : Str → Option Value) (T : Str) (j : Nat) (ts : DTS) (D : Es) (ρ : Bv) (x : Dt) : Prop := match x with
  | .exc c ns ds => Under K mg c T ∧ ts { nx := fun ρ2 => D.nx (ρ2.set j none), rt := fun _ => False } (ρ.set j (some (.is (.exc c ns ds))))
  | _ => False
noncomputable def Agy (K : PySem.W.Frag) (mg : Str → Option Value) (T : Str) (j : Nat) (tb : Gz) (ts : DTS) : Gz := fun D ρ => tb ⟨D.d, Kd K mg T j ts D.d⟩ ρ
theorem AbG (j : Nat) (u : XU X.K X.mg T U) (hN : X.N.Nodup) (hb : ∀ W pn, QK (X.body W pn) body tb) (hs : ∀ a, DSs (X.suite a) (b₀ :: suite) ts) (hst : X.stack = X.env :: X.outer := by rfl) (hfr : X.env.frame = some X.env.locals := by rfl) (hj : X.N[j]? = some n := by rfl) (hk : X.env.scope.names.lookup n = some .local := by rfl) (hg : Gl X T := by rfl)
    (hd : (T == ("__debug__" : Str)) = false := by decide) : DSX X (.Try body [.ExceptHandler (some (.Name T tp)) (some n) (b₀ :: suite) hp] [] [] pos) (Agy X.K X.mg T j tb ts) where
  mono := fun {ρ D D'} hd h => (hb X.xe X.pn).mono (D := ⟨D.d, Kd X.K X.mg T j ts D.d⟩) ⟨hd.d, fun ρ' x z => by
    revert z
    dsimp only
    unfold Kd
    split
    · exact fun z => ⟨z.1, (hs 0).mono (D := { nx := fun ρ2 => D.d.nx (ρ2.set j none), rt := fun _ => False }) ⟨fun _ q => hd.d.nx _ q, fun _ q => q, fun _ q => q, fun _ q => q⟩ z.2⟩
    · exact fun z => z⟩ h
  ps := by
    rintro pins s σ H D I ⟨B, F, O, ρ, R, h⟩
    refine wpAny_Try_except ?_
    refine wpAny_mono ((hb (fun e s₁ => wpAny (model X.prog X.w) X.A (noteFrame e X.env) (fun _ s₂ => wpAny (model X.prog X.w) X.A (setFlight e none) (fun _ s₃ => wpAny (model X.prog X.w) X.A (handleBy e X.env [.ExceptHandler (some (.Name T tp)) (some n) (b₀ :: suite) hp]) (SP X pins D) X.xe s₃) X.xe s₂) X.xe s₁) (X.pn ++ pins)).ps [] s σ H D (I.body _) ⟨B, F, O, ρ, R, (hb X.xe X.pn).mono (D := ⟨(lDX X B F D).d, Kd X.K X.mg T j ts (lDX X B F D).d⟩) ⟨⟨fun _ q => q, fun _ q => q, fun _ q => q, fun _ q => q⟩, fun ρ' x z => ?_⟩ h⟩) (fun f s1 q => ?_) fun e s1 q => q
    · revert z
      dsimp only
      unfold Kd
      split
      · rintro ⟨un, z⟩ O' σ' a H' R' rp pins' s1 I1 fl ex
        have I2 : Inv X pins σ' H' s1 := I1.unbody
        obtain ⟨a', C, U', dx, vs, ea, h1, xc, h2, h3, h4, h5⟩ := Ho.mp rp
        obtain rfl : a = a' := V.ref.inj ea
        refine lands I2 hst hfr fl ex fun H2 s2 sm I3 fl2 => ?_
        refine wpAny_handleBy_cons (codeAny_handlers_test (HX (X := X.suite a) (E := fun x s₁ => _) (I3.suite a) hg u.gl ?_ hd)) (by intro q; cases q)
        have eU : U' = U := by
          have := (un C U' h1 xc).symm.trans u.gl
          injection this with this
          injection this
        subst eU
        have h2' := I3.hok a _ (sm _ _ (Bh _ _ h2))
        obtain ⟨⟨oe, _, k1, k2, _⟩, _, _⟩ := h2'
        refine AdH I3.kIn xc u k1 k2 ?_
        refine codeAny_handlers_suite_as (Agb I3 fl2 fun s3 I4 => ?_)
        refine Gs (X := X.suite a) (v := .ref a) (I4.suite a) hN hj (.inl hk) rfl (fun s4 I5 => ?_) (.inr hk)
        have R2 := (R'.same sm).set j (rp.mono sm.mask)
        refine wpAny_mono ((hs a).ps pins s4 _ H2 { nx := fun σ5 H5 => D.nx (σ5.set j none) H5, rt := fun _ _ => False } I5 ⟨B, F, O', _, R2, (hs a).mono (D := { nx := fun ρ2 => (lDX X B F D).d.nx (ρ2.set j none), rt := fun _ => False }) ⟨fun ρ5 q O5 σ5 H5 R5 => q O5 _ H5 (R5.unset j), fun _ q => q.elim, fun _ q => q.elim, fun _ q => q.elim⟩ z⟩) (fun f s5 q => ?_) fun _ _ z => z.elim
        cases f with
        | next =>
          obtain ⟨σ5, H5, I6, q⟩ := q
          exact Xc (I6.unsuite I.ok.hd) hN hj hk fun s6 I7 => ⟨_, H5, I7, q⟩
        | brk => obtain ⟨_, _, _, q⟩ := q; exact q.elim
        | cont => obtain ⟨_, _, _, q⟩ := q; exact q.elim
        | ret u => obtain ⟨_, _, _, _, _, q⟩ := q; exact q.elim
      · exact fun z => z.elim
    · cases f with
      | next =>
        obtain ⟨σ', H', I', q⟩ := q
        exact wpAny_execs_nil ⟨σ', H', I'.unbody, q⟩
      | brk => obtain ⟨σ', H', I', q⟩ := q; exact ⟨σ', H', I'.unbody, q⟩
      | cont => obtain ⟨σ', H', I', q⟩ := q; exact ⟨σ', H', I'.unbody, q⟩
      | ret u => obtain ⟨v, σ', H', I', r, q⟩ := q; exact ⟨v, σ', H', I'.unbody, r, q⟩
end
end L2
namespace L2
open PySem PySem.Spec PyProof.Rows PySem.SeqAt
noncomputable def DK (K : PySem.W.Frag) (c : Str) (A : Addr) (b : Bool) : Prop := ∀ C, PySem.W.nsIn K mainGlobals c = some (some (.ref C)) → PySem.W.kitOne K (.ref C) (.ref A) = some b
noncomputable def Km (K : PySem.W.Frag) (c : Str) (As : List Addr) (b : Bool) : Prop := ∀ C, PySem.W.nsIn K mainGlobals c = some (some (.ref C)) → PySem.W.kitAny K (.ref C) (As.map .ref) = some b
noncomputable def Hg (K : PySem.W.Frag) (c f : Str) : Prop := ∀ C, PySem.W.nsIn K mainGlobals c = some (some (.ref C)) → PySem.W.findIn K (.ref C) f = some none
theorem Km.nil {K : PySem.W.Frag} {c : Str} : Km K c [] false := fun _ _ => rfl
theorem Km.cons {K : PySem.W.Frag} {c : Str} {A : Addr} {As : List Addr} (h : DK K c A false) (r : Km K c As false) : Km K c (A :: As) false := fun C e => by
  show PySem.W.kitAny K (.ref C) (.ref A :: As.map .ref) = some false
  unfold PySem.W.kitAny
  rw [h C e]
  exact r C e
theorem Vg : ∀ {As : List Addr} {its : List Value}, Vals (As.map V.ref) its → its = As.map .ref
  | [], _, rv => by cases rv; rfl
  | A :: As, _, rv => by
    cases rv with
    | cons z1 z2 => rw [Vg z2]; rw [show _ = Value.ref A from z1]; rfl
theorem XC.inst {X : Cx} {pins : List (Addr × Obj)} {σ : St} {H : Hp} {s : Shared} {a C dx : Addr} {fs : List (Str × V)} (I : Inv X pins σ H s) (h1 : H a = some (.ext (exO a C dx))) (h2 : H dx = some (.xd fs)) :
    ∃ (ox od : Obj) (mA : Str → Option Value), PySem.W.InstAt s.heap a ox C (some od) ∧ (∀ name, PySem.W.lookIn name od = some (mA name)) ∧ ∀ f, J5 (fs.lookup f) (mA f) := by
  obtain ⟨⟨o, vs, e1, e2, e3, e4, _⟩, _, _⟩ := I.hok a _ h1
  obtain ⟨mA, n, r⟩ := (show Ey X.prog X.w H s.heap dx (.xd fs) from I.hok dx _ h2)
  obtain ⟨od, e5, e6⟩ := NQ n
  exact ⟨o, od, mA, ⟨e1, e2, by unfold PySem.W.notCls; rw [e4], by rw [e3]; exact e5⟩, e6, r⟩
section
variable {X : Cx} {a b c e : Expr} {es : List Expr} {ta tb te : DTE} {tl : DTA} {pos : Pos}
theorem YD : Ig X (.builtin "isinstance") (fun xs H Q => ∃ c ns ds x A v, xs = [x, .ref A] ∧ Rp X.K H (.exc c ns ds) x ∧ DK X.K c A v ∧ Q (.bl v) H) := by
  intro pins s σ H xs us Q I r ⟨c, ns, ds, x, A, v, e, rp, sx, q⟩
  subst e
  obtain ⟨u, u2, rfl, r1, r2⟩ := vals2 r
  cases (show u2 = .ref A from r2)
  obtain ⟨a, C, U, dx, vs, rfl, h1, xc, h2, h3, _, _⟩ := Ho.mp rp
  cases (show u = .ref a from r1)
  obtain ⟨ox, od, mA, J, _, _⟩ := XC.inst I h2 h3
  exact PySem.W.kia_one (AfR xc) I.kIn ⟨ox, od, J⟩ (sx C h1) (fun z => nomatch z) fun tk => ⟨.bl _, H, I.tok tk, rfl, q⟩
theorem Xe : Ig X (.builtin "isinstance") (fun xs H Q => ∃ c ns ds x t As v, xs = [x, .ref t] ∧ Rp X.K H (.exc c ns ds) x ∧ SqT X.K H t (As.map .ref) ∧ Km X.K c As v ∧ Q (.bl v) H) := by
  intro pins s σ H xs us Q I r ⟨c, ns, ds, x, t, As, v, e, rp, ht, sx, q⟩
  subst e
  obtain ⟨u, u2, rfl, r1, r2⟩ := vals2 r
  cases (show u2 = .ref t from r2)
  obtain ⟨a, C, U, dx, vs, rfl, h1, xc, h2, h3, _, _⟩ := Ho.mp rp
  cases (show u = .ref a from r1)
  obtain ⟨ox, od, mA, J, _, _⟩ := XC.inst I h2 h3
  obtain ⟨its, rv, ⟨o, k1, k2, n, k3⟩, _⟩ := I.tuple ht
  have ei : its = As.map .ref := Vg rv
  subst ei
  obtain ⟨oc, odd, dt, osl⟩ := o
  cases k2
  cases k3
  exact PySem.W.kia_tup (AfR xc) I.kIn ⟨ox, od, J⟩ k1 (by simpa using sx C h1) (fun z => nomatch z) fun tk => ⟨.bl _, H, I.tok tk, rfl, q⟩
noncomputable def Z4 (K : PySem.W.Frag) : DL := fun ds Q => match ds with
  | [.exc c _ _, .fn A] => ∃ v, DK K c A v ∧ Q (.bl v)
  | _ => False
theorem AcV {K : PySem.W.Frag} : Qw K (fun xs H Q => ∃ c ns ds x A v, xs = [x, .ref A] ∧ Rp K H (.exc c ns ds) x ∧ DK K c A v ∧ Q (.bl v) H) (Z4 K) where
  mono := fun hq h => by
    unfold Z4 at h ⊢
    split at h
    · exact let ⟨v, h1, h2⟩ := h; ⟨v, h1, hq _ h2⟩
    · exact h.elim
  ok := fun O H ds xs Q _ r h => by
    unfold Z4 at h
    split at h
    · obtain ⟨v, h1, h2⟩ := h
      obtain ⟨x, xr, rfl, r1, r2⟩ := Ay.mp r
      obtain ⟨y, yr, rfl, r3, r4⟩ := Ay.mp r2
      rw [Bs.mp r4, QM.mp r3]
      exact ⟨_, _, _, x, _, v, rfl, r1.mono Bh, h1, h2 _ H (Same.refl H) (BX.mpr rfl)⟩
    · exact h.elim
noncomputable def Ra (K : PySem.W.Frag) : DL := fun ds Q => match ds with
  | [.exc c _ _, .tup es] => ∃ As v, es = As.map .fn ∧ Km K c As v ∧ Q (.bl v)
  | _ => False
theorem Aaa {K : PySem.W.Frag} {H : Hp} : ∀ {As : List Addr} {vs : List V}, RpL K H (As.map Dt.fn) vs → vs = As.map .ref
  | [], _, h => Bs.mp h
  | A :: As, _, h => by
    obtain ⟨v, r, rfl, h1, h2⟩ := Ay.mp h
    rw [Aaa h2, QM.mp h1]; rfl
theorem Yu {K : PySem.W.Frag} : Qw K (fun xs H Q => ∃ c ns ds x t As v, xs = [x, .ref t] ∧ Rp K H (.exc c ns ds) x ∧ SqT K H t (As.map .ref) ∧ Km K c As v ∧ Q (.bl v) H) (Ra K) where
  mono := fun hq h => by
    unfold Ra at h ⊢
    split at h
    · exact let ⟨As, v, h0, h1, h2⟩ := h; ⟨As, v, h0, h1, hq _ h2⟩
    · exact h.elim
  ok := fun O H ds xs Q _ r h => by
    unfold Ra at h
    split at h
    · obtain ⟨As, v, rfl, h1, h2⟩ := h
      obtain ⟨x, xr, rfl, r1, r2⟩ := Ay.mp r
      obtain ⟨y, yr, rfl, r3, r4⟩ := Ay.mp r2
      obtain ⟨t, ys, rfl, q1, q2⟩ := Ds.mp r3
      rw [Bs.mp r4]
      rw [Aaa q2] at q1
      exact ⟨_, _, _, x, t, As, v, rfl, r1.mono Bh, Bh.seqT q1, h1, h2 _ H (Same.refl H) (BX.mpr rfl)⟩
    · exact h.elim
theorem Aeo {p : Pos} (hm : X.mg "isinstance" = none) (ha : DA X [a, b] tl) (hg : Gl X "isinstance" := by rfl) (hv : bootBuiltins "isinstance" = some (.builtin "isinstance") := by rfl) (he : starEach [a, b] X.env = (false, eval a X.env) :: starEach [b] X.env := by rfl)
    (hpl : (backTo pos (starEach [b] X.env)).any (·.1) = false := by rfl) : DE X (.Call (.Name "isinstance" p) [a, b] [] pos) (dCB (Z4 X.K) tl) := Oc YD AcV hg hm hv ha (he := he) (hpl := hpl)
theorem Vy {p : Pos} (hm : X.mg "isinstance" = none) (ha : DA X [a, b] tl) (hg : Gl X "isinstance" := by rfl) (hv : bootBuiltins "isinstance" = some (.builtin "isinstance") := by rfl) (he : starEach [a, b] X.env = (false, eval a X.env) :: starEach [b] X.env := by rfl)
    (hpl : (backTo pos (starEach [b] X.env)).any (·.1) = false := by rfl) : DE X (.Call (.Name "isinstance" p) [a, b] [] pos) (dCB (Ra X.K) tl) := Oc Xe Yu hg hm hv ha (he := he) (hpl := hpl)
theorem Dj {x : Str} {A : Addr} {pos : Pos} (hm : X.mg x = some (.ref A)) (hg : Gl X x := by rfl) (hd : (x == ("__debug__" : Str)) = false := by decide) : DE X (.Name x pos) (dC (.fn A)) := KR (v := .ref A) hg hm rfl (fun _ => QM.mpr rfl) hd
theorem XC.value {K : PySem.W.Frag} {C U : Addr} (c : XC K C U) : PySem.W.kitOne K (.ref C) (.type "ValueError") = some true := by
  unfold PySem.W.kitOne
  rw [if_neg (by simp)]
  show (if PySem.W.kitMeta "ValueError" = true then PySem.W.mroIn K C (.type "ValueError") else none) = some true
  rw [if_pos (by decide +kernel), c.sub]
  simp
theorem Aaz : Ig X (.builtin "isinstance") (fun xs H Q => ∃ c ns ds x, xs = [x, .ty "ValueError"] ∧ Rp X.K H (.exc c ns ds) x ∧ Q (.bl true) H) := by
  intro pins s σ H xs us Q I r ⟨c, ns, ds, x, e, rp, q⟩
  subst e
  obtain ⟨u, u2, rfl, r1, r2⟩ := vals2 r
  cases (show u2 = .type "ValueError" from r2)
  obtain ⟨a, C, U, dx, vs, rfl, h1, xc, h2, h3, _, _⟩ := Ho.mp rp
  cases (show u = .ref a from r1)
  obtain ⟨ox, od, mA, J, _, _⟩ := XC.inst I h2 h3
  exact PySem.W.kia_one (AfR xc) I.kIn ⟨ox, od, J⟩ xc.value (fun z => nomatch z) fun tk => ⟨.bl _, H, I.tok tk, rfl, q⟩
noncomputable def Ahi (ta : DTE) : DTE := fun ρ Q => ta ρ fun d => match d with
  | .exc _ _ _ => Q (.bl true)
  | _ => False
theorem Afp {p p2 : Pos} (hm : X.mg "isinstance" = none) (hmT : X.mg "ValueError" = none) (ha : DE X a ta) (hg : Gl X "isinstance" := by rfl) (hgT : Gl X "ValueError" := by rfl) (hv : bootBuiltins "isinstance" = some (.builtin "isinstance") := by rfl)
    (hvT : bootBuiltins "ValueError" = some (.type "ValueError") := by rfl)
    (hs1 : starEach [a, .Name "ValueError" p2] X.env = (false, eval a X.env) :: starEach [.Name "ValueError" p2] X.env := by rfl) (hs2 : starEach [.Name "ValueError" p2] X.env = (false, eval (.Name "ValueError" p2) X.env) :: starEach [] X.env := by rfl)
    (hpl : (backTo pos (starEach [.Name "ValueError" p2] X.env)).any (·.1) = false := by rfl) : DE X (.Call (.Name "isinstance" p) [a, .Name "ValueError" p2] [] pos) (Ahi ta) where
  mono := fun hq h => ha.mono (fun d h => by
    split at h
    · exact hq _ h
    · exact h.elim) h
  pe := (Le Aaz hg hm hv (GF ha.pe (GF (U3 (v := .ty "ValueError") hgT hmT hvT rfl (by decide) (by decide)) O6 hs2) hs1) (he := hs1) (hpl := hpl)).imp fun σ H Q ⟨B, F, O, ρ, R, h⟩ =>
    ⟨B, F, O, ρ, R, ha.mono (fun d h v H1 s1 r1 => by
      split at h
      · exact ⟨_, _, _, v, rfl, r1.mono Bh, h _ H1 s1 (BX.mpr rfl)⟩
      · exact h.elim) h⟩
noncomputable def AhC (K : PySem.W.Frag) (ta : TE) (f : Str) : TE := fun σ H Q => ta σ H fun x H1 => ∃ a C U dx fs v, x = .ref a ∧ XC K C U ∧ PySem.W.findIn K (.ref C) f = some none ∧ H1 a = some (.ext (exO a C dx)) ∧ H1 dx = some (.xd fs) ∧ fs.lookup f = some v ∧ Q v H1
theorem Abr {f : Str} {ta : TE} (he : PE X e ta) (hb : attributeBase e f X.env (eval e X.env) = eval e X.env := by rfl) : PE X (.Attribute e f pos) (AhC X.K ta f) := by
  intro pins s σ H Q I h
  refine Wh hb (thn (he pins s σ H _ I h) fun u s1 ⟨x, H1, I1, rx, a, C, U, dx, fs, v, ex, xc, nf, h1, h2, l, q⟩ => ?_)
  subst ex
  obtain rfl : u = Value.ref a := rx
  obtain ⟨ox, od, mA, J, lk, r⟩ := XC.inst I1 h1 h2
  obtain ⟨cd, hc, _, hd⟩ := xc.cls
  have rf := r f
  rw [l] at rf
  obtain ⟨y, e1, e2⟩ := J5.some_of rf
  exact Ako I1.kIn xc J (PySem.W.findObj_own (by unfold PySem.W.hasDictIn; rw [hc]; exact hd) nf rfl (by rw [lk, e1])) (NP e2) ⟨v, H1, I1.tok _, e2, q⟩
theorem zip_get {K : PySem.W.Frag} {H : Hp} {f : Str} {d : Dt} : ∀ {ns : List Str} {ds : List Dt} {vs : List V}, RpL K H ds vs → (ns.zip ds).lookup f = some d → ∃ v, (ns.zip vs).lookup f = some v ∧ Rp K H d v
  | [], _, _, _, h => by simp at h
  | _ :: _, [], _, _, h => by simp at h
  | n :: ns, x :: ds, _, r, h => by
    obtain ⟨v, vr, rfl, r1, r2⟩ := Ay.mp r
    rw [List.zip_cons_cons] at h ⊢
    by_cases q : f = n
    · have hb : (f == n) = true := beq_iff_eq.mpr q
      simp only [List.lookup, hb] at h ⊢
      cases h; exact ⟨v, rfl, r1⟩
    · have hb : (f == n) = false := beq_eq_false_iff_ne.mpr q
      simp only [List.lookup, hb] at h ⊢
      exact zip_get r2 h
noncomputable def AdD (K : PySem.W.Frag) (te : DTE) (f : Str) : DTE := fun ρ Q => te ρ fun d => match d with
  | .exc c ns ds => Hg K c f ∧ ∃ v, (ns.zip ds).lookup f = some v ∧ Q v
  | _ => False
theorem Ab8 {f : Str} (h : DE X e te) (hb : attributeBase e f X.env (eval e X.env) = eval e X.env := by rfl) : DE X (.Attribute e f pos) (AdD X.K te f) where
  mono := fun hq z => h.mono (fun d z => by
    split at z
    · exact let ⟨a, v, b, c⟩ := z; ⟨a, v, b, hq _ c⟩
    · exact z.elim) z
  pe := (Abr h.pe hb).imp fun σ H Q ⟨B, F, O, ρ, R, z⟩ => ⟨B, F, O, ρ, R, h.mono (fun d z v H1 s1 r1 => by
    split at z
    · obtain ⟨na, y, ly, q⟩ := z
      obtain ⟨a, C, U, dx, vs, rfl, h1, xc, h2, h3, _, h5⟩ := Ho.mp r1
      obtain ⟨v, lv, rv⟩ := zip_get h5 ly
      exact ⟨a, C, U, dx, _, v, rfl, xc, na C h1, Bh _ _ h2, Bh _ _ h3, lv, q v H1 s1 rv⟩
    · exact z.elim) z⟩
noncomputable def AdF (t : Gz) : DTS := fun D ρ => t ⟨D, fun _ _ => False⟩ ρ
theorem AbL {st : Stmt} {t : Gz} (h : DSX X st t) : DS X st (AdF t) where
  mono := fun {ρ D D'} hd z => h.mono (D := ⟨D, fun _ _ => False⟩) ⟨hd, fun _ _ q => q⟩ z
  ps := h.ps.imp fun D σ H ⟨B, F, O, ρ, R, z⟩ => ⟨B, F, O, ρ, R, h.mono (D := ⟨lD X.K B F D, fun _ _ => False⟩) ⟨⟨fun _ q => q, fun _ q => q, fun _ q => q, fun _ q => q⟩, fun _ _ q => q.elim⟩ z⟩
end
end L2
namespace L2
open PySem PySem.Spec PyProof.Rows PySem.SeqAt
structure XRT (K : PySem.W.Frag) (mg : Str → Option Value) (c : Str) (ns : List Str) (qual : Str) (st : Stmt) (C U fI : Addr) (fd : FuncData) (ps : List Str) : Prop where
  at_ : PySem.W.nsIn K mainGlobals c = some (some (.ref C))
  gl : mg c = some (.ref C)
  kp : PySem.W.keepIn K (.ref C) = true
  xc : XC K C U
  hi : PySem.W.findIn K (.ref C) "__init__" = some (some (.ref fI))
  hf : PySem.W.typeIn K (.ref fI) = some (.type "function")
  bd : Binds K fd ps []
  ln : ps.length = ns.length + 1
  fn : Fun K "__init__" qual st fI fd
  tk : ∀ f ∈ ns, PySem.W.takerIn K C f = some none
theorem XRT.mk1 {P : Program} {w : World} {K : PySem.W.Frag} {mg : Str → Option Value} {base : Heap} {k : Nat} {c qual : Str} {ns : List Str} {st : Stmt} {C U fI : Addr} {fd : FuncData} {ps : List Str} (R : XRT K mg c ns qual st C U fI fd ps)
    (h : Dl P w K mg base CX0 k fI fd ps (Adu C ns)) : XR P w K mg base k c ns C U fI fd ps := ⟨R.at_, R.gl, R.kp, R.xc, R.hi, R.hf, R.bd, R.ln, h⟩
section
variable {K : PySem.W.Frag} {mg : Str → Option Value} {c T f : Str} {C U A : Addr} {cd : ClassData}
theorem DK.self (h : PySem.W.nsIn K mainGlobals c = some (some (.ref C))) : DK K c C true := fun C' e => by
  rw [h] at e; cases e
  unfold PySem.W.kitOne
  rw [if_pos (by simp)]
theorem DK.no (h : PySem.W.nsIn K mainGlobals c = some (some (.ref C))) (x : XC K C U) (z : PySem.W.clsIn K A = some cd) (t : PySem.W.typeIn K (.ref A) = some (.type "type")) (m : PySem.W.mroIn K C (.ref A) = some false) : DK K c A false := fun C' e => by
  rw [h] at e; cases e
  have ne : C ≠ A := fun q => by
    subst q
    rw [x.sub] at m
    simp at m
  unfold PySem.W.kitOne
  rw [if_neg (by simp [ne])]
  show (if ((PySem.W.clsIn K A).isSome && PySem.W.typeIn K (.ref A) == some (.type "type")) = true then PySem.W.mroIn K C (.ref A) else none) = some false
  rw [if_pos (by rw [z, t]; simp), m]
theorem Under.mk (h : PySem.W.nsIn K mainGlobals c = some (some (.ref C))) (x : XC K C U) (m : mg T = some (.ref U)) : Under K mg c T := fun C' U' e y => by
  rw [h] at e; cases e
  rw [x.uniq y] at m
  exact m
theorem Hg.mk (h : PySem.W.nsIn K mainGlobals c = some (some (.ref C))) (n : PySem.W.findIn K (.ref C) f = some none) : Hg K c f := fun C' e => by
  rw [h] at e; cases e
  exact n
end
end L2
namespace L2
open PySem PySem.Spec PyProof.Rows PySem.SeqAt
theorem IW {O : List Addr} {H : Hp} {a : Addr} {o : HO} (h : a ∈ O) : mask O (upd H a o) = mask O H := by
  funext b
  by_cases q : b ∈ O
  · rw [CW q, CW q]
  · rw [Ba q, Ba q, Av (a := a) (fun z => q (by rw [z]; exact h))]
theorem AaL {F O : List Addr} {H : Hp} {p : Addr} {o : HO} (h : H p = none) : mask (F ++ (p :: O)) (upd H p o) = mask (F ++ O) H := by
  funext b
  by_cases e : b = p
  · subst e
    rw [CW (List.mem_append_right _ List.mem_cons_self)]
    by_cases q : b ∈ F ++ O
    · rw [CW q]
    · rw [Ba q, h]
  · by_cases q : b ∈ F ++ O
    · rw [CW q, CW]
      rcases List.mem_append.mp q with q | q
      · exact List.mem_append_left _ q
      · exact List.mem_append_right _ (List.mem_cons_of_mem _ q)
    · rw [Ba q, Ba, Av e]
      intro z
      rcases List.mem_append.mp z with z | z
      · exact q (List.mem_append_left _ z)
      · rcases List.mem_cons.mp z with z | z
        · exact e z
        · exact q (List.mem_append_right _ z)
section
variable {K : PySem.W.Frag} {B : Hp} {F O : List Addr} {H : Hp} {σ : St} {ρ : Bv}
theorem Rep.newOwn (r : Rep K B F O H σ ρ) (i : Nat) {p : Addr} {ds : List Dt} {xs : List V} (hp : H p = none) (h : RpL K (mask (F ++ O) H) ds xs) : Rep K B F (p :: O) (upd H p (.lst xs)) (σ.set i (some (.ref p))) (ρ.set i (some (.own ds))) := by
  have hl := r.len
  have nF : p ∉ F := fun z => r.th p (List.mem_append_left _ z) hp
  have nO : p ∉ O := fun z => r.th p (List.mem_append_right _ z) hp
  have em := AaL (F := F) (O := O) (o := .lst xs) hp
  refine ⟨by simpa using hl, r.base.trans (Same.upd hp), fun a h => ?_, fun a h e => ?_, fun j d q => ?_, fun j es q => ?_, fun j k es es' a h1 h2 h3 h4 => ?_, fun j ks q => ?_, fun j k es es' a h1 h2 h3 h4 => ?_⟩
  · rcases List.mem_cons.mp h with rfl | h
    · cases q : B a with
      | none => rfl
      | some o => rw [r.base a o q] at hp; cases hp
    · exact r.fr a h
  · by_cases z : a = p
    · rw [z, Bb] at e; cases e
    · rw [Av z] at e
      refine r.th a ?_ e
      rcases List.mem_append.mp h with h | h
      · exact List.mem_append_left _ h
      · exact List.mem_append_right _ ((List.mem_cons.mp h).resolve_left z)
  · by_cases hj : j = i
    · subst hj
      by_cases hk : j < ρ.length
      · rw [List.getElem?_set_self hk] at q; cases q
      · rw [List.getElem?_eq_none (by simpa using hk)] at q; cases q
    · rw [List.getElem?_set_ne (Ne.symm hj)] at q ⊢
      rw [em]; exact r.is j d q
  · by_cases hj : j = i
    · subst hj
      by_cases hk : j < ρ.length
      · rw [List.getElem?_set_self hk] at q; cases q
        exact ⟨p, xs, List.getElem?_set_self (by omega), List.mem_cons_self, nF, Bb, by rw [em]; exact h⟩
      · rw [List.getElem?_eq_none (by simpa using hk)] at q; cases q
    · rw [List.getElem?_set_ne (Ne.symm hj)] at q ⊢
      obtain ⟨a, ys, h1, h2, h3, h4, h5⟩ := r.own j es q
      exact ⟨a, ys, h1, List.mem_cons_of_mem _ h2, h3, by rw [Av (a := p) (fun z => nO (by rw [← z]; exact h2))]; exact h4, by rw [em]; exact h5⟩
  · have other : ∀ (m : Nat) es, m ≠ i → (ρ.set i (some (.own ds)))[m]? = some (some (.own es)) → (σ.set i (some (.ref p)))[m]? = some (some (.ref p)) → False := fun m es hm q1 q2 => by
      rw [List.getElem?_set_ne (Ne.symm hm)] at q1 q2
      obtain ⟨b, _, e1, e2, _⟩ := r.own m es q1
      rw [e1] at q2
      cases q2
      exact nO e2
    by_cases hj : j = i
    · by_cases hk : k = i
      · rw [hj, hk]
      · subst hj
        have : a = p := by
          rw [List.getElem?_set_self (by
            have := (List.getElem?_eq_some_iff.mp h1).1
            simp at this; omega)] at h3
          cases h3; rfl
        subst this
        exact (other k es' hk h2 h4).elim
    · by_cases hk : k = i
      · subst hk
        have : a = p := by
          rw [List.getElem?_set_self (by
            have := (List.getElem?_eq_some_iff.mp h2).1
            simp at this; omega)] at h4
          cases h4; rfl
        subst this
        exact (other j es hj h1 h3).elim
      · rw [List.getElem?_set_ne (Ne.symm hj)] at h1 h3
        rw [List.getElem?_set_ne (Ne.symm hk)] at h2 h4
        exact r.inj j k es es' a h1 h2 h3 h4
  · have hj : j ≠ i := fun z => by
      subst z
      by_cases hk : j < ρ.length
      · rw [List.getElem?_set_self hk] at q; cases q
      · rw [List.getElem?_eq_none (by simpa using hk)] at q; cases q
    rw [List.getElem?_set_ne (Ne.symm hj)] at q ⊢
    obtain ⟨a, ys, h1, h2, h3, h4, h5⟩ := r.tab j ks q
    exact ⟨a, ys, h1, List.mem_cons_of_mem _ h2, h3, by rw [Av (a := p) (fun z => nO (by rw [← z]; exact h2))]; exact h4, by rw [em]; exact h5⟩
  · have back : ∀ (m : Nat) ks, (ρ.set i (some (.own ds)))[m]? = some (some (.tab ks)) → m ≠ i ∧ ρ[m]? = some (some (.tab ks)) := fun m ks q => by
      have hm : m ≠ i := fun z => by
        subst z
        by_cases hk : m < ρ.length
        · rw [List.getElem?_set_self hk] at q; cases q
        · rw [List.getElem?_eq_none (by simpa using hk)] at q; cases q
      rw [List.getElem?_set_ne (Ne.symm hm)] at q; exact ⟨hm, q⟩
    obtain ⟨n1, q1⟩ := back j _ h1
    obtain ⟨n2, q2⟩ := back k _ h2
    rw [List.getElem?_set_ne (Ne.symm n1)] at h3
    rw [List.getElem?_set_ne (Ne.symm n2)] at h4
    exact r.tinj j k es es' a q1 q2 h3 h4
theorem Rep.putOwn (r : Rep K B F O H σ ρ) {i : Nat} {a : Addr} {ds es : List Dt} {xs ys : List V} (hi : ρ[i]? = some (some (.own ds))) (hs : σ[i]? = some (some (.ref a))) (ha : a ∈ O) (hH : H a = some (.lst xs)) (h : RpL K (mask (F ++ O) H) es ys) :
    Rep K B F O (upd H a (.lst ys)) σ (ρ.set i (some (.own es))) := by
  have em : mask (F ++ O) (upd H a (.lst ys)) = mask (F ++ O) H := IW (List.mem_append_right _ ha)
  have hk : i < ρ.length := (List.getElem?_eq_some_iff.mp hi).1
  refine ⟨by simpa using r.len, fun b o e => ?_, r.fr, fun b hb e => ?_, fun j d q => ?_, fun j ks q => ?_, fun j k es' es'' b h1 h2 h3 h4 => ?_, fun j ks q => ?_, fun j k es' es'' b h1 h2 h3 h4 => ?_⟩
  · rw [Av fun z => by rw [z, r.fr a ha] at e; cases e]; exact r.base b o e
  · by_cases z : b = a
    · rw [z, Bb] at e; cases e
    · rw [Av z] at e; exact r.th b hb e
  · have hj : j ≠ i := fun z => by subst z; rw [List.getElem?_set_self hk] at q; cases q
    rw [List.getElem?_set_ne (Ne.symm hj)] at q
    rw [em]; exact r.is j d q
  · by_cases hj : j = i
    · subst hj
      rw [List.getElem?_set_self hk] at q; cases q
      obtain ⟨b, _, e1, e2, e3, _⟩ := r.own j ds hi
      rw [hs] at e1; cases e1
      exact ⟨a, ys, hs, ha, e3, Bb, by rw [em]; exact h⟩
    · rw [List.getElem?_set_ne (Ne.symm hj)] at q
      obtain ⟨b, zs, e1, e2, e3, e4, e5⟩ := r.own j ks q
      have nb : b ≠ a := fun z => by subst z; exact hj (r.inj j i ks ds b q hi e1 hs)
      exact ⟨b, zs, e1, e2, e3, by rw [Av nb]; exact e4, by rw [em]; exact e5⟩
  · have back : ∀ (m : Nat) ks, (ρ.set i (some (.own es)))[m]? = some (some (.own ks)) → ∃ ks', ρ[m]? = some (some (.own ks')) := fun m ks q => by
      by_cases hm : m = i
      · subst hm; exact ⟨ds, hi⟩
      · rw [List.getElem?_set_ne (Ne.symm hm)] at q; exact ⟨ks, q⟩
    obtain ⟨_, q1⟩ := back j es' h1
    obtain ⟨_, q2⟩ := back k es'' h2
    exact r.inj j k _ _ b q1 q2 h3 h4
  · have hj : j ≠ i := fun z => by subst z; rw [List.getElem?_set_self hk] at q; cases q
    rw [List.getElem?_set_ne (Ne.symm hj)] at q
    obtain ⟨b, zs, e1, e2, e3, e4, e5⟩ := r.tab j ks q
    have nb : b ≠ a := fun z => by rw [z, hH] at e4; cases e4
    exact ⟨b, zs, e1, e2, e3, by rw [Av nb]; exact e4, by rw [em]; exact e5⟩
  · have back : ∀ (m : Nat) ks, (ρ.set i (some (.own es)))[m]? = some (some (.tab ks)) → ρ[m]? = some (some (.tab ks)) := fun m ks q => by
      have hm : m ≠ i := fun z => by subst z; rw [List.getElem?_set_self hk] at q; cases q
      rw [List.getElem?_set_ne (Ne.symm hm)] at q; exact q
    exact r.tinj j k _ _ b (back j _ h1) (back k _ h2) h3 h4
theorem Rep.freeze (r : Rep K B F O H σ ρ) {i : Nat} {ds : List Dt} (hi : ρ[i]? = some (some (.own ds))) : ∃ O', Rep K B F O' H σ (ρ.set i (some (.is (.lst ds)))) := by
  obtain ⟨a, xs, h1, h2, h3, h4, h5⟩ := r.own i ds hi
  have hk : i < ρ.length := (List.getElem?_eq_some_iff.mp hi).1
  have sub : ∀ b ∈ F ++ O.filter (fun b => decide (b ≠ a)), b ∈ F ++ O := fun b hb => by
    rcases List.mem_append.mp hb with hb | hb
    · exact List.mem_append_left _ hb
    · exact List.mem_append_right _ (List.mem_filter.mp hb).1
  have na : a ∉ F ++ O.filter (fun b => decide (b ≠ a)) := fun z => by
    rcases List.mem_append.mp z with z | z
    · exact h3 z
    · exact of_decide_eq_true (List.mem_filter.mp z).2 rfl
  refine ⟨O.filter fun b => decide (b ≠ a), by simpa using r.len, r.base, fun b hb => r.fr b (List.mem_filter.mp hb).1, fun b hb => r.th b (sub b hb), fun j d q => ?_, fun j es q => ?_, fun j k es es' b q1 q2 q3 q4 => ?_, fun j ks q => ?_, fun j k es es' b q1 q2 q3 q4 => ?_⟩
  · by_cases hj : j = i
    · subst hj
      rw [List.getElem?_set_self hk] at q; cases q
      exact ⟨.ref a, h1, K8 ⟨a, xs, rfl, (by rw [Ba na]; exact h4), h5.mono (Fy sub)⟩⟩
    · rw [List.getElem?_set_ne (Ne.symm hj)] at q
      obtain ⟨v, e1, e2⟩ := r.is j d q
      exact ⟨v, e1, e2.mono (Fy sub)⟩
  · have hj : j ≠ i := fun z => by subst z; rw [List.getElem?_set_self hk] at q; cases q
    rw [List.getElem?_set_ne (Ne.symm hj)] at q
    obtain ⟨b, ys, e1, e2, e3, e4, e5⟩ := r.own j es q
    have nb : b ≠ a := fun z => by subst z; exact hj (r.inj j i es ds b q hi e1 h1)
    exact ⟨b, ys, e1, List.mem_filter.mpr ⟨e2, decide_eq_true nb⟩, e3, e4, e5.mono (Fy sub)⟩
  · have nj : ∀ (m : Nat) ks, (ρ.set i (some (.is (.lst ds))))[m]? = some (some (.own ks)) → ρ[m]? = some (some (.own ks)) := fun m ks q => by
      have hm : m ≠ i := fun z => by subst z; rw [List.getElem?_set_self hk] at q; cases q
      rw [List.getElem?_set_ne (Ne.symm hm)] at q; exact q
    exact r.inj j k es es' b (nj j es q1) (nj k es' q2) q3 q4
  · have hj : j ≠ i := fun z => by subst z; rw [List.getElem?_set_self hk] at q; cases q
    rw [List.getElem?_set_ne (Ne.symm hj)] at q
    obtain ⟨b, ys, e1, e2, e3, e4, e5⟩ := r.tab j ks q
    have nb : b ≠ a := fun z => by rw [z, h4] at e4; cases e4
    exact ⟨b, ys, e1, List.mem_filter.mpr ⟨e2, decide_eq_true nb⟩, e3, e4, e5.mono (Fy sub)⟩
  · have nj : ∀ (m : Nat) ks, (ρ.set i (some (.is (.lst ds))))[m]? = some (some (.tab ks)) → ρ[m]? = some (some (.tab ks)) := fun m ks q => by
      have hm : m ≠ i := fun z => by subst z; rw [List.getElem?_set_self hk] at q; cases q
      rw [List.getElem?_set_ne (Ne.symm hm)] at q; exact q
    exact r.tinj j k es es' b (nj j es q1) (nj k es' q2) q3 q4
end
section
variable {X : Cx} {a b c e : Expr} {es : List Expr} {st : Stmt} {ta tb te : DTE} {tl : DTA} {t : DTS} {pos : Pos}
noncomputable def Ah2 (i : Nat) (tl : DTA) : DTS := fun D ρ => tl ρ fun ds => ds.length ≤ sizeLine ∧ D.nx (ρ.set i (some (.own ds)))
theorem AdL (i : Nat) {x : Str} {pos' lp : Pos} (hN : X.N.Nodup) (ha : DA X es tl) (hi : X.N[i]? = some x := by rfl) (hx : Loc X.env.scope x := by first | exact Or.inl rfl | exact Or.inr rfl) (hs : swapsWith (.List es lp) (some (.Name x pos')) pos.line X.env = pure false := by rfl)
    (hf : X.fn x = true ∨ X.env.scope.names.lookup x = some .local := by first | exact .inl rfl | exact .inr rfl | assumption) : DS X (.Assign [.Name x pos'] (.List es lp) pos) (Ah2 i tl) where
  mono := fun hd h => ha.mono (fun ds ⟨h1, h2⟩ => ⟨h1, hd.nx _ h2⟩) h
  ps := (ZL hN hi hx (AaF ha.pa) hs hf).imp fun D σ H ⟨B, F, O, ρ, R, h⟩ => ⟨B, F, O, ρ, R, ha.mono (fun ds ⟨h1, h2⟩ vs H1 s1 r1 => ⟨by rw [r1.len]; exact h1, fun p hp => h2 (p :: O) _ _ ((R.same s1).newOwn i hp r1)⟩) h⟩
noncomputable def ownAt (ρ : Bv) (j : Nat) (k : List Dt → Prop) : Prop := match ρ[j]? with
  | some (some (.own ds)) => k ds
  | _ => False
theorem ownAt.mono {ρ : Bv} {j : Nat} {k k' : List Dt → Prop} (hk : ∀ ds, k ds → k' ds) (h : ownAt ρ j k) : ownAt ρ j k' := by
  unfold ownAt at h ⊢
  split at h
  · exact hk _ h
  · exact h.elim
theorem ownAt.get {ρ : Bv} {j : Nat} {k : List Dt → Prop} (h : ownAt ρ j k) : ∃ ds, ρ[j]? = some (some (.own ds)) ∧ k ds := by
  unfold ownAt at h
  split at h
  · rename_i ds e; exact ⟨ds, e, h⟩
  · exact h.elim
noncomputable def Ajv (j : Nat) (tb : DTE) : DTE := fun ρ Q => ownAt ρ j fun ds => tb ρ fun k => match k with
  | .int i => match ixL i ds with
    | some v => Q v
    | none => False
  | _ => False
noncomputable def Ahn (j : Nat) (te tb : DTE) : DTS := fun D ρ => te ρ fun d => ownAt ρ j fun ds => tb ρ fun k => match k with
  | .int i => (0 ≤ i ∧ i < ds.length) ∧ D.nx (ρ.set j (some (.own (ds.set i.toNat d))))
  | _ => False
noncomputable def Adt (j : Nat) (te : DTE) : DTS := fun D ρ => ownAt ρ j fun ds => te ρ fun d => ds.length < sizeLine ∧ D.nx (ρ.set j (some (.own (ds ++ [d]))))
theorem Aas (j : Nat) {x : Str} {px ap cp : Pos} (he : DE X e te) (hN : X.N[j]? = some x := by rfl) (hv : Vis X.env.scope x := by first | exact Or.inl rfl | exact Or.inr (Or.inl rfl) | exact Or.inr (Or.inr rfl)) (hd : (x == ("__debug__" : Str)) = false := by decide)
    (hcd : (x == ("__classdict__" : Str)) = false := by decide) (hbase : attributeBase (.Name x px) "append" X.env (eval (.Name x px) X.env) = eval (.Name x px) X.env := by rfl)
    (hfew : ((backTo cp (starEach [e] X.env)).all (fun x => !x.1) && (backToKw cp (keywordEach [] X.env)).all (fun x => x.1.isSome) && decide ([e].length + ([] : List Keyword).length + (if ([] : List Keyword).isEmpty then 0 else 1) < 30)) = true := by rfl)
    (hline : (ap.endLine == cp.line) = true := by rfl) (hst : starEach [e] X.env = (false, eval e X.env) :: starEach [] X.env := by rfl) (hplain : (backTo cp (starEach [] X.env)).any (·.1) = false := by rfl)
    (hs : swapsWith (.Call (.Attribute (.Name x px) "append" ap) [e] [] cp) none pos.line X.env = pure false := by rfl) : DS X (.Expr (.Call (.Attribute (.Name x px) "append" ap) [e] [] cp) pos) (Adt j te) where
  mono := fun hd h => h.mono fun ds h => he.mono (fun d h => ⟨h.1, hd.nx _ h.2⟩) h
  ps := (K4 (Aiy PySem.F.plainAttrs_list PySem.F.slot_list_append PySem.F.type_list_append NT (Jd hN hv hd hcd) (GF he.pe O6 hst) hbase hfew hline hst hplain) hs).imp fun D σ H ⟨B, F, O, ρ, R, h⟩ => by
    obtain ⟨ds, e1, h⟩ := h.get
    obtain ⟨a, xs, h1, h2, h3, h4, h5⟩ := R.own j ds e1
    refine ⟨_, h1, .inl ⟨rfl, _, SqL.of h4⟩, B, F, O, ρ, R, he.mono (fun d h v H1 s1 r1 => ?_) h⟩
    exact ⟨a, xs, v, rfl, rfl, s1 _ _ h4, by rw [h5.len]; exact h.1, h.2 O σ _ ((R.same s1).putOwn e1 h1 h2 (s1 _ _ h4) ((h5.mono s1.mask).append (.cons r1 .nil)))⟩
noncomputable def Ahc (j : Nat) (t : DTS) : DTS := fun D ρ => ownAt ρ j fun ds => t D (ρ.set j (some (.is (.lst ds))))
theorem Ad9 (j : Nat) (h : DS X st t) : DS X st (Ahc j t) where
  mono := fun hd z => z.mono fun ds z => h.mono hd z
  ps := h.ps.imp fun D σ H ⟨B, F, O, ρ, R, z⟩ => by
    obtain ⟨ds, e1, z⟩ := z.get
    obtain ⟨O', R'⟩ := R.freeze e1
    exact ⟨B, F, O', _, R', z⟩
noncomputable def AhB (j : Nat) : DTE := fun ρ Q => ownAt ρ j fun ds => Q (.int ds.length)
noncomputable def AhK : D2 := fun a b Q => match a with
  | .tup xs => match b with
    | .tup ys => (xs ≠ [] ∧ xs.length + ys.length ≤ sizeLine) ∧ Q (.tup (xs ++ ys))
    | _ => False
  | _ => False
end
end L2
namespace L2
open PySem PySem.Spec PyProof.Rows
section chain3
variable {X : Cx} {a b c e : Expr} {ta tb tc te : TE} {pos : Pos}
theorem Wz {op op' op2 : CmpOp} {r r' r2 : R2} (ho : OpR X (compareOp op) r) (ho' : OpR X (compareOp op') r') (ho2 : OpR X (compareOp op2) r2) (ha : PE X a ta) (hb : PE X b tb) (hc : PE X c tc) (he : PE X e te)
    (hm : lastMarks [op, op', op2] [b, c, e] = false := by with_unfolding_all rfl) : PT X (.Compare a [op, op', op2] [b, c, e] pos) (fun σ H Q => ta σ H fun x H1 => tb σ H1 fun y H2 => r x y H2 fun z H3 => ∃ k, z = .bl k ∧
      (if k = true then tc σ H3 fun w' H4 => r' y w' H4 fun z H5 => ∃ k, z = .bl k ∧ (if k = true then te σ H5 fun y' H6 => r2 w' y' H6 fun z H7 => ∃ k, z = .bl k ∧ Q k H7 else Q false H5) else Q false H3)) := by
  intro pins s σ H Q I h
  refine isTrue_chain (thn (ha pins s σ H _ I h) fun v s1 ⟨x, H1, I1, r1, q1⟩ => test_link (thn (hb pins s1 σ H1 _ I1 q1) fun u s2 ⟨y, H2, I2, r2, q2⟩ =>
    thn (ho pins s2 σ H2 x y v u _ I2 r1 r2 q2) fun d s3 ⟨z, H3, I3, r3, k, e, q3⟩ => ?_)) hm
  subst e
  cases r3
  refine wpAny_truthy_bool ?_
  cases k with
  | false => exact ite_ff ⟨H3, I3, q3⟩
  | true =>
    refine ite_tt (test_link (thn (hc pins s3 σ H3 _ I3 q3) fun w' s4 ⟨z', H4, I4, r4, q4⟩ => thn (ho' pins s4 σ H4 y z' u w' _ I4 r2 r4 q4) fun d' s5 ⟨z2, H5, I5, r5, k2, e2, q5⟩ => ?_))
    subst e2
    cases r5
    refine wpAny_truthy_bool ?_
    cases k2 with
    | false => exact ite_ff ⟨H5, I5, q5⟩
    | true =>
      refine ite_tt (test_last (thn (he pins s5 σ H5 _ I5 q5) fun w2 s6 ⟨z3, H6, I6, r6, q6⟩ => thn (ho2 pins s6 σ H6 z' z3 w' w2 _ I6 r4 r6 q6) fun d' s7 ⟨z4, H7, I7, r7, k3, e3, q7⟩ => ?_))
      subst e3
      cases r7
      exact wpAny_truthy_bool ⟨H7, I7, q7⟩
end chain3
noncomputable def V3 (t t' t2 : D2) (ta tb tc te : DTE) : DTT := fun ρ Q => ta ρ fun a => tb ρ fun b => t a b fun z => match z with
  | .bl k => if k = true then tc ρ fun c => t' b c fun z => match z with
    | .bl k => if k = true then te ρ fun e => t2 c e fun z => match z with
      | .bl k => Q k
      | _ => False
      else Q false
    | _ => False
    else Q false
  | _ => False
section
variable {X : Cx} {a b c e : Expr} {ta tb tc te : DTE} {pos : Pos}
theorem W3 {op op' op2 : CmpOp} {r r' r2 : R2} {t t' t2 : D2} (ho : OpR X (compareOp op) r) (ho' : OpR X (compareOp op') r') (ho2 : OpR X (compareOp op2) r2) (S : Gg X.K r t) (S' : Gg X.K r' t') (S2 : Gg X.K r2 t2) (ha : DE X a ta) (hb : DE X b tb) (hc : DE X c tc) (he : DE X e te)
    (hm : lastMarks [op, op', op2] [b, c, e] = false := by with_unfolding_all rfl) : DT X (.Compare a [op, op', op2] [b, c, e] pos) (V3 t t' t2 ta tb tc te) where
  mono := fun hq h => ha.mono (fun _ h => hb.mono (fun _ h => S.mono (fun z h => by
    split at h
    · rename_i k
      cases k with
      | true =>
        refine hc.mono (fun _ h => S'.mono (fun z h => ?_) h) h
        split at h
        · rename_i k
          cases k with
          | true =>
            refine he.mono (fun _ h => S2.mono (fun z h => ?_) h) h
            split at h
            · exact hq _ h
            · exact h.elim
          | false => exact hq _ h
        · exact h.elim
      | false => exact hq _ h
    · exact h.elim) h) h) h
  pt := (Wz ho ho' ho2 ha.pe hb.pe hc.pe he.pe hm).imp fun σ H Q ⟨B, F, O, ρ, R, h⟩ => by
    refine ⟨B, F, O, ρ, R, ha.mono (fun a h v H1 s1 r1 => ⟨B, F, O, ρ, R.same s1, hb.mono (fun b h u H2 s2 r2 => ?_) h⟩) h⟩
    refine S.ok _ H2 a b v u _ ((R.same s1).same s2).th (r1.mono s2.mask) r2 (S.mono (fun z h w H3 s3 r3 => ?_) h)
    split at h
    · rename_i k
      refine ⟨k, BX.mp r3, ?_⟩
      have s123 := (s1.trans s2).trans s3
      cases k with
      | false => exact h H3 s123
      | true =>
        refine ⟨B, F, O, ρ, R.same s123, hc.mono (fun c h y H4 s4 r4 => ?_) h⟩
        refine S'.ok _ H4 b c u y _ ((R.same s123).same s4).th ((r2.mono s3.mask).mono s4.mask) r4 (S'.mono (fun z h w H5 s5 r5 => ?_) h)
        split at h
        · rename_i k
          refine ⟨k, BX.mp r5, ?_⟩
          have s5' := (s123.trans s4).trans s5
          cases k with
          | false => exact h H5 s5'
          | true =>
            refine ⟨B, F, O, ρ, R.same s5', he.mono (fun e h y2 H6 s6 r6 => ?_) h⟩
            refine S2.ok _ H6 c e y y2 _ ((R.same s5').same s6).th ((r4.mono s5.mask).mono s6.mask) r6 (S2.mono (fun z h w H7 s7 r7 => ?_) h)
            split at h
            · exact ⟨_, BX.mp r7, h H7 ((s5'.trans s6).trans s7)⟩
            · exact h.elim
        · exact h.elim
    · exact h.elim
end
end L2
namespace L2
open PySem PySem.Spec PyProof.Rows PySem.W
theorem Mv {n : Int} : ∀ {ns : List Int}, n ∈ ns → WData.weight (.int n) ≤ WData.weightAll (ns.map WData.int)
  | [], h => nomatch h
  | m :: ns, h => by
    rw [List.map_cons, WData.weightAll]
    rcases List.mem_cons.mp h with e | e
    · subst e; omega
    · have := Mv e; omega
theorem AbK {ns : List Int} (h : WData.layableAll [WData.list (ns.map WData.int)] = true) : ∀ n ∈ ns, Bt 1048576 n := fun n hn => by
  have h1 : WData.weight (WData.list (ns.map WData.int)) ≤ 2 ^ 20 := by
    simp only [WData.layableAll, List.all_cons, List.all_nil, Bool.and_true, WData.layable, Bool.and_eq_true, decide_eq_true_eq] at h
    exact h.2
  rw [WData.weight] at h1
  have h2 := Mv hn
  rw [WData.weight] at h2
  refine intBits_le_iff.mp ?_
  have e : Builtin.Int.intBits n = if n == 0 then 0 else n.natAbs.log2 + 1 := rfl
  rw [e]
  omega
theorem OD {l : OpenLaw} {n : Nat} {q : Program} {loose : List Str} {XP : (Str → Option Value) → Heap → Prop} {YP : World → Heap → Prop} {d : DefRec}
    (hn : l.most = some n) (hdf : d.params.defaults = [])
    (call : ∀ (w : World) (s₀ s₁ : Shared) (mg mb : Str → Option Value) (fa : Addr) (o : Obj) (pm cd doc : Value) (a : Addr) (vs : List Value) (ns : List Int),
      Ground q loose [] XP w s₀ mg mb s₁.heap → YP w s₁.heap → mg d.name = some (.ref fa) →
      s₁.heap.get? a = some { cls := .type "list", data := .seq vs.toArray } → IntsAre vs ns → ns.length ≤ n → (∀ n ∈ ns, Bt 1048576 n) → s₁.gens = #[] →
      codeAny (model l.prog w) callerA (.call (.ref fa) ⟨[.ref a], []⟩) (fun r s' => r = .ok (.ret (.bool true)) ∧ OldK s₁.heap s'.heap ∧ s'.os = s₁.os ∧ AllBare s'.gens) s₁) :
    WalkO q loose XP YP l.row.toRowW d [] (fun f vs => PySem.call f vs) := by
  intro w s₀ s₁ mg mb G Y fa o pm cd doc dV kV ho hd hcd hD hmg hg args vals as hpre hlay hrd hwl hlo
  obtain rfl : dV = .none := Dflts.none hD hdf
  obtain rfl : kV = .none := Dflts.noKw hD
  obtain ⟨a, vs, ns, rfl, rfl, hobj, hints, hlen⟩ := Att.WM hn hpre hwl
  refine enter_call (codeAny_mono (call w s₀ s₁ mg mb fa o pm cd doc a vs ns G Y hmg hobj hints hlen (AbK hlay) hg) fun r s' hq => ?_)
  obtain ⟨rfl, h2, h3, h4⟩ := hq
  exact ⟨.inl ⟨.bool true, .bool true, [], rfl, fun _ => rfl, .bool true, Att.Xk l _, fun _ => ⟨List.Pairwise.nil, fun _ hm => (nomatch hm)⟩⟩, h2, h3, h4⟩
noncomputable def MN : DSp := spec (fun ns : List Int => [.lst (ns.map Dt.int)]) (fun ns => ns.length ≤ 63 ∧ ∀ n ∈ ns, Bt 1048576 n) fun _ d => d = .bl true
theorem RM {K : PySem.W.Frag} {H : Hp} {a : Addr} {ns : List Int} {E : XK} (hl : ns.length ≤ 63) (hb : ∀ n ∈ ns, Bt 1048576 n) (hS : SqL K H a (ns.map V.int)) : lSp K MN [.ref a] H (fun v _ => v = .bl true) E := by
  have h0 : ∀ a ∈ ([] : List Addr), H a ≠ none := fun a h => absurd h (by simp)
  refine ⟨[], [.lst (ns.map Dt.int)], h0, ?_, ns, rfl, ⟨hl, hb⟩, fun d e v H' _ r => ?_⟩
  · rw [Zd]
    exact RpL.cons (Acg hS (RpL.ints ns)) RpL.nil
  · subst e
    exact BX.mp r
theorem Zm {l : PySem.W.OpenLaw} {k : Nat} {q : Program} {loose : List Str} {XP : (Str → Option Value) → Heap → Prop} {YP : World → Heap → Prop} {d : DefRec} {K : Params → PySem.W.Frag} {x : Str}
    (hn : l.most = some 63) (hdf : d.params.defaults = []) (hr : CN k callerA)
    (hY : ∀ (w : World) (h : Heap), YP w h → (K w.params).In h)
    (F : ∀ (w : World) (mg : Str → Option Value) (fa : Addr) (h : Heap), (K w.params).In h → h.Ns mainGlobals mg → mg d.name = some (.ref fa) →
      ∃ fd : FuncData, (∀ (s : Shared) (u : Value), BindsTo s fd ⟨[u], []⟩ [(x, u)]) ∧
        ∀ base : Heap, (K w.params).In base → base.Ns mainGlobals mg → Dl l.prog w (K w.params) mg base CX0 k fa fd [x] (lSp (K w.params) MN)) :
    PySem.W.WalkO q loose XP YP l.row.toRowW d [] (fun f vs => PySem.call f vs) := by
  refine OD hn hdf fun w s₀ s₁ mg mb fa o pm cd doc a vs ns G Y hmg hobj hints hlen hlong hg => ?_
  have KX := hY w _ Y
  obtain ⟨fd, hb, hF⟩ := F w mg fa _ KX G.T.g hmg
  exact AaE KX G.T.g G.T.b G.T.builtins G.T.nolimit hg hobj hints (Nat.le_trans hlen (by decide)) hr hF hb (fun H hO hS => RM hlen hlong hS) fun _ _ _ z => z
end L2
namespace L2
open PySem PySem.Spec PyProof.Rows
variable {X : Cx} {a b : Expr} {ta tb : DTE} {pos : Pos}
theorem Vf {K : PySem.W.Frag} {H : Hp} : ∀ {ns : List Int} {xs : List V}, RpL K H (ns.map Dt.int) xs → xs = ns.map V.int
  | [], _, h => by
    obtain rfl := Bs.mp h
    rfl
  | n :: ns, _, h => by
    obtain ⟨v, r, rfl, r2, r3⟩ := Ay.mp h
    rw [Bd] at r2
    subst r2
    rw [Vf r3]
    rfl
theorem Ru {i : Int} : ∀ {ns : List Int}, inV (.int i) (ns.map V.int) = decide (i ∈ ns)
  | [] => rfl
  | n :: ns => by
    have ih := Ru (i := i) (ns := ns)
    unfold inV at *
    rw [List.map_cons, List.any_cons, ih]
    show (decide (n = i) || decide (i ∈ ns)) = _
    rw [← Bool.decide_or]
    refine decide_eq_decide.mpr ?_
    rw [List.mem_cons]
    exact or_congr_left eq_comm
noncomputable def dIn : D2 := fun a b Q => ∃ (i : Int) (ns : List Int), a = .int i ∧ b = .lst (ns.map Dt.int) ∧ Q (.bl (decide (i ∈ ns)))
theorem AfW {K : PySem.W.Frag} : Gg K (rIn K false) dIn := ⟨fun hq ⟨i, ns, e1, e2, h⟩ => ⟨i, ns, e1, e2, hq _ h⟩, fun O H a b x y Q _ ra rb ⟨i, ns, e1, e2, h⟩ => by
  subst e1 e2
  rw [Bd] at ra
  subst ra
  obtain ⟨p, xs, rfl, hs, hl⟩ := Ec (rb.mono Bh)
  obtain rfl := Vf hl
  refine ⟨p, _, rfl, .inl hs, rfl, ?_, ?_⟩
  · rw [List.all_eq_true]
    intro v hv
    obtain ⟨n, _, rfl⟩ := List.mem_map.mp hv
    rfl
  · show Q (.bl (inV _ _)) H
    rw [Ru]
    exact h _ H (Same.refl H) (BX.mpr rfl)⟩
theorem Ajc (hu : X.A.units + 64 < cLine) (ha : DE X a ta) (hb : DE X b tb) (hm : behindInMarks .In b = false := by with_unfolding_all rfl) : DT X (.Compare a [.In] [b] pos) (Mq (dOp dIn ta tb)) := J8 WR AfW ha hb hm
noncomputable def AiF (i : Nat) (te : DTE) : DTS := fun D ρ => match ρ[i]? with
  | some (some (.is (.int a))) => te ρ fun d => match d with
    | .int b => D.nx (ρ.set i (some (.is (.int (a + b)))))
    | _ => False
  | _ => False
noncomputable def Ail (i j k : Nat) (tl : DTA) : DTS := fun D ρ => tl ρ fun ds => match ds with
  | [d, e, f] => D.nx (((ρ.set i (some (.is d))).set j (some (.is e))).set k (some (.is f)))
  | _ => False
end L2
namespace L2
open PySem PySem.Spec PyProof.Rows PySem.SeqAt
mutual
noncomputable def Dt.noL : Nat → Dt → Bool
  | _, .non => true
  | _, .bl _ => true
  | _, .int _ => true
  | _, .str _ => true
  | 0, _ => false
  | n + 1, .tup ds => Dt.noLs n ds
  | _, _ => false
noncomputable def Dt.noLs : Nat → List Dt → Bool
  | _, [] => true
  | n, d :: ds => Dt.noL n d && Dt.noLs n ds
end
theorem AfN {n : Nat} {d : Dt} {r : List Dt} : Dt.noLs n (d :: r) = (Dt.noL n d && Dt.noLs n r) := by rw [Dt.noLs]
theorem AiI {n : Nat} {r : List Dt} : Dt.noL (n + 1) (.tup r) = Dt.noLs n r := by rw [Dt.noL]
noncomputable def Keep (M M' : Hp) : Prop := ∀ b o, M b = some o → (∀ xs, o ≠ .lst xs) → M' b = some o
mutual
theorem Aep {K : PySem.W.Frag} {M M' : Hp} (k : Keep M M') : ∀ (n : Nat) (d : Dt) (v : V), d.noL n = true → Rp K M d v → Rp K M' d v
  | _, .non, _, _, r => by rw [GR] at r ⊢; exact r
  | _, .bl _, _, _, r => by rw [BX] at r ⊢; exact r
  | _, .int _, _, _, r => by rw [Bd] at r ⊢; exact r
  | _, .str _, _, _, r => by rw [J3] at r ⊢; exact r
  | 0, .tup _, _, h, _ => by simp [Dt.noL] at h
  | n + 1, .tup ds, _, h, r => by
    rw [AiI] at h
    obtain ⟨a, xs, e, q, r⟩ := Ds.mp r
    refine Ds.mpr ⟨a, xs, e, ?_, Vl k n ds xs h r⟩
    rcases q with (q | ⟨o, q⟩) | q
    · exact .inl (.inl (k _ _ q fun _ => by simp))
    · exact .inl (.inr ⟨o, k _ _ q fun _ => by simp⟩)
    · exact .inr q
  | 0, .lst _, _, h, _ => by simp [Dt.noL] at h
  | _ + 1, .lst _, _, h, _ => by simp [Dt.noL] at h
  | 0, .fn _, _, h, _ => by simp [Dt.noL] at h
  | _ + 1, .fn _, _, h, _ => by simp [Dt.noL] at h
  | 0, .exc _ _ _, _, h, _ => by simp [Dt.noL] at h
  | _ + 1, .exc _ _ _, _, h, _ => by simp [Dt.noL] at h
  | 0, .obj _ _ _, _, h, _ => by simp [Dt.noL] at h
  | _ + 1, .obj _ _ _, _, h, _ => by simp [Dt.noL] at h
theorem Vl {K : PySem.W.Frag} {M M' : Hp} (k : Keep M M') : ∀ (n : Nat) (ds : List Dt) (vs : List V), Dt.noLs n ds = true → RpL K M ds vs → RpL K M' ds vs
  | _, [], _, _, r => by rw [Bs] at r ⊢; exact r
  | n, d :: ds, _, h, r => by
    rw [AfN, Bool.and_eq_true] at h
    obtain ⟨v, w, rfl, r1, r2⟩ := Ay.mp r
    exact Ay.mpr ⟨v, w, rfl, Aep k n d v h.1 r1, Vl k n ds w h.2 r2⟩
end
noncomputable def AhX : Option HO → Bool
  | some (.lst _) => true
  | _ => false
noncomputable def lists (H : Hp) (n : Nat) : List Addr := (List.range n).filter fun a => AhX (H a)
section
variable {X : Cx} {a b c e : Expr} {es : List Expr} {st : Stmt} {ta tb te : DTE} {tl : DTA} {tA : DTT} {t : DTS} {pos : Pos}
noncomputable def Aez (i : Nat) (sp : DSp) (tl : DTA) : DTS := fun D ρ => tl ρ fun ds => Dt.noLs 4 ds = true ∧ sp ds fun d => ∃ ks, d = .lst ks ∧ (∃ r, Dt.tup r ∈ ks) ∧ Dt.noLs 4 ks = true ∧ D.nx (ρ.set i (some (.own ks)))
noncomputable def AeT (j : Nat) (t : DTT) : DTT := fun ρ Q => ownAt ρ j fun ds => t (ρ.set j (some (.is (.lst ds)))) Q
noncomputable def AfP (j : Nat) : DTE := fun ρ Q => ownAt ρ j fun ds => Q (.lst ds)
end
end L2
namespace L2
open PySem PySem.Spec PyProof.Rows PySem.W PySem.Builtin PySem.Builtin.ObjectAttr
section
variable {prog : Program} {w : World} {A : Around} {E : Value → Shared → Prop} {s : Shared} {K : PySem.W.Frag} {C U x dx : Addr} {name : Str} {v : Value}
end
section
variable {X : Cx} {pins : List (Addr × Obj)} {σ : St} {H : Hp} {s : Shared} {h' : Heap} {a dx C U f fI : Addr}
end
end L2
namespace L2
open PySem PySem.Spec PyProof.Rows PySem.SeqAt
noncomputable abbrev Ae5 := Bv → (List Dt → Prop) → (Dt → Prop) → Prop
section
variable {X : Cx} {e : Expr} {es : List Expr} {te : Iz} {tl : DTA} {tx : Ae5} {pos : Pos}
noncomputable def Af0 (te : Iz) (tl : DTA) : Ae5 := fun ρ Q E => te ρ (fun d => tl ρ fun ds => Q (d :: ds)) E
noncomputable def AeE (sp : DSp) (tx : Ae5) : Iz := fun ρ Q E => tx ρ (fun ds => sp ds Q) E
end
end L2
namespace L2
open PySem PySem.Spec PyProof.Rows
section
variable {prog : Program} {w : World} {A : Around} {I S : Addr} {fp wr : List Addr} {n : Nat} {P : Nat → Value → Prop} {St : Nat → Heap → Prop} {bt : Nat → Nat → Bool} {R : Result → Shared → Prop}
noncomputable def JC (wr : List Addr) (S : Addr) (h h' : Heap) : Prop := ∀ b o, b ∉ wr → b ≠ S → h.get? b = some o → h'.get? b = some o
noncomputable def RQ (prog : Program) (w : World) (A : Around) (wr : List Addr) (S : Addr) (h : Heap) (P : Nat → Value → Prop) (bt : Nat → Nat → Bool) : Prop :=
  ∀ (i j : Nat) (x y : Value) (s : Shared) (Q : Value → Shared → Prop) (E : Value → Shared → Prop), JC wr S h s.heap → P i x → P j y → Q (.bool (bt i j)) s → wpAny (model prog w) A (richCompare .Lt x y) Q E s
theorem T6 : (toString "min" ++ toString ".loop" : String) = "min.loop" := by decide
theorem R7 {h0 : Heap} (W : Walks prog w A.in1 I fp wr n P St) (less : RQ prog w A.in1 wr S h0 P bt) (off : S ∉ fp) :
    ∀ (left at' : Nat) (s : Shared) (best : Value) (c : Nat), n = at' + 1 + left → St (at' + 1) s.heap → P (argBest bt at') best → JC wr S h0 s.heap →
      s.heap.get? S = some ⟨.type "list", none, .seq #[best, best] c, #[]⟩ →
      (∀ v h' tk, P (argBest bt (n - 1)) v → JC wr S s.heap h' → R (.ok (.ret v)) { s with heap := h', toks := tk }) →
      codeAny (model prog w) A (.builtin "min.loop" ⟨[.ref I, .none, .ref S], []⟩) R s := by
  have off' : S ∉ wr := fun z => off (W.sub _ z)
  have nm := T6
  intro left
  induction left with
  | zero =>
    intro at' s best c hn st hb hk hS fin
    have e : at' + 1 = n := by omega
    refine codeAny_builtin F.entry_min_loop ?_; rw [Around.under_plainId F.plain_min_loop _]; show wpAny _ A.in1 (seqItems? (.ref S) >>= _) _ _ s
    refine wpAny_bind (wpAny_seqItems hS rfl ?_); show wpAny _ A.in1 (tryCatch (pyNext (.ref I)) _ >>= _) _ _ s
    refine wpAny_bind (wpAny_tryCatch (W.done s _ _ (e ▸ st) fun h1 tk k1 => ?_))
    show wpAny _ A.in1 (updateSeq S (fun _ => #[]) >>= _) _ _ _; refine wpAny_bind (wpAny_updateSeq (k1 S _ off' hS) rfl (wpAny_bind (wpAny_letGo (wpAny_pure ?_))))
    exact fin best _ tk (by rw [← e]; exact hb) fun b o nb ns eo => (Heap.get?_update_other _ _ (Ne.symm ns)).trans (k1 b o nb eo)
  | succ left ih =>
    intro at' s best c hn st hb hk hS fin
    refine codeAny_builtin F.entry_min_loop ?_; rw [Around.under_plainId F.plain_min_loop _]; show wpAny _ A.in1 (seqItems? (.ref S) >>= _) _ _ s
    refine wpAny_bind (wpAny_seqItems hS rfl ?_); show wpAny _ A.in1 (tryCatch (pyNext (.ref I)) _ >>= _) _ _ s
    refine wpAny_bind (wpAny_tryCatch (W.item (at' + 1) s _ _ (by omega) st fun v h1 tk hv st1 k1 => ?_))
    have hS1 := k1 S _ off' hS
    have hk1 : JC wr S h0 h1 := fun b o nb ns eo => k1 b o nb (hk b o nb ns eo)
    show wpAny _ A.in1 (tryCatch (holding [v, v] (richCompare .Lt v best >>= _)) _ >>= _) _ _ _
    refine wpAny_bind (wpAny_tryCatch (wpAny_holding (wpAny_bind (less (at' + 1) (argBest bt at') v best _ _ _ hk1 hv hb ?_))))
    refine wpAny_bind (wpAny_holding (wpAny_truthy_bool ?_)); refine wpAny_bind (wpAny_letGo (wpAny_pure ?_))
    cases hbt : bt (at' + 1) (argBest bt at') with
    | true =>
      simp only [if_true]
      refine wpAny_bind (wpAny_updateSeq hS1 rfl (wpAny_bind (wpAny_letGo ?_)))
      rw [nm]
      refine wpAny_pure ⟨plainId_quiet F.plain_min_loop _, ih (at' + 1) _ v _ (by omega) (W.frame _ _ _ st1 fun b hbf o eo => (Heap.get?_update_other _ _ (fun z : S = b => off (z ▸ hbf))).trans eo) (by simp only [argBest, hbt, if_true]; exact hv) (fun b o nb ns eo => (Heap.get?_update_other _ _ (Ne.symm ns)).trans (hk1 b o nb ns eo)) (Heap.get?_update_self _ hS1 rfl) fun v' h2 tk2 hv' k2 => ?_⟩
      exact fin v' h2 tk2 hv' fun b o nb ns eo => k2 b o nb ns ((Heap.get?_update_other _ _ (Ne.symm ns)).trans (k1 b o nb eo))
    | false =>
      simp only [Bool.false_eq_true, if_false]
      refine wpAny_bind (wpAny_letGo ?_)
      rw [nm]
      refine wpAny_pure ⟨plainId_quiet F.plain_min_loop _, ih (at' + 1) _ best c (by omega) st1 (by simp only [argBest, hbt, Bool.false_eq_true, if_false]; exact hb) hk1 hS1 fun v' h2 tk2 hv' k2 => ?_⟩
      exact fin v' h2 tk2 hv' fun b o nb ns eo => k2 b o nb ns (k1 b o nb eo)
theorem Q6 {s : Shared} {c : Nat} (W : Walks prog w A.in1 I fp wr n P St) (less : RQ prog w A.in1 wr S s.heap P bt) (off : S ∉ fp) (n0 : 0 < n) (st : St 0 s.heap) (hS : s.heap.get? S = some ⟨.type "list", none, .seq #[] c, #[]⟩)
    (fin : ∀ v h' tk, P (argBest bt (n - 1)) v → JC wr S s.heap h' → R (.ok (.ret v)) { s with heap := h', toks := tk }) : codeAny (model prog w) A (.builtin "min.loop" ⟨[.ref I, .none, .ref S], []⟩) R s := by
  have off' : S ∉ wr := fun z => off (W.sub _ z)
  refine codeAny_builtin F.entry_min_loop ?_; rw [Around.under_plainId F.plain_min_loop _]; show wpAny _ A.in1 (seqItems? (.ref S) >>= _) _ _ s
  refine wpAny_bind (wpAny_seqItems hS rfl ?_); show wpAny _ A.in1 (tryCatch (pyNext (.ref I)) _ >>= _) _ _ s
  refine wpAny_bind (wpAny_tryCatch (W.item 0 s _ _ n0 st fun v h1 tk hv st1 k1 => ?_))
  have hS1 := k1 S _ off' hS
  show wpAny _ A.in1 (updateSeq S (fun _ => #[v, v]) >>= _) _ _ _; refine wpAny_bind (wpAny_updateSeq hS1 rfl ?_); rw [T6]
  refine wpAny_pure ⟨plainId_quiet F.plain_min_loop _, R7 (h0 := s.heap) W less off (n - 1) 0 _ v _ (by omega) (W.frame _ _ _ st1 fun b hbf o eo => (Heap.get?_update_other _ _ (fun z : S = b => off (z ▸ hbf))).trans eo) hv (fun b o nb ns eo => (Heap.get?_update_other _ _ (Ne.symm ns)).trans (k1 b o nb eo)) (Heap.get?_update_self _ hS1 rfl) fun v' h2 tk2 hv' k2 => ?_⟩
  exact fin v' h2 tk2 hv' fun b o nb ns eo => k2 b o nb ns ((Heap.get?_update_other _ _ (Ne.symm ns)).trans (k1 b o nb eo))
theorem Q7 {E : Value → Shared → Prop} {s : Shared} {x : Value} {Q : Value → Shared → Prop}
    (h : wpAny (model prog w) A.in1 (pyIter x) (fun it s2 => ∃ I fp wr n P St bt, it = .ref I ∧ Walks prog w A.in1 I fp wr n P St ∧ St 0 s2.heap ∧ (∀ b ∈ fp, b < s2.heap.objs.size) ∧ 0 < n ∧
      (∀ h1 : Heap, (∀ b o, s2.heap.get? b = some o → h1.get? b = some o) → RQ prog w A.in1 wr s2.heap.objs.size h1 P bt) ∧
      ∀ v h' tk, P (argBest bt (n - 1)) v → (∀ b o, b ∉ wr → s2.heap.get? b = some o → h'.get? b = some o) → Q v { s2 with heap := h', toks := tk }) E s) :
    wpAny (model prog w) A (call (.builtin "min") [x]) Q E s := by
  refine call_function_tree F.kind_min F.plain_min F.entry_min (F.args_min1 _) ?_; show wpAny _ A.in1 (Builtin.Builtins.bindParams "min" ["key", "default"] 0 ⟨[], []⟩ >>= _) _ _ s
  refine wpAny_bind (wpAny_of_eq (show Builtin.Builtins.bindParams "min" ["key", "default"] 0 ⟨[], []⟩ = pure [none, none] from rfl) ?_); refine wpAny_bind (wpAny_pure ?_)
  refine wpAny_bind (wpAny_mono h (fun it s2 h2 => ?_) fun _ _ z => z); obtain ⟨I, fp, wr, n, P, St, bt, rfl, W, st, low, n0, less, fin⟩ := h2
  refine wpAny_bind (wpAny_newObj_type ?_); rw [T6]
  have off : s2.heap.objs.size ∉ fp := fun z => Nat.lt_irrefl _ (low _ z)
  refine wpAny_pure ⟨plainId_quiet F.plain_min_loop _, Q6 W (less _ fun b o e => Heap.get?_push_of_some _ e) off n0 (W.frame _ _ _ st fun b _ o e => Heap.get?_push_of_some _ e) (Heap.get?_push_size _ rfl) fun v h' tk hv k => ?_⟩
  exact fin v h' tk hv fun b o nb e => k b o nb (Nat.ne_of_lt (Heap.lt_size e)) (Heap.get?_push_of_some _ e)
end
variable {X : Cx}
theorem Vals.at {xs : List V} {us : List Value} (r : Vals xs us) : ∀ (i : Nat) (u : Value), us[i]? = some u → ∃ x, xs[i]? = some x ∧ RelV x u := by
  induction r with
  | nil => intro i u h; cases h
  | cons h t ih =>
    intro i u e
    cases i with
    | zero => exact ⟨_, rfl, by cases e; exact h⟩
    | succ i => exact ih i u e
noncomputable abbrev Oo (ns : List Int) : Dt := .tup (ns.map Dt.int)
end L2
namespace L2
open PySem PySem.Spec PyProof.Rows
variable {X : Cx}
theorem Vk : ∀ (ns ms : List Int), Dt.eqs (ns.map Dt.int) (ms.map Dt.int) = decide (ns = ms)
  | [], [] => by simp [Dt.eqs]
  | [], m :: ms => by simp [Dt.eqs]
  | n :: ns, [] => by simp [Dt.eqs]
  | n :: ns, m :: ms => by
    rw [List.map_cons, List.map_cons, Dt.eqs, Vk ns ms, Qm, ← Bool.decide_and]
    exact decide_eq_decide.mpr (by simp)
theorem Qt : ∀ (ns : List Int), Dt.flats 7 (ns.map Dt.int) = true
  | [] => rfl
  | n :: ns => by rw [List.map_cons, Dt.flats, Qt ns]; rfl
end L2
namespace L2
open PySem PySem.Spec PyProof.Rows PySem.SeqAt
section
variable {X : Cx} {a b c e o : Expr} {es : List Expr} {ta tb te : DTE} {tl : DTA} {pos apos : Pos}
noncomputable def Adg (K : PySem.W.Frag) (te : DTE) (f : Str) : DTE := fun ρ Q => te ρ fun d => match d with
  | .obj c ns ds => Hg K c f ∧ ∃ v, (ns.zip ds).lookup f = some v ∧ Q v
  | _ => False
theorem JD {f : Str} (h : DE X e te) (hb : attributeBase e f X.env (eval e X.env) = eval e X.env := by rfl) : DE X (.Attribute e f pos) (Adg X.K te f) where
  mono := fun hq z => h.mono (fun d z => by
    split at z
    · exact let ⟨a, v, b, c⟩ := z; ⟨a, v, b, hq _ c⟩
    · exact z.elim) z
  pe := (Aej h.pe hb).imp fun σ H Q ⟨B, F, O, ρ, R, z⟩ => ⟨B, F, O, ρ, R, h.mono (fun d z v H1 s1 r1 => by
    split at z
    · obtain ⟨na, y, ly, q⟩ := z
      obtain ⟨a, C, dx, vs, rfl, h1, cl, h2, _, h5⟩ := JN.mp r1
      obtain ⟨v, lv, rv⟩ := zip_get h5 ly
      exact ⟨a, C, dx, _, v, rfl, Bh _ _ h2, cl, na C h1, lv, q v H1 s1 rv⟩
    · exact z.elim) z⟩
structure IsC (K : PySem.W.Frag) (c : Str) : Prop where
  ha : ∀ C, PySem.W.nsIn K mainGlobals c = some (some (.ref C)) → PySem.W.findIn K (.ref C) "__class__" = some (some (.builtin "object.__class__"))
  hn : PySem.W.specialIn K (.builtin "object.__class__") "__get__" = some (some (.builtin "getset_descriptor.__get__"))
  ht : PySem.W.takesIn K (.builtin "object.__class__") = some true
  hm : ∀ C, PySem.W.nsIn K mainGlobals c = some (some (.ref C)) → PySem.W.mroIn K C (.type "object") = some true
noncomputable def Akv (K : PySem.W.Frag) : DL := fun ds Q => match ds with
  | [.obj c _ _, .fn A] => ∃ v, IsC K c ∧ DK K c A v ∧ Q (.bl v)
  | _ => False
noncomputable def NK (K : PySem.W.Frag) (c m : Str) (g : Addr) : Prop := ∀ C, PySem.W.nsIn K mainGlobals c = some (some (.ref C)) → Meth K C m g
noncomputable def RV (K : PySem.W.Frag) (m : Str) (g : Addr) (sp : Sp) (ta : TE) (t : TA) : TE := fun σ H Q => ta σ H fun x H1 => ∃ a C dx fs, x = .ref a ∧ H1 a = some (.ins C dx fs) ∧ Cls K C ∧ Meth K C m g ∧ fs.lookup m = none ∧ t σ H1 fun vs H2 => sp (x :: vs) H2 Q E0
theorem Agg {pl : Sem Bool} {k : Nat} {m : Str} {g : Addr} {fd : FuncData} {ps : List Str} {sp : Sp} {ta : TE} (he : PE X o ta) (F : Dl X.prog X.w X.K X.mg X.base CX0 k g fd ps sp) (hr : CN k X.A) (hb : Binds X.K fd ps [])
    (ht : eval (.Call (.Attribute o m apos) [] [] pos) X.env = (do
      let ov ← eval o X.env
      standAt apos.atName
      let (f, first) ← holding [ov] (getMethod ov m pl)
      callWith pos f first (backTo pos (starEach [] X.env)) (backToKw pos (keywordEach [] X.env))) := by rfl) :
    PE X (.Call (.Attribute o m apos) [] [] pos) (RV X.K m g sp ta AhD) := by
  intro pins s σ H Q I h
  refine PySem.W.methodCall_KW (pl := pl) (thn (he pins s σ H _ I h) fun u s1 ⟨x, H1, I1, rx, a, C, dx, fs, ex, ea, c, hm, l, q⟩ => ?_) ht
  subst ex
  obtain rfl : u = Value.ref a := rx
  refine IK I1 ea c hm l ?_
  exact PySem.W.callWith_K0 (first := [.ref a]) I1.kIn hm.kp (Qd (us := [.ref a]) (vs := [.ref a]) F hr hb .nil QX I1 (.cons rfl .nil) q)
theorem Yo {pl : Sem Bool} {k : Nat} {m : Str} {g : Addr} {fd : FuncData} {ps : List Str} {sp : Sp} {ta : TE} {t : TA} (he : PE X o ta) (F : Dl X.prog X.w X.K X.mg X.base CX0 k g fd ps sp) (hr : CN k X.A) (hb : Binds X.K fd ps []) (ha : PA X (e :: es) t)
    (kp : PySem.W.keepIn X.K (.ref g) = true) (hst : starEach (e :: es) X.env = (false, eval e X.env) :: starEach es X.env := by rfl) (hpl : (backTo pos (starEach es X.env)).any (·.1) = false := by rfl)
    (ht : eval (.Call (.Attribute o m apos) (e :: es) [] pos) X.env = (do
      let ov ← eval o X.env
      standAt apos.atName
      let (f, first) ← holding [ov] (getMethod ov m pl)
      callWith pos f first (backTo pos (starEach (e :: es) X.env)) (backToKw pos (keywordEach [] X.env))) := by rfl) :
    PE X (.Call (.Attribute o m apos) (e :: es) [] pos) (RV X.K m g sp ta t) := by
  intro pins s σ H Q I h
  refine PySem.W.methodCall_KW (pl := pl) (thn (he pins s σ H _ I h) fun u s1 ⟨x, H1, I1, rx, a, C, dx, fs, ex, ea, c, hm, l, q⟩ => ?_) ht
  subst ex
  obtain rfl : u = Value.ref a := rx
  refine IK I1 ea c hm l ?_
  refine PySem.W.callWith_K (first := [.ref a]) (h₀ := X.base) I.ok.mod.kin hm.kp (thn (ha pos pins s1 σ H1 _ I1 q) fun us s2 ⟨vs, H2, I2, r, q2⟩ => ⟨I2.kIn, ?_⟩) hst hpl
  exact Qd (us := .ref a :: us) (vs := .ref a :: vs) F hr hb .nil QX I2 (.cons rfl r) (by simpa using q2)
noncomputable def Mu (K : PySem.W.Frag) (m : Str) (g : Addr) (sp : DSp) (te : DTE) (tl : DTA) : DTE := fun ρ Q => te ρ fun d => match d with
  | .obj c ns ds => NK K c m g ∧ m ∉ ns ∧ tl ρ fun es => sp (.obj c ns ds :: es) Q
  | _ => False
theorem LR {f : Str} : ∀ {ns : List Str} {vs : List V}, f ∉ ns → (ns.zip vs).lookup f = none
  | [], _, _ => by simp
  | _ :: _, [], _ => by simp
  | n :: ns, v :: vs, h => by
    have hb : (f == n) = false := beq_eq_false_iff_ne.mpr fun e => h (by rw [e]; exact List.mem_cons_self)
    rw [List.zip_cons_cons]
    simp only [List.lookup, hb]
    exact LR fun z => h (List.mem_cons_of_mem _ z)
theorem Yy {m : Str} {g : Addr} {sp : DSp} (M : Gh sp) (h : DE X o te) (ha : DA X es tl) (σ : St) (H : Hp) (Q : VK) (z : lE X.K (Mu X.K m g sp te tl) σ H Q) : RV X.K m g (lSp X.K sp) (lE X.K te) (lA X.K tl) σ H Q := by
  obtain ⟨B, F, O, ρ, R, z⟩ := z
  refine ⟨B, F, O, ρ, R, h.mono (fun d z v H1 s1 r1 => ?_) z⟩
  split at z
  · obtain ⟨mo, nm, z⟩ := z
    obtain ⟨a, C, dx, vs, e0, h1, cl, h2, _, h5⟩ := JN.mp r1
    subst e0
    refine ⟨a, C, dx, _, rfl, Bh _ _ h2, cl, mo C h1, LR nm, B, F, O, ρ, R.same s1, ha.mono (fun es z ws H2 s2 r2 => ?_) z⟩
    exact ⟨F ++ O, _, ((R.same s1).same s2).th, RpL.cons (r1.mono s2.mask) r2, M _ _ _ (fun d q w H3 s3 r3 => q w H3 ((s1.trans s2).trans s3) r3) z⟩
  · exact z.elim
theorem Xu {m : Str} {g : Addr} {sp : DSp} (M : Gh sp) (h : DE X o te) (ha : DA X es tl) {ρ : Bv} {Q Q' : Dt → Prop} (hq : ∀ d, Q d → Q' d) (z : Mu X.K m g sp te tl ρ Q) : Mu X.K m g sp te tl ρ Q' := h.mono (fun d z => by
  split at z
  · exact ⟨z.1, z.2.1, ha.mono (fun es z => M _ _ _ hq z) z.2.2⟩
  · exact z.elim) z
theorem Acl {pl : Sem Bool} {k : Nat} {m : Str} {g : Addr} {fd : FuncData} {ps : List Str} {sp : DSp} (M : Gh sp) (F : Dl X.prog X.w X.K X.mg X.base CX0 k g fd ps (lSp X.K sp)) (hb : Binds X.K fd ps []) (kp : PySem.W.keepIn X.K (.ref g) = true) (hr : CN k X.A) (h : DE X o te) (ha : DA X (e :: es) tl)
    (hst : starEach (e :: es) X.env = (false, eval e X.env) :: starEach es X.env := by rfl) (hpl : (backTo pos (starEach es X.env)).any (·.1) = false := by rfl)
    (ht : eval (.Call (.Attribute o m apos) (e :: es) [] pos) X.env = (do
      let ov ← eval o X.env
      standAt apos.atName
      let (f, first) ← holding [ov] (getMethod ov m pl)
      callWith pos f first (backTo pos (starEach (e :: es) X.env)) (backToKw pos (keywordEach [] X.env))) := by rfl) : DE X (.Call (.Attribute o m apos) (e :: es) [] pos) (Mu X.K m g sp te tl) where
  mono := Xu (X := X) M h ha
  pe := (Yo h.pe F hr hb ha.pa kp hst hpl ht).imp fun σ H Q z => Yy M h ha σ H Q z
noncomputable abbrev DIn := List Dt → (List Dt → Prop) → Prop
noncomputable def Y4 (K : PySem.W.Frag) (ns : List Str) (sp : DIn) : Sp := fun vs H Q _ => ∃ x C dx ys F ds, vs = .ref x :: ys ∧ H x = some (.ins C dx []) ∧ Cls K C ∧ (∀ f ∈ ns, Ga K C f) ∧ x ∈ F ∧ (∀ a ∈ F, H a ≠ none) ∧ RpL K (mask F H) ds ys ∧
  sp ds fun fds => ∀ ws H', Same (mask [x] H) H' → H' x = some (.ins C dx (ns.zip ws)) → ns.length = fds.length → RpL K (mask F H') fds ws → Q .non H'
noncomputable def Pq (sp : DIn) : Prop := ∀ ds Q Q', (∀ d, Q d → Q' d) → sp ds Q → sp ds Q'
structure MkC (K : PySem.W.Frag) (mg : Str → Option Value) (c : Str) (ns : List Str) (C f : Addr) : Prop where
  mm : Mk K C f
  at_ : PySem.W.nsIn K mainGlobals c = some (some (.ref C))
  gl : mg c = some (.ref C)
  cl : Cls K C
  no : ∀ f ∈ ns, Ga K C f
noncomputable def Z5 (c : Str) (ns : List Str) (sp : DIn) (tl : DTA) : DTE := fun ρ Q => tl ρ fun ds => sp ds fun fds => Q (.obj c ns fds)
theorem AcM {k : Nat} {c : Str} {ns ps : List Str} {C f : Addr} {fd : FuncData} {sp : DIn} {p : Pos} (m : Pq sp) (M : MkC X.K X.mg c ns C f) (G : Dl X.prog X.w X.K X.mg X.base CX0 k f fd ps (Y4 X.K ns sp)) (hb : Binds X.K fd ps []) (hr : CN (k + 1) X.A) (hg : Gl X c) (ha : DA X (e :: es) tl)
    (hdb : (c == ("__debug__" : Str)) = false := by decide) (he : starEach (e :: es) X.env = (false, eval e X.env) :: starEach es X.env := by rfl) (hpl : (backTo pos (starEach es X.env)).any (·.1) = false := by rfl) : DE X (.Call (.Name c p) (e :: es) [] pos) (Z5 c ns sp tl) where
  mono := fun hq z => ha.mono (fun ds z => m _ _ _ (fun fds q => hq _ q) z) z
  pe := (AaQ M.mm G hr hg M.gl hb .nil QX ha.pa hdb he hpl).imp fun σ H Q ⟨B, F, O, ρ, R, z⟩ => ⟨B, F, O, ρ, R, ha.mono (fun ds z vs H1 s1 r1 x dx nx ndx ne => by
    have R1 := R.same s1
    have ox : x ∉ F ++ O := fun w => R1.th x w nx
    have s2 : Same H1 (upd (upd H1 dx (.own x)) x (.ins C dx [])) := fun b o q => by rw [Av (Bk q nx), Av (Bk q ndx)]; exact q
    refine ⟨x, C, dx, vs, x :: (F ++ O), ds, by rw [List.append_nil], Bb, M.cl, M.no, List.mem_cons_self, fun b hb' => ?_, ?_, m _ _ _ (fun fds q ws H' s' h1 h2 h3 => ⟨rfl, ?_⟩) z⟩
    · rcases List.mem_cons.mp hb' with e | w
      · rw [e, Bb]; simp
      · intro q
        cases e : H1 b with
        | none => exact R1.th b w e
        | some u => rw [s2 _ _ e] at q; cases q
    · refine r1.mono fun b o q => ?_
      obtain ⟨n1, q⟩ := Dq q
      rw [Ba fun w => (List.mem_cons.mp w).elim (fun e => by rw [e, nx] at q; cases q) n1]
      exact s2 _ _ q
    · have s3 : Same H1 H' := fun b o q => s' b o (by rw [Ba fun w => by rw [List.mem_singleton.mp w, nx] at q; cases q]; exact s2 _ _ q)
      refine q (.ref x) H' (s1.trans s3) (JN.mpr ⟨x, C, dx, ws, rfl, M.at_, M.cl, by rw [Ba ox]; exact h1, h2, h3.mono (Fy fun b hb' => List.mem_cons_of_mem _ hb')⟩)) z⟩
end
end L2
namespace L2
open PySem PySem.Spec PyProof.Rows PySem.SeqAt
section
variable {K : PySem.W.Frag} {B : Hp} {F O : List Addr} {H : Hp} {σ : St} {ρ : Bv} {x : Addr}
theorem Rep.updF (r : Rep K B F O H σ ρ) (hx : x ∈ F) (hB : B x = none) (o : HO) : Rep K B F O (upd H x o) σ ρ := by
  have em : mask (F ++ O) (upd H x o) = mask (F ++ O) H := IW (List.mem_append_left _ hx)
  refine ⟨r.len, fun b u e => ?_, r.fr, fun b hb e => ?_, fun j d q => ?_, fun j ks q => ?_, r.inj, fun j ks q => ?_, r.tinj⟩
  · rw [Av fun z => by rw [z, hB] at e; cases e]; exact r.base b u e
  · by_cases z : b = x
    · rw [z, Bb] at e; cases e
    · rw [Av z] at e; exact r.th b hb e
  · rw [em]; exact r.is j d q
  · obtain ⟨b, zs, e1, e2, e3, e4, e5⟩ := r.own j ks q
    exact ⟨b, zs, e1, e2, e3, by rw [Av fun z => e3 (by rw [z]; exact hx)]; exact e4, by rw [em]; exact e5⟩
  · obtain ⟨b, zs, e1, e2, e3, e4, e5⟩ := r.tab j ks q
    exact ⟨b, zs, e1, e2, e3, by rw [Av fun z => e3 (by rw [z]; exact hx)]; exact e4, by rw [em]; exact e5⟩
noncomputable def Gy (N : List Str) (ds : List Dt) : Bv := none :: (ds.map (fun d => some (.is d)) ++ List.replicate (N.length - (ds.length + 1)) none)
theorem Iw {N : List Str} {ds : List Dt} {ys : List V} (hx : x ∈ F) (hF : ∀ a ∈ F, H a ≠ none) (r : RpL K (mask F H) ds ys) : Rep K (mask [x] H) F [] H (start N (.ref x :: ys)) (Gy N ds) := by
  have hl := r.len
  have get : ∀ (i : Nat) (e : En), (Gy N ds)[i]? = some (some e) → ∃ j d, i = j + 1 ∧ ds[j]? = some d ∧ e = .is d := fun i e q => by
    cases i with
    | zero => cases q
    | succ j =>
      have q : (ds.map (fun d => some (En.is d)) ++ List.replicate (N.length - (ds.length + 1)) none)[j]? = some (some e) := q
      by_cases hi : j < ds.length
      · rw [List.getElem?_append_left (by simpa using hi), List.getElem?_map] at q
        cases w : ds[j]? with
        | none => rw [w] at q; cases q
        | some d => rw [w] at q; cases q; exact ⟨j, d, rfl, w, rfl⟩
      · rw [List.getElem?_append_right (by simpa using hi), List.getElem?_replicate] at q
        split at q <;> cases q
  refine ⟨?_, Bh, fun a h => (nomatch h), fun a h => hF a (by simpa using h), fun i d e => ?_, fun i es e => ?_, fun i j es es' a h1 => ?_, fun i es e => ?_, fun i j es es' a h1 => ?_⟩
  · unfold start Gy; simp [hl]
  · obtain ⟨j, d', rfl, e1, e2⟩ := get i _ e
    cases e2
    obtain ⟨v, w1, w2⟩ := r.get e1
    have hj : j < ys.length := by rw [hl]; exact (List.getElem?_eq_some_iff.mp e1).1
    refine ⟨v, ?_, by rw [List.append_nil]; exact w2⟩
    unfold start
    rw [List.getElem?_append_left (by simp; omega), List.getElem?_map, List.getElem?_cons_succ, w1]; rfl
  · obtain ⟨_, _, _, _, z⟩ := get i _ e; cases z
  · obtain ⟨_, _, _, _, z⟩ := get i _ h1; cases z
  · obtain ⟨_, _, _, _, z⟩ := get i _ e; cases z
  · obtain ⟨_, _, _, _, z⟩ := get i _ h1; cases z
end
section
variable {X : Cx} {e e1 e2 e3 : Expr} {es : List Expr} {te1 te2 te3 : DTE} {tl : DTA} {pos apos : Pos}
noncomputable def Ahq (K : PySem.W.Frag) (f1 f2 f3 : Str) (te1 te2 te3 : DTE) : TS := fun D σ H => ∃ B F ρ x C dx, ∃ S : List Dt → Prop, Rep K B F [] H σ ρ ∧ x ∈ F ∧ B x = none ∧ σ[0]? = some (some (.ref x)) ∧ H x = some (.ins C dx []) ∧ Cls K C ∧ (∀ f ∈ [f1, f2, f3], Ga K C f) ∧
  (te1 ρ fun d1 => te2 ρ fun d2 => te3 ρ fun d3 => S [d1, d2, d3]) ∧ ∀ fds, S fds → ∀ ws H', Same B H' → H' x = some (.ins C dx ([f1, f2, f3].zip ws)) → [f1, f2, f3].length = fds.length → RpL K (mask F H') fds ws → D.nx σ H'
theorem YF {f1 f2 f3 : Str} {y : Str} {q1 q2 q3 p1 p2 p3 s1 s2 s3 : Pos} (h1 : DE X e1 te1) (h2 : DE X e2 te2) (h3 : DE X e3 te3) (n12 : f1 ≠ f2) (n13 : f1 ≠ f3) (n23 : f2 ≠ f3) (hN : X.N[0]? = some y := by rfl) (hv : Vis X.env.scope y := by first | exact Or.inl rfl | exact Or.inr (Or.inl rfl) | exact Or.inr (Or.inr rfl))
    (hd : (y == ("__debug__" : Str)) = false := by decide) (hcd : (y == ("__classdict__" : Str)) = false := by decide)
    (w1 : swapsWith e1 (some (.Attribute (.Name y q1) f1 p1)) s1.line X.env = pure false := by rfl) (w2 : swapsWith e2 (some (.Attribute (.Name y q2) f2 p2)) s2.line X.env = pure false := by rfl) (w3 : swapsWith e3 (some (.Attribute (.Name y q3) f3 p3)) s3.line X.env = pure false := by rfl) :
    PSs X [.Assign [.Attribute (.Name y q1) f1 p1] e1 s1, .Assign [.Attribute (.Name y q2) f2 p2] e2 s2, .Assign [.Attribute (.Name y q3) f3 p3] e3 s3] (Ahq X.K f1 f2 f3 te1 te2 te3) :=
  (Jx (T5 (Jd hN hv hd hcd) h1.pe w1) (Jx (T5 (Jd hN hv hd hcd) h2.pe w2) (Jv (T5 (Jd hN hv hd hcd) h3.pe w3)))).imp fun D σ H ⟨B, F, ρ, x, C, dx, S, R, xF, Bx, σ0, Hx, cl, no, z, fin⟩ => by
    have em : ∀ (H : Hp) (o : HO), mask (F ++ []) (upd H x o) = mask (F ++ []) H := fun H o => IW (List.mem_append_left _ xF)
    refine ⟨B, F, [], ρ, R, h1.mono (fun d1 z y1 H1 t1 r1 => ?_) z⟩
    refine ⟨.ref x, σ0, x, C, dx, [], rfl, t1 _ _ Hx, cl, no f1 (by simp), by decide, ?_⟩
    have R1 := (R.same t1).updF xF Bx (.ins C dx (Fz f1 y1 []))
    refine ⟨B, F, [], ρ, R1, h2.mono (fun d2 z y2 H2 t2 r2 => ?_) z⟩
    refine ⟨.ref x, σ0, x, C, dx, [(f1, y1)], rfl, t2 _ _ Bb, cl, no f2 (by simp), by show 1 < 1000; decide, ?_⟩
    have R2 := (R1.same t2).updF xF Bx (.ins C dx (Fz f2 y2 [(f1, y1)]))
    refine ⟨B, F, [], ρ, R2, h3.mono (fun d3 z y3 H3 t3 r3 => ?_) z⟩
    have ep2 : Fz f2 y2 [(f1, y1)] = [(f1, y1), (f2, y2)] := by simp [Fz, n12]
    have ep3 : Fz f3 y3 [(f1, y1), (f2, y2)] = [(f1, y1), (f2, y2), (f3, y3)] := by simp [Fz, n13, n23]
    rw [ep2] at t3 R2
    refine ⟨.ref x, σ0, x, C, dx, [(f1, y1), (f2, y2)], rfl, t3 _ _ Bb, cl, no f3 (by simp), by show 2 < 1000; decide, ?_⟩
    have R3 := (R2.same t3).updF xF Bx (.ins C dx (Fz f3 y3 [(f1, y1), (f2, y2)]))
    rw [ep3] at R3 ⊢
    rw [List.append_nil] at r1 r2 r3 em
    refine fin _ z [y1, y2, y3] _ R3.base Bb rfl ?_
    rw [em]
    have m12 : Same (mask F H1) (mask F H2) := fun b o q => t2.mask b o (by rw [em]; exact q)
    have m23 : Same (mask F H2) (mask F H3) := fun b o q => t3.mask b o (by rw [em]; exact q)
    exact RpL.cons ((r1.mono m12).mono m23) (RpL.cons (r2.mono m23) (RpL.cons r3 RpL.nil))
structure Wg (K : PySem.W.Frag) (mg : Str → Option Value) (c m : Str) (g : Addr) : Prop where
  ex : ∃ CS, mg c = some (.ref CS) ∧ PySem.W.specialIn K (.ref CS) "__getattribute__" = some (some (.builtin "type.__getattribute__")) ∧ PySem.W.readsIn K CS (.type "type") = true ∧ PySem.W.findCls K (.ref CS) (.type "type") m = some (.val (.ref g))
  kp : PySem.W.keepIn K (.ref g) = true
theorem Zu {pl : Sem Bool} {k : Nat} {c m : Str} {g : Addr} {fd : FuncData} {ps : List Str} {sp : Sp} {t : TA} {p : Pos} (M : Wg X.K X.mg c m g) (hg : Gl X c) (F : Dl X.prog X.w X.K X.mg X.base CX0 k g fd ps sp) (hr : CN k X.A) (hb : Binds X.K fd ps []) (ha : PA X (e :: es) t)
    (hdb : (c == ("__debug__" : Str)) = false := by decide) (hst : starEach (e :: es) X.env = (false, eval e X.env) :: starEach es X.env := by rfl) (hpl : (backTo pos (starEach es X.env)).any (·.1) = false := by rfl)
    (ht : eval (.Call (.Attribute (.Name c p) m apos) (e :: es) [] pos) X.env = (do
      let ov ← eval (.Name c p) X.env
      standAt apos.atName
      let (f, first) ← holding [ov] (getMethod ov m pl)
      callWith pos f first (backTo pos (starEach (e :: es) X.env)) (backToKw pos (keywordEach [] X.env))) := by rfl) :
    PE X (.Call (.Attribute (.Name c p) m apos) (e :: es) [] pos) (Adc sp [] E0 t) := by
  intro pins s σ H Q I h
  obtain ⟨CS, hm, hs, hr', hf⟩ := M.ex
  have q0 := (V8 (v := .ref CS) (pos := p) hg hm rfl hdb : PE X (.Name c p) (tC (.ref CS))) pins s σ H (fun v H1 => v = .ref CS ∧ H1 = H) I ⟨rfl, rfl⟩
  refine PySem.W.methodCall_KW (pl := pl) (thn q0 fun u s1 ⟨x, H1, I1, rx, ex, eH⟩ => ?_) ht
  subst ex
  subst eH
  obtain rfl : u = Value.ref CS := rx
  refine PySem.W.method_cls I1.kIn hs (PySem.W.cls_value I1.kIn hr' hf rfl ?_)
  refine PySem.W.callWith_K (first := []) (h₀ := X.base) I.ok.mod.kin M.kp (thn (ha pos pins _ σ H1 _ (I1.tok _) h) fun us s2 ⟨vs, H2, I2, r, q2⟩ => ⟨I2.kIn, ?_⟩) hst hpl
  exact Qd F hr hb .nil QX I2 r q2
noncomputable def Ahx (K : PySem.W.Frag) (ns : List Str) (sp : DIn) (tl : DTA) : TS := fun D σ H => ∃ B F ρ x C dx, ∃ S : List Dt → Prop, Rep K B F [] H σ ρ ∧ x ∈ F ∧ B x = none ∧ σ[0]? = some (some (.ref x)) ∧ H x = some (.ins C dx []) ∧ Cls K C ∧ (∀ f ∈ ns, Ga K C f) ∧
  (tl ρ fun ds => sp ds S) ∧ ∀ fds, S fds → ∀ ws H', Same B H' → H' x = some (.ins C dx (ns.zip ws)) → ns.length = fds.length → RpL K (mask F H') fds ws → D.nx σ H'
theorem QC {pl : Sem Bool} {k : Nat} {c y : Str} {g : Addr} {fd : FuncData} {ps ns : List Str} {sp : DIn} {p q ap cp : Pos} (m : Pq sp) (M : Wg X.K X.mg c "__init__" g) (hg : Gl X c) (G : Dl X.prog X.w X.K X.mg X.base CX0 k g fd ps (Y4 X.K ns sp)) (hb : Binds X.K fd ps []) (hr : CN k X.A) (ha : DA X es tl) (hN : X.N[0]? = some y := by rfl)
    (hv : Vis X.env.scope y := by first | exact Or.inl rfl | exact Or.inr (Or.inl rfl) | exact Or.inr (Or.inr rfl)) (hd : (y == ("__debug__" : Str)) = false := by decide) (hcd : (y == ("__classdict__" : Str)) = false := by decide) (hdb : (c == ("__debug__" : Str)) = false := by decide)
    (hst : starEach (.Name y q :: es) X.env = (false, eval (.Name y q) X.env) :: starEach es X.env := by rfl) (hpl : (backTo cp (starEach es X.env)).any (·.1) = false := by rfl)
    (ht : eval (.Call (.Attribute (.Name c p) "__init__" ap) (.Name y q :: es) [] cp) X.env = (do
      let ov ← eval (.Name c p) X.env
      standAt ap.atName
      let (f, first) ← holding [ov] (getMethod ov "__init__" pl)
      callWith cp f first (backTo cp (starEach (.Name y q :: es) X.env)) (backToKw cp (keywordEach [] X.env))) := by rfl)
    (hs : swapsWith (.Call (.Attribute (.Name c p) "__init__" ap) (.Name y q :: es) [] cp) none pos.line X.env = pure false := by rfl) :
    PSs X [.Expr (.Call (.Attribute (.Name c p) "__init__" ap) (.Name y q :: es) [] cp) pos] (Ahx X.K ns sp tl) :=
  (Jv (K4 (Zu M hg G hr hb (GF (Jd hN hv hd hcd) ha.pa hst) hdb hst hpl ht) hs)).imp fun D σ H ⟨B, F, ρ, x, C, dx, S, R, xF, Bx, σ0, Hx, cl, no, z, fin⟩ => by
    refine ⟨.ref x, σ0, B, F, [], ρ, R, ha.mono (fun ds z vs H1 s1 r1 => ?_) z⟩
    show Y4 X.K ns sp ((.ref x :: vs) ++ []) H1 _ E0
    rw [List.append_nil]
    have R1 := R.same s1
    rw [List.append_nil] at r1
    refine ⟨x, C, dx, vs, F, ds, rfl, s1 _ _ Hx, cl, no, xF, fun a h => R1.th a (List.mem_append_left _ h), r1, m _ _ _ (fun fds w ws H' s' h1 h2 h3 => fin fds w ws H' (fun b o e => s' b o ?_) h1 h2 h3) z⟩
    rw [Ba fun w => by rw [List.mem_singleton.mp w, Bx] at e; cases e]
    exact R1.base b o e
end
noncomputable def Om {τ : Type} (args : τ → List Dt) (pre : τ → Prop) (post : τ → List Dt → Prop) : DIn := fun ds R => ∃ p, ds = args p ∧ pre p ∧ ∀ fds, post p fds → R fds
theorem GX {τ : Type} {args : τ → List Dt} {pre : τ → Prop} {post : τ → List Dt → Prop} : Pq (Om args pre post) := fun _ _ _ hq ⟨p, e, h, q⟩ => ⟨p, e, h, fun d z => hq _ (q d z)⟩
theorem Ju {τ : Type} {args : τ → List Dt} {pre : τ → Prop} {post : τ → List Dt → Prop} {R : List Dt → Prop} (p : τ) (h : pre p) (q : ∀ fds, post p fds → R fds) : Om args pre post (args p) R := ⟨p, rfl, h, q⟩
noncomputable def PmC (P : Program) (w : World) (K : PySem.W.Frag) (mg : Str → Option Value) (base : Heap) (k : Nat) (c : Str) (ns : List Str) (sp : DIn) : Prop := ∃ g fd ps, Wg K mg c "__init__" g ∧ Binds K fd ps [] ∧ Dl P w K mg base CX0 k g fd ps (Y4 K ns sp)
noncomputable def PmI (P : Program) (w : World) (K : PySem.W.Frag) (mg : Str → Option Value) (base : Heap) (k : Nat) (c : Str) (ns : List Str) (sp : DIn) : Prop := ∃ C f fd ps, MkC K mg c ns C f ∧ Binds K fd ps [] ∧ Dl P w K mg base CX0 k f fd ps (Y4 K ns sp)
noncomputable def PmM (P : Program) (w : World) (K : PySem.W.Frag) (mg : Str → Option Value) (base : Heap) (k : Nat) (cs : List Str) (m : Str) (sp : DSp) : Prop := ∃ g fd ps, (∀ c ∈ cs, NK K c m g) ∧ PySem.W.keepIn K (.ref g) = true ∧ Binds K fd ps [] ∧ Dl P w K mg base CX0 k g fd ps (lSp K sp)
section
variable {X : Cx} {e o : Expr} {es : List Expr} {te : DTE} {tl : DTA} {pos apos : Pos}
theorem Rb {k : Nat} {c : Str} {ns : List Str} {sp : DIn} {p : Pos} (m : Pq sp) (G : PmI X.prog X.w X.K X.mg X.base k c ns sp) (hr : CN (k + 1) X.A) (hg : Gl X c) (ha : DA X (e :: es) tl)
    (hdb : (c == ("__debug__" : Str)) = false := by decide) (he : starEach (e :: es) X.env = (false, eval e X.env) :: starEach es X.env := by rfl) (hpl : (backTo pos (starEach es X.env)).any (·.1) = false := by rfl) : DE X (.Call (.Name c p) (e :: es) [] pos) (Z5 c ns sp tl) := by
  obtain ⟨C, f, fd, ps, M, B, G⟩ := G
  exact AcM m M G B hr hg ha hdb he hpl
noncomputable def LK (cs : List Str) (m : Str) (sp : DSp) (te : DTE) (tl : DTA) : DTE := fun ρ Q => te ρ fun d => match d with
  | .obj c ns ds => (c ∈ cs ∧ m ∉ ns) ∧ tl ρ fun es => sp (.obj c ns ds :: es) Q
  | _ => False
theorem TJ {cs : List Str} {m : Str} {sp : DSp} (M : Gh sp) (h : DE X o te) (ha : DA X es tl) {ρ : Bv} {Q Q' : Dt → Prop} (hq : ∀ d, Q d → Q' d) (z : LK cs m sp te tl ρ Q) : LK cs m sp te tl ρ Q' := h.mono (fun d z => by
  split at z
  · exact ⟨z.1, ha.mono (fun es z => M _ _ _ hq z) z.2⟩
  · exact z.elim) z
theorem ZJ {cs : List Str} {m : Str} {g : Addr} {sp : DSp} (M : Gh sp) (hm : ∀ c ∈ cs, NK X.K c m g) (h : DE X o te) (σ : St) (H : Hp) (Q : VK) (z : lE X.K (LK cs m sp te tl) σ H Q) : lE X.K (Mu X.K m g sp te tl) σ H Q := by
  obtain ⟨B, F, O, ρ, R, z⟩ := z
  refine ⟨B, F, O, ρ, R, h.mono (fun d z => ?_) z⟩
  split at z
  · exact ⟨hm _ z.1.1, z.1.2, z.2⟩
  · exact z.elim
theorem Lg {pl : Sem Bool} {k : Nat} {cs : List Str} {m : Str} {sp : DSp} (M : Gh sp) (G : PmM X.prog X.w X.K X.mg X.base k cs m sp) (hr : CN k X.A) (h : DE X o te) (ha : DA X (e :: es) tl)
    (hst : starEach (e :: es) X.env = (false, eval e X.env) :: starEach es X.env := by rfl) (hpl : (backTo pos (starEach es X.env)).any (·.1) = false := by rfl)
    (ht : eval (.Call (.Attribute o m apos) (e :: es) [] pos) X.env = (do
      let ov ← eval o X.env
      standAt apos.atName
      let (f, first) ← holding [ov] (getMethod ov m pl)
      callWith pos f first (backTo pos (starEach (e :: es) X.env)) (backToKw pos (keywordEach [] X.env))) := by rfl) : DE X (.Call (.Attribute o m apos) (e :: es) [] pos) (LK cs m sp te tl) := by
  obtain ⟨g, fd, ps, hm, kp, B, G⟩ := G
  exact ⟨TJ M h ha, (Acl M G B kp hr h ha hst hpl ht).pe.imp fun σ H Q z => ZJ M hm h σ H Q z⟩
end
end L2
namespace L2
open PySem PySem.Spec PyProof.Rows
inductive Lex (A : Around) (s : Shared) : List Value → List Value → Bool → Prop
  | nn : Lex A s [] [] false
  | nc {y : Value} {ys : List Value} : Lex A s [] (y :: ys) true
  | cn {x : Value} {xs : List Value} : Lex A s (x :: xs) [] false
  | eq {x y : Value} {xs ys : List Value} {r : Bool} (h : SeqAt.EqAt A s x y true) (t : Lex A s xs ys r) : Lex A s (x :: xs) (y :: ys) r
  | lt {x y : Value} {xs ys : List Value} {r : Bool} (h : SeqAt.EqAt A s x y false) (t : ∀ (prog : Program) (w : World) (E : Value → Shared → Prop) (Q : Value → Shared → Prop), Q (.bool r) s → wpAny (model prog w) A (richCompare .Lt x y) Q E s) : Lex A s (x :: xs) (y :: ys) r
section
open PySem.SeqAt PySem.AutoSeq1 PySem.MeetsSeq PySem.MeetsSeq2 PySem.MeetsSeq3
theorem RZ (p q : Addr) (us vs : Array Value) (m n : Nat) (e e2 : Option Addr) (c c2 : Array (Option Value)) (res : Bool) :
    Meets (Builtin.«tuple.__lt__» ⟨[.ref p, .ref q], []⟩) (fun A R st => st.heap.get? p = some ⟨.type "tuple", e, .seq us m, c⟩ ∧ st.heap.get? q = some ⟨.type "tuple", e2, .seq vs n, c2⟩ ∧ Lex A.in1 st us.toList vs.toList res ∧ R (.ok (.ret (.bool res))) st) :=
  .of_wp fun prog w A R st h => by
    obtain ⟨hh, gg, dr, tt, os⟩ := st
    obtain ⟨h1, h2, L, fin⟩ := h
    have sub2 := AutoSeq1.sub_tuple_tuple
    wp_walk using wpAny_loadPart' h1, wpAny_loadPart' h2, wpAny_forIn_list _ (fun rest z st' => z.1 = none ∧ st' = ⟨hh, gg, dr, tt, os⟩ ∧ ∃ xs ys : List Value, rest = xs.zip ys ∧ Lex A.in1 ⟨hh, gg, dr, tt, os⟩ xs ys res ∧ xs.length + vs.size = ys.length + us.size) _
    case turn =>
      rintro ⟨x0, y0⟩ rest z st' ⟨z0, rfl, xs, ys, hz, L', hlen⟩
      cases L' with
      | nn => simp at hz
      | nc => simp at hz
      | cn => simp at hz
      | @eq x y xs ys r he t =>
        rw [List.zip_cons_cons] at hz
        obtain ⟨hp, hr⟩ := List.cons.inj hz
        obtain ⟨rfl, rfl⟩ := Prod.mk.inj hp
        refine wpAny_bind (he prog w _ _ ?_)
        wp_walk
        refine ⟨rfl, rfl, xs, ys, hr, t, ?_⟩
        simp only [List.length_cons] at hlen
        omega
      | @lt x y xs ys r he t =>
        rw [List.zip_cons_cons] at hz
        obtain ⟨hp, hr⟩ := List.cons.inj hz
        obtain ⟨rfl, rfl⟩ := Prod.mk.inj hp
        refine wpAny_bind (he prog w _ _ ?_)
        have less := t prog w
        wp_walk using less
        exact ⟨_, rfl, by simpa using fin⟩
    case fin =>
      rintro ⟨z1, z2⟩ st' ⟨hz1, rfl, xs, ys, hz, L', hlen⟩
      simp only at hz1
      subst hz1
      have hv : res = decide (us.size < vs.size) := by
        cases L' with
        | nn => simp at hlen; exact (decide_eq_false (by omega)).symm
        | nc => simp at hlen; exact (decide_eq_true (by omega)).symm
        | cn => simp at hlen; exact (decide_eq_false (by omega)).symm
        | eq _ _ => simp at hz
        | lt _ _ => simp at hz
      rw [hv] at fin
      wp_walk
      exact ⟨_, rfl, by simpa [Builtin.Tuple.tupleCompareSizes] using fin⟩
    case h => exact ⟨rfl, rfl, us.toList, vs.toList, rfl, L, by simp; omega⟩
end
section
variable {prog : Program} {w : World} {A : Around} {E : Value → Shared → Prop} {s : Shared}
theorem Ze {p q : Addr} {us vs : Array Value} {res : Bool} {Q : Value → Shared → Prop} (hp : IsTup s.heap p us) (hq : IsTup s.heap q vs) (L : Lex A.in1 s us.toList vs.toList res) (hu : A.units < cLine) (h : Q (.bool res) s) : wpAny (model prog w) A (richCompare .Lt (.ref p) (.ref q)) Q E s := by
  obtain ⟨⟨c1, e1, a1, b1⟩, g1, k1, m1, t1⟩ := id hp
  obtain ⟨⟨c2, e2, a2, b2⟩, g2, k2, m2, t2⟩ := id hq
  dsimp only at k1 t1 k2 t2
  subst k1 t1 k2 t2
  refine richCompare_meets_room (op := .Lt) ⟨_, g1, rfl⟩ ⟨_, g2, rfl⟩ PySem.F.slot_tuple_lt PySem.F.entry_tuple_lt (PySem.F.args_tuple_lt_2 _ _) (RZ p q us vs m1 m2 e1 e2 b1 b2 res) ⟨g1, g2, L, ?_⟩ hu
  exact show Value.bool res ≠ Value.notImplemented ∧ Q (.bool res) s from ⟨(fun z => nomatch z), h⟩
end
end L2
namespace L2
open PySem PySem.Spec PyProof.Rows PySem.SeqAt
theorem Jj : ∀ ns : List Int, HT.lexLt ns ns = false
  | [] => HT.Gf
  | n :: ns => by rw [HT.G3, if_pos rfl, Jj ns]
noncomputable def Eb (a b : List Int × List Int) : Bool := if a.1 = b.1 then HT.lexLt a.2 b.2 else HT.lexLt a.1 b.1
noncomputable abbrev JZ (a : List Int × List Int) : Dt := .tup [Oo a.1, Oo a.2]
section
variable {X : Cx}
noncomputable def Lz (K : PySem.W.Frag) (H : Hp) (v : V) (a : List Int × List Int) : Prop := ∃ p p1 p2, v = .ref p ∧ SqT K H p [.ref p1, .ref p2] ∧ SqT K H p1 (a.1.map V.int) ∧ SqT K H p2 (a.2.map V.int)
noncomputable def Adi (K : PySem.W.Frag) : List V → Hp → VK → Prop := fun xs H Q => ∃ l vs, ∃ ps : Nat → List Int × List Int, xs = [.ref l] ∧ SqL K H l vs ∧ 0 < vs.length ∧ (∀ (i : Nat) (v : V), vs[i]? = some v → Lz K H v (ps i)) ∧
  ∀ v, vs[argBest (fun i j => Eb (ps i) (ps j)) (vs.length - 1)]? = some v → Q v H
theorem Aab {x y : Addr} {us : List Value} (r : Vals [V.ref x, V.ref y] us) : us = [.ref x, .ref y] := by
  obtain ⟨a, b, rfl, r1, r2⟩ := vals2 r
  cases (show a = .ref x from r1)
  cases (show b = .ref y from r2)
  rfl
theorem Mp {h : Heap} : ∀ {us : List Value} {ns : List Int}, IntsAre us ns → ∃ as, ReadsAll h us (Dt.pys (ns.map Dt.int)) as
  | _, _, .nil => ⟨_, by rw [List.map_nil, Dt.pys]; exact .nil⟩
  | _, _, .cons n t r => by
    obtain ⟨as, q⟩ := Mp (h := h) r
    exact ⟨_, by rw [List.map_cons, Dt.pys, Dt.py]; exact .cons (.int n t) q⟩
theorem N7 {h : Heap} {a : Addr} {its : Array Value} {ns : List Int} (t : IsTup h a its) (i : IntsAre its.toList ns) : ∃ as, Reads h (.ref a) (Oo ns).py as := by
  obtain ⟨o, h1, h2, n, h3⟩ := t
  obtain ⟨as, r⟩ := Mp (h := h) i
  exact ⟨_, by rw [Dt.py]; exact .tuple h1 h2 h3 r⟩
theorem Ql {A : Around} {s : Shared} {a b : Addr} {i1 i2 : Array Value} {ns ms : List Int} (t1 : IsTup s.heap a i1) (t2 : IsTup s.heap b i2) (n1 : IntsAre i1.toList ns) (n2 : IntsAre i2.toList ms) (hu : A.units + 8 < cLine) : EqAt A s (.ref a) (.ref b) (decide (ns = ms)) := by
  have fl : ∀ ns : List Int, (Oo ns).flat 8 = true := fun ns => Qt ns
  obtain ⟨ca, da⟩ := Fv _ 8 (fl ns)
  obtain ⟨cb, db⟩ := Fv _ 8 (fl ms)
  obtain ⟨as, q1⟩ := N7 t1 n1
  obtain ⟨bs, q2⟩ := N7 t2 n2
  have h := SeqAt.eqAt_reads _ _ A s _ _ as bs q1 q2 ca cb (by omega)
  rw [Py _ _ ca cb] at h
  have ee : (Oo ns).eq (Oo ms) = decide (ns = ms) := by
    show Dt.eq (.tup _) (.tup _) = _
    rw [Um, Vk]
  rw [ee] at h
  exact h
theorem Xf (hc : X.calm = true) (hu : X.A.in1.units + 16 < cLine) : Ig X (.builtin "min") (Adi X.K) := by
  intro pins s σ H xs us Q I r h
  obtain ⟨l, vs, ps, rfl, hl, ne, each, q⟩ := h
  obtain ⟨u, rfl, r1⟩ := vals1 r
  cases r1
  obtain ⟨its, rv, pl, _⟩ := I.list hl
  have hlen : its.length = vs.length := rv.length.symm
  have ll : l < s.heap.objs.size := by
    obtain ⟨_, e, _⟩ := pl.isList
    exact Heap.lt_size e
  refine Q7 (wpAny_pyIter_list pl.isList ?_)
  refine ⟨s.heap.objs.size, [s.heap.objs.size, l], [s.heap.objs.size], its.toArray.size, fun i v => its.toArray[i]? = some v, _, fun i j => Eb (ps i) (ps j), rfl, Walks.list (A := X.A.in1) (I.ok.hd hc) _ l (Nat.ne_of_lt ll) its.toArray, ⟨⟨_, Heap.get?_push_size _ rfl, rfl, rfl⟩, pl.isList.push _⟩, fun b hb => ?_, ?_, ?_, ?_⟩
  · show b < (s.heap.push _).objs.size
    rw [Heap.size_push]
    have hb : b = s.heap.objs.size ∨ b = l := by simpa using hb
    rcases hb with e | e
    · rw [e]; exact Nat.lt_succ_self _
    · rw [e]; exact Nat.lt_succ_of_lt ll
  · rw [List.size_toArray]; omega
  · intro h1 k1 i j x y s' Q' E' kept hx hy q'
    have go : ∀ a o, s.heap.get? a = some o → s'.heap.get? a = some o := fun a o eo => by
      have la := Heap.lt_size eo
      refine kept a o (fun z => ?_) (fun z => ?_) (k1 a o (Heap.get?_push_of_some _ eo))
      · have e2 : a = s.heap.objs.size := by simpa using z
        exact Nat.lt_irrefl _ (e2 ▸ la)
      · have e2 : a = (s.heap.push _).objs.size := z
        rw [Heap.size_push] at e2
        exact Nat.lt_irrefl _ (Nat.lt_of_succ_lt (e2 ▸ la))
    have tup : ∀ {a : Addr} {xs : List V}, SqT X.K H a xs → ∃ us : List Value, Vals xs us ∧ IsTup s'.heap a us.toArray := fun {a xs} ht => by
      obtain ⟨us, r3, ⟨o, eo, rest⟩, _⟩ := I.tuple ht
      exact ⟨us, r3, o, go a o eo, rest⟩
    have fact : ∀ (i : Nat) (x : Value), its.toArray[i]? = some x → ∃ p p1 p2 i1 i2, x = .ref p ∧ IsTup s'.heap p [Value.ref p1, .ref p2].toArray ∧ IsTup s'.heap p1 i1 ∧ IsTup s'.heap p2 i2 ∧ IntsAre i1.toList (ps i).1 ∧ IntsAre i2.toList (ps i).2 := fun i x hx => by
      obtain ⟨v, e1, r2⟩ := Vals.at rv i x (by simpa using hx)
      obtain ⟨p, p1, p2, rfl, t0, t1, t2⟩ := each i v e1
      cases r2
      obtain ⟨us, r0, u0⟩ := tup t0
      obtain ⟨u1, r1, w1⟩ := tup t1
      obtain ⟨u2, r2, w2⟩ := tup t2
      rw [Aab r0] at u0
      exact ⟨p, p1, p2, u1.toArray, u2.toArray, rfl, u0, w1, w2, intsAre_of r1, intsAre_of r2⟩
    obtain ⟨p, p1, p2, i1, i2, rfl, a0, a1, a2, n1, n2⟩ := fact i x hx
    obtain ⟨b, b1, b2, j1, j2, rfl, c0, c1, c2, m1, m2⟩ := fact j y hy
    have in2 : X.A.in1.in1.units = X.A.in1.units + 1 := rfl
    refine Ze a0 c0 ?_ (by omega) q'
    show Lex X.A.in1.in1 s' [.ref p1, .ref p2] [.ref b1, .ref b2] _
    have e1 := Ql (A := X.A.in1.in1) a1 c1 n1 m1 (by omega)
    have e2 := Ql (A := X.A.in1.in1) a2 c2 n2 m2 (by omega)
    show Lex X.A.in1.in1 s' [.ref p1, .ref p2] [.ref b1, .ref b2] (if (ps i).1 = (ps j).1 then HT.lexLt (ps i).2 (ps j).2 else HT.lexLt (ps i).1 (ps j).1)
    by_cases h1 : (ps i).1 = (ps j).1
    · rw [if_pos h1]
      rw [decide_eq_true h1] at e1
      refine .eq e1 ?_
      by_cases h2 : (ps i).2 = (ps j).2
      · rw [decide_eq_true h2] at e2
        rw [h2]
        have : HT.lexLt (ps j).2 (ps j).2 = false := Jj _
        rw [this]
        exact .eq e2 .nn
      · rw [decide_eq_false h2] at e2
        exact .lt e2 fun prog w E Q h => HT.Lq a2 c2 n2 m2 (by omega) h
    · rw [if_neg h1]
      rw [decide_eq_false h1] at e1
      exact .lt e1 fun prog w E Q h => HT.Lq a1 c1 n1 m1 (by omega) h
  · intro v h' tk hv k
    obtain ⟨x, e1, r2⟩ := Vals.at rv _ v (by simpa using hv)
    rw [hlen] at e1
    refine ⟨x, H, I.kept fun b o e => k b o (fun z => ?_) (Heap.get?_push_of_some _ e), r2, q x e1⟩
    have e2 : b = s.heap.objs.size := by simpa using z
    have e3 := Heap.lt_size e
    exact Nat.lt_irrefl _ (e2 ▸ e3)
noncomputable def Iv (ps : List (List Int × List Int)) : Nat := argBest (fun i j => Eb (ps.getD i ([], [])) (ps.getD j ([], []))) (ps.length - 1)
noncomputable def AdA : DL := fun ds Q => ∃ ps : List (List Int × List Int), ds = [.lst (ps.map JZ)] ∧ 0 < ps.length ∧ Iv ps < ps.length ∧ Q (JZ (ps.getD (Iv ps) ([], [])))
theorem ints_of {K : PySem.W.Frag} {M : Hp} {ns : List Int} {xs : List V} (r : RpL K M (ns.map Dt.int) xs) : xs = ns.map V.int := by
  induction ns generalizing xs with
  | nil => exact Bs.mp r
  | cons n ns ih =>
    obtain ⟨v, w, rfl, r1, r2⟩ := Ay.mp r
    rw [Bd.mp r1, ih r2]
    rfl
theorem AaO {K : PySem.W.Frag} {M : Hp} {a : List Int × List Int} {v : V} (r : Rp K M (JZ a) v) : Lz K M v a := by
  obtain ⟨p, xs, rfl, h1, h2⟩ := Ds.mp r
  obtain ⟨v1, w1, rfl, r1, h2⟩ := Ay.mp h2
  obtain ⟨v2, w2, rfl, r2, h2⟩ := Ay.mp h2
  obtain rfl := Bs.mp h2
  obtain ⟨p1, x1, rfl, g1, k1⟩ := Ds.mp r1
  obtain ⟨p2, x2, rfl, g2, k2⟩ := Ds.mp r2
  rw [ints_of k1] at g1
  rw [ints_of k2] at g2
  exact ⟨p, p1, p2, rfl, h1, g1, g2⟩
theorem Lz.mono {K : PySem.W.Frag} {M M' : Hp} {a : List Int × List Int} {v : V} (s : Same M M') (h : Lz K M v a) : Lz K M' v a := by
  obtain ⟨p, p1, p2, e, h1, h2, h3⟩ := h
  exact ⟨p, p1, p2, e, s.seqT h1, s.seqT h2, s.seqT h3⟩
theorem Y6 {K : PySem.W.Frag} : Qw K (Adi K) AdA where
  mono := fun hq ⟨ps, e, n0, lt, h⟩ => ⟨ps, e, n0, lt, hq _ h⟩
  ok := fun O H ds xs Q _ r ⟨ps, e, n0, lt, h⟩ => by
    subst e
    obtain ⟨x, r', rfl, r2, r3⟩ := Ay.mp r
    obtain rfl := Bs.mp r3
    obtain ⟨l, vs, rfl, hs, hl⟩ := Ec r2
    have len : vs.length = ps.length := by rw [hl.len, List.length_map]
    have at' : ∀ (i : Nat) (v : V), vs[i]? = some v → Rp K (mask O H) (JZ (ps.getD i ([], []))) v := fun i v e => by
      obtain ⟨d, e1, e2⟩ := hl.get' e
      rw [List.getElem?_map] at e1
      cases w : ps[i]? with
      | none => rw [w] at e1; cases e1
      | some a =>
        rw [w] at e1
        cases e1
        rw [List.getD_eq_getElem?_getD, w]
        exact e2
    refine ⟨l, vs, fun i => ps.getD i ([], []), rfl, Bh.seq hs, by omega, fun i v e => (AaO (at' i v e)).mono Bh, fun v e => ?_⟩
    rw [len] at e
    exact h v H (Same.refl H) (at' _ v e)
theorem AbV {a : Expr} {tl : DTA} {p pos : Pos} (hm : X.mg "min" = none) (hu : X.A.in1.units + 16 < cLine) (ha : DA X [a] tl) (hc : X.calm = true := by rfl) (hg : Gl X "min" := by rfl) (hv : bootBuiltins "min" = some (.builtin "min") := by rfl) (he : starEach [a] X.env = (false, eval a X.env) :: starEach [] X.env := by rfl)
    (hpl : (backTo pos (starEach [] X.env)).any (·.1) = false := by rfl) : DE X (.Call (.Name "min" p) [a] [] pos) (dCB AdA tl) := Oc (Xf hc hu) Y6 hg hm hv ha (he := he) (hpl := hpl)
theorem AeX {A : Around} (h : A.units + 64 < cLine) : A.in1.units + 16 < cLine := by show A.units + 1 + 16 < cLine; omega
end
end L2
namespace L2
open PySem PySem.Spec PyProof.Rows PySem.SeqAt
section
variable {X : Cx} {a b : Expr} {ta tb : DTE} {pos : Pos}
end
end L2
namespace L2
open PySem PySem.Spec PyProof.Rows PySem.SeqAt
section
variable {X : Cx} {k : Nat} {f C : Addr} {fd : FuncData} {ps : List Str} {sp : Sp} {x : Str} {p pos : Pos} {e : Expr} {es : List Expr} {t : TA}
end
section
variable {X : Cx} {o e : Expr} {es : List Expr} {tl : DTA} {te : Iz} {pos : Pos}
end
section
variable {X : Cx} {es : List Expr} {pos : Pos}
end
end L2
namespace L2
open PySem PySem.Spec PyProof.Rows PySem.SeqAt
section
variable {X : Cx} {e o : Expr} {es : List Expr} {t : TA} {pos apos : Pos}
noncomputable def Ae9 (X : Cx) (m : Str) (g : Addr) (sp : Sp) (ta : TE) (t : TA) : TE := fun σ H Q => ta σ H fun x H1 => ∃ a C dx fs, x = .ref a ∧ H1 a = some (.ins C dx fs) ∧ Cls X.K C ∧ Meth X.K C m g ∧ fs.lookup m = none ∧ t σ H1 fun vs H2 => sp (x :: vs) H2 Q fun v _ H' => ∃ a, v = .ref a ∧ S8 X σ a H'
theorem X6 {pl : Sem Bool} {k : Nat} {m : Str} {g : Addr} {fd : FuncData} {ps : List Str} {sp : Sp} {ta : TE} (he : PE X o ta) (F : Dl X.prog X.w X.K X.mg X.base (CXe X.prog X.w) k g fd ps sp) (hr : CN k X.A) (hb : Binds X.K fd ps []) (ha : PA X (e :: es) t)
    (hst : starEach (e :: es) X.env = (false, eval e X.env) :: starEach es X.env := by rfl) (hpl : (backTo pos (starEach es X.env)).any (·.1) = false := by rfl)
    (ht : eval (.Call (.Attribute o m apos) (e :: es) [] pos) X.env = (do
      let ov ← eval o X.env
      standAt apos.atName
      let (f, first) ← holding [ov] (getMethod ov m pl)
      callWith pos f first (backTo pos (starEach (e :: es) X.env)) (backToKw pos (keywordEach [] X.env))) := by rfl) :
    PE X (.Call (.Attribute o m apos) (e :: es) [] pos) (Ae9 X m g sp ta t) := by
  intro pins s σ H Q I h
  refine PySem.W.methodCall_KW (pl := pl) (thn (he pins s σ H _ I h) fun u s1 ⟨x, H1, I1, rx, a, C, dx, fs, ex, ea, c, hm, l, q⟩ => ?_) ht
  subst ex
  obtain rfl : u = Value.ref a := rx
  refine IK I1 ea c hm l ?_
  refine PySem.W.callWith_K (first := [.ref a]) (h₀ := X.base) I.ok.mod.kin hm.kp (thn (ha pos pins s1 σ H1 _ I1 q) fun us s2 ⟨vs, H2, I2, r, q2⟩ => ⟨I2.kIn, ?_⟩) hst hpl
  exact Vh (us := .ref a :: us) (vs := .ref a :: vs) F hr hb I2 (.cons rfl r) q2
end
noncomputable def Xd (P : Program) (w : World) (K : PySem.W.Frag) (mg : Str → Option Value) (base : Heap) (k : Nat) (cs : List Str) (m : Str) (sp : Jf) : Prop := ∃ g fd ps, (∀ c ∈ cs, NK K c m g) ∧ PySem.W.keepIn K (.ref g) = true ∧ Binds K fd ps [] ∧ Dl P w K mg base (CXe P w) k g fd ps (AeL K sp)
theorem Xd.pm {P : Program} {w : World} {K : PySem.W.Frag} {mg : Str → Option Value} {base : Heap} {k : Nat} {cs : List Str} {m : Str} {sp : Jf} {sp' : DSp} (G : Xd P w K mg base k cs m sp) (M : QL sp) (h : ∀ ds Q, sp' ds Q → sp ds Q fun _ => False) : PmM P w K mg base k cs m sp' := by
  obtain ⟨g, fd, ps, hm, kp, B, G⟩ := G
  exact ⟨g, fd, ps, hm, kp, B, G.calm fun vs H Q E ⟨F', ds, h1, r, q⟩ => ⟨F', ds, h1, r, M ds _ _ _ _ (fun _ z => z) (fun _ z => z.elim) (h ds _ q)⟩⟩
section
variable {X : Cx} {e o a b : Expr} {es : List Expr} {te : DTE} {tl : DTA} {tx : Iz} {tb : DTE} {pos apos : Pos}
noncomputable def Ys (cs : List Str) (m : Str) (sp : Jf) (te : DTE) (tl : DTA) : Iz := fun ρ Q E => te ρ fun d => match d with
  | .obj c ns ds => (c ∈ cs ∧ m ∉ ns) ∧ tl ρ fun es => sp (.obj c ns ds :: es) Q E
  | _ => False
theorem Xl {pl : Sem Bool} {k : Nat} {cs : List Str} {m : Str} {sp : Jf} (M : QL sp) (G : Xd X.prog X.w X.K X.mg X.base k cs m sp) (hr : CN k X.A) (h : DE X o te) (ha : DA X (e :: es) tl)
    (hst : starEach (e :: es) X.env = (false, eval e X.env) :: starEach es X.env := by rfl) (hpl : (backTo pos (starEach es X.env)).any (·.1) = false := by rfl)
    (ht : eval (.Call (.Attribute o m apos) (e :: es) [] pos) X.env = (do
      let ov ← eval o X.env
      standAt apos.atName
      let (f, first) ← holding [ov] (getMethod ov m pl)
      callWith pos f first (backTo pos (starEach (e :: es) X.env)) (backToKw pos (keywordEach [] X.env))) := by rfl) : DEX X (.Call (.Attribute o m apos) (e :: es) [] pos) (Ys cs m sp te tl) := by
  obtain ⟨g, fd, ps, hm, kp, B, G⟩ := G
  refine ⟨fun hq hx z => h.mono (fun d z => by
    split at z
    · exact ⟨z.1, ha.mono (fun es z => M _ _ _ _ _ hq hx z) z.2⟩
    · exact z.elim) z, (X6 h.pe G hr B ha.pa hst hpl ht).imp fun σ H Q ⟨B, F, O, ρ, R, z⟩ => ⟨B, F, O, ρ, R, h.mono (fun d z v H1 s1 r1 => ?_) z⟩⟩
  split at z
  · obtain ⟨⟨mo, nm⟩, z⟩ := z
    obtain ⟨a, C, dx, vs, e0, h1, cl, h2, _, h5⟩ := JN.mp r1
    subst e0
    refine ⟨a, C, dx, _, rfl, Bh _ _ h2, cl, hm _ mo C h1, LR nm, B, F, O, ρ, R.same s1, ha.mono (fun es z ws H2 s2 r2 => ?_) z⟩
    exact ⟨F ++ O, _, ((R.same s1).same s2).th, RpL.cons (r1.mono s2.mask) r2, M _ _ _ _ _ (fun d q w H3 s3 r3 => q w H3 ((s1.trans s2).trans s3) r3) (fun x q a H3 s3 r3 => ⟨a, rfl, q a H3 ((s1.trans s2).trans s3) r3⟩) z⟩
  · exact z.elim
noncomputable def Adj (t : D2) (tx : Iz) (tb : DTE) : Iz := fun ρ Q E => tx ρ (fun a => tb ρ fun b => t a b Q) E
theorem Acq {op : CmpOp} {r : R2} {t : D2} (ho : OpR X (compareOp op) r) (S : Gg X.K r t) (h : DEX X a tx) (hb : DE X b tb) (hm : behindInMarks op b = false) : DEX X (.Compare a [op] [b] pos) (Adj t tx tb) where
  mono := fun hq hx z => h.mono (fun d z => hb.mono (fun _ z => S.mono hq z) z) hx z
  pe := (Wo ho h.pe hb.pe hm).imp fun σ H Q ⟨B, F, O, ρ, R, z⟩ => ⟨B, F, O, ρ, R, h.mono (fun a z v H1 s1 r1 => ⟨B, F, O, ρ, R.same s1, hb.mono (fun b z u H2 s2 r2 => S.ok _ H2 a b v u Q ((R.same s1).same s2).th (r1.mono s2.mask) r2 (S.mono (fun d q w H3 s3 r3 => q w H3 ((s1.trans s2).trans s3) r3) z)) z⟩) (fun _ z => z) z⟩
end
end L2
namespace My
open PySem L2
noncomputable abbrev Aj5 : DSp := Agp
noncomputable abbrev I4 := Int × Int × Int × Int
noncomputable abbrev I2 := Int × Int
noncomputable abbrev t4 (p : I4) : Dt := T4 p.1 p.2.1 p.2.2.1 p.2.2.2
noncomputable abbrev t2 (p : I2) : Dt := T2 p.1 p.2
noncomputable def B4 (n : Nat) (p : I4) : Prop := Bt n p.1 ∧ Bt n p.2.1 ∧ Bt n p.2.2.1 ∧ Bt n p.2.2.2
noncomputable def B2 (n : Nat) (p : I2) : Prop := Bt n p.1 ∧ Bt n p.2
noncomputable def det (p : I4) : Int := p.1 * p.2.2.2 - p.2.1 * p.2.2.1
noncomputable def Aeh (t : I4) (p : I2) : I2 := (t.1 * p.1 + t.2.1 * p.2, t.2.2.1 * p.1 + t.2.2.2 * p.2)
noncomputable def Aj (a b : I4) : I4 := (a.1 * b.1 + a.2.1 * b.2.2.1, a.1 * b.2.1 + a.2.1 * b.2.2.2, a.2.2.1 * b.1 + a.2.2.2 * b.2.2.1, a.2.2.1 * b.2.1 + a.2.2.2 * b.2.2.2)
noncomputable def Ax (t : I4) : I4 := (t.2.2.2, -t.2.1, -t.2.2.1, t.1)
theorem B4.le {n m : Nat} {t : I4} (h : B4 n t) (l : n ≤ m) : B4 m t := ⟨h.1.le l, h.2.1.le l, h.2.2.1.le l, h.2.2.2.le l⟩
theorem B4.back {n : Nat} {t : I4} (h : B4 n t) : B4 n (Ax t) := ⟨h.2.2.2, h.2.1.neg, h.2.2.1.neg, h.1⟩
theorem B2.led {n m : Nat} {t : I4} {p : I2} (h : B4 n t) (q : B2 m p) : B2 (n + m + 1) (Aeh t p) :=
  ⟨((h.1.mul q.1).add (h.2.1.mul q.2)).le (by omega), ((h.2.2.1.mul q.1).add (h.2.2.2.mul q.2)).le (by omega)⟩
theorem B4.then {n m : Nat} {t u : I4} (h : B4 n t) (q : B4 m u) : B4 (n + m + 1) (Aj t u) :=
  ⟨((h.1.mul q.1).add (h.2.1.mul q.2.2.1)).le (by omega), ((h.1.mul q.2.1).add (h.2.1.mul q.2.2.2)).le (by omega), ((h.2.2.1.mul q.1).add (h.2.2.2.mul q.2.2.1)).le (by omega), ((h.2.2.1.mul q.2.1).add (h.2.2.2.mul q.2.2.2)).le (by omega)⟩
theorem Dv {t : I4} : det (Ax t) = det t := by obtain ⟨a, b, c, d⟩ := t; simp only [det, Ax]; grind
theorem CJ {t u : I4} : det (Aj t u) = det t * det u := by obtain ⟨a, b, c, d⟩ := t; obtain ⟨e, f, g, h⟩ := u; simp only [det, Aj]; grind
theorem HY {t : I4} (h : det t = 1) : Aj t (Ax t) = (1, 0, 0, 1) := by
  obtain ⟨a, b, c, d⟩ := t
  simp only [det, Aj, Ax, Prod.mk.injEq] at *
  refine ⟨?_, ?_, ?_, ?_⟩ <;> grind
theorem N5 {t : I4} (h : det t = 1) : Aj (Ax t) t = (1, 0, 0, 1) := by
  obtain ⟨a, b, c, d⟩ := t
  simp only [det, Aj, Ax, Prod.mk.injEq] at *
  refine ⟨?_, ?_, ?_, ?_⟩ <;> grind
theorem AaC {s t : I4} : Dt.eq (t4 s) (t4 t) = decide (s = t) := by
  obtain ⟨a, b, c, d⟩ := s
  obtain ⟨e, f, g, h⟩ := t
  simp only [Um, Tv, TV, Qm, Prod.mk.injEq, Bool.and_true]
  simp only [Bool.decide_and]
noncomputable abbrev I3 := Int × Int × Int
noncomputable abbrev t3 (p : I3) : Dt := T3 p.1 p.2.1 p.2.2
noncomputable def B3 (n : Nat) (p : I3) : Prop := Bt n p.1 ∧ Bt n p.2.1 ∧ Bt n p.2.2
theorem B3.le {n m : Nat} {t : I3} (h : B3 n t) (l : n ≤ m) : B3 m t := ⟨h.1.le l, h.2.1.le l, h.2.2.le l⟩
noncomputable def meas (f : I3) : Int := f.2.1 * f.2.1 - 4 * f.1 * f.2.2
noncomputable def val (f : I3) (p : I2) : Int := f.1 * p.1 * p.1 + f.2.1 * p.1 * p.2 + f.2.2 * p.2 * p.2
noncomputable def mid (f : I3) (l r : I2) : Int := 2 * f.1 * l.1 * r.1 + f.2.1 * (l.1 * r.2 + r.1 * l.2) + 2 * f.2.2 * l.2 * r.2
noncomputable def mov (f : I3) (t : I4) : I3 := (val f (t.1, t.2.2.1), mid f (t.1, t.2.2.1) (t.2.1, t.2.2.2), val f (t.2.1, t.2.2.2))
theorem Ajs {f : I3} {t : I4} {p : I2} : val (mov f t) p = val f (Aeh t p) := by
  obtain ⟨a, b, c⟩ := f; obtain ⟨e, g, h, i⟩ := t; obtain ⟨x, y⟩ := p
  simp only [val, mov, mid, Aeh]; grind
theorem Bq {f : I3} {t : I4} (h : det t = 1) : meas (mov f t) = meas f := by
  obtain ⟨a, b, c⟩ := f; obtain ⟨e, g, i, j⟩ := t
  simp only [det] at h
  have e1 : meas (mov (a, b, c) (e, g, i, j)) = (e * j - g * i) * (e * j - g * i) * meas (a, b, c) := by simp only [meas, mov, val, mid]; grind
  rw [e1, h]; simp
theorem Bj {f : I3} {t u : I4} : mov (mov f t) u = mov f (Aj t u) := by
  obtain ⟨a, b, c⟩ := f; obtain ⟨e, g, i, j⟩ := t; obtain ⟨k, l, m, n⟩ := u
  simp only [mov, val, mid, Aj, Prod.mk.injEq]
  refine ⟨?_, ?_, ?_⟩ <;> grind
theorem Di {f : I3} : mov f (1, 0, 0, 1) = f := by
  obtain ⟨a, b, c⟩ := f
  simp only [mov, val, mid, Prod.mk.injEq]
  refine ⟨?_, ?_, ?_⟩ <;> grind
theorem Zo {s t : I3} : Dt.eq (t3 s) (t3 t) = decide (s = t) := by
  obtain ⟨a, b, c⟩ := s
  obtain ⟨e, f, g⟩ := t
  simp only [Um, Tv, TV, Qm, Prod.mk.injEq, Bool.and_true]
  simp only [Bool.decide_and]
theorem B3.mov {f : I3} {t : I4} {n m : Nat} (hf : B3 n f) (ht : B4 m t) : B3 (n + m + m + 5) (mov f t) := by
  obtain ⟨a, b, c⟩ := f; obtain ⟨e, g, i, j⟩ := t
  obtain ⟨ha, hb, hc⟩ := hf
  obtain ⟨he, hg, hi, hj⟩ := ht
  have h2 : Bt 2 2 := Bt.of_abs (by decide)
  refine ⟨?_, ?_, ?_⟩
  · exact ((((ha.mul he).mul he).add ((hb.mul he).mul hi)).add ((hc.mul hi).mul hi)).le (by omega)
  · exact (((((h2.mul ha).mul he).mul hg).add (hb.mul ((he.mul hj).add (hg.mul hi)))).add (((h2.mul hc).mul hi).mul hj)).le (by omega)
  · exact ((((ha.mul hg).mul hg).add ((hb.mul hg).mul hj)).add ((hc.mul hj).mul hj)).le (by omega)
noncomputable def Sq (n r : Int) : Prop := 0 ≤ r ∧ r * r ≤ n ∧ n < (r + 1) * (r + 1)
theorem Sq.uniq {n r s : Int} (a : Sq n r) (b : Sq n s) : r = s := by
  obtain ⟨a0, a1, a2⟩ := a
  obtain ⟨b0, b1, b2⟩ := b
  rcases Int.lt_trichotomy r s with h | h | h
  · have := Int.mul_le_mul (show r + 1 ≤ s by omega) (show r + 1 ≤ s by omega) (by omega) b0
    omega
  · exact h
  · have := Int.mul_le_mul (show s + 1 ≤ r by omega) (show s + 1 ≤ r by omega) (by omega) a0
    omega
theorem WT {n g : Int} (hn : 0 ≤ n) (hg : 0 < g) : n < ((g + n / g) / 2 + 1) * ((g + n / g) / 2 + 1) := by
  have h1 : n < g * (n / g) + g := Int.lt_mul_ediv_self_add hg
  have h0 : 0 ≤ n / g := Int.ediv_nonneg hn (by omega)
  generalize n / g = q at *
  have hb : g + q ≤ 2 * ((g + q) / 2) + 1 := by omega
  have hb0 : 0 ≤ (g + q) / 2 := by omega
  generalize (g + q) / 2 = b at *
  have z1 : 0 ≤ (g - q - 1) * (g - q - 1) := by
    rcases Int.le_total 0 (g - q - 1) with h | h
    · exact Int.mul_nonneg h h
    · exact Int.mul_nonneg_of_nonpos_of_nonpos h h
  have z2 : (g + q + 1) * (g + q + 1) = (g - q - 1) * (g - q - 1) + 4 * (g * q + g) := by grind
  have z3 : (g + q + 1) * (g + q + 1) ≤ (2 * (b + 1)) * (2 * (b + 1)) := Int.mul_le_mul (by omega) (by omega) (by omega) (by omega)
  have z4 : (2 * (b + 1)) * (2 * (b + 1)) = 4 * ((b + 1) * (b + 1)) := by grind
  omega
theorem Ue {n g : Int} (hg : 0 < g) (h : g ≤ (g + n / g) / 2) : g * g ≤ n := by
  have h1 : g * (n / g) ≤ n := Int.mul_ediv_self_le (by omega)
  have h2 : g ≤ n / g := by omega
  have := Int.mul_le_mul_of_nonneg_left h2 (show 0 ≤ g by omega)
  omega
theorem S9 {n g : Int} (hn : 1 ≤ n) (hg : 0 < g) : 0 < (g + n / g) / 2 := by
  have h0 : 0 ≤ n / g := Int.ediv_nonneg (by omega) (by omega)
  rcases Int.lt_or_le g 2 with h | h
  · have : g = 1 := by omega
    subst this
    rw [Int.ediv_one]; omega
  · omega
theorem Zv {n : Int} (hn : 0 ≤ n) : n < (1 * 2 ^ ((((Builtin.Int.intBits n : Nat) : Int) + 1).fdiv 2).toNat + 1) * (1 * 2 ^ ((((Builtin.Int.intBits n : Nat) : Int) + 1).fdiv 2).toNat + 1) := by
  have h1 : n.natAbs < 2 ^ Builtin.Int.intBits n := intBits_le_iff.mp (Nat.le_refl _)
  generalize Builtin.Int.intBits n = b at *
  have e : ((((b : Nat) : Int) + 1).fdiv 2).toNat = (b + 1) / 2 := by
    rw [Int.fdiv_eq_ediv_of_nonneg _ (by decide)]; omega
  rw [e]
  generalize hk : (b + 1) / 2 = k
  have h2 : 2 ^ b ≤ 2 ^ k * 2 ^ k := by rw [← Nat.pow_add]; exact Nat.pow_le_pow_right (by decide) (by omega)
  have h3 : n < ((2 ^ k * 2 ^ k : Nat) : Int) := by omega
  have h4 : ((2 ^ k * 2 ^ k : Nat) : Int) = (2 ^ k : Int) * 2 ^ k := by push_cast; rfl
  rw [h4] at h3
  have h5 : (0 : Int) ≤ 2 ^ k := Int.pow_nonneg (by decide)
  generalize (2 ^ k : Int) = z at *
  have : (1 * z + 1) * (1 * z + 1) = z * z + 2 * z + 1 := by grind
  omega
theorem Rg {n : Int} (h : Bt 4000 n) : Rk 1 ((((Builtin.Int.intBits n : Nat) : Int) + 1).fdiv 2) ∧ Bt 2001 (1 * 2 ^ ((((Builtin.Int.intBits n : Nat) : Int) + 1).fdiv 2).toNat) ∧ 0 < (1 * 2 ^ ((((Builtin.Int.intBits n : Nat) : Int) + 1).fdiv 2).toNat : Int) := by
  have hb : Builtin.Int.intBits n ≤ 4000 := intBits_le_iff.mpr h
  generalize Builtin.Int.intBits n = b at *
  rw [Int.fdiv_eq_ediv_of_nonneg _ (by decide)]
  refine ⟨⟨by omega, by omega, by decide⟩, ?_, ?_⟩
  · have e : (((b : Int) + 1) / 2).toNat ≤ 2000 := by omega
    generalize (((b : Int) + 1) / 2).toNat = k at *
    unfold Bt
    rw [Int.one_mul, Int.natAbs_pow]
    exact Nat.pow_lt_pow_right (by decide) (by omega)
  · rw [Int.one_mul]
    exact Int.pow_pos (by decide)
theorem U0 {n g : Int} (hg : 0 < g) : (g + n.fdiv g).fdiv 2 = (g + n / g) / 2 := by
  rw [Int.fdiv_eq_ediv_of_nonneg _ (by decide), Int.fdiv_eq_ediv_of_nonneg _ (by omega)]
noncomputable def Gw (n : Int) : Prop := ∃ r : Int, r * r = n
theorem Zy {n r : Int} (h : Sq n r) : Gw n ↔ r * r = n := by
  refine ⟨fun ⟨s, e⟩ => ?_, fun e => ⟨r, e⟩⟩
  have hs : Sq n (s.natAbs : Int) := by
    have e2 : (s.natAbs : Int) * (s.natAbs : Int) = n := (Int.natAbs_mul_self' s).trans e
    refine ⟨by omega, by omega, ?_⟩
    have : ((s.natAbs : Int) + 1) * ((s.natAbs : Int) + 1) = (s.natAbs : Int) * (s.natAbs : Int) + 2 * (s.natAbs : Int) + 1 := by grind
    omega
  rw [h.uniq hs]
  exact (Int.natAbs_mul_self' s).trans e
theorem Jr {n : Int} (h : n < 0) : ¬ Gw n := fun ⟨r, e⟩ => by
  have : 0 ≤ r * r := by
    rcases Int.le_total 0 r with h | h
    · exact Int.mul_nonneg h h
    · exact Int.mul_nonneg_of_nonpos_of_nonpos h h
  omega
noncomputable abbrev K1 : DSp := spec (fun n : Int => [.int n]) (fun n => 0 ≤ n ∧ Bt 4000 n) fun n d => ∃ r, d = .int r ∧ Sq n r ∧ Bt 2001 r
noncomputable abbrev Jz : DSp := spec (fun n : Int => [.int n]) (fun n => Bt 4000 n) fun n d => ∃ b : Bool, d = .bl b ∧ (b = true ↔ Gw n)
theorem JT (a b : Int) : a.fmod b = a - b * a.fdiv b := Int.fmod_def a b
theorem AcH {a b : Int} (h : b ≠ 0) : (a.fmod b).natAbs < b.natAbs := by
  rcases Int.lt_or_lt_of_ne h with h | h
  · have e : a.fmod b = -((-a).fmod (-b)) := by rw [JT, JT, Int.neg_fdiv_neg]; grind
    have h1 := Int.fmod_nonneg_of_pos (-a) (show 0 < -b by omega)
    have h2 := Int.fmod_lt_of_pos (-a) (show 0 < -b by omega)
    omega
  · have h1 := Int.fmod_nonneg_of_pos a h
    have h2 := Int.fmod_lt_of_pos a h
    omega
theorem XS (a b : Int) : Int.gcd b (a.fmod b) = Int.gcd a b := by
  rw [JT]
  have : a - b * a.fdiv b = a + b * (-(a.fdiv b)) := by grind
  rw [this, Int.gcd_comm]
  first
    | rw [Int.gcd_add_mul_left_left]
    | simp
noncomputable def g3 (f : I3) : Nat := Int.gcd ((Int.gcd f.1 f.2.1 : Nat) : Int) f.2.2
theorem Ac6 {f : I3} (h : g3 f = 0) : f = (0, 0, 0) := by
  obtain ⟨a, b, c⟩ := f
  have h1 := Int.gcd_eq_zero_iff.mp h
  have h2 := Int.gcd_eq_zero_iff.mp (show Int.gcd a b = 0 by have := h1.1; simp only at this; omega)
  have h3 : c = 0 := h1.2
  rw [h2.1, h2.2, h3]
theorem Ad6 (f : I3) : (g3 f : Int) ∣ f.1 ∧ (g3 f : Int) ∣ f.2.1 ∧ (g3 f : Int) ∣ f.2.2 := by
  have h1 : (g3 f : Int) ∣ ((Int.gcd f.1 f.2.1 : Nat) : Int) := Int.gcd_dvd_left _ _
  exact ⟨Int.dvd_trans h1 (Int.gcd_dvd_left _ _), Int.dvd_trans h1 (Int.gcd_dvd_right _ _), Int.gcd_dvd_right _ _⟩
inductive Zk (f : I3) : Dt → Prop
  | flat : Gw (meas f) → Zk f (.str "flat")
  | saddle : ¬ Gw (meas f) → 0 < meas f → Zk f (.str "saddle")
  | bowl : ¬ Gw (meas f) → ¬ 0 < meas f → 0 < f.1 → Zk f (.str "bowl")
  | dome : ¬ Gw (meas f) → ¬ 0 < meas f → ¬ 0 < f.1 → Zk f (.str "dome")
noncomputable def Pt (x y : Int) : Prop := ¬ (x = 0 ∧ y = 0)
structure DQ (f : I3) : Prop where
  pos : 0 < f.1
  lo : -f.1 ≤ f.2.1
  hi : f.2.1 ≤ f.1
  ac : f.1 ≤ f.2.2
  edge : f.2.1 = -f.1 ∨ f.1 = f.2.2 → 0 ≤ f.2.1
theorem sq_pos {x : Int} (h : x ≠ 0) : 1 ≤ x * x := by
  rcases Int.lt_or_lt_of_ne h with h | h
  · have := Int.mul_le_mul_of_nonneg_left (show 1 ≤ -x by omega) (show 0 ≤ -x by omega)
    have e : (-x) * (-x) = x * x := by grind
    omega
  · have := Int.mul_le_mul_of_nonneg_left (show 1 ≤ x by omega) (show 0 ≤ x by omega)
    omega
theorem VF {a b c x y : Int} (ha : 0 < a) (h1 : -a ≤ b) (h2 : b ≤ a) (hc : a ≤ c) (hx : x ≠ 0) (hy : y ≠ 0) : c ≤ val (a, b, c) (x, y) := by
  have key : ∀ X Y B : Int, 1 ≤ X → 1 ≤ Y → 0 ≤ B → B ≤ a → a + c - B ≤ a * (X * X) - B * (X * Y) + c * (Y * Y) := fun X Y B hX hY hB0 hB => by
    have sX : 1 ≤ X * X := sq_pos (by omega)
    have sY : 1 ≤ Y * Y := sq_pos (by omega)
    rcases Int.le_total Y X with h | h
    · have z1 : X * Y ≤ X * X := Int.mul_le_mul_of_nonneg_left h (by omega)
      have z2 : B * (X * Y) ≤ B * (X * X) := Int.mul_le_mul_of_nonneg_left z1 hB0
      have z3 : (a - B) * 1 ≤ (a - B) * (X * X) := Int.mul_le_mul_of_nonneg_left sX (by omega)
      have z4 : c * 1 ≤ c * (Y * Y) := Int.mul_le_mul_of_nonneg_left sY (by omega)
      have z5 : (a - B) * (X * X) = a * (X * X) - B * (X * X) := by grind
      omega
    · have z1 : X * Y ≤ Y * Y := Int.mul_le_mul_of_nonneg_right h (by omega)
      have z2 : B * (X * Y) ≤ B * (Y * Y) := Int.mul_le_mul_of_nonneg_left z1 hB0
      have z3 : (c - B) * 1 ≤ (c - B) * (Y * Y) := Int.mul_le_mul_of_nonneg_left sY (by omega)
      have z4 : a * 1 ≤ a * (X * X) := Int.mul_le_mul_of_nonneg_left sX (by omega)
      have z5 : (c - B) * (Y * Y) = c * (Y * Y) - B * (Y * Y) := by grind
      omega
  have hX : 1 ≤ (x.natAbs : Int) := by omega
  have hY : 1 ≤ (y.natAbs : Int) := by omega
  have k := key x.natAbs y.natAbs b.natAbs hX hY (by omega) (by omega)
  have e1 : (x.natAbs : Int) * x.natAbs = x * x := Int.natAbs_mul_self' x
  have e2 : (y.natAbs : Int) * y.natAbs = y * y := Int.natAbs_mul_self' y
  have e3 : -((b.natAbs : Int) * ((x.natAbs : Int) * y.natAbs)) ≤ b * (x * y) := by
    have : ((b.natAbs : Int) * ((x.natAbs : Int) * y.natAbs)) = ((b * (x * y)).natAbs : Int) := by rw [Int.natAbs_mul, Int.natAbs_mul]; push_cast; rfl
    rw [this]; omega
  rw [e1, e2] at k
  have e4 : val (a, b, c) (x, y) = a * (x * x) + b * (x * y) + c * (y * y) := by simp only [val]; grind
  rw [e4]
  omega
theorem Jb {a b c x : Int} : val (a, b, c) (x, 0) = a * (x * x) := by simp only [val]; grind
theorem Sw {a b c y : Int} : val (a, b, c) (0, y) = c * (y * y) := by simp only [val]; grind
theorem DQ.min {f : I3} (L : DQ f) {x y : Int} (h : Pt x y) : f.1 ≤ val f (x, y) := by
  obtain ⟨a, b, c⟩ := f
  obtain ⟨h0, h1, h2, h3, _⟩ := L
  simp only at h0 h1 h2 h3 ⊢
  by_cases hy : y = 0
  · subst hy
    have hx : x ≠ 0 := fun z => h ⟨z, rfl⟩
    rw [Jb]
    have := Int.mul_le_mul_of_nonneg_left (sq_pos hx) (show 0 ≤ a by omega)
    omega
  · by_cases hx : x = 0
    · subst hx
      rw [Sw]
      have := Int.mul_le_mul_of_nonneg_left (sq_pos hy) (show 0 ≤ c by omega)
      omega
    · have := VF h0 h1 h2 h3 hx hy
      omega
theorem DQ.low {f : I3} (L : DQ f) {x y : Int} (h : val f (x, y) < f.2.2) : y = 0 := by
  obtain ⟨a, b, c⟩ := f
  obtain ⟨h0, h1, h2, h3, _⟩ := L
  simp only at h0 h1 h2 h3 h ⊢
  by_cases hy : y = 0
  · exact hy
  · exfalso
    by_cases hx : x = 0
    · subst hx
      rw [Sw] at h
      have := Int.mul_le_mul_of_nonneg_left (sq_pos hy) (show 0 ≤ c by omega)
      omega
    · have := VF h0 h1 h2 h3 hx hy
      omega
theorem AaK {t : I4} (h : det t = 1) : Pt t.1 t.2.2.1 := fun ⟨h1, h2⟩ => by
  obtain ⟨p, q, r, s⟩ := t
  simp only [det] at h h1 h2
  rw [h1, h2] at h
  simp at h
theorem Bu {f : I3} {t : I4} (h : det t = 1) : mov (mov f t) (Ax t) = f := by rw [Bj, HY h, Di]
theorem Xn {x : Int} (h : x * x = 1) : x = 1 ∨ x = -1 := by
  rcases Int.lt_or_le x 0 with z | z
  · have : (-x) * (-x) = 1 := by grind
    rcases Int.lt_or_le (-x) 2 with w | w
    · exact .inr (by omega)
    · have := Int.mul_le_mul w w (by decide) (by omega)
      omega
  · rcases Int.lt_or_le x 2 with w | w
    · rcases Int.lt_or_le x 1 with v | v
      · have : x = 0 := by omega
        rw [this] at h; simp at h
      · exact .inl (by omega)
    · have := Int.mul_le_mul w w (by decide) z
      omega
theorem DQ.fix {f : I3} {t : I4} (L : DQ f) (M : DQ (mov f t)) (h : det t = 1) (ha : (mov f t).1 = f.1) (hc : f.1 < f.2.2) : t = (1, 0, 0, 1) ∨ t = (-1, 0, 0, -1) := by
  obtain ⟨a, b, c⟩ := f
  obtain ⟨p, q, r, s⟩ := t
  have e1 : (mov (a, b, c) (p, q, r, s)).1 = val (a, b, c) (p, r) := rfl
  have hr : r = 0 := L.low (x := p) (by rw [← e1, ha]; exact hc)
  subst hr
  rw [e1, Jb] at ha
  have h0 : 0 < a := L.pos
  simp only at ha
  have hpp : p * p = 1 := by
    have : a * (p * p) = a * 1 := by rw [ha]; omega
    exact Int.eq_of_mul_eq_mul_left (by omega) this
  have hps : p * s = 1 := by simp only [det] at h; omega
  have hb : (mov (a, b, c) (p, q, 0, s)).2.1 = 2 * (a * (p * q)) + b := by
    show 2 * a * p * q + b * (p * s + q * 0) + 2 * c * 0 * s = _
    rw [hps]; grind
  have m1 : -a ≤ 2 * (a * (p * q)) + b := by
    have := M.lo
    rw [hb, e1, Jb, hpp] at this
    omega
  have m2 : 2 * (a * (p * q)) + b ≤ a := by
    have := M.hi
    rw [hb, e1, Jb, hpp] at this
    omega
  have m3 : 2 * (a * (p * q)) + b = -a → 0 ≤ 2 * (a * (p * q)) + b := fun z => by
    have := M.edge (.inl (by rw [hb, e1, Jb, hpp]; omega))
    rw [hb] at this
    exact this
  have l1 : -a ≤ b := L.lo
  have l2 : b ≤ a := L.hi
  have l3 : b = -a → 0 ≤ b := fun z => L.edge (.inl z)
  have hq : p * q = 0 := by
    generalize p * q = k at *
    rcases Int.lt_trichotomy k 0 with z | z | z
    · have := Int.mul_le_mul_of_nonneg_left (show k ≤ -1 by omega) (show 0 ≤ a by omega)
      omega
    · exact z
    · have := Int.mul_le_mul_of_nonneg_left (show 1 ≤ k by omega) (show 0 ≤ a by omega)
      omega
  rcases Xn hpp with rfl | rfl
  · have h1 : q = 0 := by omega
    have h2 : s = 1 := by omega
    rw [h1, h2]; exact .inl rfl
  · have h1 : q = 0 := by omega
    have h2 : s = -1 := by omega
    rw [h1, h2]; exact .inr rfl
theorem DQ.one {f : I3} {t : I4} (L : DQ f) (M : DQ (mov f t)) (h : det t = 1) : mov f t = f := by
  have d1 : f.1 ≤ (mov f t).1 := by
    have e1 : (mov f t).1 = val f (t.1, t.2.2.1) := rfl
    rw [e1]; exact L.min (AaK h)
  have hk : det (Ax t) = 1 := Dv.trans h
  have d2 : (mov f t).1 ≤ f.1 := by
    have := M.min (AaK hk)
    have e1 : (mov (mov f t) (Ax t)).1 = val (mov f t) ((Ax t).1, (Ax t).2.2.1) := rfl
    rw [← e1, Bu h] at this
    exact this
  have ha : (mov f t).1 = f.1 := by omega
  have hm := Bq (f := f) h
  by_cases hc : f.1 < f.2.2
  · rcases L.fix M h ha hc with e | e
    · rw [e, Di]
    · rw [e]
      obtain ⟨a, b, c⟩ := f
      simp only [mov, val, mid, Prod.mk.injEq]
      refine ⟨?_, ?_, ?_⟩ <;> grind
  · by_cases hc' : (mov f t).1 < (mov f t).2.2
    · exfalso
      have L' : DQ (mov (mov f t) (Ax t)) := by rw [Bu h]; exact L
      have ha' : (mov (mov f t) (Ax t)).1 = (mov f t).1 := by rw [Bu h]; exact ha.symm
      rcases M.fix L' hk ha' hc' with e | e
      · have : f = mov f t := by
          have z := Bu (f := f) h
          rw [e, Di] at z
          exact z.symm
        rw [← this] at hc'
        exact hc hc'
      · have : f = mov f t := by
          have z := Bu (f := f) h
          rw [e] at z
          have z2 : mov (mov f t) (-1, 0, 0, -1) = mov f t := by
            obtain ⟨a, b, c⟩ := mov f t
            simp only [mov, val, mid, Prod.mk.injEq]
            refine ⟨?_, ?_, ?_⟩ <;> grind
          rw [z2] at z
          exact z.symm
        rw [← this] at hc'
        exact hc hc'
    · have l3 := L.ac
      have m3 := M.ac
      have l5 := L.edge (.inr (by omega))
      have m5 := M.edge (.inr (by omega))
      have l0 := L.pos
      have e2 : f.2.2 = f.1 := by omega
      have e3 : (mov f t).2.2 = f.1 := by omega
      generalize mov f t = g at *
      obtain ⟨a, b, c⟩ := f
      obtain ⟨a', b', c'⟩ := g
      simp only at *
      subst ha e2 e3
      simp only [meas] at hm
      have hbb : b' * b' = b * b := by omega
      have : b' = b := by
        rcases Int.lt_trichotomy b' b with z | z | z
        · have z1 : b' * b' ≤ b' * b := Int.mul_le_mul_of_nonneg_left (by omega) m5
          have z2 : b' * b < b * b := Int.mul_lt_mul_of_pos_right z (by omega)
          omega
        · exact z
        · have z1 : b * b ≤ b * b' := Int.mul_le_mul_of_nonneg_left (by omega) l5
          have z2 : b * b' < b' * b' := Int.mul_lt_mul_of_pos_right z (by omega)
          omega
      rw [this]
theorem Ajq (ns : List Int) (lo hi : Option Int) : ∃ cs : List Int, cutD (ns.map Dt.int) lo hi = cs.map Dt.int ∧ cs.length ≤ ns.length := by
  refine ⟨(ns.drop (HT.sIx (ns.map Dt.int).length 0 lo)).take (HT.sIx (ns.map Dt.int).length (ns.map Dt.int).length hi - HT.sIx (ns.map Dt.int).length 0 lo), by unfold cutD; rw [List.map_take, List.map_drop], ?_⟩
  rw [List.length_take, List.length_drop]; omega
theorem Br (x : Int) {m : Int} (h : 0 < m) : 0 ≤ x.fmod m ∧ x.fmod m < m := ⟨Int.fmod_nonneg_of_pos x h, Int.fmod_lt_of_pos x h⟩
theorem Ac1 {zs : List Int} {k : Int} {P : Int → Prop} (h0 : 0 ≤ k) (h1 : k < zs.length) (hP : ∀ z ∈ zs, P z) : ∃ z, ixD k (.lst (zs.map Dt.int)) = some (.int z) ∧ P z := by
  refine ⟨_, Ow h0 h1, hP _ ?_⟩
  have : k.toNat < zs.length := by omega
  simp [this]
theorem sq_nonneg (x : Int) : 0 ≤ x * x := by
  rcases Int.le_total 0 x with h | h
  · exact Int.mul_nonneg h h
  · exact Int.mul_nonneg_of_nonpos_of_nonpos h h
theorem Wl (ns : List Int) (lo hi : Option Int) : ∃ cs : List Int, cutD (ns.map Dt.int) lo hi = cs.map Dt.int ∧ cs.length ≤ ns.length ∧ ∀ n ∈ cs, n ∈ ns := by
  refine ⟨(ns.drop (HT.sIx (ns.map Dt.int).length 0 lo)).take (HT.sIx (ns.map Dt.int).length (ns.map Dt.int).length hi - HT.sIx (ns.map Dt.int).length 0 lo), by unfold cutD; rw [List.map_take, List.map_drop], ?_, fun n h => List.mem_of_mem_drop (List.mem_of_mem_take h)⟩
  rw [List.length_take, List.length_drop]; omega
theorem XQ {n : Nat} {x : Int} (h : Bt n x) : Bt n (x.fdiv 3) := by
  rw [Int.fdiv_eq_ediv_of_nonneg _ (by decide)]
  unfold Bt at *; omega
theorem XJ {n : Nat} {x : Int} (h : Bt n x) : Bt n (x.fdiv 4) := by
  rw [Int.fdiv_eq_ediv_of_nonneg _ (by decide)]
  unfold Bt at *; omega
theorem AjV (ns : List Int) (i : Nat) (h : 3 * i + 3 ≤ ns.length) : ∃ p : I3, cutD (ns.map Dt.int) (some (3 * (0 + (i : Int)))) (some (3 * (0 + (i : Int)) + 3)) = [.int p.1, .int p.2.1, .int p.2.2] ∧ p.1 ∈ ns ∧ p.2.1 ∈ ns ∧ p.2.2 ∈ ns := by
  obtain ⟨cs, e, _, hm⟩ := Wl ns (some (3 * (0 + (i : Int)))) (some (3 * (0 + (i : Int)) + 3))
  have hl : cs.length = 3 := by
    have := congrArg List.length e
    rw [List.length_map] at this
    rw [← this]
    unfold cutD
    rw [List.length_take, List.length_drop, List.length_map]
    have e1 : HT.sIx ns.length 0 (some (3 * (0 + (i : Int)))) = 3 * i := by
      rw [show 3 * (0 + (i : Int)) = ((3 * i : Nat) : Int) by omega, HT.KQ]; omega
    have e2 : HT.sIx ns.length ns.length (some (3 * (0 + (i : Int)) + 3)) = 3 * i + 3 := by
      rw [show 3 * (0 + (i : Int)) + 3 = ((3 * i + 3 : Nat) : Int) by omega, HT.KQ]; omega
    rw [e1, e2]; omega
  rw [e]
  match cs, hl, hm with
  | [a, b, c], _, hm => exact ⟨(a, b, c), rfl, hm a (by simp), hm b (by simp), hm c (by simp)⟩
end My
namespace My
open PySem L2
noncomputable def Bg (f : I3) : Prop := 0 < f.1 ∧ meas f < 0
noncomputable def stands (f : I3) : Bool := decide (-f.1 ≤ f.2.1 ∧ f.2.1 ≤ f.1 ∧ f.1 ≤ f.2.2) && (decide (0 ≤ f.2.1) || (decide (f.2.1 ≠ -f.1) && decide (f.1 ≠ f.2.2)))
theorem Bf {f : I3} (h : 0 < f.1) (s : stands f = true) : DQ f := by
  simp only [stands, Bool.and_eq_true, Bool.or_eq_true, decide_eq_true_eq] at s
  obtain ⟨⟨h1, h2, h3⟩, h4⟩ := s
  exact ⟨h, h1, h2, h3, fun z => by rcases h4 with h4 | ⟨h4, h5⟩; exact h4; rcases z with z | z; exact absurd z h4; exact absurd z h5⟩
theorem DQ.bowl {f : I3} (L : DQ f) : Bg f := by
  obtain ⟨a, b, c⟩ := f
  refine ⟨L.pos, ?_⟩
  have h0 : 0 < a := L.pos
  have h1 : -a ≤ b := L.lo
  have h2 : b ≤ a := L.hi
  have h3 : a ≤ c := L.ac
  have h4 : b * b ≤ a * a := by
    have e1 : (b.natAbs : Int) * b.natAbs = b * b := Int.natAbs_mul_self' b
    have := Int.mul_le_mul (show (b.natAbs : Int) ≤ a by omega) (show (b.natAbs : Int) ≤ a by omega) (by omega) (by omega)
    omega
  have h5 : a * a ≤ a * c := Int.mul_le_mul_of_nonneg_left h3 (by omega)
  have h6 : 1 ≤ a * a := sq_pos (by omega)
  show b * b - 4 * a * c < 0
  have e : 4 * a * c = 4 * (a * c) := by grind
  omega
theorem DQ.bt {f : I3} {n : Nat} (L : DQ f) (h : Bt n (meas f)) : B3 n f := by
  obtain ⟨a, b, c⟩ := f
  have h0 : 0 < a := L.pos
  have h1 : -a ≤ b := L.lo
  have h2 : b ≤ a := L.hi
  have h3 : a ≤ c := L.ac
  have h4 : b * b ≤ a * a := by
    have e1 : (b.natAbs : Int) * b.natAbs = b * b := Int.natAbs_mul_self' b
    have := Int.mul_le_mul (show (b.natAbs : Int) ≤ a by omega) (show (b.natAbs : Int) ≤ a by omega) (by omega) (by omega)
    omega
  have h5 : a * a ≤ a * c := Int.mul_le_mul_of_nonneg_left h3 (by omega)
  have h6 : 1 * c ≤ a * c := Int.mul_le_mul_of_nonneg_right (by omega) (by omega)
  have hm : meas (a, b, c) = b * b - 4 * (a * c) := by simp only [meas]; grind
  have hc : Bt n c := by unfold Bt at *; rw [hm] at h; omega
  refine ⟨?_, ?_, hc⟩
  · show Bt n a
    unfold Bt at *; omega
  · show Bt n b
    unfold Bt at *; omega
noncomputable def oft (f : I3) : Int := (f.1 - f.2.1).fdiv (2 * f.1)
noncomputable def Dh (f : I3) : I4 := if oft f ≠ 0 then (1, oft f, 0, 1) else (0, -1, 1, 0)
theorem Oj {f : I3} : det (Dh f) = 1 := by
  unfold Dh
  split <;> simp [det]
theorem Rt {a b c k : Int} : mov (a, b, c) (1, k, 0, 1) = (a, b + 2 * a * k, a * k * k + b * k + c) := by
  simp only [mov, val, mid, Prod.mk.injEq]
  refine ⟨?_, ?_, ?_⟩ <;> grind
theorem QD {a b c : Int} : mov (a, b, c) (0, -1, 1, 0) = (c, -b, a) := by
  simp only [mov, val, mid, Prod.mk.injEq]
  refine ⟨?_, ?_, ?_⟩ <;> grind
theorem Ie {a b : Int} (h : 0 < a) : -a < b + 2 * a * ((a - b).fdiv (2 * a)) ∧ b + 2 * a * ((a - b).fdiv (2 * a)) ≤ a := by
  rw [Int.fdiv_eq_ediv_of_nonneg _ (by omega)]
  have h1 := Int.lt_mul_ediv_self_add (x := a - b) (show 0 < 2 * a by omega)
  have h2 := Int.mul_ediv_self_le (x := a - b) (k := 2 * a) (by omega)
  omega
theorem Qx {a b : Int} (h : 0 < a) (z : (a - b).fdiv (2 * a) = 0) : -a < b ∧ b ≤ a := by
  have := Ie (b := b) h
  rw [z] at this
  omega
noncomputable def msr (f : I3) : Nat := 4 * f.1.toNat + (if -f.1 < f.2.1 ∧ f.2.1 ≤ f.1 then 0 else 2) + (if f.2.1 < 0 then 1 else 0)
theorem O9 {f : I3} (h : Bg f) : 0 < f.2.2 := by
  obtain ⟨a, b, c⟩ := f
  obtain ⟨h0, h1⟩ := h
  simp only [meas] at h0 h1 ⊢
  rcases Int.lt_or_le 0 c with h | h
  · exact h
  · exfalso
    have h2 : 0 ≤ b * b := sq_nonneg b
    have h3 : a * c ≤ a * 0 := Int.mul_le_mul_of_nonneg_left h (by omega)
    have e : 4 * a * c = 4 * (a * c) := by grind
    omega
theorem Rz {f : I3} {t : I4} (h : Bg f) (d : det t = 1) : Bg (mov f t) := by
  have hm := Bq (f := f) d
  refine ⟨?_, by rw [hm]; exact h.2⟩
  obtain ⟨a, b, c⟩ := f
  obtain ⟨p, q, r, s⟩ := t
  obtain ⟨h0, h1⟩ := h
  show 0 < val (a, b, c) (p, r)
  simp only [meas] at h0 h1
  have e : 4 * (a * val (a, b, c) (p, r)) = (2 * a * p + b * r) * (2 * a * p + b * r) - (b * b - 4 * a * c) * (r * r) := by simp only [val]; grind
  have z1 := sq_nonneg (2 * a * p + b * r)
  have z2 : 0 ≤ (4 * a * c - b * b) * (r * r) := Int.mul_nonneg (by omega) (sq_nonneg r)
  have e2 : (4 * a * c - b * b) * (r * r) = -((b * b - 4 * a * c) * (r * r)) := by grind
  rcases Int.lt_or_le 0 (val (a, b, c) (p, r)) with h | h
  · exact h
  · exfalso
    have z3 : a * val (a, b, c) (p, r) ≤ a * 0 := Int.mul_le_mul_of_nonneg_left h (by omega)
    have hr : r * r = 0 := by
      by_cases hr : r = 0
      · rw [hr]; rfl
      · exfalso
        have := Int.mul_le_mul (show 1 ≤ 4 * a * c - b * b by omega) (sq_pos hr) (by omega) (by omega)
        omega
    have hr0 : r = 0 := by
      by_cases hr0 : r = 0
      · exact hr0
      · have := sq_pos hr0; omega
    subst hr0
    have hp : p ≠ 0 := fun hp => by subst hp; simp [det] at d
    have hp1 := sq_pos hp
    have e3 : val (a, b, c) (p, 0) = a * (p * p) := Jb
    rw [e3] at h
    have := Int.mul_le_mul_of_nonneg_left hp1 (show 0 ≤ a by omega)
    omega
theorem Xj {f : I3} (h : Bg f) (s : stands f = false) : msr (mov f (Dh f)) < msr f := by
  obtain ⟨a, b, c⟩ := f
  have ha : 0 < a := h.1
  have hc : 0 < c := O9 h
  unfold Dh
  by_cases ho : oft (a, b, c) = 0
  · rw [if_neg (by simpa using ho), QD]
    have ⟨h1, h2⟩ : -a < b ∧ b ≤ a := Qx ha ho
    have hs : c < a ∨ (a = c ∧ b < 0) := by
      simp only [stands, Bool.and_eq_false_iff, Bool.or_eq_false_iff, decide_eq_false_iff_not] at s
      omega
    unfold msr
    simp only
    rw [if_pos (show -a < b ∧ b ≤ a from ⟨h1, h2⟩)]
    rcases hs with hs | ⟨hs, hb⟩
    · split <;> split <;> split <;> omega
    · subst hs
      rw [if_pos (show -a < -b ∧ -b ≤ a by omega), if_pos hb, if_neg (by omega)]
      omega
  · rw [if_pos ho, Rt]
    have ⟨h1, h2⟩ := Ie (b := b) ha
    have hn : ¬ (-a < b ∧ b ≤ a) := fun z => ho (by
      show (a - b).fdiv (2 * a) = 0
      rw [Int.fdiv_eq_ediv_of_nonneg _ (by omega)]
      exact Int.ediv_eq_zero_of_lt (by omega) (by omega))
    unfold msr
    simp only
    show 4 * a.toNat + (if -a < b + 2 * a * ((a - b).fdiv (2 * a)) ∧ b + 2 * a * ((a - b).fdiv (2 * a)) ≤ a then 0 else 2) + (if b + 2 * a * ((a - b).fdiv (2 * a)) < 0 then 1 else 0) < _
    rw [if_pos ⟨h1, h2⟩, if_neg hn]
    split <;> split <;> omega
theorem X8 {f : I3} {n : Nat} (h : Bg f) (s : stands f = false) (b1 : Bt n f.1) (b2 : Bt n f.2.1) : Bt n (mov f (Dh f)).1 ∧ Bt n (mov f (Dh f)).2.1 := by
  obtain ⟨a, b, c⟩ := f
  have ha : 0 < a := h.1
  have hc : 0 < c := O9 h
  have b1 : Bt n a := b1
  have b2 : Bt n b := b2
  unfold Dh
  by_cases ho : oft (a, b, c) = 0
  · rw [if_neg (by simpa using ho), QD]
    have ⟨h1, h2⟩ : -a < b ∧ b ≤ a := Qx ha ho
    have hs : c ≤ a := by
      simp only [stands, Bool.and_eq_false_iff, Bool.or_eq_false_iff, decide_eq_false_iff_not] at s
      omega
    refine ⟨?_, b2.neg⟩
    show Bt n c
    unfold Bt at *; omega
  · rw [if_pos ho, Rt]
    have ⟨h1, h2⟩ := Ie (b := b) ha
    refine ⟨b1, ?_⟩
    show Bt n (b + 2 * a * ((a - b).fdiv (2 * a)))
    unfold Bt at *; omega
theorem AcR {f : I3} {n m : Nat} (h : Bg f) (b1 : Bt n f.1) (b2 : Bt n f.2.1) (hm : Bt m (meas f)) : B3 (n + n + m + 1) f := by
  obtain ⟨a, b, c⟩ := f
  have ha : 0 < a := h.1
  have hc : 0 < c := O9 h
  refine ⟨b1.le (by omega), b2.le (by omega), ?_⟩
  have z := (b2.mul b2).sub hm
  have e : b * b - meas (a, b, c) = 4 * (a * c) := by simp only [meas]; grind
  have z1 : 1 * c ≤ a * c := Int.mul_le_mul_of_nonneg_right (by omega) (by omega)
  have z' : Bt (max (n + n) m + 1) (4 * (a * c)) := by rw [← e]; exact z
  have z2 : Bt (max (n + n) m + 1) c := by unfold Bt at *; omega
  exact z2.le (by omega)
theorem Adp {n : Nat} {x : Int} (h : x * x < 2 ^ (2 * n)) : Bt n x := by
  unfold Bt
  rcases Nat.lt_or_ge x.natAbs (2 ^ n) with z | z
  · exact z
  · exfalso
    have := Nat.mul_le_mul z z
    rw [← Nat.pow_add, show n + n = 2 * n by omega] at this
    have e1 : (x.natAbs : Int) * x.natAbs = x * x := Int.natAbs_mul_self' x
    have : ((2 ^ (2 * n) : Nat) : Int) ≤ (x.natAbs : Int) * x.natAbs := by exact_mod_cast this
    rw [e1] at this
    push_cast at this
    omega
theorem Q5 {f : I3} {n m k : Nat} {x y : Int} (h : Bg f) (hb : B3 n f) (hv : Bt m (val f (x, y))) (hk : n + m + 2 ≤ 2 * k) : B2 k (x, y) := by
  obtain ⟨a, b, c⟩ := f
  have ha : 0 < a := h.1
  have hc : 0 < c := O9 h
  have hm : b * b - 4 * a * c < 0 := h.2
  obtain ⟨h1, h2, h3⟩ := hb
  have h4 : Bt 3 4 := Bt.of_abs (by decide)
  have e1 : 4 * (a * val (a, b, c) (x, y)) = (2 * a * x + b * y) * (2 * a * x + b * y) + (4 * a * c - b * b) * (y * y) := by simp only [val]; grind
  have e2 : 4 * (c * val (a, b, c) (x, y)) = (2 * c * y + b * x) * (2 * c * y + b * x) + (4 * a * c - b * b) * (x * x) := by simp only [val]; grind
  have k1 : y * y ≤ 4 * (a * val (a, b, c) (x, y)) := by
    have z1 := sq_nonneg (2 * a * x + b * y)
    have z2 := Int.mul_le_mul_of_nonneg_right (show 1 ≤ 4 * a * c - b * b by omega) (sq_nonneg y)
    omega
  have k2 : x * x ≤ 4 * (c * val (a, b, c) (x, y)) := by
    have z1 := sq_nonneg (2 * c * y + b * x)
    have z2 := Int.mul_le_mul_of_nonneg_right (show 1 ≤ 4 * a * c - b * b by omega) (sq_nonneg x)
    omega
  have up : ∀ {z w : Int}, Bt n z → w ≤ 4 * (z * val (a, b, c) (x, y)) → w < 2 ^ (2 * k) := fun {z w} hz hw => by
    have h5 := hz.mul hv
    have h6 : Bt (n + m) (z * val (a, b, c) (x, y)) := h5
    have h7 : (4 : Int) * 2 ^ (n + m) ≤ 2 ^ (2 * k) := by
      have : (4 : Int) * 2 ^ (n + m) = 2 ^ (n + m + 2) := by rw [show n + m + 2 = (n + m) + 1 + 1 from rfl, Int.pow_succ, Int.pow_succ]; omega
      rw [this]
      have := Nat.pow_le_pow_right (show 0 < 2 by decide) hk
      exact_mod_cast this
    unfold Bt at h6
    have h8 : z * val (a, b, c) (x, y) < 2 ^ (n + m) := by
      have : ((z * val (a, b, c) (x, y)).natAbs : Int) < ((2 ^ (n + m) : Nat) : Int) := by exact_mod_cast h6
      push_cast at this
      omega
    omega
  exact ⟨Adp (up h3 k2), Adp (up h1 k1)⟩
theorem Aa6 {f : I3} {t : I4} {n m k : Nat} (h : Bg f) (hb : B3 n f) (hg : B3 m (mov f t)) (hk : n + m + 2 ≤ 2 * k) : B4 k t := by
  have p1 := Q5 (x := t.1) (y := t.2.2.1) h hb hg.1 hk
  have p2 := Q5 (x := t.2.1) (y := t.2.2.2) h hb hg.2.2 hk
  exact ⟨p1.1, p2.1, p1.2, p2.2⟩
theorem La {f : I3} (h : oft f = 0) : Dh f = (0, -1, 1, 0) := by unfold Dh; rw [if_neg (by simpa using h)]
theorem LQ {f : I3} (h : ¬ oft f = 0) : Dh f = (1, oft f, 0, 1) := by unfold Dh; rw [if_pos h]
theorem Aaf {f : I3} {n : Nat} (h : 0 < f.1) (b1 : Bt n f.1) (b2 : Bt n f.2.1) : B4 (n + 1) (Dh f) := by
  obtain ⟨a, b, c⟩ := f
  have h : 0 < a := h
  have b1 : Bt n a := b1
  have b2 : Bt n b := b2
  have one : Bt (n + 1) 1 := Bt.one.le (by omega)
  by_cases ho : oft (a, b, c) = 0
  · rw [La ho]
    exact ⟨Bt.zero.le (by omega), one.neg, one, Bt.zero.le (by omega)⟩
  · rw [LQ ho]
    refine ⟨one, ?_, Bt.zero.le (by omega), one⟩
    have ⟨h1, h2⟩ := Ie (b := b) h
    show Bt (n + 1) ((a - b).fdiv (2 * a))
    generalize (a - b).fdiv (2 * a) = k at *
    have e : 2 * a * k = 2 * (a * k) := by grind
    have z : (k.natAbs : Int) ≤ ((a * k).natAbs : Int) := by
      rw [Int.natAbs_mul]
      have := Nat.mul_le_mul_right k.natAbs (show 1 ≤ a.natAbs by omega)
      omega
    unfold Bt at *
    rw [Nat.pow_succ]
    omega
end My
namespace My
open PySem L2
structure Sad (f : I3) : Prop where
  no : ¬ Gw (meas f)
  pos : 0 < meas f
  most : meas f ≤ 4000
noncomputable def Level (f : I3) (far : Int) : Prop := (0 < f.2.1 ∧ f.2.1 ≤ far) ∧ far - f.2.1 < 2 * (if f.1 < 0 then -f.1 else f.1) ∧ 2 * (if f.1 < 0 then -f.1 else f.1) ≤ far + f.2.1
instance {f : I3} {far : Int} : Decidable (Level f far) := by unfold Level; infer_instance
theorem Sad.mov {f : I3} {t : I4} (h : Sad f) (d : det t = 1) : Sad (mov f t) := by
  have e := Bq (f := f) d
  exact ⟨by rw [e]; exact h.no, by rw [e]; exact h.pos, by rw [e]; exact h.most⟩
end My
namespace My
open PySem L2
noncomputable abbrev ab (x : Int) : Int := if x < 0 then -x else x
theorem Aw (x : Int) : (0 ≤ x ∧ ab x = x) ∨ (x < 0 ∧ ab x = -x) := by
  rcases Int.lt_or_le x 0 with h | h
  · exact .inr ⟨h, if_pos h⟩
  · exact .inl ⟨h, if_neg (by omega)⟩
theorem Bm (x : Int) : 0 ≤ ab x := by rcases Aw x with ⟨h, e⟩ | ⟨h, e⟩ <;> omega
theorem Ajo {n : Nat} {x : Int} (h : Bt n x) : Bt n (ab x) := by
  rcases Aw x with ⟨_, e⟩ | ⟨_, e⟩ <;> rw [e]
  · exact h
  · exact h.neg
theorem NZ {n : Nat} {x y : Int} (h : Bt n y) (l : ab x ≤ ab y) : Bt n x := by
  unfold Bt at *
  rcases Aw x with ⟨_, e⟩ | ⟨_, e⟩ <;> rcases Aw y with ⟨_, e'⟩ | ⟨_, e'⟩ <;> omega
theorem Od {n : Nat} {x k : Int} (l : ab x ≤ k) (hk : k < 2 ^ n) : Bt n x := by
  rcases Aw x with ⟨_, e⟩ | ⟨_, e⟩ <;> exact Bt.of (by omega) (by omega)
noncomputable def dB (f : I3) (top : Int) : Int := top - (top + f.2.1).fmod (2 * ab f.2.2)
noncomputable def kB (f : I3) (top : Int) : Int := (f.2.1 + dB f top).fdiv (2 * f.2.2)
noncomputable def Ca (f : I3) (top : Int) : I4 := (0, -1, 1, kB f top)
theorem Cj {f : I3} {top : Int} : det (Ca f top) = 1 := by simp [det, Ca]
theorem Jp {f : I3} {top : Int} (h : f.2.2 ≠ 0) : top - 2 * ab f.2.2 < dB f top ∧ dB f top ≤ top := by
  have hc : 0 < 2 * ab f.2.2 := by rcases Aw f.2.2 with ⟨_, e⟩ | ⟨_, e⟩ <;> omega
  have := Br (top + f.2.1) hc
  unfold dB
  omega
theorem Ge {f : I3} {top : Int} (h : f.2.2 ≠ 0) : 2 * f.2.2 * kB f top = f.2.1 + dB f top := by
  unfold kB dB
  have e := Int.fmod_def (top + f.2.1) (2 * ab f.2.2)
  generalize (top + f.2.1).fdiv (2 * ab f.2.2) = q at *
  have e1 : f.2.1 + (top - (top + f.2.1).fmod (2 * ab f.2.2)) = 2 * ab f.2.2 * q := by omega
  rw [e1]
  rcases Aw f.2.2 with ⟨_, e2⟩ | ⟨_, e2⟩
  · rw [e2, Int.mul_fdiv_cancel_left _ (by omega)]
  · have e3 : 2 * ab f.2.2 * q = 2 * f.2.2 * (-q) := by rw [e2]; grind
    rw [e3, Int.mul_fdiv_cancel_left _ (by omega)]
theorem KJ {f : I3} {top : Int} (h : f.2.2 ≠ 0) : ∃ e, mov f (Ca f top) = (f.2.2, dB f top, e) := by
  have hk := Ge (top := top) h
  obtain ⟨a, b, c⟩ := f
  refine ⟨(mov (a, b, c) (Ca (a, b, c) top)).2.2, ?_⟩
  have e1 : (mov (a, b, c) (Ca (a, b, c) top)).1 = c := by simp only [mov, val, Ca]; grind
  have e2 : (mov (a, b, c) (Ca (a, b, c) top)).2.1 = dB (a, b, c) top := by
    simp only [mov, mid, Ca]
    simp only at hk
    generalize kB (a, b, c) top = k at *
    have : 2 * a * 0 * -1 + b * (0 * k + -1 * 1) + 2 * c * 1 * k = 2 * c * k - b := by grind
    omega
  ext1
  · exact e1
  · ext1
    · exact e2
    · rfl
theorem T7 {D far : Int} (r : Sq D far) (n : ¬ Gw D) : far * far < D := by
  rcases Int.lt_or_le (far * far) D with h | h
  · exact h
  · exact absurd ⟨far, by have := r.2.1; omega⟩ n
theorem Pn {D far : Int} (r : Sq D far) (m : D ≤ 4000) : far ≤ 63 := by
  rcases Int.lt_or_le far 64 with h | h
  · omega
  · have := Int.mul_le_mul h h (by decide) r.1
    have := r.2.1
    omega
theorem Gq {f : I3} (S : Sad f) : f.2.2 ≠ 0 := fun h => S.no ⟨f.2.1, by
  obtain ⟨a, b, c⟩ := f
  simp only at h
  subst h
  simp only [meas]
  omega⟩
theorem Yi {f : I3} (S : Sad f) : f.1 ≠ 0 := fun h => S.no ⟨f.2.1, by
  obtain ⟨a, b, c⟩ := f
  simp only at h
  subst h
  simp only [meas]
  omega⟩
theorem J6 (x y : Int) : ab x * ab y = ab (x * y) := by
  rcases Aw x with ⟨h1, e1⟩ | ⟨h1, e1⟩ <;> rcases Aw y with ⟨h2, e2⟩ | ⟨h2, e2⟩ <;> rw [e1, e2]
  · have := Int.mul_nonneg h1 h2
    exact (if_neg (by omega)).symm
  · have := Int.mul_nonneg h1 (show 0 ≤ -y by omega)
    have e : x * -y = -(x * y) := by grind
    by_cases h : x * y < 0
    · rw [ab, if_pos h, e]
    · rw [ab, if_neg h]; omega
  · have := Int.mul_nonneg (show 0 ≤ -x by omega) h2
    have e : -x * y = -(x * y) := by grind
    by_cases h : x * y < 0
    · rw [ab, if_pos h, e]
    · rw [ab, if_neg h]; omega
  · have := Int.mul_nonneg (show 0 ≤ -x by omega) (show 0 ≤ -y by omega)
    have e : -x * -y = x * y := by grind
    rw [ab, if_neg (by omega), e]
theorem Hz {x k : Int} (h : ab x ≤ k) : x * x ≤ k * k := by
  have e : x * x = ab x * ab x := by
    rcases Aw x with ⟨_, e⟩ | ⟨_, e⟩ <;> rw [e]
    grind
  rw [e]
  have := Bm x
  exact Int.mul_le_mul h h this (by omega)
theorem last_eq {c d e D : Int} (h : meas (c, d, e) = D) : 4 * (ab c * ab e) = ab (d * d - D) := by
  have : d * d - D = 4 * (c * e) := by rw [← h]; simp only [meas]; grind
  rw [this, J6]
  rcases Aw (c * e) with ⟨h1, e1⟩ | ⟨h1, e1⟩
  · rw [e1, ab, if_neg (by omega)]
  · rw [e1, ab, if_pos (by omega)]; omega
theorem AbO {c d e D far : Int} (r : Sq D far) (D0 : 0 < D) (h : meas (c, d, e) = D) (hc : far < ab c) (h1 : -ab c < d) (h2 : d ≤ ab c) : 4 * ab e ≤ ab c := by
  have k := last_eq h
  have hd : d * d ≤ ab c * ab c := by
    refine Hz ?_
    rcases Aw d with ⟨_, e1⟩ | ⟨_, e1⟩ <;> omega
  have hD : D ≤ ab c * ab c := by
    have := Int.mul_le_mul (show far + 1 ≤ ab c by omega) (show far + 1 ≤ ab c by omega) (by have := r.1; omega) (Bm c)
    have := r.2.2
    omega
  have h0 := sq_nonneg d
  have : ab (d * d - D) ≤ ab c * ab c := by
    rcases Aw (d * d - D) with ⟨_, e1⟩ | ⟨_, e1⟩ <;> omega
  have hc0 : 0 < ab c := by have := r.1; omega
  rcases Int.lt_or_le (ab c) (4 * ab e) with z | z
  · exfalso
    have := Int.mul_lt_mul_of_pos_left z hc0
    have e2 : ab c * (4 * ab e) = 4 * (ab c * ab e) := by grind
    omega
  · exact z
theorem Zt {c d e D far : Int} (r : Sq D far) (n : ¬ Gw D) (h : meas (c, d, e) = D) (hc : ab c ≤ far) (hc2 : far < 2 * ab c) (h1 : far - 2 * ab c < d) (h2 : d ≤ far) : 2 * ab e ≤ far := by
  have k := last_eq h
  have hf := T7 r n
  have hd : d * d ≤ far * far := by
    refine Hz ?_
    rcases Aw d with ⟨_, e1⟩ | ⟨_, e1⟩ <;> omega
  have h0 := sq_nonneg d
  have hD := r.2.2
  have : ab (d * d - D) < (far + 1) * (far + 1) := by
    rcases Aw (d * d - D) with ⟨_, e1⟩ | ⟨_, e1⟩ <;> omega
  rcases Int.lt_or_le far (2 * ab e) with z | z
  · exfalso
    have := Int.mul_le_mul (show far + 1 ≤ 2 * ab c by omega) (show far + 1 ≤ 2 * ab e by omega) (by have := r.1; omega) (by have := Bm c; omega)
    have e2 : 2 * ab c * (2 * ab e) = 4 * (ab c * ab e) := by grind
    omega
  · exact z
theorem Ux {c d e far : Int} (hc : 2 * ab c ≤ far) (h1 : far - 2 * ab c < d) (h2 : d ≤ far) : Level (c, d, e) far := by
  refine ⟨⟨?_, h2⟩, ?_, ?_⟩
  · show 0 < d; omega
  · show far - d < 2 * ab c; omega
  · show 2 * ab c ≤ far + d; omega
theorem Ub {c d e D far : Int} (r : Sq D far) (hm : D ≤ 4000) (D0 : 0 < D) (h : meas (c, d, e) = D) (c0 : c ≠ 0) (hd : ab d ≤ far) : ab e ≤ 1000 := by
  have k := last_eq h
  have h2 : d * d ≤ far * far := Hz hd
  have h0 := sq_nonneg d
  have h3 := r.2.1
  have : ab (d * d - D) ≤ 4000 := by
    rcases Aw (d * d - D) with ⟨_, e1⟩ | ⟨_, e1⟩ <;> omega
  have hc : 1 ≤ ab c := by rcases Aw c with ⟨_, e1⟩ | ⟨_, e1⟩ <;> omega
  have := Int.mul_le_mul_of_nonneg_right hc (Bm e)
  omega
theorem GJ {f : I3} {far : Int} (r : Sq (meas f) far) (n : ¬ Gw (meas f)) (L : Level f far) : far - f.2.1 < 2 * ab f.2.2 ∧ 2 * ab f.2.2 ≤ far + f.2.1 := by
  obtain ⟨a, b, c⟩ := f
  obtain ⟨⟨l1, l2⟩, l3, l4⟩ := L
  have l1 : 0 < b := l1
  have l2 : b ≤ far := l2
  have l3 : far - b < 2 * ab a := l3
  have l4 : 2 * ab a ≤ far + b := l4
  show far - b < 2 * ab c ∧ 2 * ab c ≤ far + b
  have hf := T7 r n
  have hD := r.2.2
  have k : 4 * (ab a * ab c) = ab (b * b - meas (a, b, c)) := last_eq (c := a) (d := b) (e := c) rfl
  generalize meas (a, b, c) = D at *
  have hb : b * b ≤ far * far := Int.mul_le_mul l2 l2 (by omega) (by omega)
  have k2 : (2 * ab a) * (2 * ab c) = D - b * b := by
    have e1 : (2 * ab a) * (2 * ab c) = 4 * (ab a * ab c) := by grind
    rcases Aw (b * b - D) with ⟨_, e⟩ | ⟨_, e⟩ <;> omega
  generalize 2 * ab a = A at *
  have hC0 : 0 ≤ 2 * ab c := by have := Bm c; omega
  generalize 2 * ab c = C at *
  constructor
  · rcases Int.lt_or_le (far - b) C with z | z
    · exact z
    · exfalso
      have z1 : A * C ≤ (far + b) * (far - b) := Int.mul_le_mul l4 z hC0 (by omega)
      have e1 : (far + b) * (far - b) = far * far - b * b := by grind
      omega
  · rcases Int.lt_or_le (far + b) C with z | z
    · exfalso
      have z1 : (far - b + 1) * (far + b + 1) ≤ A * C := Int.mul_le_mul (by omega) (by omega) (by omega) (by omega)
      have e1 : (far - b + 1) * (far + b + 1) = (far + 1) * (far + 1) - b * b := by grind
      omega
    · exact z
theorem R6 {f : I3} {far : Int} (S : Sad f) (r : Sq (meas f) far) (L : Level f far) : Level (mov f (Ca f far)) far := by
  have hc := Gq S
  obtain ⟨e, he⟩ := KJ (top := far) hc
  rw [he]
  have ⟨d1, d2⟩ := Jp (top := far) hc
  have ⟨c1, c2⟩ := GJ r S.no L
  obtain ⟨⟨l1, l2⟩, _, _⟩ := L
  have hk := Ge (top := far) hc
  have d3 : far - 2 * ab f.2.2 < dB f far := d1
  by_cases hC : 2 * ab f.2.2 ≤ far
  · exact Ux hC d1 d2
  ·
    have hd : dB f far = 2 * ab f.2.2 - f.2.1 := by
      have e1 : f.2.1 + dB f far = 2 * (f.2.2 * kB f far) := by rw [← hk]; grind
      have hx : ab (f.2.2 * kB f far) = ab f.2.2 * ab (kB f far) := (J6 _ _).symm
      have hpos : 0 < f.2.2 * kB f far := by omega
      have hx2 : f.2.2 * kB f far = ab f.2.2 * ab (kB f far) := by rw [← hx, ab, if_neg (by omega)]
      have hk0 : 0 < ab (kB f far) := by
        rcases Int.lt_or_le 0 (ab (kB f far)) with z | z
        · exact z
        · have : ab (kB f far) = 0 := by have := Bm (kB f far); omega
          rw [this] at hx2
          omega
      have hk1 : ab (kB f far) = 1 := by
        rcases Int.lt_or_le (ab (kB f far)) 2 with z | z
        · omega
        · exfalso
          have := Int.mul_le_mul_of_nonneg_left z (Bm f.2.2)
          omega
      rw [hk1] at hx2
      omega
    refine ⟨⟨?_, d2⟩, ?_, ?_⟩
    · show 0 < dB f far; omega
    · show far - dB f far < 2 * ab f.2.2; omega
    · show 2 * ab f.2.2 ≤ far + dB f far; omega
theorem YJ {f : I3} {far : Int} (S : Sad f) (r : Sq (meas f) far) (L : Level f far) : B3 7 f := by
  have ⟨c1, c2⟩ := GJ r S.no L
  have h6 := Pn r S.most
  obtain ⟨⟨l1, l2⟩, l3, l4⟩ := L
  have l4 : 2 * ab f.1 ≤ far + f.2.1 := l4
  exact ⟨Od (k := 63) (by omega) (by decide), Bt.of (by omega) (by omega), Od (k := 63) (by omega) (by decide)⟩
end My
namespace My
open PySem L2
noncomputable abbrev bl (x : Int) : Nat := Builtin.Int.intBits x
theorem Uu {x : Int} : Bt (bl x) x := intBits_le_iff.mp (Nat.le_refl _)
theorem UL {n : Nat} {x : Int} (h : Bt n x) : bl x ≤ n := intBits_le_iff.mpr h
theorem Td {x : Int} (h : x ≠ 0) : 1 ≤ bl x := by
  rcases Nat.lt_or_ge 0 (bl x) with z | z
  · exact z
  · have := Uu (x := x)
    unfold Bt at this
    rw [show bl x = 0 by omega] at this
    omega
theorem Zz {x : Int} (h : x ≠ 0) : 2 ^ (bl x - 1) ≤ x.natAbs := by
  rcases Nat.lt_or_ge x.natAbs (2 ^ (bl x - 1)) with z | z
  · have := UL (n := bl x - 1) z
    have := Td h
    omega
  · exact z
theorem Xm {x y : Int} (h : 4 * ab x ≤ ab y) (hy : y ≠ 0) : bl x + 2 ≤ bl y ∨ x = 0 := by
  by_cases hx : x = 0
  · exact .inr hx
  · refine .inl ?_
    have h1 := Zz hx
    have h2 := Uu (x := y)
    unfold Bt at h2
    have p := Td hx
    rcases Nat.lt_or_ge (bl y) (bl x + 2) with z | z
    · exfalso
      have h3 : 2 ^ bl y ≤ 2 ^ (bl x - 1 + 2) := Nat.pow_le_pow_right (by decide) (by omega)
      rw [Nat.pow_add] at h3
      have h4 : 4 * x.natAbs ≤ y.natAbs := by
        rcases Aw x with ⟨_, e⟩ | ⟨_, e⟩ <;> rcases Aw y with ⟨_, e'⟩ | ⟨_, e'⟩ <;> omega
      omega
    · exact z
theorem QT {b c d k : Int} {x : Nat} (hc : c ≠ 0) (hb : Bt x b) (hx : bl c ≤ x) (hd : ab d ≤ ab c) (hk : 2 * c * k = b + d) : Bt (x + 1 - bl c) k := by
  have h1 := Zz hc
  have h2 := Uu (x := c)
  have hp := Td hc
  unfold Bt at *
  have e1 : 2 * (c.natAbs * k.natAbs) = (b + d).natAbs := by
    rw [← hk, Int.mul_assoc, Int.natAbs_mul, Int.natAbs_mul]; rfl
  have e2 : (b + d).natAbs < 2 ^ x + 2 ^ bl c := by
    rcases Aw d with ⟨_, e⟩ | ⟨_, e⟩ <;> rcases Aw c with ⟨_, e'⟩ | ⟨_, e'⟩ <;> omega
  have e3 : 2 ^ bl c ≤ 2 ^ x := Nat.pow_le_pow_right (by decide) hx
  rcases Nat.lt_or_ge k.natAbs (2 ^ (x + 1 - bl c)) with z | z
  · exact z
  · exfalso
    have := Nat.mul_le_mul h1 z
    rw [← Nat.pow_add, show bl c - 1 + (x + 1 - bl c) = x by omega] at this
    omega
theorem Lr {f : I3} {top : Int} {m : Nat} (h : Bt m (kB f top)) (hm : 1 ≤ m) : B4 m (Ca f top) := ⟨Bt.zero.le (by omega), (Bt.one.le hm).neg, Bt.one.le hm, h⟩
noncomputable def Nq (n : Nat) (far : Int) (f0 : I3) (t : I4) : Prop :=
  det t = 1 ∧ B3 n (mov f0 t) ∧
  (if far < ab (mov f0 t).2.2 then ∃ β x, B4 β t ∧ Bt x (mov f0 t).2.1 ∧ bl (mov f0 t).2.2 ≤ x ∧ β + x + bl (mov f0 t).2.2 ≤ 2 * n + 1
   else if Level (mov f0 t) far then B4 (5 * n + 30) t else if far < 2 * ab (mov f0 t).2.2 then B4 (3 * n + 10) t else B4 (4 * n + 20) t)
noncomputable def eM (far : Int) (f : I3) : Nat := if far < ab f.2.2 then (ab f.2.2).toNat + 3 else if Level f far then 0 else if far < 2 * ab f.2.2 then 2 else 1
theorem Nq.b4 {n : Nat} {far : Int} {f0 : I3} {t : I4} (h : Nq n far f0 t) : B4 (5 * n + 30) t := by
  obtain ⟨_, _, h⟩ := h
  split at h
  · obtain ⟨β, x, hb, _, _, _⟩ := h
    exact hb.le (by omega)
  · split at h
    · exact h
    · split at h
      · exact h.le (by omega)
      · exact h.le (by omega)
theorem Nq.start {n : Nat} {far : Int} {f : I3} (hn : 1 ≤ n) (hf : B3 n f) : Nq n far f (1, 0, 0, 1) := by
  have one : B4 1 (1, 0, 0, 1) := ⟨Bt.one, Bt.zero.le (by omega), Bt.zero.le (by omega), Bt.one⟩
  unfold Nq
  rw [Di]
  refine ⟨rfl, hf, ?_⟩
  split
  · exact ⟨1, n, one, hf.2.1, UL hf.2.2, by have := UL hf.2.2; omega⟩
  · split
    · exact one.le (by omega)
    · split
      · exact one.le (by omega)
      · exact one.le (by omega)
theorem Xg {n : Nat} {far : Int} {f0 : I3} {t : I4} (hn : 12 ≤ n) (S : Sad f0) (r : Sq (meas f0) far) (I : Nq n far f0 t) (nl : ¬ Level (mov f0 t) far) :
    Nq n far f0 (Aj t (Ca (mov f0 t) (if far > ab (mov f0 t).2.2 then far else ab (mov f0 t).2.2))) ∧
    eM far (mov f0 (Aj t (Ca (mov f0 t) (if far > ab (mov f0 t).2.2 then far else ab (mov f0 t).2.2)))) < eM far (mov f0 t) ∧
    B4 (n + 3) (Ca (mov f0 t) (if far > ab (mov f0 t).2.2 then far else ab (mov f0 t).2.2)) := by
  have hb4 := I.b4
  obtain ⟨hd, hb, hI⟩ := I
  have Sf := S.mov hd
  have hm := Bq (f := f0) hd
  have rf : Sq (meas (mov f0 t)) far := by rw [hm]; exact r
  have f63 := Pn rf Sf.most
  have far0 := r.1
  simp only [Nq, ← Bj]
  rw [CJ, hd, Cj]
  generalize hf : mov f0 t = f at *
  have hc := Gq Sf
  have c1 : 1 ≤ ab f.2.2 := by rcases Aw f.2.2 with ⟨_, e1⟩ | ⟨_, e1⟩ <;> omega
  by_cases h1 : far < ab f.2.2
  ·
    rw [if_pos h1] at hI
    obtain ⟨β, x, hβ, hx, hlx, hsum⟩ := hI
    rw [if_neg (show ¬ far > ab f.2.2 by omega)]
    have ⟨d1, d2⟩ := Jp (top := ab f.2.2) hc
    have hk := Ge (top := ab f.2.2) hc
    obtain ⟨e, he⟩ := KJ (top := ab f.2.2) hc
    have hme : meas (f.2.2, dB f (ab f.2.2), e) = meas f := by rw [← he, Bq Cj]
    have hdc : ab (dB f (ab f.2.2)) ≤ ab f.2.2 := by rcases Aw (dB f (ab f.2.2)) with ⟨_, e1⟩ | ⟨_, e1⟩ <;> omega
    have h4 := AbO rf Sf.pos hme h1 (by omega) d2
    have kbt := QT hc hx hlx hdc hk
    have k1 : 1 ≤ x + 1 - bl f.2.2 := by omega
    have hbeh := Lr kbt k1
    have hxn : bl f.2.2 ≤ n := UL hb.2.2
    have hS' := Sf.mov (t := Ca f (ab f.2.2)) Cj
    rw [he] at hS'
    have he0 : e ≠ 0 := Gq hS'
    have hfour := (Xm h4 hc).resolve_right he0
    have hβ' := B4.then hβ hbeh
    rw [he]
    refine ⟨⟨rfl, ⟨hb.2.2, NZ hb.2.2 hdc, NZ hb.2.2 (show ab e ≤ ab f.2.2 by have := Bm e; omega)⟩, ?_⟩, ?_, ?_⟩
    · show if far < ab e then _ else _
      split
      · refine ⟨_, bl f.2.2, hβ', ?_, ?_, ?_⟩
        · exact NZ Uu hdc
        · show bl e ≤ bl f.2.2; omega
        · show _ + bl f.2.2 + bl e ≤ _; omega
      · split
        · exact hβ'.le (by omega)
        · split
          · exact hβ'.le (by omega)
          · exact hβ'.le (by omega)
    · unfold eM
      rw [if_pos h1]
      show (if far < ab e then (ab e).toNat + 3 else _) < _
      split
      · have := Bm e; omega
      · split
        · omega
        · split <;> omega
    ·
      have : Bt (n + 1 - bl f.2.2) (kB f (ab f.2.2)) := QT hc hb.2.1 hxn hdc hk
      exact (Lr this (by omega)).le (by omega)
  · rw [if_neg h1, if_neg nl] at hI
    have etop : (if far > ab f.2.2 then far else ab f.2.2) = far := by split <;> omega
    rw [etop]
    have ⟨d1, d2⟩ := Jp (top := far) hc
    have hk := Ge (top := far) hc
    obtain ⟨e, he⟩ := KJ (top := far) hc
    have hme : meas (f.2.2, dB f far, e) = meas f := by rw [← he, Bq Cj]
    have hdf : ab (dB f far) ≤ far := by rcases Aw (dB f far) with ⟨_, e1⟩ | ⟨_, e1⟩ <;> omega
    have hel := Ub rf Sf.most Sf.pos hme hc hdf
    have kb : Bt (n + 2) (kB f far) := by
      have e1 : 2 * (ab f.2.2 * ab (kB f far)) = ab (f.2.1 + dB f far) := by
        rw [← hk, J6]
        have : 2 * f.2.2 * kB f far = 2 * (f.2.2 * kB f far) := by grind
        rw [this]
        rcases Aw (f.2.2 * kB f far) with ⟨h1, e1⟩ | ⟨h1, e1⟩
        · rw [e1, ab, if_neg (by omega)]
        · rw [e1, ab, if_pos (by omega)]; omega
      have e2 := Int.mul_le_mul_of_nonneg_right c1 (Bm (kB f far))
      have e3 : Bt (n + 1) (f.2.1 + dB f far) := by
        have := (hb.2.1).add (show Bt 7 (dB f far) from Od (k := 63) (by omega) (by decide))
        exact this.le (by omega)
      refine Bt.le (n := n + 1) (NZ e3 ?_) (by omega)
      have := Bm (kB f far)
      omega
    have hbeh := Lr kb (by omega)
    rw [he]
    have hB : B3 n (f.2.2, dB f far, e) := ⟨hb.2.2, Bt.le (n := 7) (Od (k := 63) (show ab (dB f far) ≤ 63 by omega) (by decide)) (by omega), Bt.le (n := 12) (Od (x := e) hel (by decide)) (by omega)⟩
    by_cases h2 : far < 2 * ab f.2.2
    · rw [if_pos h2] at hI
      have hβ' := B4.then hI hbeh
      have hh := Zt rf Sf.no hme (by omega) h2 (by omega) d2
      have h3 : ¬ far < ab e := by have := Bm e; omega
      refine ⟨⟨rfl, hB, ?_⟩, ?_, hbeh.le (by omega)⟩
      · show if far < ab e then _ else _
        rw [if_neg h3]
        split
        · exact hβ'.le (by omega)
        · rw [if_neg (show ¬ far < 2 * ab (f.2.2, dB f far, e).2.2 by show ¬ far < 2 * ab e; omega)]
          exact hβ'.le (by omega)
      · unfold eM
        rw [if_neg h1, if_neg nl, if_pos h2]
        show (if far < ab e then _ else _) < 2
        rw [if_neg h3]
        split
        · omega
        · rw [if_neg (show ¬ far < 2 * ab (f.2.2, dB f far, e).2.2 by show ¬ far < 2 * ab e; omega)]
          omega
    · rw [if_neg h2] at hI
      have hβ' := B4.then hI hbeh
      have hL : Level (f.2.2, dB f far, e) far := Ux (by omega) d1 d2
      have h3 : ¬ far < ab e := by
        have := (GJ (f := (f.2.2, dB f far, e)) (by rw [hme]; exact rf) (by rw [hme]; exact Sf.no) hL).2
        simp only at this
        omega
      refine ⟨⟨rfl, hB, ?_⟩, ?_, hbeh.le (by omega)⟩
      · show if far < ab e then _ else _
        rw [if_neg h3, if_pos hL]
        exact hβ'.le (by omega)
      · unfold eM
        rw [if_neg h1, if_neg nl, if_neg h2]
        show (if far < ab e then _ else _) < 1
        rw [if_neg h3, if_pos hL]
        omega
end My
namespace My
open PySem L2
noncomputable def Riv (f : I3) : Prop := (0 < f.1 ∧ f.2.2 < 0) ∧ ¬ Gw (meas f)
noncomputable abbrev tR : I4 := (1, 1, 0, 1)
noncomputable abbrev tL : I4 := (1, 0, 1, 1)
noncomputable def sm (f : I3) : Int := f.1 + f.2.1 + f.2.2
theorem AaJ {a b c : Int} : mov (a, b, c) tR = (a, b + 2 * a, a + b + c) := by
  simp only [mov, val, mid, Prod.mk.injEq]
  refine ⟨?_, ?_, ?_⟩ <;> grind
theorem ZD {a b c : Int} : mov (a, b, c) tL = (a + b + c, b + 2 * c, c) := by
  simp only [mov, val, mid, Prod.mk.injEq]
  refine ⟨?_, ?_, ?_⟩ <;> grind
theorem Ady {f : I3} (n : ¬ Gw (meas f)) : sm f ≠ 0 := fun h => n ⟨f.1 - f.2.2, by
  obtain ⟨a, b, c⟩ := f
  simp only [sm, meas] at *
  have : b = -(a + c) := by omega
  subst this
  grind⟩
noncomputable def stT (f : I3) : I4 := if sm f < 0 then tR else tL
noncomputable def nx (f : I3) : I3 := mov f (stT f)
theorem AdQ {f : I3} : det (stT f) = 1 := by unfold stT; split <;> rfl
theorem Riv.next {f : I3} (h : Riv f) : Riv (nx f) := by
  have hm := Bq (f := f) (AdQ (f := f))
  refine ⟨?_, by unfold nx; rw [hm]; exact h.2⟩
  have hs := Ady h.2
  obtain ⟨a, b, c⟩ := f
  obtain ⟨⟨h1, h2⟩, _⟩ := h
  by_cases h : sm (a, b, c) < 0
  · have e : nx (a, b, c) = (a, b + 2 * a, a + b + c) := by unfold nx; rw [show stT (a, b, c) = tR from if_pos h]; exact AaJ
    rw [e]; exact ⟨h1, h⟩
  · have e : nx (a, b, c) = (a + b + c, b + 2 * c, c) := by unfold nx; rw [show stT (a, b, c) = tL from if_neg h]; exact ZD
    rw [e]
    refine ⟨?_, h2⟩
    simp only [sm] at h hs ⊢
    omega
structure NN (t : I4) : Prop where
  p : 1 ≤ t.1
  q : 0 ≤ t.2.1
  r : 0 ≤ t.2.2.1
  s : 1 ≤ t.2.2.2
  d : det t = 1
noncomputable def sz (t : I4) : Nat := (t.1 + t.2.1 + t.2.2.1 + t.2.2.2).toNat
theorem NN.split {t : I4} (h : NN t) : t = (1, 0, 0, 1) ∨ (∃ u, NN u ∧ t = Aj tR u ∧ sz u < sz t) ∨ (∃ u, NN u ∧ t = Aj tL u ∧ sz u < sz t) := by
  obtain ⟨p, q, r, s⟩ := t
  obtain ⟨hp, hq, hr, hs, hd⟩ := h
  simp only [det] at *
  by_cases c1 : r ≤ p ∧ s ≤ q
  · refine .inr (.inl ⟨(p - r, q - s, r, s), ⟨?_, by simp only; omega, hr, hs, ?_⟩, ?_, ?_⟩)
    · show 1 ≤ p - r
      have e : (p - r) * s - (q - s) * r = 1 := by grind
      have z := Int.mul_nonneg (show 0 ≤ q - s by omega) hr
      rcases Int.lt_or_le (p - r) 1 with w | w
      · have : (p - r) * s ≤ 0 * s := Int.mul_le_mul_of_nonneg_right (by omega) (by omega)
        omega
      · exact w
    · show (p - r) * s - (q - s) * r = 1
      grind
    · simp only [Aj, Prod.mk.injEq]
      refine ⟨?_, ?_, ?_, ?_⟩ <;> omega
    · simp only [sz]; omega
  · by_cases c2 : p ≤ r ∧ q ≤ s
    · refine .inr (.inr ⟨(p, q, r - p, s - q), ⟨hp, hq, by simp only; omega, ?_, ?_⟩, ?_, ?_⟩)
      · show 1 ≤ s - q
        have e : p * (s - q) - q * (r - p) = 1 := by grind
        have z := Int.mul_nonneg hq (show 0 ≤ r - p by omega)
        rcases Int.lt_or_le (s - q) 1 with w | w
        · have : p * (s - q) ≤ p * 0 := Int.mul_le_mul_of_nonneg_left (by omega) (by omega)
          omega
        · exact w
      · show p * (s - q) - q * (r - p) = 1
        grind
      · simp only [Aj, Prod.mk.injEq]
        refine ⟨?_, ?_, ?_, ?_⟩ <;> omega
      · simp only [sz]; omega
    · rcases Int.lt_or_le r p with w | w
      ·
        have w2 : q < s := by omega
        have z := Int.mul_le_mul (show r + 1 ≤ p by omega) (show q + 1 ≤ s by omega) (by omega) (by omega)
        have e : (r + 1) * (q + 1) = r * q + r + q + 1 := by grind
        have e2 : r * q = q * r := Int.mul_comm r q
        have r0 : r = 0 := by omega
        have q0 : q = 0 := by omega
        subst r0 q0
        left
        have hps : p * s = 1 := by omega
        have p1 : p = 1 := by
          rcases Int.lt_or_le p 2 with v | v
          · omega
          · have := Int.mul_le_mul v hs (by decide) (by omega)
            omega
        subst p1
        have : s = 1 := by omega
        rw [this]
      ·
        have w2 : s < q := by omega
        have w3 : p < r := by
          rcases Int.lt_or_le p r with v | v
          · exact v
          · have : p = r := by omega
            subst this
            exfalso
            have e : p * s - q * p = p * (s - q) := by grind
            have := Int.mul_le_mul_of_nonneg_left (show s - q ≤ -1 by omega) (show 0 ≤ p by omega)
            omega
        exfalso
        have z := Int.mul_le_mul (show p ≤ r - 1 by omega) (show s ≤ q - 1 by omega) (by omega) (by omega)
        have e : (r - 1) * (q - 1) = q * r - r - q + 1 := by grind
        omega
noncomputable def wd : Nat → I3 → I4
  | 0, _ => (1, 0, 0, 1)
  | n + 1, f => Aj (stT f) (wd n (nx f))
noncomputable def nxs : Nat → I3 → I3
  | 0, f => f
  | n + 1, f => nxs n (nx f)
theorem Gk {t : I4} : Aj (1, 0, 0, 1) t = t := by
  obtain ⟨p, q, r, s⟩ := t
  simp only [Aj, Prod.mk.injEq]
  refine ⟨?_, ?_, ?_, ?_⟩ <;> omega
theorem Fi {t : I4} : Aj t (1, 0, 0, 1) = t := by
  obtain ⟨p, q, r, s⟩ := t
  simp only [Aj, Prod.mk.injEq]
  refine ⟨?_, ?_, ?_, ?_⟩ <;> omega
theorem then_assoc {t u v : I4} : Aj (Aj t u) v = Aj t (Aj u v) := by
  obtain ⟨a, b, c, d⟩ := t; obtain ⟨e, f, g, h⟩ := u; obtain ⟨i, j, k, l⟩ := v
  simp only [Aj, Prod.mk.injEq]
  refine ⟨?_, ?_, ?_, ?_⟩ <;> grind
theorem Jc : ∀ (n : Nat) (f : I3), mov f (wd n f) = nxs n f
  | 0, f => Di
  | n + 1, f => by rw [wd, ← Bj]; exact Jc n (nx f)
theorem Wn {a b c x y : Int} (ha : 0 < a) (hb : 0 < b) (hc : 0 < c) (hx : 0 ≤ x) (hy : 0 ≤ y) : 0 ≤ val (a, b, c) (x, y) := by
  have e : val (a, b, c) (x, y) = a * (x * x) + b * (x * y) + c * (y * y) := by simp only [val]; grind
  have h1 := Int.mul_nonneg (show 0 ≤ a by omega) (Int.mul_nonneg hx hx)
  have h2 := Int.mul_nonneg (show 0 ≤ b by omega) (Int.mul_nonneg hx hy)
  have h3 := Int.mul_nonneg (show 0 ≤ c by omega) (Int.mul_nonneg hy hy)
  omega
theorem neg_val {a b c x y : Int} (ha : a < 0) (hb : b < 0) (hc : c < 0) (hx : 0 ≤ x) (hy : 0 ≤ y) : val (a, b, c) (x, y) ≤ 0 := by
  have := Wn (a := -a) (b := -b) (c := -c) (by omega) (by omega) (by omega) hx hy
  have e : val (-a, -b, -c) (x, y) = -val (a, b, c) (x, y) := by simp only [val]; grind
  omega
theorem along : ∀ (m : Nat) (f : I3) (t : I4), sz t ≤ m → Riv f → NN t → Riv (mov f t) → ∃ n, t = wd n f := by
  intro m
  induction m with
  | zero =>
    intro f t hs _ hN _
    exfalso
    have := hN.p; have := hN.q; have := hN.r; have := hN.s
    unfold sz at hs
    omega
  | succ m ih =>
    intro f t hs hf hN hg
    rcases hN.split with e | ⟨u, hu, e, hl⟩ | ⟨u, hu, e, hl⟩
    · exact ⟨0, e⟩
    · have hsm : sm f < 0 := by
        have hne := Ady hf.2
        rcases Int.lt_or_le (sm f) 0 with z | z
        · exact z
        · exfalso
          rw [e, ← Bj] at hg
          obtain ⟨a, b, c⟩ := f
          obtain ⟨p, q, r, s⟩ := u
          rw [AaJ] at hg
          have h1 : (mov (a, b + 2 * a, a + b + c) (p, q, r, s)).2.2 < 0 := hg.1.2
          have h2 : 0 < a := hf.1.1
          have h3 : c < 0 := hf.1.2
          simp only [sm] at hne z
          have h4 : 0 ≤ val (a, b + 2 * a, a + b + c) (q, s) := Wn h2 (by omega) (by omega) hu.q (by have := hu.s; simp only at this; omega)
          have h5 : (mov (a, b + 2 * a, a + b + c) (p, q, r, s)).2.2 = val (a, b + 2 * a, a + b + c) (q, s) := rfl
          omega
      have hst : stT f = tR := by unfold stT; rw [if_pos hsm]
      have hnx : nx f = mov f tR := by unfold nx; rw [hst]
      have hr := hf.next
      obtain ⟨n, en⟩ := ih (nx f) u (by omega) hr hu (by rw [hnx, Bj, ← e]; exact hg)
      exact ⟨n + 1, by rw [wd, hst, ← en]; exact e⟩
    · have hsm : ¬ sm f < 0 := by
        intro z
        rw [e, ← Bj] at hg
        obtain ⟨a, b, c⟩ := f
        obtain ⟨p, q, r, s⟩ := u
        rw [ZD] at hg
        have h1 : 0 < (mov (a + b + c, b + 2 * c, c) (p, q, r, s)).1 := hg.1.1
        have h2 : 0 < a := hf.1.1
        have h3 : c < 0 := hf.1.2
        simp only [sm] at z
        have h4 : val (a + b + c, b + 2 * c, c) (p, r) ≤ 0 := neg_val (by omega) (by omega) h3 (by have := hu.p; simp only at this; omega) hu.r
        have h5 : (mov (a + b + c, b + 2 * c, c) (p, q, r, s)).1 = val (a + b + c, b + 2 * c, c) (p, r) := rfl
        omega
      have hst : stT f = tL := by unfold stT; rw [if_neg hsm]
      have hnx : nx f = mov f tL := by unfold nx; rw [hst]
      have hr := hf.next
      obtain ⟨n, en⟩ := ih (nx f) u (by omega) hr hu (by rw [hnx, Bj, ← e]; exact hg)
      exact ⟨n + 1, by rw [wd, hst, ← en]; exact e⟩
noncomputable def Fq (t : I4) : I4 := (-t.1, -t.2.1, -t.2.2.1, -t.2.2.2)
theorem K6 {f : I3} {t : I4} : mov f (Fq t) = mov f t := by
  obtain ⟨a, b, c⟩ := f; obtain ⟨p, q, r, s⟩ := t
  simp only [mov, val, mid, Fq, Prod.mk.injEq]
  refine ⟨?_, ?_, ?_⟩ <;> grind
theorem neg_neg {t : I4} : Fq (Fq t) = t := by
  obtain ⟨p, q, r, s⟩ := t
  simp only [Fq, Prod.mk.injEq]
  refine ⟨?_, ?_, ?_, ?_⟩ <;> omega
theorem AbH {t : I4} : det (Fq t) = det t := by
  obtain ⟨p, q, r, s⟩ := t
  simp only [det, Fq]; grind
theorem Rj {t : I4} : Ax (Fq t) = Fq (Ax t) := by
  obtain ⟨p, q, r, s⟩ := t
  simp only [Ax, Fq]
theorem signs {f : I3} {t : I4} (hf : Riv f) (hd : det t = 1) (hg : Riv (mov f t)) (hp : 0 ≤ t.1) : NN t ∨ NN (Ax t) := by
  obtain ⟨a, b, c⟩ := f
  obtain ⟨p, q, r, s⟩ := t
  have ha : 0 < a := hf.1.1
  have hc : c < 0 := hf.1.2
  have hu : 0 < val (a, b, c) (p, r) := hg.1.1
  have hv : val (a, b, c) (q, s) < 0 := hg.1.2
  have hp : 0 ≤ p := hp
  have p0 : p ≠ 0 := fun e => by
    subst e
    rw [Sw] at hu
    have := Int.mul_nonneg (show 0 ≤ -c by omega) (sq_nonneg r)
    have e : -c * (r * r) = -(c * (r * r)) := by grind
    omega
  have s0 : s ≠ 0 := fun e => by
    subst e
    rw [Jb] at hv
    have := Int.mul_nonneg (show 0 ≤ a by omega) (sq_nonneg q)
    omega
  have hd' : p * s - q * r = 1 := hd
  have key : val (a, b, c) (p, r) * (q * s) - val (a, b, c) (q, s) * (p * r) = (p * s - q * r) * (a * (p * q) - c * (r * s)) := by simp only [val]; grind
  have hs : 0 < s := by
    rcases Int.lt_or_le 0 s with z | z
    · exact z
    · exfalso
      have z : s ≤ -1 := by omega
      have h1 : p * s ≤ 1 * -1 := by
        have := Int.mul_le_mul_of_nonneg_left z (show 0 ≤ p by omega)
        omega
      have hqr : q * r ≤ -2 := by omega
      rw [hd', Int.one_mul] at key
      rcases Int.lt_or_le q 0 with hq | hq
      · have hr : 0 < r := by
          rcases Int.lt_or_le 0 r with w | w
          · exact w
          · have := Int.mul_nonneg_of_nonpos_of_nonpos (show q ≤ 0 by omega) w
            omega
        have k1 := Int.mul_pos hu (Int.mul_pos_of_neg_of_neg hq (show s < 0 by omega))
        have k2 := Int.mul_neg_of_neg_of_pos hv (Int.mul_pos (show 0 < p by omega) hr)
        have k3 := Int.mul_neg_of_pos_of_neg ha (Int.mul_neg_of_pos_of_neg (show 0 < p by omega) hq)
        have k4 := Int.mul_pos_of_neg_of_neg hc (Int.mul_neg_of_pos_of_neg hr (show s < 0 by omega))
        omega
      · have hq' : 0 < q := by
          rcases Int.lt_or_le 0 q with w | w
          · exact w
          · have : q = 0 := by omega
            subst this
            omega
        have hr : r < 0 := by
          rcases Int.lt_or_le r 0 with w | w
          · exact w
          · have := Int.mul_nonneg hq w
            omega
        have k1 := Int.mul_neg_of_pos_of_neg hu (Int.mul_neg_of_pos_of_neg hq' (show s < 0 by omega))
        have k2 := Int.mul_pos_of_neg_of_neg hv (Int.mul_neg_of_pos_of_neg (show 0 < p by omega) hr)
        have k3 := Int.mul_pos ha (Int.mul_pos (show 0 < p by omega) hq')
        have k4 := Int.mul_neg_of_neg_of_pos hc (Int.mul_pos_of_neg_of_neg hr (show s < 0 by omega))
        omega
  have hps := Int.mul_le_mul (show 1 ≤ p by omega) (show 1 ≤ s by omega) (by decide) (by omega)
  by_cases hq : 0 ≤ q ∧ 0 ≤ r
  · exact .inl ⟨by simp only; omega, hq.1, hq.2, by simp only; omega, hd⟩
  · right
    have hqr : q ≤ 0 ∧ r ≤ 0 := by
      rcases Int.lt_trichotomy q 0 with w | w | w
      · refine ⟨by omega, ?_⟩
        rcases Int.lt_or_le 0 r with v | v
        · have := Int.mul_neg_of_neg_of_pos w v; omega
        · exact v
      · omega
      · exfalso
        have : r < 0 := by omega
        have := Int.mul_neg_of_pos_of_neg w this
        omega
    exact ⟨by simp only [Ax]; omega, by simp only [Ax]; omega, by simp only [Ax]; omega, by simp only [Ax]; omega, Dv.trans hd⟩
theorem AgM {f : I3} {t : I4} (hf : Riv f) (hd : det t = 1) (hg : Riv (mov f t)) :
    (∃ n, t = wd n f ∨ t = Fq (wd n f)) ∨ (∃ n, Ax t = wd n (mov f t) ∨ Ax t = Fq (wd n (mov f t))) := by
  have core : ∀ t : I4, det t = 1 → Riv (mov f t) → 0 ≤ t.1 → (∃ n, t = wd n f) ∨ (∃ n, Ax t = wd n (mov f t)) := fun t hd hg hp => by
    rcases signs hf hd hg hp with h | h
    · exact .inl (along _ f t (Nat.le_refl _) hf h hg)
    · exact .inr (along _ (mov f t) (Ax t) (Nat.le_refl _) hg h (by rw [Bu hd]; exact hf))
  rcases Int.le_total 0 t.1 with hp | hp
  · rcases core t hd hg hp with ⟨n, h⟩ | ⟨n, h⟩
    · exact .inl ⟨n, .inl h⟩
    · exact .inr ⟨n, .inl h⟩
  · rcases core (Fq t) (AbH.trans hd) (by rw [K6]; exact hg) (by show 0 ≤ -t.1; omega) with ⟨n, h⟩ | ⟨n, h⟩
    · exact .inl ⟨n, .inr (by rw [← h, neg_neg])⟩
    · rw [K6, Rj] at h
      exact .inr ⟨n, .inr (by rw [← h, neg_neg])⟩
end My
namespace My
open PySem L2
structure Lv (far : Int) (f : I3) : Prop where
  S : Sad f
  r : Sq (meas f) far
  L : Level f far
noncomputable abbrev aft (far : Int) (f : I3) : I3 := mov f (Ca f far)
theorem Lv.next {far : Int} {f : I3} (h : Lv far f) : Lv far (aft far f) :=
  ⟨h.S.mov Cj, by rw [Bq Cj]; exact h.r, R6 h.S h.r h.L⟩
theorem Lv.ac {far : Int} {f : I3} (h : Lv far f) : f.1 * f.2.2 < 0 := by
  have hf := T7 h.r h.S.no
  obtain ⟨⟨l1, l2⟩, _, _⟩ := h.L
  obtain ⟨a, b, c⟩ := f
  have l1 : 0 < b := l1
  have l2 : b ≤ far := l2
  have hb : b * b ≤ far * far := Int.mul_le_mul l2 l2 (by omega) (by omega)
  have e : meas (a, b, c) = b * b - 4 * (a * c) := by simp only [meas]; grind
  show a * c < 0
  omega
theorem Lv.neg {far : Int} {f : I3} (h : Lv far f) (ha : 0 < f.1) : f.2.2 < 0 := by
  rcases Int.lt_or_le f.2.2 0 with z | z
  · exact z
  · have := h.ac
    have := Int.mul_nonneg (show 0 ≤ f.1 by omega) z
    omega
theorem Lv.pos {far : Int} {f : I3} (h : Lv far f) (ha : f.1 < 0) : 0 < f.2.2 := by
  rcases Int.lt_or_le 0 f.2.2 with z | z
  · exact z
  · have := h.ac
    have := Int.mul_nonneg_of_nonpos_of_nonpos (show f.1 ≤ 0 by omega) z
    omega
theorem Fb {far : Int} {f : I3} (h : Lv far f) : (aft far f).1 = f.2.2 ∧ (aft far f).2.1 = dB f far ∧ (aft far f).2.2 = f.1 - f.2.1 * kB f far + f.2.2 * (kB f far * kB f far) := by
  obtain ⟨e, he⟩ := KJ (top := far) (Gq h.S)
  refine ⟨by show (mov f (Ca f far)).1 = _; rw [he], by show (mov f (Ca f far)).2.1 = _; rw [he], ?_⟩
  show val f (-1, kB f far) = _
  simp only [val]; grind
theorem Lv.riv {far : Int} {f : I3} (h : Lv far f) (ha : 0 < f.1) : Riv f := ⟨⟨ha, h.neg ha⟩, h.S.no⟩
theorem Vb {far : Int} {f g : I3} (hf : Lv far f) (hg : Lv far g) (hm : meas f = meas g) (h : aft far f = aft far g) : f = g := by
  have ⟨f1, f2, _⟩ := Fb hf
  have ⟨g1, g2, _⟩ := Fb hg
  have hc : f.2.2 = g.2.2 := by rw [← f1, h, g1]
  have hd : dB f far = dB g far := by rw [← f2, h, g2]
  have kf := Ge (top := far) (Gq hf.S)
  have kg := Ge (top := far) (Gq hg.S)
  have cf := (GJ hf.r hf.S.no hf.L).1
  have cg := (GJ hg.r hg.S.no hg.L).1
  have lf := hf.L.1.2
  have lg := hg.L.1.2
  have c0 := Gq hf.S
  obtain ⟨a, b, c⟩ := f
  obtain ⟨a', b', c'⟩ := g
  simp only at hc hd kf kg cf cg lf lg c0
  subst hc
  rw [← hd] at kg
  have hb : b = b' := by
    have e : b - b' = 2 * (c * (kB (a, b, c) far - kB (a', b', c) far)) := by
      have : 2 * (c * (kB (a, b, c) far - kB (a', b', c) far)) = 2 * c * kB (a, b, c) far - 2 * c * kB (a', b', c) far := by grind
      omega
    generalize kB (a, b, c) far - kB (a', b', c) far = k at *
    have hx : ab (c * k) = ab c * ab k := (J6 c k).symm
    have hk : ab k = 0 := by
      rcases Int.lt_or_le (ab k) 1 with z | z
      · have := Bm k; omega
      · exfalso
        have := Int.mul_le_mul_of_nonneg_left z (Bm c)
        rcases Aw (c * k) with ⟨_, e1⟩ | ⟨_, e1⟩ <;> omega
    rw [hk] at hx
    have : c * k = 0 := by rcases Aw (c * k) with ⟨_, e1⟩ | ⟨_, e1⟩ <;> omega
    omega
  subst hb
  have e1 : 4 * c * a = 4 * c * a' := by
    simp only [meas] at hm
    have x1 : 4 * a * c = 4 * c * a := by grind
    have x2 : 4 * a' * c = 4 * c * a' := by grind
    omega
  have : a = a' := Int.eq_of_mul_eq_mul_left (show 4 * c ≠ 0 by omega) e1
  rw [this]
theorem Agl : ∀ (k : Nat) (a b c : Int), (∀ j : Nat, 1 ≤ j → j ≤ k → 0 < a + b * j + c * (j * j)) → wd k (a, b, c) = (1, 0, (k : Int), 1)
  | 0, _, _, _, _ => rfl
  | k + 1, a, b, c, h => by
    have h1 := h 1 (by omega) (by omega)
    have hs : ¬ sm (a, b, c) < 0 := by simp only [sm]; simp at h1; omega
    have e : nx (a, b, c) = (a + b + c, b + 2 * c, c) := by unfold nx; rw [show stT (a, b, c) = tL from if_neg hs]; exact ZD
    rw [wd, e, show stT (a, b, c) = tL from if_neg hs, Agl k _ _ _ fun j j1 jk => ?_]
    · simp only [Aj, Prod.mk.injEq]
      refine ⟨by omega, by omega, by push_cast; omega, by omega⟩
    · have := h (j + 1) (by omega) (by omega)
      have e2 : a + b + c + (b + 2 * c) * (j : Int) + c * ((j : Int) * j) = a + b * ((j + 1 : Nat) : Int) + c * (((j + 1 : Nat) : Int) * ((j + 1 : Nat) : Int)) := by push_cast; grind
      rw [e2]; exact this
theorem AiN : ∀ (k : Nat) (a b c : Int), (∀ j : Nat, 1 ≤ j → j ≤ k → a * (j * j) + b * j + c < 0) → wd k (a, b, c) = (1, (k : Int), 0, 1)
  | 0, _, _, _, _ => rfl
  | k + 1, a, b, c, h => by
    have h1 := h 1 (by omega) (by omega)
    have hs : sm (a, b, c) < 0 := by simp only [sm]; simp at h1; omega
    have e : nx (a, b, c) = (a, b + 2 * a, a + b + c) := by unfold nx; rw [show stT (a, b, c) = tR from if_pos hs]; exact AaJ
    rw [wd, e, show stT (a, b, c) = tR from if_pos hs, AiN k _ _ _ fun j j1 jk => ?_]
    · simp only [Aj, Prod.mk.injEq]
      refine ⟨by omega, by push_cast; omega, by omega, by omega⟩
    · have := h (j + 1) (by omega) (by omega)
      have e2 : a * ((j : Int) * j) + (b + 2 * a) * (j : Int) + (a + b + c) = a * (((j + 1 : Nat) : Int) * ((j + 1 : Nat) : Int)) + b * ((j + 1 : Nat) : Int) + c := by push_cast; grind
      rw [e2]; exact this
theorem RL : ∀ (m n : Nat) (f : I3), wd (m + n) f = Aj (wd m f) (wd n (nxs m f))
  | 0, n, f => by rw [Nat.zero_add]; exact Gk.symm
  | m + 1, n, f => by
    rw [show m + 1 + n = (m + n) + 1 by omega, wd, RL m n (nx f), wd, then_assoc]; rfl
theorem O3 : ∀ (m n : Nat) (f : I3), nxs (m + n) f = nxs n (nxs m f)
  | 0, n, f => by rw [Nat.zero_add]; rfl
  | m + 1, n, f => by rw [show m + 1 + n = (m + n) + 1 by omega]; exact O3 m n (nx f)
theorem AgH {a b c k j : Int} (hc : c ≤ 0) (h0 : 0 < a) (hk : 0 < a + b * k + c * (k * k)) (j0 : 0 ≤ j) (jk : j ≤ k) (k0 : 0 < k) : 0 < a + b * j + c * (j * j) := by
  have e : k * (a + b * j + c * (j * j)) = (k - j) * a + j * (a + b * k + c * (k * k)) + (-c) * (j * (k - j) * k) := by grind
  have h1 := Int.mul_nonneg (show 0 ≤ k - j by omega) (show 0 ≤ a by omega)
  have h2 := Int.mul_nonneg j0 (show 0 ≤ a + b * k + c * (k * k) by omega)
  have h3 := Int.mul_nonneg (show 0 ≤ -c by omega) (Int.mul_nonneg (Int.mul_nonneg j0 (show 0 ≤ k - j by omega)) (show 0 ≤ k by omega))
  have h4 : 0 < (k - j) * a + j * (a + b * k + c * (k * k)) := by
    by_cases z : j = k
    · subst z
      have := Int.mul_pos k0 hk
      omega
    · have := Int.mul_pos (show 0 < k - j by omega) h0
      omega
  rcases Int.lt_or_le 0 (a + b * j + c * (j * j)) with z | z
  · exact z
  · have := Int.mul_le_mul_of_nonneg_left z (show 0 ≤ k by omega)
    omega
theorem Lv.k_sign {far : Int} {f : I3} (h : Lv far f) : (0 < f.1 → kB f far < 0) ∧ (f.1 < 0 → 0 < kB f far) := by
  have hk := Ge (top := far) (Gq h.S)
  have hd : 0 < dB f far := by
    have := h.next.L.1.1
    rw [(Fb h).2.1] at this
    exact this
  have hb := h.L.1.1
  constructor
  · intro ha
    have hc := h.neg ha
    rcases Int.lt_or_le (kB f far) 0 with z | z
    · exact z
    · have := Int.mul_nonneg (show 0 ≤ -(2 * f.2.2) by omega) z
      have e : -(2 * f.2.2) * kB f far = -(2 * f.2.2 * kB f far) := by grind
      omega
  · intro ha
    have hc := h.pos ha
    rcases Int.lt_or_le 0 (kB f far) with z | z
    · exact z
    · have := Int.mul_nonneg (show 0 ≤ 2 * f.2.2 by omega) (show 0 ≤ -kB f far by omega)
      have e : 2 * f.2.2 * -kB f far = -(2 * f.2.2 * kB f far) := by grind
      omega
theorem W4 {far : Int} {f : I3} (h : Lv far f) (ha : 0 < f.1) :
    ∃ N : Nat, 2 ≤ N ∧ nxs N f = aft far (aft far f) ∧ wd N f = Fq (Aj (Ca f far) (Ca (aft far f) far)) ∧ ∀ j, 0 < j → j < N → ¬ Lv far (nxs j f) := by
  have h' := h.next
  have h'' := h'.next
  have hc := h.neg ha
  have ⟨g1, g2, g3⟩ := Fb h
  have a' : (aft far f).1 < 0 := by rw [g1]; exact hc
  have he := h'.pos a'
  have ⟨q1, q2, q3⟩ := Fb h'
  have a'' : 0 < (aft far (aft far f)).1 := by rw [q1]; exact he
  have he'' := h''.neg a''
  have kn := h.k_sign.1 ha
  have kp := h'.k_sign.2 a'
  have hk1 := Ge (top := far) (Gq h.S)
  have hk2 := Ge (top := far) (Gq h'.S)
  have lb := h.L.1.2
  have ld' := h''.L.1.2
  rw [q2] at ld'
  rw [g2] at hk2
  rw [q3, g1, g2] at he''
  rw [g3] at he
  have hbeh1 : Ca f far = (0, -1, 1, kB f far) := rfl
  have hbeh2 : Ca (aft far f) far = (0, -1, 1, kB (aft far f) far) := rfl
  rw [hbeh1, hbeh2]
  have e22 : (aft far f).2.2 = f.1 - f.2.1 * kB f far + f.2.2 * (kB f far * kB f far) := g3
  generalize hF : aft far (aft far f) = F at *
  generalize hd' : dB (aft far f) far = d' at *
  generalize hk2' : kB (aft far f) far = k2 at *
  have hform : nxs 0 f = f := rfl
  generalize hg : aft far f = g at *
  generalize hd : dB f far = d at *
  generalize hk1' : kB f far = k1 at *
  obtain ⟨a, b, c⟩ := f
  have ha : 0 < a := ha
  have hc : c < 0 := hc
  have lb : b ≤ far := lb
  have he : 0 < a - b * k1 + c * (k1 * k1) := he
  have hk1 : 2 * c * k1 = b + d := hk1
  have he'' : c - d * k2 + g.2.2 * (k2 * k2) < 0 := he''
  have e22 : g.2.2 = a - b * k1 + c * (k1 * k1) := e22
  rw [e22] at he'' hk2
  obtain ⟨n1, hn1⟩ : ∃ n : Nat, -k1 = n := ⟨(-k1).toNat, by omega⟩
  obtain ⟨n2, hn2⟩ : ∃ n : Nat, k2 = n := ⟨k2.toNat, by omega⟩
  have hk1n : k1 = -(n1 : Int) := by omega
  have hw1 : ∀ i : Nat, i ≤ n1 → wd i (a, b, c) = (1, 0, (i : Int), 1) := fun i hi => Agl i a b c fun j j1 ji => by
    refine AgH (k := n1) (by omega) ha ?_ (by omega) (by omega) (by omega)
    have : a + b * (n1 : Int) + c * ((n1 : Int) * n1) = a - b * k1 + c * (k1 * k1) := by rw [hk1n]; grind
    omega
  have hF1 : nxs n1 (a, b, c) = (a - b * k1 + c * (k1 * k1), -d, c) := by
    rw [← Jc, hw1 n1 (Nat.le_refl _)]
    have e1 : -d = b + 2 * c * n1 := by
      have : 2 * c * (n1 : Int) = -(2 * c * k1) := by rw [hk1n]; grind
      omega
    rw [e1, hk1n]
    simp only [mov, val, mid, Prod.mk.injEq]
    refine ⟨?_, ?_, ?_⟩ <;> grind
  generalize hee : a - b * k1 + c * (k1 * k1) = e at *
  have hw2 : ∀ i : Nat, i ≤ n2 → wd i (e, -d, c) = (1, (i : Int), 0, 1) := fun i hi => AiN i e (-d) c fun j j1 ji => by
    have := AgH (a := -c) (b := d) (c := -e) (k := n2) (j := j) (by omega) (by omega) (by
      have : -c + d * (n2 : Int) + -e * ((n2 : Int) * n2) = -(c - d * k2 + e * (k2 * k2)) := by rw [hn2]; grind
      omega) (by omega) (by omega) (by omega)
    have e1 : e * ((j : Int) * j) + -d * j + c = -(-c + d * (j : Int) + -e * ((j : Int) * j)) := by grind
    omega
  have hF2 : ∀ i : Nat, i ≤ n2 → nxs (n1 + i) (a, b, c) = (e, -d + 2 * e * i, e * ((i : Int) * i) - d * i + c) := fun i hi => by
    rw [O3, hF1, ← Jc, hw2 i hi]
    simp only [mov, val, mid, Prod.mk.injEq]
    refine ⟨?_, ?_, ?_⟩ <;> grind
  have hwd : wd (n1 + n2) (a, b, c) = Fq (Aj (0, -1, 1, k1) (0, -1, 1, k2)) := by
    rw [RL, hF1, hw1 n1 (Nat.le_refl _), hw2 n2 (Nat.le_refl _), hk1n, hn2]
    simp only [Aj, Fq, Prod.mk.injEq]
    refine ⟨?_, ?_, ?_, ?_⟩ <;> grind
  refine ⟨n1 + n2, by omega, ?_, hwd, ?_⟩
  · rw [← Jc, hwd, K6, ← Bj, ← hF, ← hg]
    show mov (mov (a, b, c) (0, -1, 1, k1)) (0, -1, 1, k2) = _
    rw [← hk1', ← hk2', ← hg]; rfl
  · intro j j0 jn hL
    rcases Nat.lt_or_ge n1 j with z | z
    · obtain ⟨i, rfl⟩ : ∃ i, j = n1 + i := ⟨j - n1, by omega⟩
      rw [hF2 i (by omega)] at hL
      have l1 := hL.L.2.1
      have l1 : far - (-d + 2 * e * i) < 2 * ab e := l1
      rw [show ab e = e from if_neg (by omega)] at l1
      have hi : (i : Int) ≤ n2 - 1 := by omega
      have := Int.mul_le_mul_of_nonneg_left hi (show 0 ≤ 2 * e by omega)
      have e1 : 2 * e * ((n2 : Int) - 1) = 2 * e * k2 - 2 * e := by rw [hn2]; grind
      omega
    · have hj : nxs j (a, b, c) = (a + b * j + c * ((j : Int) * j), b + 2 * c * j, c) := by
        rw [← Jc, hw1 j z]
        simp only [mov, val, mid, Prod.mk.injEq]
        refine ⟨?_, ?_, ?_⟩ <;> grind
      rw [hj] at hL
      have l1 := (GJ hL.r hL.S.no hL.L).1
      have l1 : far - (b + 2 * c * j) < 2 * ab c := l1
      rw [show ab c = -c from if_pos hc] at l1
      have := Int.mul_le_mul_of_nonneg_left (show (1 : Int) ≤ j by omega) (show 0 ≤ -(2 * c) by omega)
      have e1 : -(2 * c) * (j : Int) = -(2 * c * j) := by grind
      omega
end My
namespace My
open PySem L2
noncomputable def Sg (t u : I4) : Prop := t = u ∨ t = Fq u
theorem QV {t u : I4} : Aj (Fq t) u = Fq (Aj t u) := by
  obtain ⟨a, b, c, d⟩ := t; obtain ⟨e, f, g, h⟩ := u
  simp only [Aj, Fq, Prod.mk.injEq]
  refine ⟨?_, ?_, ?_, ?_⟩ <;> grind
theorem QF {t u : I4} : Aj t (Fq u) = Fq (Aj t u) := by
  obtain ⟨a, b, c, d⟩ := t; obtain ⟨e, f, g, h⟩ := u
  simp only [Aj, Fq, Prod.mk.injEq]
  refine ⟨?_, ?_, ?_, ?_⟩ <;> grind
theorem Ek {t : I4} : Ax (Ax t) = t := by
  obtain ⟨a, b, c, d⟩ := t
  simp only [Ax, Prod.mk.injEq]
  refine ⟨trivial, ?_, ?_, trivial⟩ <;> omega
theorem Mg {t u : I4} : Ax (Aj t u) = Aj (Ax u) (Ax t) := by
  obtain ⟨a, b, c, d⟩ := t; obtain ⟨e, f, g, h⟩ := u
  simp only [Aj, Ax, Prod.mk.injEq]
  refine ⟨?_, ?_, ?_, ?_⟩ <;> grind
theorem Sg.refl {t : I4} : Sg t t := .inl rfl
theorem Sg.trans {t u v : I4} (h : Sg t u) (k : Sg u v) : Sg t v := by
  rcases h with rfl | rfl <;> rcases k with rfl | rfl
  · exact .inl rfl
  · exact .inr rfl
  · exact .inr rfl
  · exact .inl neg_neg
theorem Sg.then {t u t' u' : I4} (h : Sg t t') (k : Sg u u') : Sg (Aj t u) (Aj t' u') := by
  rcases h with rfl | rfl <;> rcases k with rfl | rfl
  · exact .inl rfl
  · exact .inr QF
  · exact .inr QV
  · exact .inl (by rw [QV, QF, neg_neg])
theorem Sg.back {t u : I4} (h : Sg t u) : Sg (Ax t) (Ax u) := by
  rcases h with rfl | rfl
  · exact .inl rfl
  · exact .inr Rj
theorem Sg.mov {f : I3} {t u : I4} (h : Sg t u) : mov f t = mov f u := by
  rcases h with rfl | rfl
  · rfl
  · exact K6
noncomputable def rF (far : Int) : Nat → I3 → I3
  | 0, f => f
  | n + 1, f => rF far n (aft far f)
noncomputable def rT (far : Int) : Nat → I3 → I4
  | 0, _ => (1, 0, 0, 1)
  | n + 1, f => Aj (Ca f far) (rT far n (aft far f))
theorem FP {far : Int} : ∀ (n : Nat) (f : I3), mov f (rT far n f) = rF far n f
  | 0, _ => Di
  | n + 1, f => by rw [rT, ← Bj]; exact FP n (aft far f)
theorem Pg {far : Int} : ∀ (n : Nat) (f : I3), det (rT far n f) = 1
  | 0, _ => rfl
  | n + 1, f => by rw [rT, CJ, Cj, Pg n (aft far f)]; rfl
theorem Ei {far : Int} : ∀ (m n : Nat) (f : I3), rF far (m + n) f = rF far n (rF far m f)
  | 0, n, f => by rw [Nat.zero_add]; rfl
  | m + 1, n, f => by rw [show m + 1 + n = (m + n) + 1 by omega]; exact Ei m n (aft far f)
theorem Ov {far : Int} : ∀ (m n : Nat) (f : I3), rT far (m + n) f = Aj (rT far m f) (rT far n (rF far m f))
  | 0, n, f => by rw [Nat.zero_add]; exact Gk.symm
  | m + 1, n, f => by rw [show m + 1 + n = (m + n) + 1 by omega, rT, Ov m n (aft far f), rT, then_assoc]; rfl
theorem V0 {far : Int} {n : Nat} {f : I3} : rF far (n + 1) f = aft far (rF far n f) := by rw [Ei]; rfl
theorem Ve {far : Int} {n : Nat} {f : I3} : rT far (n + 1) f = Aj (rT far n f) (Ca (rF far n f) far) := by
  rw [Ov]
  show Aj _ (Aj _ (1, 0, 0, 1)) = _
  rw [Fi]
theorem Lv.rF {far : Int} : ∀ (n : Nat) {f : I3}, Lv far f → Lv far (rF far n f)
  | 0, _, h => h
  | n + 1, _, h => Lv.rF n h.next
theorem Jk {far : Int} (n : Nat) (f : I3) : meas (rF far n f) = meas f := by rw [← FP, Bq (Pg n f)]
theorem VH {far : Int} : ∀ (n : Nat) (f : I3), Lv far f → 0 < f.1 → Lv far (nxs n f) → ∃ m, Sg (wd n f) (rT far m f) := by
  intro n
  induction n using Nat.strongRecOn with
  | ind n ih =>
    intro f hf ha hg
    by_cases h0 : n = 0
    · subst h0
      exact ⟨0, Sg.refl⟩
    · obtain ⟨N, hN, e1, e2, e3⟩ := W4 hf ha
      have hn : N ≤ n := by
        rcases Nat.lt_or_ge n N with z | z
        · exact absurd hg (e3 n (by omega) z)
        · exact z
      obtain ⟨k, rfl⟩ : ∃ k, n = N + k := ⟨n - N, by omega⟩
      have a2 : 0 < (aft far (aft far f)).1 := by
        rw [(Fb hf.next).1]
        exact hf.next.pos (by rw [(Fb hf).1]; exact hf.neg ha)
      rw [O3, e1] at hg
      obtain ⟨m, hm⟩ := ih k (by omega) (aft far (aft far f)) hf.next.next a2 hg
      refine ⟨m + 2, ?_⟩
      rw [RL, e1, e2]
      show Sg _ (Aj (Ca f far) (Aj (Ca (aft far f) far) (rT far m (aft far (aft far f)))))
      rw [← then_assoc]
      exact Sg.then (.inr rfl) hm
noncomputable def Ring (far : Int) (f g : I3) (t : I4) : Prop := (∃ m, Sg t (rT far m f)) ∨ (∃ m, Sg (Ax t) (rT far m g))
theorem Ring.swap {far : Int} {f g : I3} {t : I4} (h : Ring far f g t) : Ring far g f (Ax t) := by
  rcases h with ⟨m, h⟩ | ⟨m, h⟩
  · exact .inr ⟨m, by rw [Ek]; exact h⟩
  · exact .inl ⟨m, h⟩
theorem Vo {far : Int} {f g : I3} {t : I4} (hf : Lv far f) (hg : Lv far g) (hd : det t = 1) (e : mov f t = g) (fa : 0 < f.1) (ga : 0 < g.1) : Ring far f g t := by
  have hr : Riv (mov f t) := by rw [e]; exact hg.riv ga
  rcases AgM (hf.riv fa) hd hr with ⟨n, h⟩ | ⟨n, h⟩
  · have hs : Sg t (wd n f) := h
    have hn : Lv far (nxs n f) := by rw [← Jc, ← hs.mov, e]; exact hg
    obtain ⟨m, hm⟩ := VH n f hf fa hn
    exact .inl ⟨m, hs.trans hm⟩
  · rw [e] at h
    have hs : Sg (Ax t) (wd n g) := h
    have hn : Lv far (nxs n g) := by rw [← Jc, ← hs.mov, ← e, Bu hd]; exact hf
    obtain ⟨m, hm⟩ := VH n g hg ga hn
    exact .inr ⟨m, hs.trans hm⟩
theorem Uo {far : Int} {f g : I3} {t : I4} {m : Nat} (hf : Lv far f) (hg : Lv far g) (hm : meas f = meas g) (h : Sg (Aj t (Ca g far)) (rT far m f)) (e : rF far m f = aft far g) : (∃ k, Sg t (rT far k f)) ∨ Sg t (Ax (Ca g far)) := by
  have cancel : ∀ {u : I4}, Sg (Aj t (Ca g far)) (Aj u (Ca g far)) → Sg t u := fun {u} h => by
    have := Sg.then h (Sg.refl (t := Ax (Ca g far)))
    rw [then_assoc, then_assoc, HY Cj, Fi, Fi] at this
    exact this
  match m, h, e with
  | 0, h, e =>
    right
    refine cancel (h.trans ?_)
    rw [N5 Cj]
    exact Sg.refl
  | m + 1, h, e =>
    left
    rw [V0] at e
    have e' := Vb (Lv.rF m hf) hg (by rw [Jk]; exact hm) e
    rw [Ve, e'] at h
    exact ⟨m, cancel h⟩
theorem Qa {far : Int} {f g : I3} {t : I4} (hf : Lv far f) (hg : Lv far g) (hd : det t = 1) (e : mov f t = g) (fa : 0 < f.1) (ga : g.1 < 0) : Ring far f g t := by
  have hm : meas f = meas g := by rw [← e, Bq hd]
  have hd' : det (Aj t (Ca g far)) = 1 := by rw [CJ, hd, Cj]; rfl
  have e' : mov f (Aj t (Ca g far)) = aft far g := by rw [← Bj, e]
  have ga' : 0 < (aft far g).1 := by rw [(Fb hg).1]; exact hg.pos ga
  rcases Vo hf hg.next hd' e' fa ga' with ⟨m, h⟩ | ⟨m, h⟩
  · have er : rF far m f = aft far g := by rw [← FP, ← h.mov, e']
    rcases Uo hf hg hm h er with h | h
    · exact .inl h
    · refine .inr ⟨1, ?_⟩
      have := h.back
      rw [Ek] at this
      show Sg _ (Aj (Ca g far) (1, 0, 0, 1))
      rw [Fi]
      exact this
  · refine .inr ⟨m + 1, ?_⟩
    have h2 := Sg.then (Sg.refl (t := Ca g far)) h
    rw [Mg, ← then_assoc, HY Cj, Gk] at h2
    exact h2
theorem M7 {far : Int} {f g : I3} {t : I4} (hf : Lv far f) (hg : Lv far g) (hd : det t = 1) (e : mov f t = g) : Ring far f g t := by
  have fa := Yi hf.S
  have ga := Yi hg.S
  have eb : mov g (Ax t) = f := by rw [← e, Bu hd]
  have hdb : det (Ax t) = 1 := Dv.trans hd
  rcases Int.lt_or_lt_of_ne fa with fa | fa
  · rcases Int.lt_or_lt_of_ne ga with ga | ga
    ·
      have fa' : 0 < (aft far f).1 := by rw [(Fb hf).1]; exact hf.pos fa
      have hd' : det (Aj (Ax (Ca f far)) t) = 1 := by rw [CJ, Dv, Cj, hd]; rfl
      have e' : mov (aft far f) (Aj (Ax (Ca f far)) t) = g := by
        rw [← Bj, Bu Cj, e]
      have hm : meas g = meas f := by rw [← e, Bq hd]
      rcases Qa hf.next hg hd' e' fa' ga with ⟨m, h⟩ | ⟨m, h⟩
      · refine .inl ⟨m + 1, ?_⟩
        have h2 := Sg.then (Sg.refl (t := Ca f far)) h
        rw [← then_assoc, HY Cj, Gk] at h2
        exact h2
      · rw [Mg, Ek] at h
        have er : rF far m g = aft far f := by rw [← FP, ← h.mov, ← Bj, eb]
        rcases Uo hg hf hm h er with h | h
        · exact .inr h
        · refine .inl ⟨1, ?_⟩
          have := h.back
          rw [Ek, Ek] at this
          show Sg _ (Aj (Ca f far) (1, 0, 0, 1))
          rw [Fi]
          exact this
    · have := (Qa hg hf hdb eb ga fa).swap
      rw [Ek] at this
      exact this
  · rcases Int.lt_or_lt_of_ne ga with ga | ga
    · exact Qa hf hg hd e fa ga
    · exact Vo hf hg hd e fa ga
theorem AdU : ∀ (M : Nat) (x : Nat → Nat), (∀ i, i ≤ M → x i < M) → ∃ i j, i < j ∧ j ≤ M ∧ x i = x j := by
  intro M
  induction M with
  | zero => intro x h; exact absurd (h 0 (Nat.le_refl _)) (by omega)
  | succ M ih =>
    intro x h
    by_cases hex : ∃ i j, i < j ∧ j ≤ M + 1 ∧ x i = x j
    · exact hex
    · have ne : ∀ i j, i < j → j ≤ M + 1 → x i ≠ x j := fun i j h1 h2 h3 => hex ⟨i, j, h1, h2, h3⟩
      obtain ⟨i, j, h1, h2, h3⟩ := ih (fun i => if x i = M then x (M + 1) else x i) (fun i hi => by
        have h1 := h i (by omega)
        have h2 := h (M + 1) (Nat.le_refl _)
        have h3 := ne i (M + 1) (by omega) (Nat.le_refl _)
        show (if x i = M then x (M + 1) else x i) < M
        split <;> omega)
      exfalso
      have n1 := ne i j h1 (by omega)
      have n2 := ne i (M + 1) (by omega) (Nat.le_refl _)
      have n3 := ne j (M + 1) (by omega) (Nat.le_refl _)
      have h3 : (if x i = M then x (M + 1) else x i) = (if x j = M then x (M + 1) else x j) := h3
      split at h3 <;> split at h3 <;> omega
theorem JK {far : Int} : ∀ (i : Nat) {f g : I3}, Lv far f → Lv far g → meas f = meas g → rF far i f = rF far i g → f = g
  | 0, _, _, _, _, _, h => h
  | i + 1, f, g, hf, hg, hm, h => Vb hf hg hm (JK i hf.next hg.next (by rw [Bq Cj, Bq Cj]; exact hm) h)
noncomputable def Q9 (f : I3) : Nat := ((f.1 + 63) * 64 + f.2.1).toNat
theorem Lv.range {far : Int} {f : I3} (h : Lv far f) : (-63 ≤ f.1 ∧ f.1 ≤ 63) ∧ (0 < f.2.1 ∧ f.2.1 ≤ 63) := by
  have h6 := Pn h.r h.S.most
  obtain ⟨⟨l1, l2⟩, _, l4⟩ := h.L
  have l4 : 2 * ab f.1 ≤ far + f.2.1 := l4
  rcases Aw f.1 with ⟨_, e⟩ | ⟨_, e⟩ <;> omega
theorem code_inj {far : Int} {f g : I3} (hf : Lv far f) (hg : Lv far g) (hm : meas f = meas g) (h : Q9 f = Q9 g) : f = g := by
  have rf := hf.range
  have rg := hg.range
  have ha := Yi hf.S
  obtain ⟨a, b, c⟩ := f
  obtain ⟨a', b', c'⟩ := g
  simp only [Q9] at h rf rg ha
  have e1 : a = a' := by omega
  have e2 : b = b' := by omega
  subst e1 e2
  have e3 : 4 * a * c = 4 * a * c' := by simp only [meas] at hm; omega
  have : c = c' := Int.eq_of_mul_eq_mul_left (show 4 * a ≠ 0 by omega) e3
  rw [this]
theorem Qp {far : Int} {f : I3} (h : Lv far f) : ∃ N, 0 < N ∧ N ≤ 8128 ∧ rF far N f = f ∧ ∀ j, 0 < j → j < N → rF far j f ≠ f := by
  have ex : ∃ N, 0 < N ∧ N ≤ 8128 ∧ rF far N f = f := by
    obtain ⟨i, j, hij, hj, e⟩ := AdU 8128 (fun i => Q9 (rF far i f)) (fun i _ => by
      have := (Lv.rF i h).range
      unfold Q9
      omega)
    have e' := code_inj (Lv.rF i h) (Lv.rF j h) (by rw [Jk, Jk]) e
    obtain ⟨k, rfl⟩ : ∃ k, j = k + i := ⟨j - i, by omega⟩
    rw [Ei k i f] at e'
    have := JK i h (Lv.rF k h) (by rw [Jk]) e'
    exact ⟨k, by omega, by omega, this.symm⟩
  have least : ∀ M, (∃ N, 0 < N ∧ N ≤ M ∧ rF far N f = f) → ∃ N, 0 < N ∧ N ≤ M ∧ rF far N f = f ∧ ∀ j, 0 < j → j < N → rF far j f ≠ f := by
    intro M
    induction M with
    | zero => intro ⟨N, h1, h2, _⟩; omega
    | succ M ih =>
      intro hN
      by_cases hM : ∃ N, 0 < N ∧ N ≤ M ∧ rF far N f = f
      · obtain ⟨N, h1, h2, h3, h4⟩ := ih hM
        exact ⟨N, h1, by omega, h3, h4⟩
      · obtain ⟨N, h1, h2, h3⟩ := hN
        exact ⟨N, h1, h2, h3, fun j j0 jN e => hM ⟨j, j0, by omega, e⟩⟩
  exact least 8128 ex
theorem Vm {f : I3} {far : Int} (h : Lv far f) : Bt 9 (kB f far) := by
  have hc := Gq h.S
  have hk := Ge (top := far) hc
  have ⟨d1, d2⟩ := Jp (top := far) hc
  have h6 := Pn h.r h.S.most
  have ⟨c1, c2⟩ := GJ h.r h.S.no h.L
  obtain ⟨⟨l1, l2⟩, _, _⟩ := h.L
  have e1 : 2 * (ab f.2.2 * ab (kB f far)) = ab (f.2.1 + dB f far) := by
    rw [← hk, J6]
    have : 2 * f.2.2 * kB f far = 2 * (f.2.2 * kB f far) := by grind
    rw [this]
    rcases Aw (f.2.2 * kB f far) with ⟨h1, e1⟩ | ⟨h1, e1⟩
    · rw [e1, ab, if_neg (by omega)]
    · rw [e1, ab, if_pos (by omega)]; omega
  have c0 : 1 ≤ ab f.2.2 := by rcases Aw f.2.2 with ⟨_, e1⟩ | ⟨_, e1⟩ <;> omega
  have e2 := Int.mul_le_mul_of_nonneg_right c0 (Bm (kB f far))
  have e3 : ab (f.2.1 + dB f far) ≤ 252 := by rcases Aw (f.2.1 + dB f far) with ⟨_, e1⟩ | ⟨_, e1⟩ <;> omega
  have := Bm (kB f far)
  exact Od (k := 252) (by omega) (by decide)
theorem Adx {far : Int} : ∀ (n : Nat) {f : I3}, Lv far f → B4 (10 * n + 1) (rT far n f)
  | 0, _, _ => ⟨Bt.one, Bt.zero.le (by omega), Bt.zero.le (by omega), Bt.one⟩
  | n + 1, f, h => by
    have h1 := Lr (Vm h) (by decide)
    exact (B4.then h1 (Adx n h.next)).le (by omega)
end My
namespace My
open PySem L2
noncomputable def tr (t : I4) : Int := t.1 + t.2.2.2
theorem AcY {t x : I4} (h : det x = 1) : tr (Aj (Aj x t) (Ax x)) = tr t := by
  obtain ⟨p, q, r, s⟩ := t; obtain ⟨a, b, c, d⟩ := x
  simp only [det] at h
  have : tr (Aj (Aj (a, b, c, d) (p, q, r, s)) (Ax (a, b, c, d))) = (a * d - b * c) * (p + s) := by simp only [tr, Aj, Ax]; grind
  rw [this, h, Int.one_mul]; rfl
theorem ZS {t x : I4} (h : det x = 1) : tr (Aj (Aj (Ax x) t) x) = tr t := by
  have := AcY (t := t) (x := Ax x) (Dv.trans h)
  rw [Ek] at this
  exact this
theorem AjH {f : I3} (h : f.1 ≠ 0) : 0 < g3 f := by
  rcases Nat.lt_or_ge 0 (g3 f) with z | z
  · exact z
  · have := Ac6 (show g3 f = 0 by omega)
    rw [this] at h
    exact absurd rfl h
noncomputable def pl (f : I3) : I3 := (f.1 / (g3 f : Int), f.2.1 / (g3 f : Int), f.2.2 / (g3 f : Int))
theorem Akn (f : I3) : f.1 = (g3 f : Int) * (pl f).1 ∧ f.2.1 = (g3 f : Int) * (pl f).2.1 ∧ f.2.2 = (g3 f : Int) * (pl f).2.2 := by
  obtain ⟨h1, h2, h3⟩ := Ad6 f
  exact ⟨(Int.mul_ediv_cancel' h1).symm, (Int.mul_ediv_cancel' h2).symm, (Int.mul_ediv_cancel' h3).symm⟩
theorem U8 {far : Int} {f : I3} {N m : Nat} (e : rF far N f = f) : tr (rT far N (rF far m f)) = tr (rT far N f) := by
  have h1 := Ov (far := far) m N f
  have h2 := Ov (far := far) N m f
  rw [e, Nat.add_comm N m] at h2
  have hd := Pg (far := far) m f
  have : rT far N (rF far m f) = Aj (Aj (Ax (rT far m f)) (rT far N f)) (rT far m f) := by
    rw [then_assoc, ← h2, h1, ← then_assoc, N5 hd, Gk]
  rw [this, ZS hd]
theorem Qu {far : Int} {f : I3} {N M m : Nat} (h : Lv far f) (e : rF far N f = f) (min : ∀ j, 0 < j → j < N → rF far j f ≠ f) (e' : rF far M (rF far m f) = rF far m f) (min' : ∀ j, 0 < j → j < M → rF far j (rF far m f) ≠ rF far m f) (hN : 0 < N) (hM : 0 < M) : N = M := by
  have a1 : rF far M f = f := by
    rw [← Ei, Nat.add_comm, Ei] at e'
    exact JK m (Lv.rF M h) h (by rw [Jk]) e'
  have a2 : rF far N (rF far m f) = rF far m f := by rw [← Ei, Nat.add_comm, Ei, e]
  rcases Nat.lt_trichotomy N M with z | z | z
  · exact absurd a2 (min' N hN z)
  · exact z
  · exact absurd a1 (min M hM z)
theorem N6 {far : Int} {f g : I3} {t : I4} {N M : Nat} (hf : Lv far f) (hg : Lv far g) (hd : det t = 1) (e : mov f t = g) (eN : rF far N f = f) (minN : ∀ j, 0 < j → j < N → rF far j f ≠ f) (eM : rF far M g = g) (minM : ∀ j, 0 < j → j < M → rF far j g ≠ g) (hN : 0 < N) (hM : 0 < M) : N = M ∧ tr (rT far M g) = tr (rT far N f) := by
  rcases M7 hf hg hd e with ⟨m, h⟩ | ⟨m, h⟩
  · have eg : rF far m f = g := by rw [← FP, ← h.mov, e]
    subst eg
    have := Qu hf eN minN eM minM hN hM
    subst this
    exact ⟨rfl, U8 eN⟩
  · have ef : rF far m g = f := by rw [← FP, ← h.mov, ← e, Bu hd]
    subst ef
    have := Qu hg eM minM eN minN hM hN
    subst this
    exact ⟨rfl, (U8 eM).symm⟩
end My
namespace My
open PySem L2
end My
namespace My
open PySem L2
local macro_rules | `(tactic| walk_at "sc") => `(tactic| (exact ⟨rfl, rfl, rfl, by decide +kernel, rfl, by decide +kernel, by decide +kernel⟩))
local macro_rules | `(tactic| walk_at "lE") => `(tactic| (exact fun ds Q ⟨p, e, _⟩ => by rw [e]; rfl))
local macro_rules | `(tactic| walk_at "b1") => `(tactic| (intro _ _ _ _ _ _ us hl; exact match us, hl with | [_], _ => rfl))
local macro_rules | `(tactic| walk_at "b2") => `(tactic| (intro _ _ _ _ _ _ us hl; exact match us, hl with | [_, _], _ => rfl))
local macro_rules | `(tactic| walk_at "b3") => `(tactic| (intro _ _ _ _ _ _ us hl; exact match us, hl with | [_, _, _], _ => rfl))
local macro_rules | `(tactic| walk_at "b5") => `(tactic| (intro _ _ _ _ _ _ us hl; exact match us, hl with | [_, _, _, _, _], _ => rfl))
local macro_rules | `(tactic| walk_at "rd1") => `(tactic| dsimp only [AgO, Agw, Aet, Ade, dIf, YQ, Adb, AaW, MK, Vc, V7, Ahd, V2, Qe, Adm, Ail, AiF, dIn, dOp, dUn, Tn, dC, dIx, Akt, AjL, AjA, Akr, AjW, Akx, AjI, Akl, AdM, AgK, AcQ, Aif, Ai6, Aig, Aid, Akb, dI, dI0, dB0, dLt, dLe, dGt, dGe, dEq, dNe, dIs, Agj, Aha, dOr, Acb, Mq, Adv, Adk, AhA, Aj7, Aca, Wf, dTup, AgU, dCall, dCB, ZK, ZV, Xw, Aj1, Ahk, Aiw, TX, AcT, AaM, Lp, V3, K9, inner, Ado, Ac9, Uj, Aem, Aen, Adn, dOf, Ajd, Acs, Air, Afk, Zr, Yn, Adr, Aji, Ym, AdE, Ais, Yk, Aay, Agy, Kd, Z4, Ra, Ahi, AdD, AdF, Ah2, Ajv, Ahn, Adt, Ahc, AhB, ownAt, AhK, Aez, AeT, AfP, Af0, AeE, Z5, LK, Adg, Akv, Adj, Ys,
  List.length_cons, List.length_nil, List.getElem?_cons_zero, List.getElem?_cons_succ, List.set_cons_zero, List.set_cons_succ, Nat.reduceAdd, List.map_cons, List.map_nil, Option.join_some])
local macro_rules | `(tactic| walk_at "rd2") => `(tactic| simp only [Ahh, Ah9, AhI, Aic, AfV, AhV, Ajn, AiP, AgT, Ai9, AiU, Akj, AkB, AjU, Ajw, Aj6, AjK, AfT, Age, Af2, Afx, AeD, Ae7, Aex, AeH, Ad4, AeJ, Qm, Aiu, Kl, AhN, Ajh, Agh, AiY, Um, Ajr, TV, Tv, Afy, Afe, JR, Ad1, Ad0, K7, Ac2, Aa7, Aa0, AbI, KN, KY, if_true, if_false, Bool.and_true, Bool.true_and, Bool.false_and, Bool.and_false, Bool.not_true, Bool.not_false, Bool.false_eq_true, true_and, and_true, ite_true, ite_false, List.length_map])
local macro_rules | `(tactic| walk_at "rd") => `(tactic| ((try walk_at "rd1"); (try walk_at "rd2")))
local macro_rules | `(tactic| walk_at "go") => `(tactic| ((try simp only [Ri, Rm, Qo]); walk_at "rd"))
local macro_rules | `(tactic| walk_at "bts") => `(tactic| first | assumption | (with_reducible apply Bt.mul <;> walk_at "bts") | (with_reducible apply Bt.add <;> walk_at "bts") | (with_reducible apply Bt.sub <;> walk_at "bts") | (with_reducible apply Bt.neg <;> walk_at "bts") | exact Bt.of_abs (n := 1) (by decide) | exact Bt.of_abs (n := 8) (by decide) | exact Bt.of_abs (n := 400) (by decide))
local macro_rules | `(tactic| walk_at "bt") => `(tactic| exact Bt.le (by walk_at "bts") (by decide))
local macro_rules | `(tactic| walk_at "mul") => `(tactic| exact Bt.mulOk (by walk_at "bts") (by walk_at "bts") (by decide) (by decide))
local macro_rules | `(tactic| walk_at "muls") => `(tactic| repeat (refine ⟨by first | walk_at "mul" | exact Bc (by decide) | decide | exact ⟨by decide, by decide⟩, ?_⟩))
noncomputable def top (i : Nat) : Stmt := PySem.Challenge.pw_formcycle_k37_no_way.main.body.getD i (.Pass ⟨0, 0, 0, 0⟩)
noncomputable abbrev Hu : Stmt := top 15
theorem Jg : Am ["number", "guess", "better"] ["number"] (Ag Hu) := by walk_at "sc"
noncomputable abbrev DY : Stmt := top 16
theorem JF : Am ["number", "side"] ["number"] (Ag DY) := by walk_at "sc"
noncomputable abbrev Cd : Stmt := top 17
theorem J7 : Am ["number", "most"] ["number", "most"] (Ag Cd) := by walk_at "sc"
noncomputable abbrev Fe : Stmt := top 20
theorem RP : Am ["turn"] ["turn"] (Ag Fe) := by walk_at "sc"
noncomputable abbrev BL : Stmt := top 21
theorem Ny : Am ["turn"] ["turn"] (Ag BL) := by walk_at "sc"
noncomputable abbrev Cg : Stmt := top 22
theorem Nk : Am ["one", "other"] ["one", "other"] (Ag Cg) := by walk_at "sc"
noncomputable abbrev JL : Stmt := top 23
theorem Aci : Am ["turn"] ["turn"] (Ag JL) := by walk_at "sc"
noncomputable abbrev Cw : Stmt := top 25
theorem Sd : Am ["form"] ["form"] (Ag Cw) := by walk_at "sc"
noncomputable abbrev Ib : Stmt := top 26
theorem Ml : Am ["form", "point", "x", "y"] ["form", "point"] (Ag Ib) := by walk_at "sc"
noncomputable abbrev Em : Stmt := top 27
theorem Lh : Am ["form", "turn", "left", "right"] ["form", "turn"] (Ag Em) := by walk_at "sc"
noncomputable abbrev Gp : Stmt := top 28
theorem Og : Am ["form", "left", "right", "crossed"] ["form", "left", "right"] (Ag Gp) := by walk_at "sc"
noncomputable abbrev EY : Stmt := top 29
theorem Qv : Am ["form", "number"] ["form"] (Ag EY) := by walk_at "sc"
noncomputable abbrev Dm : Stmt := top 31
theorem Nj : Am ["form"] ["form"] (Ag Dm) := by walk_at "sc"
noncomputable abbrev CK : Stmt := top 32
theorem Dw : Am ["form", "a", "b", "c"] ["form"] (Ag CK) := by walk_at "sc"
noncomputable abbrev Fg : Stmt := top 33
theorem Ft : Am ["form", "turn", "lowering"] ["form"] (Ag Fg) := by walk_at "sc"
noncomputable abbrev Dn : Stmt := top 34
theorem Ii : Am ["form", "often"] ["form"] (Ag Dn) := by walk_at "sc"
noncomputable abbrev BR : Stmt := top 37
theorem KD : Am ["form"] ["form"] (Ag BR) := by walk_at "sc"
noncomputable abbrev CQ : Stmt := top 38
theorem G9 : Am ["form", "far", "b"] ["form", "far"] (Ag CQ) := by walk_at "sc"
noncomputable abbrev Dc : Stmt := top 39
theorem Ef : Am ["form", "top", "b", "c", "d"] ["form", "top"] (Ag Dc) := by walk_at "sc"
noncomputable abbrev Cr : Stmt := top 40
theorem Hi : Am ["stop", "top", "turn"] ["stop", "top"] (Ag Cr) := by walk_at "sc"
noncomputable abbrev HN : Stmt := top 41
theorem Jl : Am ["form", "far", "stop"] ["form"] (Ag HN) := by walk_at "sc"
noncomputable abbrev Dd : Stmt := top 42
theorem CP : Am ["form", "far", "first", "stops", "stop"] ["form"] (Ag Dd) := by walk_at "sc"
noncomputable abbrev Fd : Stmt := top 43
theorem RD : Am ["form"] ["form"] (Ag Fd) := by walk_at "sc"
noncomputable abbrev Dy : Stmt := top 48
theorem Q0 : Am ["form"] ["form"] (Ag Dy) := by walk_at "sc"
noncomputable abbrev Dg : Stmt := top 49
theorem M5 : Am ["one", "other"] ["one", "other"] (Ag Dg) := by walk_at "sc"
noncomputable abbrev DP : Stmt := top 51
theorem Ox : Am ["_law_script", "_law_k"] ["_law_script", "_law_k"] (Ag DP) := by walk_at "sc"
noncomputable abbrev Cu : Stmt := top 52
theorem Mx : Am ["_law_found", "_law_many"] ["_law_found", "_law_many"] (Ag Cu) := by walk_at "sc"
noncomputable abbrev Dk : Stmt := top 53
theorem Eo : Am ["_law_form_here", "_law_x", "_law_y", "_law_a", "_law_b", "_law_c"] ["_law_form_here", "_law_x", "_law_y"] (Ag Dk) := by walk_at "sc"
noncomputable abbrev Ce : Stmt := top 54
theorem Ck : Am ["_law_form_here", "_law_turn", "_law_p", "_law_q", "_law_r", "_law_s", "_law_middle"] ["_law_form_here", "_law_turn"] (Ag Ce) := by walk_at "sc"
noncomputable abbrev CG : Stmt := top 55
theorem G4 : Am ["_law_one", "_law_other"] ["_law_one", "_law_other"] (Ag CG) := by walk_at "sc"
noncomputable abbrev DN : Stmt := top 56
theorem FQ : Am ["_law_cell_here", "_law_number_here", "_law_bar_here"] ["_law_cell_here"] (Ag DN) := by walk_at "sc"
noncomputable abbrev DX : Stmt := top 57
theorem CV : Am ["_law_bar_here", "_law_one", "_law_other", "_law_number_here", "_law_b", "_law_rest", "_law_a"] ["_law_bar_here", "_law_one", "_law_other"] (Ag DX) := by walk_at "sc"
noncomputable abbrev Dp : Stmt := top 58
theorem Nu : Am ["_law_form_here", "_law_turn", "_law_other"] ["_law_form_here", "_law_turn", "_law_other"] (Ag Dp) := by walk_at "sc"
noncomputable abbrev Cq : Stmt := top 59
theorem Ht : Am ["_law_cell_here", "_law_far"] ["_law_cell_here"] (Ag Cq) := by walk_at "sc"
noncomputable abbrev BP : Stmt := top 60
theorem CZ : Am ["_law_cells", "_law_form_here", "_law_m", "_law_n", "_law_k", "_law_kind"] ["_law_cells", "_law_form_here"] (Ag BP) := by walk_at "sc"
noncomputable abbrev Df : Stmt := top 61
theorem Eh : Am ["_law_one", "_law_four", "_law_caught_here", "_law_e"] ["_law_one", "_law_four"] (Ag Df) := by walk_at "sc"
noncomputable abbrev Cy : Stmt := top 62
theorem Ks : Am ["_law_e", "_law_four"] ["_law_e", "_law_four"] (Ag Cy) := by walk_at "sc"
noncomputable abbrev DR : Stmt := top 63
theorem Jm : Am ["_law_one", "_law_form_here", "_law_bar_here", "_law_strange_here", "_law_there", "_law_way"] ["_law_one", "_law_form_here", "_law_bar_here", "_law_strange_here", "_law_there"] (Ag DR) := by walk_at "sc"
noncomputable abbrev JB : Stmt := top 64
theorem GD : Am ["_law_script", "_law_bar_here", "_law_form_here", "_law_one", "_law_cells", "_law_k", "_law_strange_here", "_law_four", "_law_found"] ["_law_script"] (Ag JB) := by walk_at "sc"
noncomputable abbrev Fp : Stmt := inClass (top 3) 0
theorem Uh : Am ["self", "turn"] ["self", "turn"] (Ag Fp) := by walk_at "sc"
noncomputable abbrev Gu : Stmt := inClass (top 45) 0
theorem Xo : Am ["self", "form", "lowest"] ["self", "form", "lowest"] (Ag Gu) := by walk_at "sc"
noncomputable abbrev HW : Stmt := inClass (top 46) 0
theorem YG : Am ["self", "form"] ["self", "form"] (Ag HW) := by walk_at "sc"
noncomputable abbrev Fl : Stmt := inClass (top 47) 0
theorem R8 : Am ["self", "form"] ["self", "form"] (Ag Fl) := by walk_at "sc"
noncomputable abbrev Fo : Stmt := inClass (top 45) 2
theorem Tf : Am ["self", "turn"] ["self", "turn"] (Ag Fo) := by walk_at "sc"
noncomputable abbrev Fj : Stmt := inClass (top 45) 3
theorem RN : Am ["self", "other"] ["self", "other"] (Ag Fj) := by walk_at "sc"
structure Txt (K : PySem.W.Frag) (mg : Str → Option Value) : Prop where
  x_NoTurn : ∃ C U fI fd, XRT K mg "NoTurn" ["turn"] "NoTurn.__init__" Fp C U fI fd ["self", "turn"]
  un_NoTurn_FormError : Under K mg "NoTurn" "FormError"
  nf_NoTurn_turn : Hg K "NoTurn" "turn"
  o_Bowl : ∃ C f fd, MkC K mg "Bowl" ["form", "measure", "lowest"] C f ∧ Fun K "__init__" "Bowl.__init__" HW f fd ∧ Binds K fd ["self", "form"] []
  ic_Bowl : IsC K "Bowl"
  na_Bowl_form : Hg K "Bowl" "form"
  na_Bowl_measure : Hg K "Bowl" "measure"
  na_Bowl_lowest : Hg K "Bowl" "lowest"
  o_Saddle : ∃ C f fd, MkC K mg "Saddle" ["form", "measure", "lowest"] C f ∧ Fun K "__init__" "Saddle.__init__" Fl f fd ∧ Binds K fd ["self", "form"] []
  ic_Saddle : IsC K "Saddle"
  na_Saddle_form : Hg K "Saddle" "form"
  na_Saddle_measure : Hg K "Saddle" "measure"
  na_Saddle_lowest : Hg K "Saddle" "lowest"
  cm_Shape : ∃ g fd, Wg K mg "Shape" "__init__" g ∧ Fun K "__init__" "Shape.__init__" Gu g fd ∧ Binds K fd ["self", "form", "lowest"] []
  me_leaves : ∃ g fd, (∀ c ∈ (["Bowl", "Saddle"] : List Str), NK K c "leaves" g) ∧ PySem.W.keepIn K (.ref g) = true ∧ Fun K "leaves" "Shape.leaves" Fo g fd ∧ Binds K fd ["self", "turn"] []
  me_way_to : ∃ g fd, (∀ c ∈ (["Bowl", "Saddle"] : List Str), NK K c "way_to" g) ∧ PySem.W.keepIn K (.ref g) = true ∧ Fun K "way_to" "Shape.way_to" Fj g fd ∧ Binds K fd ["self", "other"] []
  u_FormError : ∃ U, XU K mg "FormError" U
  c_Apart : ∃ A, mg "Apart" = some (.ref A) ∧ DK K "NoTurn" A false
  c_NoAnswer : ∃ A, mg "NoAnswer" = some (.ref A) ∧ DK K "NoTurn" A false
  c_NoMeasure : ∃ A, mg "NoMeasure" = some (.ref A) ∧ DK K "NoTurn" A false
  c_NoRoot : ∃ A, mg "NoRoot" = some (.ref A) ∧ DK K "NoTurn" A false
  c_NoShape : ∃ A, mg "NoShape" = some (.ref A) ∧ DK K "NoTurn" A false
  c_NotLevel : ∃ A, mg "NotLevel" = some (.ref A) ∧ DK K "NoTurn" A false
  c_NotOwn : ∃ A, mg "NotOwn" = some (.ref A) ∧ DK K "NoTurn" A false
  c_NoTurn : ∃ A, mg "NoTurn" = some (.ref A) ∧ DK K "NoTurn" A true
  c_NotPlain : ∃ A, mg "NotPlain" = some (.ref A) ∧ DK K "NoTurn" A false
  c_Nought : ∃ A, mg "Nought" = some (.ref A) ∧ DK K "NoTurn" A false
  c_TooGreat : ∃ A, mg "TooGreat" = some (.ref A) ∧ DK K "NoTurn" A false
  z_ValueError : mg "ValueError" = none
  t_root : ∃ f fd, FnT K mg "root" Hu ["number"] f fd
  t_is_square : ∃ f fd, FnT K mg "is_square" DY ["number"] f fd
  t_check_at_most : ∃ f fd, FnT K mg "check_at_most" Cd ["number", "most"] f fd
  t_is_turn : ∃ f fd, FnT K mg "is_turn" Fe ["turn"] f fd
  t_check_turn : ∃ f fd, FnT K mg "check_turn" BL ["turn"] f fd
  t_put_behind : ∃ f fd, FnT K mg "put_behind" Cg ["one", "other"] f fd
  t_back : ∃ f fd, FnT K mg "back" JL ["turn"] f fd
  t_measure : ∃ f fd, FnT K mg "measure" Cw ["form"] f fd
  t_value : ∃ f fd, FnT K mg "value" Ib ["form", "point"] f fd
  t_moved : ∃ f fd, FnT K mg "moved" Em ["form", "turn"] f fd
  t_middle : ∃ f fd, FnT K mg "middle" Gp ["form", "left", "right"] f fd
  t_shape : ∃ f fd, FnT K mg "shape" EY ["form"] f fd
  t_check_bowl : ∃ f fd, FnT K mg "check_bowl" Dm ["form"] f fd
  t_stands_least : ∃ f fd, FnT K mg "stands_least" CK ["form"] f fd
  t_settled : ∃ f fd, FnT K mg "settled" Fg ["form"] f fd
  t_turn_lower : ∃ f fd, FnT K mg "turn_lower" Dn ["form"] f fd
  t_check_saddle : ∃ f fd, FnT K mg "check_saddle" BR ["form"] f fd
  t_stands_level : ∃ f fd, FnT K mg "stands_level" CQ ["form", "far"] f fd
  t_turn_behind : ∃ f fd, FnT K mg "turn_behind" Dc ["form", "top"] f fd
  t_stop_behind : ∃ f fd, FnT K mg "stop_behind" Cr ["stop", "top"] f fd
  t_eased : ∃ f fd, FnT K mg "eased" HN ["form"] f fd
  t_stops_round : ∃ f fd, FnT K mg "stops_round" Dd ["form"] f fd
  t_lowered : ∃ f fd, FnT K mg "lowered" Fd ["form"] f fd
  t_shape_of : ∃ f fd, FnT K mg "shape_of" Dy ["form"] f fd
  t_way_between : ∃ f fd, FnT K mg "way_between" Dg ["one", "other"] f fd
  t__law_cell : ∃ f fd, FnT K mg "_law_cell" DP ["_law_script", "_law_k"] f fd
  t__law_wholes : ∃ f fd, FnT K mg "_law_wholes" Cu ["_law_found", "_law_many"] f fd
  t__law_value : ∃ f fd, FnT K mg "_law_value" Dk ["_law_form_here", "_law_x", "_law_y"] f fd
  t__law_moved : ∃ f fd, FnT K mg "_law_moved" Ce ["_law_form_here", "_law_turn"] f fd
  t__law_divisor : ∃ f fd, FnT K mg "_law_divisor" CG ["_law_one", "_law_other"] f fd
  t__law_bar : ∃ f fd, FnT K mg "_law_bar" DN ["_law_cell_here"] f fd
  t__law_form : ∃ f fd, FnT K mg "_law_form" DX ["_law_bar_here", "_law_one", "_law_other"] f fd
  t__law_walks : ∃ f fd, FnT K mg "_law_walks" Dp ["_law_form_here", "_law_turn", "_law_other"] f fd
  t__law_number : ∃ f fd, FnT K mg "_law_number" Cq ["_law_cell_here"] f fd
  t__law_strange : ∃ f fd, FnT K mg "_law_strange" BP ["_law_cells", "_law_form_here"] f fd
  t__law_caught : ∃ f fd, FnT K mg "_law_caught" Df ["_law_one", "_law_four"] f fd
  t__law_refused : ∃ f fd, FnT K mg "_law_refused" Cy ["_law_e", "_law_four"] f fd
  t__law_good : ∃ f fd, FnT K mg "_law_good" DR ["_law_one", "_law_form_here", "_law_bar_here", "_law_strange_here", "_law_there"] f fd
  t_law : ∃ f fd, FnT K mg "law" JB ["_law_script"] f fd
  m_MOST_MEASURE : ∃ t, mg "MOST_MEASURE" = some (.int (4000) t)
  z_abs : mg "abs" = none
  z_bool : mg "bool" = none
  z_int : mg "int" = none
  z_isinstance : mg "isinstance" = none
  z_len : mg "len" = none
  z_max : mg "max" = none
  z_min : mg "min" = none
  z_range : mg "range" = none
  z_tuple : mg "tuple" = none
  k_SAME : ∃ a, mg "SAME" = some (.ref a) ∧ ∀ H, Rp K H (.tup [.int (1), .int (0), .int (0), .int (1)]) (.ref a)
theorem Yg {P : Program} {w : World} {K : PySem.W.Frag} {mg : Str → Option Value} {base : Heap} (T : Txt K mg) : ∃ C U fI fd, XR P w K mg base 1 "NoTurn" ["turn"] C U fI fd ["self", "turn"] := by
  obtain ⟨C, U, fI, fd, R⟩ := T.x_NoTurn
  refine ⟨C, U, fI, fd, XRT.mk1 R (R.fn.ok Uh (fun vs H Q E ⟨a, ys, e, l, _⟩ => by rw [e]; simpa using l) fun cdv A outer s H vs Q E hr ⟨a, ys, e, l, ha, q⟩ => ?_)⟩
  subst e
  obtain ⟨y, rfl⟩ : ∃ y, ys = [y] := List.length_eq_one_iff.mp l
  exact ⟨_, Jv (AiD R.xc (R.tk _ (by simp)) (pv 0) (pv 1)), y, rfl, .ref a, rfl, a, rfl, ha, fun dx h1 h2 => q dx h1 h2⟩
noncomputable abbrev Mt : DSp := Cv (fun t : I4 => [t4 t]) (B4 300000) fun t => .bl (decide (det t = 1))
noncomputable abbrev Ip : DSp := Cv (fun t : I4 => [t4 t]) (fun t => B4 300000 t ∧ det t = 1) fun _ => .non
noncomputable abbrev Er : DSp := Cv (fun p : I4 × I4 => [t4 p.1, t4 p.2]) (fun p => B4 400000 p.1 ∧ B4 400000 p.2) fun p => t4 (Aj p.1 p.2)
noncomputable abbrev Wi : DSp := Cv (fun t : I4 => [t4 t]) (fun t => B4 300000 t ∧ det t = 1) fun t => t4 (Ax t)
section
variable (P : Program) (w : World) {K : PySem.W.Frag} {mg : Str → Option Value} (base : Heap)
theorem Uc (T : Txt K mg)
    : Pm P w K mg base 1 "is_turn" Fe ["turn"] Mt := by
  obtain ⟨f, fd, F⟩ := T.t_is_turn
  refine ⟨f, fd, F, F.fn.okD RP (by walk_at "lE") fun cdv A outer s H E hr => ⟨_, (Ai (Aq (Kh hr.units (Cm (Ak (Ac (dv 0) Ab) (Ac (dv 0) Ab)) (Ak (Ac (dv 0) Ab) (Ac (dv 0) Ab))) Ab))), fun ds Q h => ?_⟩⟩
  obtain ⟨⟨a, b, c, d⟩, rfl, ⟨ha, hb, hc, hd⟩, q⟩ := h
  walk_at "go"
  exact ⟨by walk_at "mul", by walk_at "mul", q _ rfl⟩
noncomputable abbrev Qn (t : I4) : Dt := .exc "NoTurn" ["turn"] [t4 t]
noncomputable abbrev Fw : Jf := QJ (fun t : I4 => [t4 t]) (B4 300000) (fun t => det t = 1) (fun _ d => d = .non) Qn
theorem M4 (T : Txt K mg)
    (G_is_turn : Pm P w K mg base 1 "is_turn" Fe ["turn"] Mt)
    : PmX P w K mg base 3 "check_turn" BL ["turn"] Fw := by
  obtain ⟨f, fd, F⟩ := T.t_check_turn
  obtain ⟨C_NoTurn, U_NoTurn, fI_NoTurn, fd_NoTurn, R_NoTurn⟩ := Yg (P := P) (w := w) (base := base) T
  refine ⟨f, fd, F, F.fn.okX Ny (fun ds Q E ⟨p, e, _⟩ => by rw [e]; rfl) fun cdv A outer s H E hr => ⟨_, (Hl (Afz (Gb (Ew (Ah Ae G_is_turn (hr.mono (by decide)) rfl (Aa (dv 0) Af)))) (Hl (WK R_NoTurn (hr.mono (by decide)) rfl rfl (Aa (dv 0) Af))) Y8)), fun ds Q Ex h => ?_⟩⟩
  obtain ⟨t, rfl, hb, q, x⟩ := h
  walk_at "go"
  refine Al t hb ?_
  walk_at "rd"
  by_cases hd : det t = 1
  · exact ifn (decide_eq_true hd) (q hd _ rfl)
  · exact Aks (decide_eq_false hd) ⟨by decide, x hd⟩
theorem Np {P : Program} {w : World} {K : PySem.W.Frag} {mg : Str → Option Value} {base : Heap} (G : PmX P w K mg base 3 "check_turn" BL ["turn"] Fw)
    : Pm P w K mg base 3 "check_turn" BL ["turn"] Ip := by
  refine G.pm El fun ds Q h => ?_
  obtain ⟨t, e, ⟨hb, hd⟩, q⟩ := h
  exact ⟨t, e, hb, fun _ d z => q d z, fun z => absurd hd z⟩
theorem Nx (T : Txt K mg)
    : Pm P w K mg base 1 "put_behind" Cg ["one", "other"] Er := by
  obtain ⟨f, fd, F⟩ := T.t_put_behind
  refine ⟨f, fd, F, F.fn.okD Nk (by walk_at "lE") fun cdv A outer s H E hr => ⟨_, (Ai (Aq (BW (Aa (Bo (Ak (Ac (dv 0) Ab) (Ac (dv 1) Ab)) (Ak (Ac (dv 0) Ab) (Ac (dv 1) Ab))) (Aa (Bo (Ak (Ac (dv 0) Ab) (Ac (dv 1) Ab)) (Ak (Ac (dv 0) Ab) (Ac (dv 1) Ab))) (Aa (Bo (Ak (Ac (dv 0) Ab) (Ac (dv 1) Ab)) (Ak (Ac (dv 0) Ab) (Ac (dv 1) Ab))) (Aa (Bo (Ak (Ac (dv 0) Ab) (Ac (dv 1) Ab)) (Ak (Ac (dv 0) Ab) (Ac (dv 1) Ab))) Af))))))), fun ds Q h => ?_⟩⟩
  obtain ⟨⟨⟨a, b, c, d⟩, e, f, g, i⟩, rfl, ⟨⟨ha, hb, hc, hd⟩, he, hf, hg, hi⟩, q⟩ := h
  walk_at "go"
  exact ⟨by walk_at "mul", by walk_at "mul", by walk_at "mul", by walk_at "mul", by walk_at "mul", by walk_at "mul", by walk_at "mul", by walk_at "mul", Bc (by decide), q _ rfl⟩
theorem AaV (T : Txt K mg)
    (G_check_turn : Pm P w K mg base 3 "check_turn" BL ["turn"] Ip)
    : Pm P w K mg base 4 "back" JL ["turn"] Wi := by
  obtain ⟨f, fd, F⟩ := T.t_back
  refine ⟨f, fd, F, F.fn.okD Aci (by walk_at "lE") fun cdv A outer s H E hr => ⟨_, (Ad (Jy (Ah Ae G_check_turn (hr.mono (by decide)) rfl (Aa (dv 0) Af))) (Ai (Aq (BW (Aa (Ac (dv 0) Ab) (Aa (GZ (Ac (dv 0) Ab)) (Aa (GZ (Ac (dv 0) Ab)) (Aa (Ac (dv 0) Ab) Af)))))))), fun ds Q h => ?_⟩⟩
  obtain ⟨⟨a, b, c, d⟩, rfl, ⟨hb, hd⟩, q⟩ := h
  walk_at "go"
  refine Al (a, b, c, d) ⟨hb, hd⟩ ?_
  exact ⟨Bc (by decide), q _ rfl⟩
theorem Abl (T : Txt K mg)
    : Pm P w K mg base 1 "root" Hu ["number"] K1 := by
  obtain ⟨f, fd, F⟩ := T.t_root
  refine ⟨f, fd, F, F.fn.okD Jg (by walk_at "lE") fun cdv A outer s H E hr => ⟨_, (Ad (BK (Uv (dv 0) Ab) (Ai Ji) Az) (Ad (BK (Gn hr.units (dv 0) Ab) (Ai (Aq Ab)) Az) (Ad (Ar 1 Jg.nd (AfU Ab (Cp (Bo (Aa8 (dv 0)) Ab) Ab))) (Ad (Ar 2 Jg.nd (Cp (Bo (dv 1) (Cp (dv 0) (dv 1))) Ab)) (Ad (HB PassesOwn.never (Uv (dv 2) (dv 1)) (Ad (Ar 1 Jg.nd (dv 2)) (Ai (Ar 2 Jg.nd (Cp (Bo (dv 1) (Cp (dv 0) (dv 1))) Ab))))) (Ai (Aq (dv 1)))))))), fun ds Q h => ?_⟩⟩
  obtain ⟨n, rfl, ⟨h0, hb⟩, q⟩ := h
  walk_at "go"
  refine GQ (decide_eq_false (by omega)) ?_
  by_cases hz : n = 0
  · subst hz
    exact ift rfl (q _ ⟨0, rfl, ⟨by omega, by omega, by omega⟩, Bt.zero.le (by decide)⟩)
  refine GQ (decide_eq_false hz) ?_
  obtain ⟨c1, c2, c3⟩ := Rg hb
  have hu := Zv h0
  refine ⟨⟨by decide, by decide⟩, c1, ?_⟩
  generalize (1 * 2 ^ ((((Builtin.Int.intBits n : Nat) : Int) + 1).fdiv 2).toNat : Int) = g at *
  refine ⟨Bt.divOk c2 (by omega), ⟨by decide, by decide⟩, ?_⟩
  rw [U0 c3]
  refine Hw (fun m ρ => ∃ g : Int, ρ = [some (.is (.int n)), some (.is (.int g)), some (.is (.int ((g + n / g) / 2)))] ∧ 0 < g ∧ Bt 2001 g ∧ n < (g + 1) * (g + 1) ∧ m = g.toNat) _ ⟨g, rfl, c3, c2, hu, rfl⟩ ?_
  rintro m _ ⟨g, rfl, hg, hgb, hgu, rfl⟩
  walk_at "rd"
  refine Hh (fun hw => ?_) (fun hw => ?_)
  · have hw := of_decide_eq_true hw
    have hp := S9 (show 1 ≤ n by omega) hg
    have hu' := WT h0 hg
    have hbb : Bt 2001 ((g + n / g) / 2) := by unfold Bt at *; omega
    generalize (g + n / g) / 2 = b at *
    refine ⟨Bt.divOk hbb (by omega), ⟨by decide, by decide⟩, ?_⟩
    rw [U0 hp]
    exact ⟨_, by omega, b, rfl, hp, hbb, hu', rfl⟩
  · have hw : ¬ (g + n / g) / 2 < g := fun z => hw (decide_eq_true z)
    exact q _ ⟨g, rfl, ⟨by omega, Ue hg (by omega), hgu⟩, hgb⟩
theorem Qf (T : Txt K mg)
    (G_root : Pm P w K mg base 1 "root" Hu ["number"] K1)
    : Pm P w K mg base 2 "is_square" DY ["number"] Jz := by
  obtain ⟨f, fd, F⟩ := T.t_is_square
  refine ⟨f, fd, F, F.fn.okD JF (by walk_at "lE") fun cdv A outer s H E hr => ⟨_, (Ad (BK (Uv (dv 0) Ab) (Ai (Aq Jq)) Az) (Ad (Ar 1 JF.nd (Ah Ae G_root (hr.mono (by decide)) rfl (Aa (dv 0) Af))) (Ai (Aq (Kh hr.units (Ak (dv 1) (dv 1)) (dv 0)))))), fun ds Q h => ?_⟩⟩
  obtain ⟨n, rfl, hb, q⟩ := h
  walk_at "go"
  refine Hh (fun hw => ?_) (fun hw => ?_)
  · have hw := of_decide_eq_true hw
    exact q _ ⟨false, rfl, by simp [Jr hw]⟩
  · have hw : ¬ n < 0 := fun z => hw (decide_eq_true z)
    refine Bw n ⟨by omega, hb⟩ ?_
    rintro _ ⟨r, rfl, hs, hr'⟩
    walk_at "rd"
    refine ⟨by walk_at "mul", q _ ⟨_, rfl, ?_⟩⟩
    rw [Zy hs]; simp
noncomputable abbrev Dz : DSp := Cv (fun f : I3 => [t3 f]) (B3 20000) fun f => .int (meas f)
noncomputable abbrev Qz : DSp := Cv (fun p : I3 × I2 => [t3 p.1, t2 p.2]) (fun p => B3 20000 p.1 ∧ B2 300000 p.2) fun p => .int (val p.1 p.2)
noncomputable abbrev Oq : DSp := Cv (fun p : I3 × I2 × I2 => [t3 p.1, t2 p.2.1, t2 p.2.2]) (fun p => B3 20000 p.1 ∧ B2 300000 p.2.1 ∧ B2 300000 p.2.2) fun p => .int (mid p.1 p.2.1 p.2.2)
noncomputable abbrev Li : DSp := Cv (fun p : I3 × I4 => [t3 p.1, t4 p.2]) (fun p => B3 20000 p.1 ∧ B4 300000 p.2 ∧ det p.2 = 1) fun p => t3 (mov p.1 p.2)
theorem S7 (T : Txt K mg)
    : Pm P w K mg base 1 "measure" Cw ["form"] Dz := by
  obtain ⟨f, fd, F⟩ := T.t_measure
  refine ⟨f, fd, F, F.fn.okD Sd (by walk_at "lE") fun cdv A outer s H E hr => ⟨_, (Ai (Aq (Cm (Ak (Ac (dv 0) Ab) (Ac (dv 0) Ab)) (Ak (Ak Ab (Ac (dv 0) Ab)) (Ac (dv 0) Ab))))), fun ds Q h => ?_⟩⟩
  obtain ⟨⟨a, b, c⟩, rfl, ⟨ha, hb, hc⟩, q⟩ := h
  walk_at "go"
  have h2 : Bt 3 4 := Bt.of_abs (by decide)
  exact ⟨by walk_at "mul", by walk_at "mul", by walk_at "mul", q _ rfl⟩
theorem Xx (T : Txt K mg)
    : Pm P w K mg base 1 "value" Ib ["form", "point"] Qz := by
  obtain ⟨f, fd, F⟩ := T.t_value
  refine ⟨f, fd, F, F.fn.okD Ml (by walk_at "lE") fun cdv A outer s H E hr => ⟨_, (Ad (Ar 2 Ml.nd (Ac (dv 1) Ab)) (Ad (Ar 3 Ml.nd (Ac (dv 1) Ab)) (Ai (Aq (Bo (Bo (Ak (Ak (Ac (dv 0) Ab) (dv 2)) (dv 2)) (Ak (Ak (Ac (dv 0) Ab) (dv 2)) (dv 3))) (Ak (Ak (Ac (dv 0) Ab) (dv 3)) (dv 3))))))), fun ds Q h => ?_⟩⟩
  obtain ⟨⟨⟨a, b, c⟩, x, y⟩, rfl, ⟨⟨ha, hb, hc⟩, hx, hy⟩, q⟩ := h
  walk_at "go"
  exact ⟨by walk_at "mul", by walk_at "mul", by walk_at "mul", by walk_at "mul", by walk_at "mul", by walk_at "mul", q _ rfl⟩
theorem Xb (T : Txt K mg)
    : Pm P w K mg base 1 "middle" Gp ["form", "left", "right"] Oq := by
  obtain ⟨f, fd, F⟩ := T.t_middle
  refine ⟨f, fd, F, F.fn.okD Og (by walk_at "lE") fun cdv A outer s H E hr => ⟨_, (Ad (Ar 3 Og.nd (Bo (Ak (Ac (dv 1) Ab) (Ac (dv 2) Ab)) (Ak (Ac (dv 2) Ab) (Ac (dv 1) Ab)))) (Ai (Aq (Bo (Bo (Ak (Ak (Ak Ab (Ac (dv 0) Ab)) (Ac (dv 1) Ab)) (Ac (dv 2) Ab)) (Ak (Ac (dv 0) Ab) (dv 3))) (Ak (Ak (Ak Ab (Ac (dv 0) Ab)) (Ac (dv 1) Ab)) (Ac (dv 2) Ab)))))), fun ds Q h => ?_⟩⟩
  obtain ⟨⟨⟨a, b, c⟩, ⟨x, y⟩, u, v⟩, rfl, ⟨⟨ha, hb, hc⟩, ⟨hx, hy⟩, hu, hv⟩, q⟩ := h
  walk_at "go"
  have h2 : Bt 2 2 := Bt.of_abs (by decide)
  walk_at "muls"
  exact q _ rfl
noncomputable abbrev J9 : Jf := QJ (fun p : I3 × I4 => [t3 p.1, t4 p.2]) (fun p => B3 20000 p.1 ∧ B4 300000 p.2) (fun p => det p.2 = 1) (fun p d => d = t3 (mov p.1 p.2)) fun p => Qn p.2
theorem W2 (T : Txt K mg)
    (GX_check_turn : PmX P w K mg base 3 "check_turn" BL ["turn"] Fw)
    (G_value : Pm P w K mg base 1 "value" Ib ["form", "point"] Qz)
    (G_middle : Pm P w K mg base 1 "middle" Gp ["form", "left", "right"] Oq)
    : PmX P w K mg base 4 "moved" Em ["form", "turn"] J9 := by
  obtain ⟨f, fd, F⟩ := T.t_moved
  refine ⟨f, fd, F, F.fn.okX Lh (fun ds Q E ⟨p, e, _⟩ => by rw [e]; rfl) fun cdv A outer s H E hr => ⟨_, (J4 (QZ (QW El GX_check_turn (hr.mono (by decide)) rfl (Aa (dv 1) Af))) (J4 (RX (Ar 2 Lh.nd (BW (Aa (Ac (dv 1) Ab) (Aa (Ac (dv 1) Ab) Af))))) (J4 (RX (Ar 3 Lh.nd (BW (Aa (Ac (dv 1) Ab) (Aa (Ac (dv 1) Ab) Af))))) (Hl (RX (Aq (BW (Aa (Ah Ae G_value (hr.mono (by decide)) rfl (Aa (dv 0) (Aa (dv 2) Af))) (Aa (Ah Ae G_middle (hr.mono (by decide)) rfl (Aa (dv 0) (Aa (dv 2) (Aa (dv 3) Af)))) (Aa (Ah Ae G_value (hr.mono (by decide)) rfl (Aa (dv 0) (Aa (dv 3) Af))) Af)))))))))), fun ds Q Ex h => ?_⟩⟩
  obtain ⟨⟨f, t⟩, rfl, ⟨hf, ht⟩, q, x⟩ := h
  walk_at "go"
  have hl : B2 300000 (t.1, t.2.2.1) := ⟨ht.1.le (by decide), ht.2.2.1.le (by decide)⟩
  have hr' : B2 300000 (t.2.1, t.2.2.2) := ⟨ht.2.1.le (by decide), ht.2.2.2.le (by decide)⟩
  refine Ly t ht (fun hd _ _ => ⟨Bc (by decide), Bc (by decide), ?_⟩) x
  refine Al (f, (t.1, t.2.2.1)) ⟨hf, hl⟩ ?_
  refine Al (f, (t.1, t.2.2.1), (t.2.1, t.2.2.2)) ⟨hf, hl, hr'⟩ ?_
  refine Al (f, (t.2.1, t.2.2.2)) ⟨hf, hr'⟩ ⟨Bc (by decide), ?_⟩
  exact q hd _ rfl
theorem YK {P : Program} {w : World} {K : PySem.W.Frag} {mg : Str → Option Value} {base : Heap} (G : PmX P w K mg base 4 "moved" Em ["form", "turn"] J9)
    : Pm P w K mg base 4 "moved" Em ["form", "turn"] Li := by
  refine G.pm El fun ds Q h => ?_
  obtain ⟨p, e, ⟨hf, hb, hd⟩, q⟩ := h
  exact ⟨p, e, ⟨hf, hb⟩, fun _ d z => q d z, fun z => absurd hd z⟩
noncomputable abbrev Hs : DSp := spec (fun f : I3 => [t3 f]) (fun f => B3 1500 f) Zk
theorem Y5 (T : Txt K mg)
    (G_measure : Pm P w K mg base 1 "measure" Cw ["form"] Dz)
    (G_is_square : Pm P w K mg base 2 "is_square" DY ["number"] Jz)
    : Pm P w K mg base 3 "shape" EY ["form"] Hs := by
  obtain ⟨f, fd, F⟩ := T.t_shape
  refine ⟨f, fd, F, F.fn.okD Qv (by walk_at "lE") fun cdv A outer s H E hr => ⟨_, (Ad (Ar 1 Qv.nd (Ah Ae G_measure (hr.mono (by decide)) rfl (Aa (dv 0) Af))) (Ad (BK (Ew (Ah Ae G_is_square (hr.mono (by decide)) rfl (Aa (dv 1) Af))) (Ai (Aq Hy)) Az) (Ad (BK (Ws (dv 1) Ab) (Ai (Aq Hy)) Az) (Ad (BK (Ws (Ac (dv 0) Ab) Ab) (Ai (Aq Hy)) Az) (Ai (Aq Hy)))))), fun ds Q h => ?_⟩⟩
  obtain ⟨f, rfl, hf, q⟩ := h
  walk_at "go"
  refine Al f (hf.le (by decide)) ?_
  have hm : Bt 4000 (meas f) := by
    obtain ⟨h1, h2, h3⟩ := hf
    have h4 : Bt 3 4 := Bt.of_abs (by decide)
    exact ((h2.mul h2).sub ((h4.mul h1).mul h3)).le (by decide)
  refine Bw (meas f) hm ?_
  rintro _ ⟨b, rfl, hb⟩
  walk_at "rd"
  refine Hh (fun h => q _ (.flat (hb.mp h))) (fun h => ?_)
  have hn : ¬ Gw (meas f) := fun z => h (hb.mpr z)
  refine Hh (fun h => q _ (.saddle hn (of_decide_eq_true h))) (fun h => ?_)
  have hp : ¬ 0 < meas f := fun z => h (decide_eq_true z)
  refine Hh (fun h => q _ (.bowl hn hp (of_decide_eq_true h))) (fun h => q _ (.dome hn hp fun z => h (decide_eq_true z)))
noncomputable abbrev Io : DSp := Cv (fun f : I3 => [t3 f]) (fun f => B3 1500 f ∧ Bg f) fun _ => .non
noncomputable abbrev G7 : DSp := Cv (fun f : I3 => [t3 f]) (fun _ => True) fun f => .bl (stands f)
theorem Nm (T : Txt K mg)
    (G_shape : Pm P w K mg base 3 "shape" EY ["form"] Hs)
    : Pm P w K mg base 4 "check_bowl" Dm ["form"] Io := by
  obtain ⟨f, fd, F⟩ := T.t_check_bowl
  refine ⟨f, fd, F, F.fn.okD Nj (by walk_at "lE") fun cdv A outer s H E hr => ⟨_, (Ai (BK (Im hr.units (Ah Ae G_shape (hr.mono (by decide)) rfl (Aa (dv 0) Af)) Hy) (Ai Ji) Az)), fun ds Q h => ?_⟩⟩
  obtain ⟨f, rfl, ⟨hb, h0, h1⟩, q⟩ := h
  walk_at "go"
  have h0 : 0 < f.1 := h0
  have h1 : meas f < 0 := h1
  refine Bw f hb ?_
  rintro _ hw
  cases hw with
  | flat z => exact absurd z (Jr h1)
  | saddle _ z => exact absurd z (by omega)
  | dome _ _ z => exact absurd h0 z
  | bowl _ _ _ => exact ⟨⟨by rw [Je]; decide +kernel, by rw [Je]; decide +kernel⟩, ifn (by rw [Kl]; rfl) (q _ rfl)⟩
theorem Kz (T : Txt K mg)
    : Pm P w K mg base 1 "stands_least" CK ["form"] G7 := by
  obtain ⟨f, fd, F⟩ := T.t_stands_least
  refine ⟨f, fd, F, F.fn.okD Dw (by walk_at "lE") fun cdv A outer s H E hr => ⟨_, (Ad (Ar 1 Dw.nd (Ac (dv 0) Ab)) (Ad (Ar 2 Dw.nd (Ac (dv 0) Ab)) (Ad (Ar 3 Dw.nd (Ac (dv 0) Ab)) (Ad (BK (Gb (W3 Qy Qy Qy Gi Gi Gi  (GZ (dv 1)) (dv 2) (dv 1) (dv 3))) (Ai (Aq Jq)) Az) (Ai (Aq (Ai4 (AhZ (dv 2) Ab) (JV (MJ (Adf hr.units (dv 2) (GZ (dv 1))) (JV (Adf hr.units (dv 1) (dv 3)))))))))))), fun ds Q h => ?_⟩⟩
  obtain ⟨⟨a, b, c⟩, rfl, _, q⟩ := h
  have q' := q _ rfl
  dsimp only [stands] at q'
  walk_at "go"
  simp only [Bool.decide_and, ne_eq, decide_not] at q'
  generalize decide (-a ≤ b) = x1 at *
  generalize decide (b ≤ a) = x2 at *
  generalize decide (a ≤ c) = x3 at *
  generalize decide (0 ≤ b) = x4 at *
  generalize decide (b = -a) = x5 at *
  generalize decide (a = c) = x6 at *
  cases x1 <;> cases x2 <;> cases x3 <;> cases x4 <;> cases x5 <;> cases x6 <;> exact q'
noncomputable abbrev Ik : DSp := Cv (fun f : I3 => [t3 f]) (fun f => B3 8000 f ∧ 0 < f.1) fun f => t4 (Dh f)
theorem Nr (T : Txt K mg)
    : Pm P w K mg base 1 "turn_lower" Dn ["form"] Ik := by
  obtain ⟨f, fd, F⟩ := T.t_turn_lower
  refine ⟨f, fd, F, F.fn.okD Ii (by walk_at "lE") fun cdv A outer s H E hr => ⟨_, (Ad (Ar 1 Ii.nd (Cp (Cm (Ac (dv 0) Ab) (Ac (dv 0) Ab)) (Ak Ab (Ac (dv 0) Ab)))) (Ad (BK (Im hr.units (dv 1) Ab) (Ai (Aq (BW (Aa Ab (Aa (dv 1) (Aa Ab (Aa Ab Af))))))) Az) (Ai (Aq (BW (Aa Ab (Aa (GZ Ab) (Aa Ab (Aa Ab Af))))))))), fun ds Q h => ?_⟩⟩
  obtain ⟨⟨a, b, c⟩, rfl, ⟨⟨h1, h2, h3⟩, h0⟩, q⟩ := h
  have h0 : 0 < a := h0
  have h1 : Bt 8000 a := h1
  have two : Bt 2 2 := Bt.of_abs (by decide)
  have q' := q _ rfl
  dsimp only at q'
  walk_at "go"
  refine ⟨two.mulOk h1, Bt.divOk (two.mul h1) (by omega), ?_⟩
  by_cases ho : (a - b).fdiv (2 * a) = 0
  · refine GQ (by rw [decide_eq_true ho]; rfl) ⟨Bc (by decide), ?_⟩
    rw [La (f := (a, b, c)) ho] at q'
    exact q'
  · refine ift (by rw [decide_eq_false ho]; rfl) ⟨Bc (by decide), ?_⟩
    rw [LQ (f := (a, b, c)) ho] at q'
    exact q'
noncomputable def LI (f : I3) : Nat → I4
  | 0 => (1, 0, 0, 1)
  | k + 1 => Aj (LI f k) (Dh (mov f (LI f k)))
noncomputable def Jt (f : I3) (t : I4) : Prop := ∃ k, t = LI f k ∧ (∀ i, i < k → stands (mov f (LI f i)) = false) ∧ stands (mov f (LI f k)) = true
theorem Jt.uniq {f : I3} {t u : I4} (a : Jt f t) (b : Jt f u) : t = u := by
  obtain ⟨k, rfl, n1, h1⟩ := a
  obtain ⟨l, rfl, n2, h2⟩ := b
  rcases Nat.lt_trichotomy k l with z | z | z
  · rw [n2 k z] at h1; cases h1
  · rw [z]
  · rw [n1 l z] at h2; cases h2
noncomputable def Jo (f : I3) (d : Dt) : Prop := ∃ t : I4, d = .tup [t3 (mov f t), t4 t] ∧ det t = 1 ∧ DQ (mov f t) ∧ B4 5000 t ∧ Jt f t
noncomputable abbrev Ld : DSp := spec (fun f : I3 => [t3 f]) (fun f => B3 1500 f ∧ Bg f) Jo
theorem SX (T : Txt K mg)
    (G_check_bowl : Pm P w K mg base 4 "check_bowl" Dm ["form"] Io)
    (G_stands_least : Pm P w K mg base 1 "stands_least" CK ["form"] G7)
    (G_turn_lower : Pm P w K mg base 1 "turn_lower" Dn ["form"] Ik)
    (G_moved : Pm P w K mg base 4 "moved" Em ["form", "turn"] Li)
    (G_put_behind : Pm P w K mg base 1 "put_behind" Cg ["one", "other"] Er)
    : Pm P w K mg base 5 "settled" Fg ["form"] Ld := by
  obtain ⟨f, fd, F⟩ := T.t_settled
  obtain ⟨a_SAME, m_SAME, q_SAME⟩ := T.k_SAME
  refine ⟨f, fd, F, F.fn.okD Ft (by walk_at "lE") fun cdv A outer s H E hr => ⟨_, (Ad (Jy (Ah Ae G_check_bowl (hr.mono (by decide)) rfl (Aa (dv 0) Af))) (Ad (Ar 1 Ft.nd (KR (v := .ref a_SAME) rfl m_SAME rfl q_SAME)) (Ad (HB PassesOwn.never (Gb (Ew (Ah Ae G_stands_least (hr.mono (by decide)) rfl (Aa (dv 0) Af)))) (Ad (Ar 2 Ft.nd (Ah Ae G_turn_lower (hr.mono (by decide)) rfl (Aa (dv 0) Af))) (Ad (Ar 0 Ft.nd (Ah Ae G_moved (hr.mono (by decide)) rfl (Aa (dv 0) (Aa (dv 2) Af)))) (Ai (Ar 1 Ft.nd (Ah Ae G_put_behind (hr.mono (by decide)) rfl (Aa (dv 1) (Aa (dv 2) Af)))))))) (Ai (Aq (BW (Aa (dv 0) (Aa (dv 1) Af)))))))), fun ds Q h => ?_⟩⟩
  obtain ⟨f, rfl, ⟨hb, hw⟩, q⟩ := h
  have hw : Bg f := hw
  have hb : B3 1500 f := hb
  have hm : Bt 3010 (meas f) := by
    obtain ⟨h1, h2, h3⟩ := hb
    have h4 : Bt 3 4 := Bt.of_abs (by decide)
    exact ((h2.mul h2).sub ((h4.mul h1).mul h3)).le (by decide)
  walk_at "go"
  refine Al f ⟨hb, hw⟩ ?_
  refine Hw (fun m ρ => ∃ t x, (∃ k, t = LI f k ∧ ∀ i, i < k → stands (mov f (LI f i)) = false) ∧ ρ = [some (.is (t3 (mov f t))), some (.is (t4 t)), x] ∧ det t = 1 ∧ Bt 1500 (mov f t).1 ∧ Bt 1500 (mov f t).2.1 ∧ m = msr (mov f t)) _ ⟨(1, 0, 0, 1), none, ⟨0, rfl, fun _ h => absurd h (by omega)⟩, by rw [Di], rfl, by rw [Di]; exact hb.1, by rw [Di]; exact hb.2.1, rfl⟩ ?_
  rintro m _ ⟨t, x, ⟨k, et, nl⟩, rfl, hd, b1, b2, rfl⟩
  have hg := Rz hw hd
  have hgb : B3 7000 (mov f t) := (AcR hg b1 b2 (by rw [Bq hd]; exact hm)).le (by decide)
  have ht : B4 5000 t := Aa6 hw hb hgb (by decide)
  walk_at "rd"
  refine Al (mov f t) trivial ?_
  walk_at "rd"
  by_cases hs : stands (mov f t) = true
  · refine GQ (by rw [hs]; rfl) ⟨Bc (by decide), q _ ⟨t, rfl, hd, Bf hg.1 hs, ht, k, et, nl, by rw [← et]; exact hs⟩⟩
  · have hs : stands (mov f t) = false := by simpa using hs
    refine ift (by rw [hs]; rfl) ?_
    have hl : B4 2000 (Dh (mov f t)) := (Aaf hg.1 b1 b2).le (by decide)
    refine Al (mov f t) ⟨hgb.le (by decide), hg.1⟩ ?_
    refine Al (mov f t, Dh (mov f t)) ⟨hgb.le (by decide), hl.le (by decide), Oj⟩ ?_
    refine Al (t, Dh (mov f t)) ⟨ht.le (by decide), hl.le (by decide)⟩ ?_
    have hb' := X8 hg hs b1 b2
    have hm' := Xj hg hs
    rw [Bj] at hb' hm'
    dsimp only
    rw [Bj]
    refine ⟨_, hm', Aj t (Dh (mov f t)), _, ⟨k + 1, by rw [et]; rfl, fun i hi => ?_⟩, rfl, ?_, hb'.1, hb'.2, rfl⟩
    case refine_1 =>
      rcases Nat.lt_or_ge i k with z | z
      · exact nl i z
      · rw [show i = k by omega, ← et]; exact hs
    rw [CJ, hd, Oj]; rfl
noncomputable abbrev Gm : DSp := Cv (fun p : I2 => [.int p.1, .int p.2]) (fun p => p.1 ≤ p.2) fun _ => .non
theorem J1 (T : Txt K mg)
    : Pm P w K mg base 1 "check_at_most" Cd ["number", "most"] Gm := by
  obtain ⟨f, fd, F⟩ := T.t_check_at_most
  refine ⟨f, fd, F, F.fn.okD J7 (by walk_at "lE") fun cdv A outer s H E hr => ⟨_, (Ai (BK (Ws (dv 0) (dv 1)) (Ai Ji) Az)), fun ds Q h => ?_⟩⟩
  obtain ⟨⟨n, m⟩, rfl, h0, q⟩ := h
  have h0 : n ≤ m := h0
  walk_at "go"
  exact GQ (decide_eq_false (by omega)) (q _ rfl)
noncomputable abbrev Et : DSp := Cv (fun f : I3 => [t3 f]) (fun f => B3 1500 f ∧ Sad f) fun _ => .non
noncomputable abbrev Hf : DSp := Cv (fun p : I3 × Int => [t3 p.1, .int p.2]) (fun p => B3 20000 p.1) fun p => .bl (decide (Level p.1 p.2))
theorem Kr (T : Txt K mg)
    (G_check_at_most : Pm P w K mg base 1 "check_at_most" Cd ["number", "most"] Gm)
    (G_shape : Pm P w K mg base 3 "shape" EY ["form"] Hs)
    (G_measure : Pm P w K mg base 1 "measure" Cw ["form"] Dz)
    : Pm P w K mg base 4 "check_saddle" BR ["form"] Et := by
  obtain ⟨f, fd, F⟩ := T.t_check_saddle
  obtain ⟨t_MOST_MEASURE, m_MOST_MEASURE⟩ := T.m_MOST_MEASURE
  refine ⟨f, fd, F, F.fn.okD KD (by walk_at "lE") fun cdv A outer s H E hr => ⟨_, (Ad (BK (Im hr.units (Ah Ae G_shape (hr.mono (by decide)) rfl (Aa (dv 0) Af)) Hy) (Ai Ji) Az) (Ai (Jy (Ah Ae G_check_at_most (hr.mono (by decide)) rfl (Aa (Ah Ae G_measure (hr.mono (by decide)) rfl (Aa (dv 0) Af)) (Aa (KR (v := .int (4000)) (d := .int (4000)) rfl m_MOST_MEASURE ⟨_, rfl⟩ (fun _ => Bd.mpr rfl)) Af)))))), fun ds Q h => ?_⟩⟩
  obtain ⟨f, rfl, ⟨hb, hs⟩, q⟩ := h
  have hs : Sad f := hs
  have nb : Dt.flat 8 (.str "saddle") = true := by rw [Je]; decide +kernel
  walk_at "go"
  refine Bw f hb ?_
  rintro _ hw
  have h0 := hs.pos
  cases hw with
  | flat z => exact absurd z hs.no
  | bowl _ z _ => exact absurd h0 z
  | dome _ z _ => exact absurd h0 z
  | saddle _ _ =>
    refine ⟨⟨nb, nb⟩, ifn (by rw [Kl]; rfl) (Al f (hb.le (by decide)) (Al (meas f, 4000) hs.most (q _ rfl)))⟩
theorem Kv (T : Txt K mg)
    : Pm P w K mg base 1 "stands_level" CQ ["form", "far"] Hf := by
  obtain ⟨f, fd, F⟩ := T.t_stands_level
  refine ⟨f, fd, F, F.fn.okD G9 (by walk_at "lE") fun cdv A outer s H E hr => ⟨_, (Ad (Ar 2 G9.nd (Ac (dv 0) Ab)) (Ai (Aq (MJ (Rq XH Qy Gi Gi Ab (dv 2) (dv 1)) (JV (Rq XH Qy Gi Gi (Cm (dv 1) (dv 2)) (Ak Ab (Qk T.z_abs (Aa (Ac (dv 0) Ab) Af))) (Bo (dv 1) (dv 2)))))))), fun ds Q h => ?_⟩⟩
  obtain ⟨⟨⟨a, b, c⟩, far⟩, rfl, hb, q⟩ := h
  have q' := q _ rfl
  obtain ⟨ha, _, _⟩ := (show B3 20000 (a, b, c) from hb)
  have ha : Bt 20000 a := ha
  have two : Bt 2 2 := Bt.of_abs (by decide)
  have ha' : Bt 20000 (if a < 0 then -a else a) := by split <;> first | exact ha.neg | exact ha
  have q' : Q (.bl (decide (Level (a, b, c) far))) := q'
  walk_at "go"
  have hL : Level (a, b, c) far ↔ (0 < b ∧ b ≤ far) ∧ far - b < 2 * (if a < 0 then -a else a) ∧ 2 * (if a < 0 then -a else a) ≤ far + b := Iff.rfl
  generalize (if a < 0 then -a else a) = A at *
  by_cases h1 : 0 < b
  · refine ift (decide_eq_true h1) ?_
    by_cases h2 : b ≤ far
    · refine ift (decide_eq_true h2) ⟨two.mulOk ha', ?_⟩
      by_cases h3 : far - b < 2 * A
      · refine ift (decide_eq_true h3) ?_
        have e : decide (Level (a, b, c) far) = decide (2 * A ≤ far + b) := decide_eq_decide.mpr (hL.trans ⟨fun z => z.2.2, fun z => ⟨⟨h1, h2⟩, h3, z⟩⟩)
        rw [e] at q'
        exact q'
      · refine GQ (decide_eq_false h3) ?_
        rw [decide_eq_false fun z => h3 (hL.mp z).2.1] at q'
        exact q'
    · refine GQ (decide_eq_false h2) ?_
      rw [decide_eq_false fun z => h2 (hL.mp z).1.2] at q'
      exact q'
  · refine GQ (decide_eq_false h1) ?_
    rw [decide_eq_false fun z => h1 (hL.mp z).1.1] at q'
    exact q'
noncomputable abbrev HJ : DSp := Cv (fun p : I3 × Int => [t3 p.1, .int p.2]) (fun p => B3 8000 p.1 ∧ p.1.2.2 ≠ 0) fun p => t4 (Ca p.1 p.2)
theorem Mr (T : Txt K mg)
    : Pm P w K mg base 1 "turn_behind" Dc ["form", "top"] HJ := by
  obtain ⟨f, fd, F⟩ := T.t_turn_behind
  refine ⟨f, fd, F, F.fn.okD Ef (by walk_at "lE") fun cdv A outer s H E hr => ⟨_, (Ad (Ar 2 Ef.nd (Ac (dv 0) Ab)) (Ad (Ar 3 Ef.nd (Ac (dv 0) Ab)) (Ad (Ar 4 Ef.nd (Cm (dv 1) (Bp (Bo (dv 1) (dv 2)) (Ak Ab (Qk T.z_abs (Aa (dv 3) Af)))))) (Ai (Aq (BW (Aa Ab (Aa (GZ Ab) (Aa Ab (Aa (Cp (Bo (dv 2) (dv 4)) (Ak Ab (dv 3))) Af)))))))))), fun ds Q h => ?_⟩⟩
  obtain ⟨⟨⟨a, b, c⟩, top⟩, rfl, ⟨⟨_, _, hc⟩, h0⟩, q⟩ := h
  have hc : Bt 8000 c := hc
  have h0 : c ≠ 0 := h0
  have two : Bt 2 2 := Bt.of_abs (by decide)
  have hac : 2 * ab c ≠ 0 := by rcases Aw c with ⟨_, e⟩ | ⟨_, e⟩ <;> omega
  walk_at "go"
  exact ⟨two.mulOk (Ajo hc), hac, two.mulOk hc, Bt.divOk (two.mul hc) (by omega), Bc (by decide), q _ rfl⟩
noncomputable abbrev Ih (f : I3) (t : I4) : Dt := .tup [t3 f, t4 t]
noncomputable abbrev Ed : DSp := Cv (fun p : I3 × I4 × Int => [Ih p.1 p.2.1, .int p.2.2]) (fun p => B3 8000 p.1 ∧ p.1.2.2 ≠ 0 ∧ B4 300000 p.2.1 ∧ B4 5000 (Ca p.1 p.2.2)) fun p => Ih (mov p.1 (Ca p.1 p.2.2)) (Aj p.2.1 (Ca p.1 p.2.2))
theorem Lj (T : Txt K mg)
    (G_turn_behind : Pm P w K mg base 1 "turn_behind" Dc ["form", "top"] HJ)
    (G_moved : Pm P w K mg base 4 "moved" Em ["form", "turn"] Li)
    (G_put_behind : Pm P w K mg base 1 "put_behind" Cg ["one", "other"] Er)
    : Pm P w K mg base 5 "stop_behind" Cr ["stop", "top"] Ed := by
  obtain ⟨f, fd, F⟩ := T.t_stop_behind
  refine ⟨f, fd, F, F.fn.okD Hi (by walk_at "lE") fun cdv A outer s H E hr => ⟨_, (Ad (Ar 2 Hi.nd (Ah Ae G_turn_behind (hr.mono (by decide)) rfl (Aa (Ac (dv 0) Ab) (Aa (dv 1) Af)))) (Ai (Aq (BW (Aa (Ah Ae G_moved (hr.mono (by decide)) rfl (Aa (Ac (dv 0) Ab) (Aa (dv 2) Af))) (Aa (Ah Ae G_put_behind (hr.mono (by decide)) rfl (Aa (Ac (dv 0) Ab) (Aa (dv 2) Af))) Af)))))), fun ds Q h => ?_⟩⟩
  obtain ⟨⟨f, t, top⟩, rfl, ⟨hf, h0, ht, hb⟩, q⟩ := h
  walk_at "go"
  exact Al (f, top) ⟨hf, h0⟩ (Al (f, Ca f top) ⟨B3.le hf (by decide), B4.le hb (by decide), Cj⟩ (Al (t, Ca f top) ⟨B4.le ht (by decide), B4.le hb (by decide)⟩ ⟨Bc (by decide), q _ rfl⟩))
noncomputable def EI (far : Int) (f : I3) : Nat → I4
  | 0 => (1, 0, 0, 1)
  | k + 1 => Aj (EI far f k) (Ca (mov f (EI far f k)) (if far > ab (mov f (EI far f k)).2.2 then far else ab (mov f (EI far f k)).2.2))
noncomputable def Ln (far : Int) (f : I3) (t : I4) : Prop := ∃ k, t = EI far f k ∧ (∀ i, i < k → ¬ Level (mov f (EI far f i)) far) ∧ Level (mov f (EI far f k)) far
theorem Ln.uniq {far : Int} {f : I3} {t u : I4} (a : Ln far f t) (b : Ln far f u) : t = u := by
  obtain ⟨k, rfl, n1, h1⟩ := a
  obtain ⟨l, rfl, n2, h2⟩ := b
  rcases Nat.lt_trichotomy k l with z | z | z
  · exact absurd h1 (n2 k z)
  · rw [z]
  · exact absurd h2 (n1 l z)
noncomputable def AgD (f : I3) (d : Dt) : Prop := ∃ (t : I4) (far : Int), d = Ih (mov f t) t ∧ det t = 1 ∧ Sq (meas f) far ∧ Level (mov f t) far ∧ B4 7600 t ∧ Ln far f t
noncomputable abbrev Rf : DSp := spec (fun f : I3 => [t3 f]) (fun f => B3 1500 f ∧ Sad f) AgD
theorem QS {f : I3} (S : Sad f) : 0 ≤ meas f ∧ Bt 4000 (meas f) := by
  have := S.pos
  have := S.most
  exact ⟨by omega, Bt.le (n := 13) (Bt.of (by omega) (by omega)) (by decide)⟩
theorem ZG (T : Txt K mg)
    (G_check_saddle : Pm P w K mg base 4 "check_saddle" BR ["form"] Et)
    (G_root : Pm P w K mg base 1 "root" Hu ["number"] K1)
    (G_measure : Pm P w K mg base 1 "measure" Cw ["form"] Dz)
    (G_stands_level : Pm P w K mg base 1 "stands_level" CQ ["form", "far"] Hf)
    (G_stop_behind : Pm P w K mg base 5 "stop_behind" Cr ["stop", "top"] Ed)
    : Pm P w K mg base 6 "eased" HN ["form"] Rf := by
  obtain ⟨f, fd, F⟩ := T.t_eased
  obtain ⟨a_SAME, m_SAME, q_SAME⟩ := T.k_SAME
  refine ⟨f, fd, F, F.fn.okD Jl (by walk_at "lE") fun cdv A outer s H E hr => ⟨_, (Ad (Jy (Ah Ae G_check_saddle (hr.mono (by decide)) rfl (Aa (dv 0) Af))) (Ad (Ar 1 Jl.nd (Ah Ae G_root (hr.mono (by decide)) rfl (Aa (Ah Ae G_measure (hr.mono (by decide)) rfl (Aa (dv 0) Af)) Af))) (Ad (Ar 2 Jl.nd (BW (Aa (dv 0) (Aa (KR (v := .ref a_SAME) rfl m_SAME rfl q_SAME) Af)))) (Ad (HB PassesOwn.never (Gb (Ew (Ah Ae G_stands_level (hr.mono (by decide)) rfl (Aa (Ac (dv 2) Ab) (Aa (dv 1) Af))))) (Ai (Ar 2 Jl.nd (Ah Ae G_stop_behind (hr.mono (by decide)) rfl (Aa (dv 2) (Aa (Aec T.z_max (Aa (Qk T.z_abs (Aa (Ac (Ac (dv 2) Ab) Ab) Af)) (Aa (dv 1) Af))) Af)))))) (Ai (Aq (dv 2))))))), fun ds Q h => ?_⟩⟩
  obtain ⟨f, rfl, ⟨hb, hS⟩, q⟩ := h
  have hS : Sad f := hS
  have hb : B3 1500 f := hb
  walk_at "go"
  refine Al f ⟨hb, hS⟩ (Al f (hb.le (by decide)) (Bw (meas f) (QS hS) ?_))
  rintro _ ⟨far, rfl, hr', hfb⟩
  walk_at "rd"
  refine ⟨Bc (by decide), ?_⟩
  refine Hw (fun m ρ => ∃ k, (∀ i, i < k → ¬ Level (mov f (EI far f i)) far) ∧ ρ = [some (.is (t3 f)), some (.is (.int far)), some (.is (Ih (mov f (EI far f k)) (EI far f k)))] ∧ Nq 1500 far f (EI far f k) ∧ m = eM far (mov f (EI far f k))) _ ⟨0, fun _ h => absurd h (by omega), by show _ = [_, _, some (En.is (Ih (mov f (1, 0, 0, 1)) (1, 0, 0, 1)))]; rw [Di], Nq.start (by decide) hb, rfl⟩ ?_
  rintro m _ ⟨k, nl, rfl, hI, rfl⟩
  have ek : EI far f (k + 1) = Aj (EI far f k) (Ca (mov f (EI far f k)) (if far > ab (mov f (EI far f k)).2.2 then far else ab (mov f (EI far f k)).2.2)) := rfl
  obtain ⟨t, et⟩ : ∃ t, t = EI far f k := ⟨_, rfl⟩
  rw [← et] at hI ek ⊢
  have hd := hI.1
  have hg := hI.2.1
  have ht := hI.b4
  walk_at "rd"
  refine Al (mov f t, far) (hg.le (by decide)) ?_
  walk_at "rd"
  by_cases hL : Level (mov f t) far
  · exact GQ (by rw [decide_eq_true hL]; rfl) (q _ ⟨t, far, rfl, hd, hr', hL, ht.le (by decide), k, et, nl, by rw [← et]; exact hL⟩)
  · refine ift (by rw [decide_eq_false hL]; rfl) ?_
    have hst := Xg (by decide) hS hr' hI hL
    refine Al (mov f t, t, _) ⟨hg.le (by decide), Gq (hS.mov hd), ht.le (by decide), hst.2.2.le (by decide)⟩ ?_
    dsimp only
    rw [Bj]
    refine ⟨_, hst.2.1, k + 1, fun i hi => ?_, by rw [ek]; rfl, by rw [ek]; exact hst.1, by rw [ek]⟩
    rcases Nat.lt_or_ge i k with z | z
    · exact nl i z
    · rw [show i = k by omega, ← et]; exact hL
structure Kc (f : I3) (t0 : I4) (far : Int) (N : Nat) : Prop where
  d : det t0 = 1
  r : Sq (meas f) far
  v : Lv far (mov f t0)
  b : B4 7600 t0
  n : 0 < N
  m : N ≤ 8128
  e : rF far N (mov f t0) = mov f t0
  l : ∀ j, 0 < j → j < N → rF far j (mov f t0) ≠ mov f t0
  a : Ln far f t0
noncomputable abbrev Eu (f : I3) (t0 : I4) (far : Int) (i : Nat) : Dt := Ih (rF far i (mov f t0)) (Aj t0 (rT far i (mov f t0)))
theorem Kc.bt {f : I3} {t0 : I4} {far : Int} {N : Nat} (R : Kc f t0 far N) (i : Nat) (h : i ≤ N) : B4 90000 (Aj t0 (rT far i (mov f t0))) := by
  have := R.m
  exact (B4.then R.b (Adx i R.v)).le (by omega)
noncomputable abbrev Hr : DSp := spec (fun f : I3 => [t3 f]) (fun f => B3 1500 f ∧ Sad f) fun f d => ∃ t0 far N, Kc f t0 far N ∧ d = .lst ((List.range (N + 1)).map (Eu f t0 far))
theorem AbJ {n : Nat} (h : n ≤ 9000) : n < PySem.sizeLine := by unfold PySem.sizeLine; omega
theorem MP (T : Txt K mg)
    (G_root : Pm P w K mg base 1 "root" Hu ["number"] K1)
    (G_eased : Pm P w K mg base 6 "eased" HN ["form"] Rf)
    (G_stop_behind : Pm P w K mg base 5 "stop_behind" Cr ["stop", "top"] Ed)
    (G_measure : Pm P w K mg base 1 "measure" Cw ["form"] Dz)
    : Pm P w K mg base 7 "stops_round" Dd ["form"] Hr := by
  obtain ⟨f, fd, F⟩ := T.t_stops_round
  refine ⟨f, fd, F, F.fn.okD CP (by walk_at "lE") fun cdv A outer s H E hr => ⟨_, (Ad (Ar 1 CP.nd (Ah Ae G_root (hr.mono (by decide)) rfl (Aa (Ah Ae G_measure (hr.mono (by decide)) rfl (Aa (dv 0) Af)) Af))) (Ad (Ar 2 CP.nd (Ah Ae G_eased (hr.mono (by decide)) rfl (Aa (dv 0) Af))) (Ad (AdL 3 CP.nd (Aa (dv 2) Af)) (Ad (Ar 4 CP.nd (Ah Ae G_stop_behind (hr.mono (by decide)) rfl (Aa (dv 2) (Aa (dv 1) Af)))) (Ad (HB PassesOwn.never (Im hr.units (Ac (dv 4) Ab) (Ac (dv 2) Ab)) (Ad (Aas 3 (dv 4)) (Ai (Ar 4 CP.nd (Ah Ae G_stop_behind (hr.mono (by decide)) rfl (Aa (dv 4) (Aa (dv 1) Af))))))) (Ad (Aas 3 (dv 4)) (Ai (Ad9 3 (Aq (dv 3)))))))))), fun ds Q h => ?_⟩⟩
  obtain ⟨f, rfl, ⟨hb, hS⟩, q⟩ := h
  have hS : Sad f := hS
  have hb : B3 1500 f := hb
  walk_at "go"
  refine Al f (hb.le (by decide)) (Bw (meas f) (QS hS) ?_)
  rintro _ ⟨far, rfl, hr', hfb⟩
  refine Bw f ⟨hb, hS⟩ ?_
  rintro _ ⟨t0, far', rfl, dt, hs, hL, bt, ea⟩
  obtain rfl := hs.uniq hr'
  have hv : Lv far' (mov f t0) := ⟨hS.mov dt, by rw [Bq dt]; exact hs, hL⟩
  obtain ⟨N, n0, nm, ne, nl⟩ := Qp hv
  have R : Kc f t0 far' N := ⟨dt, hs, hv, bt, n0, nm, ne, nl, ea⟩
  walk_at "rd"
  refine ⟨Bc (by decide), ?_⟩
  have stp : ∀ {Q : Dt → Prop} (i : Nat), i ≤ N → Q (Eu f t0 far' (i + 1)) → Ed [Eu f t0 far' i, .int far'] Q := fun {Q} i hi h => by
    have hi' := Lv.rF i hv
    refine Al (rF far' i (mov f t0), Aj t0 (rT far' i (mov f t0)), far') ⟨(YJ hi'.S hi'.r hi'.L).le (by decide), Gq hi'.S, (R.bt i hi).le (by decide), (Lr (Vm hi') (by decide)).le (by decide)⟩ ?_
    have h : Q (Ih (rF far' (i + 1) (mov f t0)) (Aj t0 (rT far' (i + 1) (mov f t0)))) := h
    rw [V0, Ve, ← then_assoc] at h
    exact h
  have e0 : Ih (mov f t0) t0 = Eu f t0 far' 0 := by
    show Ih (mov f t0) t0 = Ih (mov f t0) (Aj t0 (1, 0, 0, 1))
    rw [Fi]
  rw [e0]
  refine stp 0 (by omega) ?_
  have last : (List.range (N + 1)).map (Eu f t0 far') = (List.range N).map (Eu f t0 far') ++ [Eu f t0 far' N] := by rw [List.range_succ, List.map_append]; rfl
  refine Hw (fun m ρ => ∃ i : Nat, 1 ≤ i ∧ i ≤ N ∧ ρ = [some (.is (t3 f)), some (.is (.int far')), some (.is (Eu f t0 far' 0)), some (.own ((List.range i).map (Eu f t0 far'))), some (.is (Eu f t0 far' i))] ∧ m = N - i) _ ⟨1, by omega, by omega, rfl, rfl⟩ ?_
  rintro m _ ⟨i, i1, iN, rfl, rfl⟩
  walk_at "rd"
  have hl : (List.range i).length < sizeLine := by rw [List.length_range]; exact AbJ (by omega)
  refine Hh (fun hw => ?_) (fun hw => ?_)
  · have hi : i < N := by
      rcases Nat.lt_or_ge i N with z | z
      · exact z
      · exfalso
        have : i = N := by omega
        subst this
        rw [ne] at hw
        simp [rF] at hw
    refine ⟨hl, stp i iN ⟨N - (i + 1), by omega, i + 1, by omega, by omega, ?_, rfl⟩⟩
    rw [List.range_succ, List.map_append]; rfl
  · have hi : i = N := by
      rcases Nat.lt_or_ge i N with z | z
      · exfalso
        refine nl i (by omega) z ?_
        have hw : rF far' i (mov f t0) = rF far' 0 (mov f t0) := by
          generalize rF far' i (mov f t0) = g at *
          generalize rF far' 0 (mov f t0) = g' at *
          obtain ⟨a, b, c⟩ := g
          obtain ⟨a', b', c'⟩ := g'
          simp at hw
          obtain ⟨h1, h2, h3⟩ := hw
          rw [h1, h2, h3]
        exact hw
      · omega
    subst hi
    refine ⟨hl, q _ ⟨t0, far', i, R, ?_⟩⟩
    rw [last]
noncomputable def Kw (f : I3) : List Int := [f.1, f.2.1, f.2.2]
noncomputable def Afs (t : I4) : List Int := [t.1, t.2.1, t.2.2.1, t.2.2.2]
noncomputable def AjJ (f : I3) (t0 : I4) (far : Int) (N : Nat) : List (List Int × List Int) := (List.range (N + 1)).map fun i => (Kw (rF far i (mov f t0)), Afs (Aj t0 (rT far i (mov f t0))))
noncomputable def Low (f : I3) (d : Dt) : Prop := ∃ t0 far N j, Kc f t0 far N ∧ j ≤ N ∧ (∀ i, i ≤ N → HT.lexLt (Kw (rF far i (mov f t0))) (Kw (rF far j (mov f t0))) = false) ∧ d = Eu f t0 far j ∧ j = Iv (AjJ f t0 far N)
noncomputable abbrev M6 : DSp := spec (fun f : I3 => [t3 f]) (fun f => B3 1500 f ∧ Sad f) Low
theorem Ma (bt : Nat → Nat → Bool) : ∀ k, argBest bt k ≤ k
  | 0 => Nat.le_refl _
  | k + 1 => by
    have := Ma bt k
    unfold argBest
    split <;> omega
theorem FZ (bt : Nat → Nat → Bool) (ir : ∀ i, bt i i = false) (tr : ∀ a b c, bt a b = true → bt b c = true → bt a c = true) : ∀ k j, j ≤ k → bt j (argBest bt k) = false
  | 0, j, h => by
    have : j = 0 := by omega
    subst this
    exact ir 0
  | k + 1, j, h => by
    unfold argBest
    split
    · rename_i hb
      rcases Nat.lt_or_ge j (k + 1) with z | z
      · cases q : bt j (k + 1) with
        | false => rfl
        | true =>
          have := FZ bt ir tr k j (by omega)
          rw [tr _ _ _ q hb] at this
          cases this
      · have : j = k + 1 := by omega
        subst this
        exact ir _
    · rename_i hb
      rcases Nat.lt_or_ge j (k + 1) with z | z
      · exact FZ bt ir tr k j (by omega)
      · have : j = k + 1 := by omega
        subst this
        simpa using hb
theorem SM : ∀ a b c : List Int, HT.lexLt a b = true → HT.lexLt b c = true → HT.lexLt a c = true
  | [], [], _, h, _ => by cases h
  | [], _ :: _, [], _, h => by cases h
  | [], _ :: _, _ :: _, _, _ => rfl
  | _ :: _, [], _, h, _ => by cases h
  | _ :: _, _ :: _, [], _, h => by cases h
  | x :: a, y :: b, z :: c, h1, h2 => by
    rw [HT.G3] at h1 h2 ⊢
    by_cases e1 : x = y
    · subst e1
      rw [if_pos rfl] at h1
      by_cases e2 : x = z
      · subst e2
        rw [if_pos rfl] at h2 ⊢
        exact SM a b c h1 h2
      · rw [if_neg e2] at h2 ⊢
        exact h2
    · rw [if_neg e1] at h1
      have h1 := of_decide_eq_true h1
      by_cases e2 : y = z
      · subst e2
        rw [if_neg e1]
        exact decide_eq_true h1
      · rw [if_neg e2] at h2
        have h2 := of_decide_eq_true h2
        rw [if_neg (by omega)]
        exact decide_eq_true (by omega)
theorem Ac5 (a b c : List Int × List Int) (h1 : Eb a b = true) (h2 : Eb b c = true) : Eb a c = true := by
  unfold Eb at *
  by_cases e1 : a.1 = b.1
  · rw [if_pos e1] at h1
    by_cases e2 : b.1 = c.1
    · rw [if_pos e2] at h2
      rw [if_pos (e1.trans e2)]
      exact SM _ _ _ h1 h2
    · rw [if_neg e2] at h2
      rw [if_neg (by rw [e1]; exact e2), e1]
      exact h2
  · rw [if_neg e1] at h1
    by_cases e2 : b.1 = c.1
    · rw [← e2, if_neg e1]
      exact h1
    · rw [if_neg e2] at h2
      have h3 := SM _ _ _ h1 h2
      by_cases e3 : a.1 = c.1
      · rw [e3, Jj] at h3
        cases h3
      · rw [if_neg e3]
        exact h3
theorem Aau (a : List Int × List Int) : Eb a a = false := by
  unfold Eb
  rw [if_pos rfl, Jj]
theorem Aam {a b : List Int × List Int} (h : Eb a b = false) : HT.lexLt a.1 b.1 = false := by
  unfold Eb at h
  by_cases e : a.1 = b.1
  · rw [e]; exact Jj _
  · rw [if_neg e] at h; exact h
theorem Tq (T : Txt K mg)
    (G_check_saddle : Pm P w K mg base 4 "check_saddle" BR ["form"] Et)
    (G_stops_round : Pm P w K mg base 7 "stops_round" Dd ["form"] Hr)
    : Pm P w K mg base 8 "lowered" Fd ["form"] M6 := by
  obtain ⟨f, fd, F⟩ := T.t_lowered
  refine ⟨f, fd, F, F.fn.okD RD (by walk_at "lE") fun cdv A outer s H E hr => ⟨_, (Ad (Jy (Ah Ae G_check_saddle (hr.mono (by decide)) rfl (Aa (dv 0) Af))) (Ai (Aq (AbV T.z_min (AeX hr.units) (Aa (Ah Ae G_stops_round (hr.mono (by decide)) rfl (Aa (dv 0) Af)) Af))))), fun ds Q h => ?_⟩⟩
  obtain ⟨f, rfl, ⟨hb, hS⟩, q⟩ := h
  walk_at "go"
  refine Al f ⟨hb, hS⟩ (Bw f ⟨hb, hS⟩ ?_)
  rintro _ ⟨t0, far, N, R, rfl⟩
  have nm := R.m
  let ps : List (List Int × List Int) := (List.range (N + 1)).map fun i => (Kw (rF far i (mov f t0)), Afs (Aj t0 (rT far i (mov f t0))))
  have lp : ps.length = N + 1 := by show ((List.range (N + 1)).map _).length = _; rw [List.length_map, List.length_range]
  have ep : (List.range (N + 1)).map (Eu f t0 far) = ps.map JZ := by
    show _ = ((List.range (N + 1)).map _).map JZ
    rw [List.map_map]
    rfl
  have at' : ∀ i, i ≤ N → ps.getD i ([], []) = (Kw (rF far i (mov f t0)), Afs (Aj t0 (rT far i (mov f t0)))) := fun i hi => by
    show ((List.range (N + 1)).map _).getD i _ = _
    simp [List.getD, show i < N + 1 by omega]
  have kl : Iv ps ≤ N := by
    have := Ma (fun i j => Eb (ps.getD i ([], [])) (ps.getD j ([], []))) (ps.length - 1)
    unfold Iv
    omega
  have least : ∀ i, i ≤ N → Eb (ps.getD i ([], [])) (ps.getD (Iv ps) ([], [])) = false := fun i hi =>
    FZ (fun i j => Eb (ps.getD i ([], [])) (ps.getD j ([], []))) (fun _ => Aau _) (fun _ _ _ h1 h2 => Ac5 _ _ _ h1 h2) _ i (by omega)
  refine ⟨ps, by rw [ep], by omega, by omega, q _ ⟨t0, far, N, Iv ps, R, kl, fun i hi => ?_, ?_, rfl⟩⟩
  · have := Aam (least i hi)
    rw [at' i hi, at' _ kl] at this
    exact this
  · rw [at' _ kl]
    rfl
noncomputable abbrev Mf (c : Str) (f : I3) (d : Dt) : Dt := .obj c ["form", "measure", "lowest"] [t3 f, .int (meas f), d]
noncomputable abbrev JM : DIn := Om (fun p : I3 × Dt => [t3 p.1, p.2]) (fun p => B3 1500 p.1) fun p fds => fds = [t3 p.1, .int (meas p.1), p.2]
noncomputable abbrev Rx : DIn := Om (fun f : I3 => [t3 f]) (fun f => B3 1500 f ∧ Bg f) fun f fds => ∃ d, Jo f d ∧ fds = [t3 f, .int (meas f), d]
noncomputable abbrev Lb : DIn := Om (fun f : I3 => [t3 f]) (fun f => B3 1500 f ∧ Sad f) fun f fds => ∃ d, Low f d ∧ fds = [t3 f, .int (meas f), d]
theorem Xr (T : Txt K mg)
    (G_measure : Pm P w K mg base 1 "measure" Cw ["form"] Dz)
    : PmC P w K mg base 2 "Shape" ["form", "measure", "lowest"] JM := by
  obtain ⟨g, fd, M, F, B⟩ := T.cm_Shape
  refine ⟨g, fd, _, M, B, F.ok Xo (fun vs H Q E ⟨x, C, dx, ys, F', ds, e, _, _, _, _, _, r, h⟩ => by obtain ⟨p, ed, _⟩ := h; rw [e, List.length_cons, r.len, ed]; rfl) fun cdv A outer s H vs Q E hr ⟨x, C, dx, ys, F', ds, e, hx, cl, no, xF, th, r, h⟩ => ?_⟩
  subst e
  refine ⟨_, YF (dv 1) (Ah Ae G_measure (hr.mono (by decide)) rfl (Aa (dv 1) Af)) (dv 2) (by decide) (by decide) (by decide), mask [x] H, F', Gy ["self", "form", "lowest"] ds, x, C, dx, (fun fds : List Dt => ∀ (ws : List V) (H' : Hp), Same (mask [x] H) H' → H' x = some (.ins C dx (List.zip ["form", "measure", "lowest"] ws)) → List.length ["form", "measure", "lowest"] = fds.length → RpL K (mask F' H') fds ws → Q .non H'), Iw xF th r, xF, CW (by simp), rfl, hx, cl, no, ?_, fun fds w ws H' s1 h1 h2 h3 => w ws H' s1 h1 h2 h3⟩
  revert h
  generalize (fun fds : List Dt => ∀ (ws : List V) (H' : Hp), Same (mask [x] H) H' → H' x = some (.ins C dx (List.zip ["form", "measure", "lowest"] ws)) → List.length ["form", "measure", "lowest"] = fds.length → RpL K (mask F' H') fds ws → Q .non H') = S
  intro h
  obtain ⟨⟨f, l⟩, rfl, hb, hq⟩ := h
  have hb : B3 1500 f := hb
  have e : Gy ["self", "form", "lowest"] [t3 f, l] = [none, some (.is (t3 f)), some (.is l)] := rfl
  dsimp only
  rw [e]
  walk_at "rd"
  exact Al f (hb.le (by decide)) (hq _ rfl)
theorem Aaj (T : Txt K mg)
    (GC_Shape : PmC P w K mg base 2 "Shape" ["form", "measure", "lowest"] JM)
    (G_settled : Pm P w K mg base 5 "settled" Fg ["form"] Ld)
    : PmI P w K mg base 6 "Bowl" ["form", "measure", "lowest"] Rx := by
  obtain ⟨C0, f, fd, M, F, B⟩ := T.o_Bowl
  obtain ⟨gC, fdC, psC, MC, BC, GC⟩ := GC_Shape
  refine ⟨C0, f, fd, _, M, B, F.ok YG (fun vs H Q E ⟨x, C, dx, ys, F', ds, e, _, _, _, _, _, r, h⟩ => by obtain ⟨p, ed, _⟩ := h; rw [e, List.length_cons, r.len, ed]; rfl) fun cdv A outer s H vs Q E hr ⟨x, C, dx, ys, F', ds, e, hx, cl, no, xF, th, r, h⟩ => ?_⟩
  subst e
  refine ⟨_, QC GX MC rfl GC BC (hr.mono (by decide)) (Aa (dv 1) (Aa (Ah Ae G_settled (hr.mono (by decide)) rfl (Aa (dv 1) Af)) Af)), mask [x] H, F', Gy ["self", "form"] ds, x, C, dx, (fun fds : List Dt => ∀ (ws : List V) (H' : Hp), Same (mask [x] H) H' → H' x = some (.ins C dx (List.zip ["form", "measure", "lowest"] ws)) → List.length ["form", "measure", "lowest"] = fds.length → RpL K (mask F' H') fds ws → Q .non H'), Iw xF th r, xF, CW (by simp), rfl, hx, cl, no, ?_, fun fds w ws H' s1 h1 h2 h3 => w ws H' s1 h1 h2 h3⟩
  revert h
  generalize (fun fds : List Dt => ∀ (ws : List V) (H' : Hp), Same (mask [x] H) H' → H' x = some (.ins C dx (List.zip ["form", "measure", "lowest"] ws)) → List.length ["form", "measure", "lowest"] = fds.length → RpL K (mask F' H') fds ws → Q .non H') = S
  intro h
  obtain ⟨f, rfl, ⟨hb, hw⟩, hq⟩ := h
  have e : Gy ["self", "form"] [t3 f] = [none, some (.is (t3 f))] := rfl
  rw [e]
  walk_at "rd"
  refine Bw f ⟨hb, hw⟩ fun d hd => ?_
  refine Ju (f, d) hb ?_
  rintro _ rfl
  exact hq _ ⟨d, hd, rfl⟩
theorem Tt (T : Txt K mg)
    (GC_Shape : PmC P w K mg base 2 "Shape" ["form", "measure", "lowest"] JM)
    (G_lowered : Pm P w K mg base 8 "lowered" Fd ["form"] M6)
    : PmI P w K mg base 9 "Saddle" ["form", "measure", "lowest"] Lb := by
  obtain ⟨C0, f, fd, M, F, B⟩ := T.o_Saddle
  obtain ⟨gC, fdC, psC, MC, BC, GC⟩ := GC_Shape
  refine ⟨C0, f, fd, _, M, B, F.ok R8 (fun vs H Q E ⟨x, C, dx, ys, F', ds, e, _, _, _, _, _, r, h⟩ => by obtain ⟨p, ed, _⟩ := h; rw [e, List.length_cons, r.len, ed]; rfl) fun cdv A outer s H vs Q E hr ⟨x, C, dx, ys, F', ds, e, hx, cl, no, xF, th, r, h⟩ => ?_⟩
  subst e
  refine ⟨_, QC GX MC rfl GC BC (hr.mono (by decide)) (Aa (dv 1) (Aa (Ah Ae G_lowered (hr.mono (by decide)) rfl (Aa (dv 1) Af)) Af)), mask [x] H, F', Gy ["self", "form"] ds, x, C, dx, (fun fds : List Dt => ∀ (ws : List V) (H' : Hp), Same (mask [x] H) H' → H' x = some (.ins C dx (List.zip ["form", "measure", "lowest"] ws)) → List.length ["form", "measure", "lowest"] = fds.length → RpL K (mask F' H') fds ws → Q .non H'), Iw xF th r, xF, CW (by simp), rfl, hx, cl, no, ?_, fun fds w ws H' s1 h1 h2 h3 => w ws H' s1 h1 h2 h3⟩
  revert h
  generalize (fun fds : List Dt => ∀ (ws : List V) (H' : Hp), Same (mask [x] H) H' → H' x = some (.ins C dx (List.zip ["form", "measure", "lowest"] ws)) → List.length ["form", "measure", "lowest"] = fds.length → RpL K (mask F' H') fds ws → Q .non H') = S
  intro h
  obtain ⟨f, rfl, ⟨hb, hw⟩, hq⟩ := h
  have e : Gy ["self", "form"] [t3 f] = [none, some (.is (t3 f))] := rfl
  rw [e]
  walk_at "rd"
  refine Bw f ⟨hb, hw⟩ fun d hd => ?_
  refine Ju (f, d) hb ?_
  rintro _ rfl
  exact hq _ ⟨d, hd, rfl⟩
noncomputable abbrev MF : DSp := Cv (fun p : Str × I3 × Dt × I4 => [Mf p.1 p.2.1 p.2.2.1, t4 p.2.2.2]) (fun p => ((p.1 = "Bowl" ∨ p.1 = "Saddle") ∧ B3 1500 p.2.1 ∧ B4 300000 p.2.2.2) ∧ det p.2.2.2 = 1) fun p => .bl (decide (mov p.2.1 p.2.2.2 = p.2.1))
noncomputable abbrev HD : Jf := QJ (fun p : Str × I3 × Dt × I4 => [Mf p.1 p.2.1 p.2.2.1, t4 p.2.2.2]) (fun p => (p.1 = "Bowl" ∨ p.1 = "Saddle") ∧ B3 1500 p.2.1 ∧ B4 300000 p.2.2.2) (fun p => det p.2.2.2 = 1) (fun p d => d = .bl (decide (mov p.2.1 p.2.2.2 = p.2.1))) fun p => Qn p.2.2.2
theorem Ry (T : Txt K mg)
    (GX_moved : PmX P w K mg base 4 "moved" Em ["form", "turn"] J9)
    : Xd P w K mg base 5 ["Bowl", "Saddle"] "leaves" HD := by
  obtain ⟨g, fd, hm, kp, F, B⟩ := T.me_leaves
  refine ⟨g, fd, _, hm, kp, B, F.okX Tf (fun ds Q E ⟨p, e, _⟩ => by rw [e]; rfl) fun cdv A outer s H E hr => ⟨_, (Hl (Abp (Acq (SN hr.units) RW (QW El GX_moved (hr.mono (by decide)) rfl (Aa (JD (dv 0)) (Aa (dv 1) Af))) (JD (dv 0)) (Gd _)))), fun ds Q Ex h => ?_⟩⟩
  obtain ⟨⟨c, f, d, t⟩, rfl, ⟨hc, hf, ht⟩, q, x⟩ := h
  have hf : B3 1500 f := hf
  have ht : B4 300000 t := ht
  walk_at "go"
  have na : Hg K c "form" := by
    rcases hc with e | e
    · have e : c = "Bowl" := e
      rw [e]; exact T.na_Bowl_form
    · have e : c = "Saddle" := e
      rw [e]; exact T.na_Saddle_form
  refine ⟨na, t3 f, rfl, Ly (f, t) ⟨hf.le (by decide), ht⟩ (fun dt _ hd => ?_) x⟩
  subst hd
  refine ⟨na, t3 f, rfl, ⟨by simp only [K7, KY, KN, JR, Bool.and_true], by simp only [K7, KY, KN, JR, Bool.and_true]⟩, ?_⟩
  rw [Zo]
  exact q dt _ rfl
theorem Sv {P : Program} {w : World} {K : PySem.W.Frag} {mg : Str → Option Value} {base : Heap} (G : Xd P w K mg base 5 ["Bowl", "Saddle"] "leaves" HD)
    : PmM P w K mg base 5 ["Bowl", "Saddle"] "leaves" MF := by
  refine G.pm El fun ds Q h => ?_
  obtain ⟨p, e, ⟨hb, hd⟩, q⟩ := h
  exact ⟨p, e, hb, fun _ d z => q d z, fun z => absurd hd z⟩
noncomputable abbrev FW : DSp := spec (fun f : I3 => [t3 f]) (fun f => B3 1500 f ∧ (Bg f ∨ Sad f)) fun f d => ∃ l, (Bg f ∧ Jo f l ∧ d = Mf "Bowl" f l) ∨ (Sad f ∧ Low f l ∧ d = Mf "Saddle" f l)
theorem Rv (T : Txt K mg)
    (GI_Bowl : PmI P w K mg base 6 "Bowl" ["form", "measure", "lowest"] Rx)
    (GI_Saddle : PmI P w K mg base 9 "Saddle" ["form", "measure", "lowest"] Lb)
    (G_shape : Pm P w K mg base 3 "shape" EY ["form"] Hs)
    : Pm P w K mg base 11 "shape_of" Dy ["form"] FW := by
  obtain ⟨f, fd, F⟩ := T.t_shape_of
  refine ⟨f, fd, F, F.fn.okD Q0 (by walk_at "lE") fun cdv A outer s H E hr => ⟨_, (Ad (BK (Gn hr.units (Ah Ae G_shape (hr.mono (by decide)) rfl (Aa (dv 0) Af)) Hy) (Ai (Aq (Rb GX GI_Bowl (hr.mono (by decide)) rfl (Aa (dv 0) Af)))) Az) (Ai (Aq (Rb GX GI_Saddle (hr.mono (by decide)) rfl (Aa (dv 0) Af))))), fun ds Q h => ?_⟩⟩
  obtain ⟨f, rfl, ⟨hb, hw⟩, q⟩ := h
  have hb : B3 1500 f := hb
  have hw : Bg f ∨ Sad f := hw
  walk_at "go"
  refine Bw f hb ?_
  rintro _ hs
  have fb : ∀ x : Str, (PySem.PyData.str x).canLay0 = true → Dt.flat 8 (.str x) = true := fun x h => by rw [Je]; exact h
  have f1 : Dt.flat 8 (.str "bowl") = true := fb _ (by decide +kernel)
  have f2 : Dt.flat 8 (.str "saddle") = true := fb _ (by decide +kernel)
  have mkS : Sad f → Om (fun f : I3 => [t3 f]) (fun f => B3 1500 f ∧ Sad f) (fun f fds => ∃ d, Low f d ∧ fds = [t3 f, Dt.int (meas f), d]) [t3 f] fun fds => Q (Dt.obj "Saddle" ["form", "measure", "lowest"] fds) := fun hS => by
    refine Ju f ⟨hb, hS⟩ ?_
    rintro _ ⟨l, hl, rfl⟩
    exact q _ ⟨l, .inr ⟨hS, hl, rfl⟩⟩
  cases hs with
  | flat z =>
    rcases hw with hw | hw
    · exact absurd z (Jr hw.2)
    · exact absurd z hw.no
  | saddle _ z =>
    rcases hw with hw | hw
    · have := hw.2; omega
    · exact ⟨⟨f2, f1⟩, GQ (by rw [Kl]; rfl) (mkS hw)⟩
  | dome _ z1 z2 =>
    rcases hw with hw | hw
    · exact absurd hw.1 z2
    · exact absurd hw.pos z1
  | bowl _ z1 z2 =>
    rcases hw with hw | hw
    · refine ⟨⟨f1, f1⟩, ift (by rw [Kl]; rfl) (Ju f ⟨hb, hw⟩ ?_)⟩
      rintro _ ⟨l, hl, rfl⟩
      exact q _ ⟨l, .inl ⟨hw, hl, rfl⟩⟩
    · exact absurd hw.pos z1
noncomputable def LF (f g : I3) : Prop := (Bg f ∧ ∃ t, det t = 1 ∧ DQ (mov f t) ∧ g = mov f t) ∨ (Sad f ∧ ∃ t0 far N j, Kc f t0 far N ∧ j ≤ N ∧ (∀ i, i ≤ N → HT.lexLt (Kw (rF far i (mov f t0))) (Kw (rF far j (mov f t0))) = false) ∧ g = rF far j (mov f t0))
theorem Vu {f g : I3} (h1 : HT.lexLt (Kw f) (Kw g) = false) (h2 : HT.lexLt (Kw g) (Kw f) = false) : f = g := by
  obtain ⟨x1, x2, x3⟩ := f
  obtain ⟨y1, y2, y3⟩ := g
  simp only [Kw, HT.G3, HT.Gf] at h1 h2
  have e1 : x1 = y1 := by
    rcases Int.lt_trichotomy x1 y1 with z | z | z
    · rw [if_neg (by omega)] at h1; simp at h1; omega
    · exact z
    · rw [if_neg (by omega)] at h2; simp at h2; omega
  subst e1
  rw [if_pos rfl] at h1 h2
  have e2 : x2 = y2 := by
    rcases Int.lt_trichotomy x2 y2 with z | z | z
    · rw [if_neg (by omega)] at h1; simp at h1; omega
    · exact z
    · rw [if_neg (by omega)] at h2; simp at h2; omega
  subst e2
  rw [if_pos rfl] at h1 h2
  have e3 : x3 = y3 := by
    rcases Int.lt_trichotomy x3 y3 with z | z | z
    · rw [if_neg (by omega)] at h1; simp at h1; omega
    · exact z
    · rw [if_neg (by omega)] at h2; simp at h2; omega
  rw [e3]
theorem IV {far : Int} {g : I3} {N : Nat} (e : rF far N g = g) : ∀ q, rF far (N * q) g = g
  | 0 => rfl
  | q + 1 => by rw [Nat.mul_succ, Ei, IV e q, e]
theorem K5 {far : Int} {g : I3} {N : Nat} (e : rF far N g = g) (n0 : 0 < N) (n : Nat) : ∃ i, i ≤ N ∧ rF far n g = rF far i g := by
  have h1 := Nat.mod_lt n n0
  have h2 := Nat.div_add_mod n N
  refine ⟨n % N, by omega, ?_⟩
  have : rF far (N * (n / N) + n % N) g = rF far (n % N) g := by rw [Ei, IV e]
  rw [h2] at this
  exact this
theorem HS {far : Int} {g h : I3} {N m : Nat} (e : rF far N h = h) (n0 : 0 < N) (k : rF far m h = g) : ∃ j, rF far j g = h := by
  refine ⟨N * m - m, ?_⟩
  rw [← k, ← Ei]
  have : m ≤ N * m := Nat.le_mul_of_pos_left m n0
  rw [show m + (N * m - m) = N * m by omega, IV e]
theorem LF.uniq {f g h : I3} (A : LF f g) (B : LF f h) : g = h := by
  rcases A with ⟨hb, t, dt, Lt, rfl⟩ | ⟨hS, t0, far, N, j, R, jl, lj, rfl⟩ <;> rcases B with ⟨hb', u, du, Lu, rfl⟩ | ⟨hS', t1, far1, N1, k, R1, kl, lk, rfl⟩
  · have e : mov (mov f t) (Aj (Ax t) u) = mov f u := by rw [← Bj, Bu dt]
    have := DQ.one Lt (t := Aj (Ax t) u) (by rw [e]; exact Lu) (by rw [CJ, Dv, dt, du]; rfl)
    rw [e] at this
    exact this.symm
  · have := hb.2; have := hS'.pos; omega
  · have := hb'.2; have := hS.pos; omega
  · have ef : far = far1 := R.r.uniq R1.r
    subst ef
    have e1 : mov (mov f t0) (Aj (Ax t0) t1) = mov f t1 := by rw [← Bj, Bu R.d]
    have d1 : det (Aj (Ax t0) t1) = 1 := by rw [CJ, Dv, R.d, R1.d]; rfl
    have en : N = N1 := (N6 R.v R1.v d1 e1 R.e R.l R1.e R1.l R.n R1.n).1
    subst en
    have hm : ∃ m, rF far m (mov f t0) = mov f t1 := by
      rcases M7 R.v R1.v d1 e1 with ⟨m, s⟩ | ⟨m, s⟩
      · exact ⟨m, by rw [← FP, ← s.mov, e1]⟩
      · have e2 : mov (mov f t1) (Ax (Aj (Ax t0) t1)) = mov f t0 := by rw [← e1, Bu d1]
        exact HS (m := m) R1.e R1.n (by rw [← FP, ← s.mov, e2])
    obtain ⟨m, hm⟩ := hm
    obtain ⟨m', hm'⟩ := HS R.e R.n hm
    obtain ⟨i1, a1, b1⟩ := K5 R.e R.n (m + k)
    obtain ⟨i2, a2, b2⟩ := K5 R1.e R1.n (m' + j)
    have h1 := lj i1 a1
    have h2 := lk i2 a2
    rw [← b1, Ei, hm] at h1
    rw [← b2, Ei, hm'] at h2
    exact (Vu h1 h2).symm
noncomputable def FN (f : I3) (l : Dt) : Prop := (Bg f ∧ Jo f l) ∨ (Sad f ∧ Low f l)
theorem FN.uniq {f : I3} {l m : Dt} (A : FN f l) (B : FN f m) : l = m := by
  rcases A with ⟨hb, t, rfl, _, _, _, a⟩ | ⟨hS, t0, far, N, j, R, _, _, rfl, ej⟩ <;> rcases B with ⟨hb', u, rfl, _, _, _, b⟩ | ⟨hS', t1, far1, N1, k, R1, _, _, rfl, ek⟩
  · rw [a.uniq b]
  · have := hb.2; have := hS'.pos; omega
  · have := hb'.2; have := hS.pos; omega
  · have ef : far = far1 := R.r.uniq R1.r
    subst ef
    have et := R.a.uniq R1.a
    subst et
    have en : N = N1 := by
      rcases Nat.lt_trichotomy N N1 with z | z | z
      · exact absurd R.e (R1.l N R.n z)
      · exact z
      · exact absurd R1.e (R.l N1 R1.n z)
    subst en
    rw [ej, ek]
theorem LF.same {f h g g' : I3} {x : I4} (A : LF f g) (B : LF h g') (dx : det x = 1) (ex : mov f x = h) : g = g' := by
  have hm : meas h = meas f := by rw [← ex, Bq dx]
  rcases A with ⟨hb, t, dt, Lt, rfl⟩ | ⟨hS, t0, far, N, j, R, jl, lj, rfl⟩ <;> rcases B with ⟨hb', u, du, Lu, rfl⟩ | ⟨hS', t1, far1, N1, k, R1, kl, lk, rfl⟩
  · have e : mov (mov f t) (Aj (Ax t) (Aj x u)) = mov h u := by rw [← Bj, Bu dt, ← Bj, ex]
    have := DQ.one Lt (t := Aj (Ax t) (Aj x u)) (by rw [e]; exact Lu) (by rw [CJ, CJ, Dv, dt, dx, du]; rfl)
    rw [e] at this
    exact this.symm
  · have := hb.2; have := hS'.pos; omega
  · have := hb'.2; have := hS.pos; omega
  · have ef : far = far1 := R.r.uniq (by rw [← hm]; exact R1.r)
    subst ef
    have e1 : mov (mov f t0) (Aj (Ax t0) (Aj x t1)) = mov h t1 := by rw [← Bj, Bu R.d, ← Bj, ex]
    have d1 : det (Aj (Ax t0) (Aj x t1)) = 1 := by rw [CJ, CJ, Dv, R.d, dx, R1.d]; rfl
    have en : N = N1 := (N6 R.v R1.v d1 e1 R.e R.l R1.e R1.l R.n R1.n).1
    subst en
    have hm : ∃ m, rF far m (mov f t0) = mov h t1 := by
      rcases M7 R.v R1.v d1 e1 with ⟨m, s⟩ | ⟨m, s⟩
      · exact ⟨m, by rw [← FP, ← s.mov, e1]⟩
      · have e2 : mov (mov h t1) (Ax (Aj (Ax t0) (Aj x t1))) = mov f t0 := by rw [← e1, Bu d1]
        exact HS (m := m) R1.e R1.n (by rw [← FP, ← s.mov, e2])
    obtain ⟨m, hm⟩ := hm
    obtain ⟨m', hm'⟩ := HS R.e R.n hm
    obtain ⟨i1, a1, b1⟩ := K5 R.e R.n (m + k)
    obtain ⟨i2, a2, b2⟩ := K5 R1.e R1.n (m' + j)
    have h1 := lj i1 a1
    have h2 := lk i2 a2
    rw [← b1, Ei, hm] at h1
    rw [← b2, Ei, hm'] at h2
    exact (Vu h1 h2).symm
theorem Wc {f : I3} {l : Dt} (h : FN f l) : ∃ (g : I3) (t : I4), l = .tup [t3 g, t4 t] ∧ LF f g ∧ det t = 1 ∧ mov f t = g ∧ B4 90000 t := by
  rcases h with ⟨hb, t, rfl, dt, L, bt, _⟩ | ⟨hS, t0, far, N, j, R, jl, lj, rfl, _⟩
  · exact ⟨_, t, rfl, .inl ⟨hb, t, dt, L, rfl⟩, dt, rfl, bt.le (by decide)⟩
  · exact ⟨_, _, rfl, .inr ⟨hS, t0, far, N, j, R, jl, lj, rfl⟩, by rw [CJ, R.d, Pg]; rfl, by rw [← Bj, FP], R.bt j jl⟩
theorem Vi {f : I3} {d : Dt} (h : ∃ l, (Bg f ∧ Jo f l ∧ d = Mf "Bowl" f l) ∨ (Sad f ∧ Low f l ∧ d = Mf "Saddle" f l)) : ∃ (c : Str) (l : Dt), (c = "Bowl" ∨ c = "Saddle") ∧ d = Mf c f l ∧ FN f l := by
  obtain ⟨l, ⟨h1, h2, rfl⟩ | ⟨h1, h2, rfl⟩⟩ := h
  · exact ⟨_, l, .inl rfl, rfl, .inl ⟨h1, h2⟩⟩
  · exact ⟨_, l, .inr rfl, rfl, .inr ⟨h1, h2⟩⟩
theorem AaG {K : PySem.W.Frag} {mg : Str → Option Value} (T : Txt K mg) {c : Str} (hc : c = "Bowl" ∨ c = "Saddle") : Hg K c "lowest" := by
  rcases hc with e | e <;> rw [e]
  · exact T.na_Bowl_lowest
  · exact T.na_Saddle_lowest
theorem AbP {K : PySem.W.Frag} {mg : Str → Option Value} (T : Txt K mg) {c : Str} (hc : c = "Bowl" ∨ c = "Saddle") : Hg K c "measure" := by
  rcases hc with e | e <;> rw [e]
  · exact T.na_Bowl_measure
  · exact T.na_Saddle_measure
noncomputable abbrev Fx : DSp := Cv (fun p : (I3 × I4) × (I3 × I4) => [.tup [t3 p.1.1, t4 p.1.2], .tup [t3 p.2.1, t4 p.2.2]]) (fun p => B4 90000 p.1.2 ∧ B4 90000 p.2.2 ∧ det p.2.2 = 1) fun p => if p.1.1 = p.2.1 then t4 (Aj p.1.2 (Ax p.2.2)) else .non
theorem M8 (T : Txt K mg)
    (G_put_behind : Pm P w K mg base 1 "put_behind" Cg ["one", "other"] Er)
    (G_back : Pm P w K mg base 4 "back" JL ["turn"] Wi)
    : Pm P w K mg base 5 "way_between" Dg ["one", "other"] Fx := by
  obtain ⟨f, fd, F⟩ := T.t_way_between
  refine ⟨f, fd, F, F.fn.okD M5 (by walk_at "lE") fun cdv A outer s H E hr => ⟨_, (Ad (BK (Im hr.units (Ac (dv 0) Ab) (Ac (dv 1) Ab)) (Ai (Aq PB)) Az) (Ai (Aq (Ah Ae G_put_behind (hr.mono (by decide)) rfl (Aa (Ac (dv 0) Ab) (Aa (Ah Ae G_back (hr.mono (by decide)) rfl (Aa (Ac (dv 1) Ab) Af)) Af)))))), fun ds Q h => ?_⟩⟩
  obtain ⟨⟨⟨g, t⟩, h, u⟩, rfl, ⟨bt, bu, du⟩, q⟩ := h
  have bt : B4 90000 t := bt
  have bu : B4 90000 u := bu
  have q' : Q (if g = h then t4 (Aj t (Ax u)) else .non) := q _ rfl
  walk_at "go"
  by_cases e : g = h
  · rw [if_pos e] at q'
    subst e
    exact GQ (by simp) (Al u ⟨bu.le (by decide), du⟩ (Al (t, Ax u) ⟨bt.le (by decide), bu.back.le (by decide)⟩ q'))
  · rw [if_neg e] at q'
    refine ift ?_ q'
    rw [Bool.not_eq_true', Bool.eq_false_iff]
    intro w
    simp only [Bool.and_eq_true, decide_eq_true_eq] at w
    exact e (Prod.ext w.1 (Prod.ext w.2.1 w.2.2))
noncomputable def AaH (f : I3) (l : Dt) (h : I3) (d : Dt) : Prop := (¬ (meas f = meas h ∧ (Bg h ∨ Sad h)) ∧ d = .non) ∨ (meas f = meas h ∧ ∃ g t g' u, l = .tup [t3 g, t4 t] ∧ FN h (.tup [t3 g', t4 u]) ∧ d = if g = g' then t4 (Aj t (Ax u)) else .non)
noncomputable abbrev Mi : DSp := spec (fun p : Str × I3 × Dt × I3 => [Mf p.1 p.2.1 p.2.2.1, t3 p.2.2.2]) (fun p => (p.1 = "Bowl" ∨ p.1 = "Saddle") ∧ FN p.2.1 p.2.2.1 ∧ B3 1500 p.2.2.2) fun p d => AaH p.2.1 p.2.2.1 p.2.2.2 d
theorem RK (T : Txt K mg)
    (G_measure : Pm P w K mg base 1 "measure" Cw ["form"] Dz)
    (G_shape : Pm P w K mg base 3 "shape" EY ["form"] Hs)
    (G_way_between : Pm P w K mg base 5 "way_between" Dg ["one", "other"] Fx)
    (G_shape_of : Pm P w K mg base 11 "shape_of" Dy ["form"] FW)
    : PmM P w K mg base 12 ["Bowl", "Saddle"] "way_to" Mi := by
  obtain ⟨g, fd, hm, kp, F, B⟩ := T.me_way_to
  refine ⟨g, fd, _, hm, kp, B, F.okD RN (by walk_at "lE") fun cdv A outer s H E hr => ⟨_, (Ad (BK (DW.dt (Vv (Im hr.units (Ah Ae G_measure (hr.mono (by decide)) rfl (Aa (dv 1) Af)) (JD (dv 0))) (OJ (Gn hr.units (Ah Ae G_shape (hr.mono (by decide)) rfl (Aa (dv 1) Af)) Hy)))) (Ai (Aq PB)) Az) (Ai (Aq (Ah Ae G_way_between (hr.mono (by decide)) rfl (Aa (JD (dv 0)) (Aa (JD (Ah Ae G_shape_of (hr.mono (by decide)) rfl (Aa (dv 1) Af))) Af)))))), fun ds Q h => ?_⟩⟩
  obtain ⟨⟨c, f, l, h⟩, rfl, ⟨hc, hl, hh⟩, q⟩ := h
  have hh : B3 1500 h := hh
  have hl : FN f l := hl
  have q : ∀ d, AaH f l h d → Q d := q
  obtain ⟨g, t, rfl, L, dt, mt, bt⟩ := Wc hl
  walk_at "go"
  refine Al h (hh.le (by decide)) ⟨AbP T hc, .int (meas f), rfl, ⟨JR, JR⟩, ?_⟩
  rw [Qm]
  by_cases hm : meas h = meas f
  · refine GQ (by rw [decide_eq_true hm]; rfl) (Bw h hh ?_)
    rintro _ hs
    have fk : Bg f ∨ Sad f := hl.elim (fun z => .inl z.1) fun z => .inr z.1
    have nsq : ¬ Gw (meas h) := by
      rw [hm]
      exact fk.elim (fun z => Jr z.2) fun z => z.no
    have f1 : Dt.flat 8 (.str "dome") = true := by rw [Je]; decide +kernel
    have f2 : Dt.flat 8 (.str "bowl") = true := by rw [Je]; decide +kernel
    have f3 : Dt.flat 8 (.str "saddle") = true := by rw [Je]; decide +kernel
    have go : (Bg h ∨ Sad h) → Hg K c "lowest" ∧ ∃ v, List.lookup (Str.ofString "lowest") (List.zip [Str.ofString "form", Str.ofString "measure", Str.ofString "lowest"] [t3 f, Dt.int (meas f), Dt.tup [t3 g, t4 t]]) = some v ∧ FW [t3 h] fun d => match d with
        | .obj c ns ds => Hg K c "lowest" ∧ ∃ v_1, List.lookup (Str.ofString "lowest") (ns.zip ds) = some v_1 ∧ Fx [v, v_1] Q
        | _ => False := fun kh => by
      refine ⟨AaG T hc, _, rfl, Bw h ⟨hh, kh⟩ ?_⟩
      rintro _ ho
      obtain ⟨c2, l2, hc2, rfl, h2⟩ := Vi ho
      obtain ⟨g2, u, rfl, L2, du, mu, bu⟩ := Wc h2
      exact ⟨AaG T hc2, _, rfl, Al ((g, t), (g2, u)) ⟨bt, bu, du⟩ (q _ (.inr ⟨hm.symm, g, t, g2, u, rfl, h2, rfl⟩))⟩
    cases hs with
    | flat z => exact absurd z nsq
    | saddle n z => exact ⟨⟨f3, f1⟩, GQ (by rw [Kl]; rfl) (go (.inr ⟨n, z, fk.elim (fun w => by have := w.2; omega) fun w => by rw [hm]; exact w.most⟩))⟩
    | dome _ z1 z2 => exact ⟨⟨f1, f1⟩, ift (by rw [Kl]; rfl) (q _ (.inl ⟨fun z => z.2.elim (fun z => z2 z.1) fun z => z1 z.pos, rfl⟩))⟩
    | bowl n z1 z2 => exact ⟨⟨f2, f1⟩, GQ (by rw [Kl]; rfl) (go (.inl ⟨z2, by have h0 : ¬ meas h = 0 := fun e => n (by rw [e]; exact ⟨0, rfl⟩); omega⟩))⟩
  · refine ift (by rw [decide_eq_false hm]; rfl) (q _ (.inl ⟨fun e => hm e.1.symm, rfl⟩))
noncomputable abbrev Gx : DSp := Cv (fun p : List Int × Int => [.lst (p.1.map Dt.int), .int p.2]) (fun p => 0 ≤ p.2) fun p => .int (p.1.getD p.2.toNat 0)
theorem Ia {Q : Dt → Prop} (ns : List Int) (k : Int) (h : 0 ≤ k) (q : Q (.int (ns.getD k.toNat 0))) : Gx [.lst (ns.map Dt.int), .int k] Q := Al (ns, k) h q
theorem Pz (T : Txt K mg)
    : Pm P w K mg base 1 "_law_cell" DP ["_law_script", "_law_k"] Gx := by
  obtain ⟨f, fd, F⟩ := T.t__law_cell
  refine ⟨f, fd, F, F.fn.okD Ox (by walk_at "lE") fun cdv A outer s H E hr => ⟨_, (Ad (BK (Uv (dv 1) (Qj T.z_len (Aa (dv 0) Af))) (Ai (Aq (Ac (dv 0) (dv 1)))) Az) (Ai (Aq Ab))), fun ds Q h => ?_⟩⟩
  obtain ⟨⟨ns, k⟩, rfl, h0, q⟩ := h
  walk_at "go"
  by_cases hk : k < ns.length
  · simp only [decide_eq_true hk, Ow h0 hk, if_true]
    exact q _ rfl
  · simp only [decide_eq_false hk]
    have e : ns.getD k.toNat 0 = 0 := by
      have : ns.length ≤ k.toNat := by have h0' : 0 ≤ k := h0; omega
      simp [this]
    have q' := q _ rfl
    dsimp only at q'
    rw [e] at q'
    exact q'
noncomputable def isI : Dt → Bool
  | .int _ => true
  | _ => false
noncomputable abbrev Ea : DSp := Cv (fun p : List Int × Int => [.tup (p.1.map Dt.int), .int p.2]) (fun p => p.1.length ≤ 1000) fun p => .bl (decide ((p.1.length : Int) = p.2))
theorem Xa {Q : Dt → Prop} (ns : List Int) (k : Int) (h : (ns.length : Int) = k) (hl : ns.length ≤ 1000) (q : Q (.bl true)) : Ea [.tup (ns.map Dt.int), .int k] Q :=
  Al (ns, k) hl (by dsimp only; rw [decide_eq_true h]; exact q)
theorem AcX {Q : Dt → Prop} (p : I4) (q : Q (.bl true)) : Ea [t4 p, .int 4] Q := Xa [p.1, p.2.1, p.2.2.1, p.2.2.2] 4 rfl (by show 4 ≤ 1000; decide) q
theorem Ls (T : Txt K mg)
    : Pm P w K mg base 1 "_law_wholes" Cu ["_law_found", "_law_many"] Ea := by
  obtain ⟨f, fd, F⟩ := T.t__law_wholes
  refine ⟨f, fd, F, F.fn.okD Mx (by walk_at "lE") fun cdv A outer s H E hr => ⟨_, (Ad (BK (DW.dt (Vv (Gb (Ew (Qg T.z_isinstance T.z_tuple Wx (dv 0)))) (OJ (Im hr.units (Qj T.z_len (Aa (dv 0) Af)) (dv 1))))) (Ai (Aq Jq)) Az) (Ai (Aq (Kh hr.units (Qj T.z_len (Aa (Yt (JW (sc := Ag Cu) (NN := ["_law_found", "_law_many"]) (x := "_law_one") (N := []) (sl := []) rfl rfl (by decide +kernel)) rfl (AdR (dv 0)) (fun cl C s0 H0 ex => (DW.dt (Za (Ew (Qg T.z_isinstance T.z_int AbU (dv 0))) (VR (Gb (Ew (Qg T.z_isinstance T.z_bool Q8 (dv 0)))))))) (fun cl C s0 H0 ex => (dv 0))) Af)) (dv 1))))), fun ds Q h => ?_⟩⟩
  obtain ⟨⟨ns, k⟩, rfl, h0, q⟩ := h
  walk_at "go"
  have q' := q _ rfl
  dsimp only at q'
  by_cases hk : (ns.length : Int) = k
  · rw [decide_eq_true hk] at q'
    simp only [decide_eq_true hk]
    walk_at "rd"
    refine Pa (ns.map Dt.int) isI id (fun R h => h) (by rw [List.length_map]; exact Bc h0) Iu (fun d hd R hR => ?_) (fun d hd hp R hR => hR) ?_
    · unfold inner
      walk_at "rd"
      obtain ⟨n, _, rfl⟩ := List.mem_map.mp hd
      exact ⟨rfl, rfl, hR⟩
    · have e : (List.filter isI (ns.map Dt.int)).map id = ns.map Dt.int := by
        rw [List.map_id, List.filter_eq_self]
        intro d hd
        obtain ⟨n, _, rfl⟩ := List.mem_map.mp hd
        rfl
      rw [e]
      walk_at "rd"
      rw [decide_eq_true hk]
      exact q'
  · rw [decide_eq_false hk] at q'
    simp only [decide_eq_false hk]
    exact q'
noncomputable abbrev G8 : DSp := Cv (fun p : I2 => [.int p.1, .int p.2]) (fun _ => True) fun p => .int ((Int.gcd p.1 p.2 : Nat) : Int)
theorem Ku (T : Txt K mg)
    : Pm P w K mg base 1 "_law_divisor" CG ["_law_one", "_law_other"] G8 := by
  obtain ⟨f, fd, F⟩ := T.t__law_divisor
  refine ⟨f, fd, F, F.fn.okD G4 (by walk_at "lE") fun cdv A outer s H E hr => ⟨_, (Ad (HB PassesOwn.never (Im hr.units (dv 1) Ab) (Ai (AcA rfl G4.nd 0 1 (Aa (dv 1) (Aa (Bp (dv 0) (dv 1)) Af))))) (Ai (Aq (Qk T.z_abs (Aa (dv 0) Af))))), fun ds Q h => ?_⟩⟩
  obtain ⟨⟨a, b⟩, rfl, _, q⟩ := h
  simp only [Ri, Rm, Qo]
  refine Hw (fun m ρ => ∃ x y, ρ = [some (.is (.int x)), some (.is (.int y))] ∧ Int.gcd x y = Int.gcd a b ∧ m = y.natAbs) _ ⟨a, b, rfl, rfl, rfl⟩ ?_
  rintro m _ ⟨x, y, rfl, hg, rfl⟩
  walk_at "rd"
  by_cases hy : y = 0
  · subst hy
    simp only [decide_true, Bool.not_true]
    walk_at "rd"
    have q' := q _ rfl
    have e : (if x < 0 then -x else x) = ((Int.gcd a b : Nat) : Int) := by rw [← hg, Int.gcd_zero_right]; split <;> omega
    rw [e]
    exact q'
  · simp only [decide_eq_false hy, Bool.not_false, if_true]
    exact ⟨hy, _, AcH hy, y, x.fmod y, rfl, (XS x y).trans hg, rfl⟩
noncomputable def V5 (n : Int) : Prop := (n % 4 = 0 ∨ n % 4 = 1) ∧ ((n < 0 ∧ -(2 ^ 60) < n) ∨ (0 < n ∧ n ≤ 4000 ∧ ¬ Gw n))
noncomputable abbrev Kq : DSp := spec (fun c : Int => [.int c]) (fun _ => True) fun _ d => ∃ n, d = .int n ∧ V5 n
theorem Yb {ρ : Bv} {Q : Dt → Prop} (hq : Q (.lst (((List.range 64).map fun i : Nat => (0 + (i : Int)) * (0 + (i : Int))).map Dt.int))) :
    Js [] (Uj (Wf (dC (.int 64)) Aca)) K9 (dOp AcQ (Tn 0) (Tn 0)) ρ Q := by
  refine WD (ups 0 64) (fun d => match d with | .int k => .int (k * k) | _ => .non) (fun R h => ?_) (by rw [Vq]; exact Bc (by decide)) Iu (fun d hd R hR => ?_) ?_
  · walk_at "rd"
    exact ⟨⟨by decide, by decide⟩, h⟩
  · obtain ⟨k, hk⟩ := List.getElem?_of_mem hd
    obtain ⟨hk, rfl⟩ := PK hk
    unfold inner
    have b : Bt 7 (0 + (k : Int)) := Bt.of (by omega) (by omega)
    walk_at "rd"
    exact ⟨b.mulOk b, hR⟩
  · unfold ups
    rw [List.map_map]
    rw [List.map_map] at hq
    exact hq
theorem Yr {n : Int} (h0 : 0 < n) (h4 : n ≤ 4000) : n ∈ ((List.range 64).map fun i : Nat => (0 + (i : Int)) * (0 + (i : Int))) ↔ Gw n := by
  rw [List.mem_map]
  constructor
  · rintro ⟨i, _, e⟩
    exact ⟨0 + (i : Int), e⟩
  · rintro ⟨r, e⟩
    have e2 : (r.natAbs : Int) * r.natAbs = n := (Int.natAbs_mul_self' r).trans e
    refine ⟨r.natAbs, List.mem_range.mpr ?_, by rw [show (0 : Int) + (r.natAbs : Int) = (r.natAbs : Int) by omega]; exact e2⟩
    rcases Nat.lt_or_ge r.natAbs 64 with z | z
    · exact z
    · have := Int.mul_le_mul (show 64 ≤ (r.natAbs : Int) by omega) (show 64 ≤ (r.natAbs : Int) by omega) (by omega) (by omega)
      omega
theorem Z7 {n : Int} (h0 : 0 < n) (h4 : n ≤ 4000) (h : Gw n) : n + 4 ≤ 4000 ∧ ¬ Gw (n + 4) := by
  obtain ⟨r, e⟩ := h
  have e2 : (r.natAbs : Int) * r.natAbs = n := (Int.natAbs_mul_self' r).trans e
  obtain ⟨k, ek, k0⟩ : ∃ k : Int, (r.natAbs : Int) = k ∧ 0 ≤ k := ⟨_, rfl, by omega⟩
  rw [ek] at e2
  have k1 : 1 ≤ k := by
    rcases Int.lt_or_le 0 k with z | z
    · omega
    · have : k = 0 := by omega
      subst this
      omega
  have k63 : k ≤ 63 := by
    rcases Int.lt_or_le k 64 with z | z
    · omega
    · have := Int.mul_le_mul z z (by decide) k0
      omega
  have n3 : k * k ≤ 63 * 63 := Int.mul_le_mul k63 k63 k0 (by decide)
  refine ⟨by omega, fun ⟨s, es⟩ => ?_⟩
  have e3 : (s.natAbs : Int) * s.natAbs = n + 4 := (Int.natAbs_mul_self' s).trans es
  obtain ⟨u, eu, u0⟩ : ∃ u : Int, (s.natAbs : Int) = u ∧ 0 ≤ u := ⟨_, rfl, by omega⟩
  rw [eu] at e3
  rcases Int.lt_trichotomy u (k + 1) with z | z | z
  · have := Int.mul_le_mul (show u ≤ k by omega) (show u ≤ k by omega) u0 k0
    omega
  · subst z
    have : (k + 1) * (k + 1) = k * k + 2 * k + 1 := by grind
    omega
  · have h5 := Int.mul_le_mul (show k + 2 ≤ u by omega) (show k + 2 ≤ u by omega) (by omega) u0
    have : (k + 2) * (k + 2) = k * k + 4 * k + 4 := by grind
    omega
theorem Rr (T : Txt K mg)
    : Pm P w K mg base 1 "_law_bar" DN ["_law_cell_here"] Kq := by
  obtain ⟨f, fd, F⟩ := T.t__law_bar
  refine ⟨f, fd, F, F.fn.okD FQ (by walk_at "lE") fun cdv A outer s H E hr => ⟨_, (Ad (Ar 1 FQ.nd (Bp (Ak (Cp (dv 0) Ab) Ab) Ab)) (Ad (BK (Gn hr.units (Bp (dv 0) Ab) Ab) (Ai (Aq (Cm (Bp (Cp (dv 1) Ab) Ab) (Ak Ab (Bo Ab (Bp (dv 1) Ab)))))) Az) (Ad (BK (Gn hr.units (Bp (dv 0) Ab) Ab) (Ai (Aq (Cm (Bp (dv 1) Ab) (Ak Ab (Bo Ab (Bp (Ak (Cp (dv 0) Ab) Ab) (Pb Ab Ab))))))) Az) (Ad (Ar 2 FQ.nd (Cm (Ak Ab (Bo Ab (Bp (dv 1) Ab))) (Ak Ab (Bp (Cp (dv 1) Ab) Ab)))) (Ad (BK (Ajc hr.units (dv 2) (Vs (JW (sc := Ag DN) (NN := ["_law_cell_here", "_law_number_here", "_law_bar_here"]) (x := "_law_k") (N := []) (sl := []) rfl rfl (by decide +kernel)) rfl (V1 rfl T.z_range (Aa Ab Af)) (fun cl C s0 H0 ex => (Ak (dv 0) (dv 0))))) (Ai (Ar 2 FQ.nd (Bo (dv 2) Ab))) Az) (Ai (Aq (dv 2)))))))), fun ds Q h => ?_⟩⟩
  obtain ⟨c, rfl, _, q⟩ := h
  have r1 := Br (c.fdiv 4 * 1000000007) (m := 2147483647) (by decide)
  have r9 := Br (c.fdiv 4 * 314159265358979) (m := 10 ^ Int.toNat 15) (by decide)
  have e15 : (10 ^ Int.toNat 15 : Int) = 1000000000000000 := by decide
  have cp : Rk 10 15 := ⟨by decide, by decide, by decide⟩
  walk_at "go"
  generalize (c.fdiv 4 * 1000000007).fmod 2147483647 = w at *
  have a1 := Br w (m := 1000) (by decide)
  have a2 := Br (w.fdiv 1000) (m := 2) (by decide)
  have a3 := Br w (m := 2) (by decide)
  generalize w.fmod 1000 = x at *
  generalize (w.fdiv 1000).fmod 2 = y at *
  generalize w.fmod 2 = z at *
  have four : Bt 3 4 := Bt.of_abs (by decide)
  have bx : Bt 11 (1 + x) := Bt.of (by omega) (by omega)
  have by' : Bt 2 y := Bt.of (by omega) (by omega)
  refine ⟨⟨by decide, by decide⟩, IntMulOk.of_right (by decide), by decide, by decide, Hh (fun _ => ⟨⟨by decide, by decide⟩, by decide, by decide, four.mulOk bx, q _ ⟨_, rfl, by omega, .inl ⟨by omega, by omega⟩⟩⟩) (fun _ => ⟨by decide, Hh (fun _ => ?_) (fun _ => ?_)⟩)⟩
  · refine ⟨by decide, ⟨by decide, by decide⟩, IntMulOk.of_right (by decide), cp, by decide, ?_⟩
    generalize (c.fdiv 4 * 314159265358979).fmod (10 ^ Int.toNat 15) = v at *
    rw [e15] at r9
    have bv : Bt 55 (1 + v) := Bt.of (by omega) (by omega)
    exact ⟨four.mulOk bv, q _ ⟨_, rfl, by omega, .inl ⟨by omega, by omega⟩⟩⟩
  · refine ⟨by decide, four.mulOk bx, ⟨by decide, by decide⟩, by decide, (Bt.of_abs (by decide) : Bt 2 3).mulOk by', Yb ⟨_, _, rfl, rfl, ?_⟩⟩
    have n0 : 0 < 4 * (1 + x) - 3 * y := by omega
    have n4 : 4 * (1 + x) - 3 * y ≤ 4000 := by omega
    have m4 : (4 * (1 + x) - 3 * y) % 4 = 0 ∨ (4 * (1 + x) - 3 * y) % 4 = 1 := by rcases (show y = 0 ∨ y = 1 by omega) with e | e <;> rw [e] <;> omega
    generalize 4 * (1 + x) - 3 * y = n at *
    refine Hh (fun hw => ?_) (fun hw => ?_)
    · have hw := (Yr n0 n4).mp (of_decide_eq_true hw)
      obtain ⟨h1, h2⟩ := Z7 n0 n4 hw
      exact q _ ⟨_, rfl, by omega, .inr ⟨by omega, h1, h2⟩⟩
    · have hw : ¬ Gw n := fun z => hw (decide_eq_true ((Yr n0 n4).mpr z))
      exact q _ ⟨_, rfl, m4, .inr ⟨n0, n4, hw⟩⟩
theorem Wv {n b r a : Int} (hB : V5 n) (er : b * b - n = 4 * r) (ha : a ∣ r) (a0 : a ≠ 0) (sg : n < 0 → 0 < a) (b1 : -(2 ^ 33) < b) (b2 : b < 2 ^ 33) (r0 : r ≠ 0) : CDv r a ∧ B3 100 (a, b, r.fdiv a) ∧ meas (a, b, r.fdiv a) = n ∧ (Bg (a, b, r.fdiv a) ∨ Sad (a, b, r.fdiv a)) := by
  obtain ⟨k, rfl⟩ := ha
  have ek : (a * k).fdiv a = k := Int.mul_fdiv_cancel_left _ a0
  rw [ek]
  have bb : Bt 33 b := Bt.of (by omega) (by omega)
  have nb : Bt 61 n := by
    rcases hB.2 with h | h
    · exact Bt.of (by omega) (by omega)
    · exact Bt.of (by omega) (by omega)
  have rb4 : Bt 70 (4 * (a * k)) := by rw [← er]; exact ((bb.mul bb).sub (nb.le (m := 66) (by decide))).le (by decide)
  have rb : Bt 70 (a * k) := by unfold Bt at *; omega
  have k0 : k ≠ 0 := fun z => r0 (by rw [z]; simp)
  have ab1 : ∀ {x y : Int}, x ≠ 0 → ab y ≤ ab (x * y) := fun {x y} hx => by
    rw [← J6]
    have h1 : 1 ≤ ab x := by rcases Aw x with ⟨_, e⟩ | ⟨_, e⟩ <;> omega
    have := Int.mul_le_mul_of_nonneg_right h1 (Bm y)
    omega
  have bk : Bt 70 k := NZ rb (ab1 a0)
  have ba : Bt 70 a := NZ rb (by rw [Int.mul_comm]; exact ab1 k0)
  have hm : meas (a, b, k) = n := by
    show b * b - 4 * a * k = n
    have : 4 * a * k = 4 * (a * k) := by grind
    omega
  refine ⟨⟨a0, ba.le (by decide)⟩, ⟨ba.le (by decide), bb.le (by decide), bk.le (by decide)⟩, hm, ?_⟩
  rcases hB.2 with h | h
  · exact .inl ⟨sg h.1, by rw [hm]; exact h.1⟩
  · exact .inr ⟨by rw [hm]; exact h.2.2, by rw [hm]; exact h.1, by rw [hm]; exact h.2.1⟩
noncomputable abbrev JH : DSp := spec (fun p : I3 => [.int p.1, .int p.2.1, .int p.2.2]) (fun p => V5 p.1) fun p d => ∃ f : I3, d = t3 f ∧ B3 100 f ∧ meas f = p.1 ∧ (Bg f ∨ Sad f)
theorem O7 (T : Txt K mg)
    (G__law_divisor : Pm P w K mg base 1 "_law_divisor" CG ["_law_one", "_law_other"] G8)
    : Pm P w K mg base 2 "_law_form" DX ["_law_bar_here", "_law_one", "_law_other"] JH := by
  obtain ⟨f, fd, F⟩ := T.t__law_form
  refine ⟨f, fd, F, F.fn.okD CV (by walk_at "lE") fun cdv A outer s H E hr => ⟨_, (Ad (Ar 3 CV.nd (Bp (Ak (Cp (dv 1) Ab) Ab) Ab)) (Ad (Ar 4 CV.nd (Bo (Ak Ab (Cm (dv 3) Ab)) (Bp (dv 0) Ab))) (Ad (BK (Gn hr.units (Bp (dv 1) Ab) Ab) (Ai (Ar 4 CV.nd (Bo (Ak Ab (Cm (Bp (dv 3) Ab) Ab)) (Bp (dv 0) Ab)))) Az) (Ad (Ar 5 CV.nd (Cp (Cm (Ak (dv 4) (dv 4)) (dv 0)) Ab)) (Ad (Ar 6 CV.nd (Ah Ae G__law_divisor (hr.mono (by decide)) rfl (Aa (dv 5) (Aa (Ak (Bp (Cp (dv 2) Ab) (Pb Ab Ab)) (Ac (AeY (Aa Ab (Aa Ab (Aa Ab Af)))) (Bp (dv 2) Ab))) Af)))) (Ad (BK (DW.dt (Za (Ws (dv 0) Ab) (VR (Gn hr.units (Bp (Cp (dv 2) Ab) Ab) Ab)))) (Ai (Ar 6 CV.nd (GZ (dv 6)))) Az) (Ai (Aq (BW (Aa (dv 6) (Aa (dv 4) (Aa (Cp (dv 5) (dv 6)) Af)))))))))))), fun ds Q h => ?_⟩⟩
  obtain ⟨⟨n, x, y⟩, rfl, hB, q⟩ := h
  have hB : V5 n := hB
  have q : ∀ d, (∃ f : I3, d = t3 f ∧ B3 100 f ∧ meas f = n ∧ (Bg f ∨ Sad f)) → Q d := q
  have r1 := Br (x.fdiv 3 * 1000000007) (m := 2147483647) (by decide)
  have c9 : Rk 10 9 := ⟨by decide, by decide, by decide⟩
  walk_at "go"
  generalize (x.fdiv 3 * 1000000007).fmod 2147483647 = w at *
  have r41 := Br w (m := 41) (by decide)
  have rn := Br n (m := 2) (by decide)
  have en : n.fmod 2 = n % 2 := Int.fmod_eq_emod_of_nonneg n (by decide)
  have two : Bt 2 2 := Bt.of_abs (by decide)
  have m1 : Bt 33 (w - 1073741823) := Bt.of (by omega) (by omega)
  have m2 : Bt 7 (w.fmod 41 - 20) := Bt.of (by omega) (by omega)
  refine ⟨⟨by decide, by decide⟩, IntMulOk.of_right (by decide), by decide, two.mulOk m1, by decide, by decide, Hh (fun _ => ⟨by decide, two.mulOk m2, by decide, ?_⟩) (fun _ => ?_)⟩
  case' refine_1 =>
    obtain ⟨b, eb, b1, b2, bp⟩ : ∃ b, 2 * (w.fmod 41 - 20) + n.fmod 2 = b ∧ -(2 ^ 33) < b ∧ b < 2 ^ 33 ∧ b % 2 = n % 2 := ⟨_, rfl, by omega, by omega, by omega⟩
    rw [eb]
  case' refine_2 =>
    obtain ⟨b, eb, b1, b2, bp⟩ : ∃ b, 2 * (w - 1073741823) + n.fmod 2 = b ∧ -(2 ^ 33) < b ∧ b < 2 ^ 33 ∧ b % 2 = n % 2 := ⟨_, rfl, by omega, by omega, by omega⟩
    rw [eb]
  all_goals
    have hB1 := hB.1
    obtain ⟨r, er⟩ : ∃ r, b * b - n = 4 * r := by
      obtain ⟨k, hk⟩ : ∃ k, b = 2 * k + b % 2 := ⟨b / 2, by omega⟩
      rcases (show b % 2 = 0 ∨ b % 2 = 1 by omega) with z | z
      · rw [z] at hk
        have : b * b = 4 * (k * k) := by rw [hk]; grind
        exact ⟨k * k - n / 4, by omega⟩
      · rw [z] at hk
        have : b * b = 4 * (k * k + k) + 1 := by rw [hk]; grind
        exact ⟨k * k + k - n / 4, by omega⟩
    have er4 : (b * b - n).fdiv 4 = r := by rw [er, Int.mul_fdiv_cancel_left _ (by decide)]
    have r0 : r ≠ 0 := fun z => by
      have e : b * b = n := by omega
      rcases hB.2 with h | h
      · have := sq_nonneg b; omega
      · exact h.2.2 ⟨b, e⟩
    have bb : Bt 33 b := Bt.of (by omega) (by omega)
    have ry := Br y (m := 3) (by decide)
    have r9 := Br (y.fdiv 6) (m := 10 ^ Int.toNat 9) (by decide)
    have e9 : (10 ^ Int.toNat 9 : Int) = 1000000000 := by decide
    rw [er4]
    obtain ⟨j, ej, hj⟩ := Ac1 (zs := [1, 12, 840]) (P := fun z => 1 ≤ z ∧ z ≤ 840) ry.1 ry.2 (by
      simp only [List.mem_cons, List.not_mem_nil, or_false]
      rintro z (rfl | rfl | rfl) <;> omega)
    simp only [List.map_cons, List.map_nil] at ej
    refine ⟨bb.mulOk bb, ⟨by decide, by decide⟩, ⟨by decide, by decide⟩, c9, by decide, Bc (by decide), by decide, ?_⟩
    rw [ej]
    dsimp only
    generalize (y.fdiv 6).fmod (10 ^ Int.toNat 9) = i at *
    rw [e9] at r9
    have bi : Bt 31 i := Bt.of (by omega) (by omega)
    have bj : Bt 11 j := Bt.of (by omega) (by omega)
    refine ⟨bi.mulOk bj, Al (r, i * j) trivial ?_⟩
    have gd : ((Int.gcd r (i * j) : Nat) : Int) ∣ r := Int.gcd_dvd_left ..
    have g0 : 0 < ((Int.gcd r (i * j) : Nat) : Int) := by
      have : Int.gcd r (i * j) ≠ 0 := fun z => r0 (Int.gcd_eq_zero_iff.mp z).1
      omega
    dsimp only
    generalize ((Int.gcd r (i * j) : Nat) : Int) = g at *
    have plus := Wv hB er gd (by omega) (fun _ => g0) b1 b2 r0
    have fin : CDv r g ∧ 3 ≤ sizeLine ∧ Q (T3 g b (r.fdiv g)) := ⟨plus.1, Bc (by decide), q _ ⟨_, rfl, plus.2.1, plus.2.2.1, plus.2.2.2⟩⟩
    refine Hh (fun hw => ⟨⟨by decide, by decide⟩, by decide, Hh (fun _ => ?_) (fun _ => fin)⟩) (fun _ => fin)
    have hw := of_decide_eq_true hw
    have minus := Wv hB er (Int.neg_dvd.mpr gd) (by omega) (fun z => by omega) b1 b2 r0
    exact ⟨minus.1, Bc (by decide), q _ ⟨_, rfl, minus.2.1, minus.2.2.1, minus.2.2.2⟩⟩
noncomputable abbrev Ij : DSp := Cv (fun p : I3 × I2 => [t3 p.1, .int p.2.1, .int p.2.2]) (fun p => B3 2000 p.1 ∧ B2 200000 p.2) fun p => .int (val p.1 p.2)
theorem Ni (T : Txt K mg)
    : Pm P w K mg base 1 "_law_value" Dk ["_law_form_here", "_law_x", "_law_y"] Ij := by
  obtain ⟨f, fd, F⟩ := T.t__law_value
  refine ⟨f, fd, F, F.fn.okD Eo (by walk_at "lE") fun cdv A outer s H E hr => ⟨_, (Ad (RB (dv 0) (ZQ (n := 3) rfl (Du (Ej 3 Eo.nd) (Du (Ej 4 Eo.nd) (Du (Ej 5 Eo.nd) Qh))))) (Ai (Aq (Bo (Bo (Ak (Ak (dv 3) (dv 1)) (dv 1)) (Ak (Ak (dv 4) (dv 1)) (dv 2))) (Ak (Ak (dv 5) (dv 2)) (dv 2)))))), fun ds Q h => ?_⟩⟩
  obtain ⟨⟨⟨a, b, c⟩, x, y⟩, rfl, ⟨⟨ha, hb, hc⟩, hx, hy⟩, q⟩ := h
  have q' := q _ rfl
  walk_at "go"
  refine ⟨by walk_at "mul", by walk_at "mul", by walk_at "mul", by walk_at "mul", by walk_at "mul", by walk_at "mul", ?_⟩
  exact q'
noncomputable abbrev Ep : DSp := Cv (fun p : I3 × I4 => [t3 p.1, t4 p.2]) (fun p => B3 2000 p.1 ∧ B4 200000 p.2) fun p => t3 (mov p.1 p.2)
theorem Nv (T : Txt K mg)
    (G__law_value : Pm P w K mg base 1 "_law_value" Dk ["_law_form_here", "_law_x", "_law_y"] Ij)
    : Pm P w K mg base 2 "_law_moved" Ce ["_law_form_here", "_law_turn"] Ep := by
  obtain ⟨f, fd, F⟩ := T.t__law_moved
  refine ⟨f, fd, F, F.fn.okD Ck (by walk_at "lE") fun cdv A outer s H E hr => ⟨_, (Ad (RB (dv 1) (ZQ (n := 4) rfl (Du (Ej 2 Ck.nd) (Du (Ej 3 Ck.nd) (Du (Ej 4 Ck.nd) (Du (Ej 5 Ck.nd) Qh)))))) (Ad (Ar 6 Ck.nd (Ak (Ac (dv 0) Ab) (Bo (Ak (dv 2) (dv 5)) (Ak (dv 3) (dv 4))))) (Ad (Ar 6 Ck.nd (Bo (dv 6) (Ak Ab (Bo (Ak (Ak (Ac (dv 0) Ab) (dv 2)) (dv 3)) (Ak (Ak (Ac (dv 0) Ab) (dv 4)) (dv 5)))))) (Ai (Aq (BW (Aa (Ah Ae G__law_value (hr.mono (by decide)) rfl (Aa (dv 0) (Aa (dv 2) (Aa (dv 4) Af)))) (Aa (dv 6) (Aa (Ah Ae G__law_value (hr.mono (by decide)) rfl (Aa (dv 0) (Aa (dv 3) (Aa (dv 5) Af)))) Af))))))))), fun ds Q h => ?_⟩⟩
  obtain ⟨⟨f, p, q0, r, s0⟩, rfl, ⟨hf, hp, hq0, hr0, hs0⟩, q⟩ := h
  have hf : B3 2000 f := hf
  have hp : Bt 200000 p := hp
  have hq0 : Bt 200000 q0 := hq0
  have hr0 : Bt 200000 r := hr0
  have hs0 : Bt 200000 s0 := hs0
  have q' := q _ rfl
  obtain ⟨f1, f2, f3⟩ := id hf
  have two : Bt 2 2 := Bt.of_abs (by decide)
  walk_at "go"
  have em : f.2.1 * (p * s0 + q0 * r) + 2 * (f.1 * p * q0 + f.2.2 * r * s0) = mid f (p, r) (q0, s0) := by
    obtain ⟨a, b, c⟩ := f
    simp only [mid]; grind
  rw [em]
  refine ⟨hp.mulOk hs0, hq0.mulOk hr0, f2.mulOk ((hp.mul hs0).add (hq0.mul hr0)), f1.mulOk hp, (f1.mul hp).mulOk hq0, f3.mulOk hr0, (f3.mul hr0).mulOk hs0, two.mulOk (((f1.mul hp).mul hq0).add ((f3.mul hr0).mul hs0)), Al (f, (p, r)) ⟨hf, hp, hr0⟩ (Al (f, (q0, s0)) ⟨hf, hq0, hs0⟩ ⟨Bc (by decide), q'⟩)⟩
noncomputable abbrev Il : DSp := Cv (fun p : I3 × I4 × I3 => [t3 p.1, t4 p.2.1, t3 p.2.2]) (fun p => B3 2000 p.1 ∧ B4 200000 p.2.1 ∧ det p.2.1 = 1 ∧ mov p.1 p.2.1 = p.2.2) fun _ => .bl true
theorem Nh (T : Txt K mg)
    (G__law_moved : Pm P w K mg base 2 "_law_moved" Ce ["_law_form_here", "_law_turn"] Ep)
    (G__law_wholes : Pm P w K mg base 1 "_law_wholes" Cu ["_law_found", "_law_many"] Ea)
    : Pm P w K mg base 3 "_law_walks" Dp ["_law_form_here", "_law_turn", "_law_other"] Il := by
  obtain ⟨f, fd, F⟩ := T.t__law_walks
  refine ⟨f, fd, F, F.fn.okD Nu (by walk_at "lE") fun cdv A outer s H E hr => ⟨_, (Ad (BK (DW.dt (Vv (Gb (Ew (Ah Ae G__law_wholes (hr.mono (by decide)) rfl (Aa (dv 1) (Aa Ab Af))))) (OJ (Im hr.units (Cm (Ak (Ac (dv 1) Ab) (Ac (dv 1) Ab)) (Ak (Ac (dv 1) Ab) (Ac (dv 1) Ab))) Ab)))) (Ai (Aq Jq)) Az) (Ai (Aq (Kh hr.units (Ah Ae G__law_moved (hr.mono (by decide)) rfl (Aa (dv 0) (Aa (dv 1) Af))) (dv 2))))), fun ds Q h => ?_⟩⟩
  obtain ⟨⟨f, x, h⟩, rfl, ⟨hf, hx, dx, e⟩, q⟩ := h
  have hx : B4 200000 x := hx
  have dx : det x = 1 := dx
  have e : mov f x = h := e
  have q' := q _ rfl
  walk_at "go"
  refine AcX x ?_
  walk_at "rd"
  have dx' : x.1 * x.2.2.2 - x.2.1 * x.2.2.1 = 1 := dx
  refine ⟨hx.1.mulOk hx.2.2.2, hx.2.1.mulOk hx.2.2.1, GQ (by rw [decide_eq_true dx']; rfl) (Al (f, x) ⟨hf, hx⟩ ?_)⟩
  dsimp only
  rw [e]
  walk_at "rd"
  first | exact q' | (simp; exact q')
theorem Zf {f : I3} {t : I4} (h : Bg f ∨ Sad f) (dt : det t = 1) : Bg (mov f t) ∨ Sad (mov f t) := by
  rcases h with h | h
  · exact .inl (Rz h dt)
  · exact .inr (h.mov dt)
theorem t3i {a b : I3} (h : t3 a = t3 b) : a = b := by
  have := Zo (s := a) (t := b)
  rw [h] at this
  have h5 := Zo (s := b) (t := b)
  rw [decide_eq_true rfl] at h5
  rw [h5] at this
  exact of_decide_eq_true this.symm
theorem t4i {a b : I4} (h : t4 a = t4 b) : a = b := by
  have := AaC (s := a) (t := b)
  rw [h] at this
  have h5 := AaC (s := b) (t := b)
  rw [decide_eq_true rfl] at h5
  rw [h5] at this
  exact of_decide_eq_true this.symm
theorem Rw {g h : I3} {t u : I4} (e : Dt.tup [t3 g, t4 t] = Dt.tup [t3 h, t4 u]) : g = h ∧ t = u := by
  have := Dt.tup.inj e
  exact ⟨t3i (List.cons.inj this).1, t4i (List.cons.inj (List.cons.inj this).2).1⟩
noncomputable abbrev FJ : DSp := spec (fun n : Int => [.int n]) (fun n => Bt 1048576 n) fun _ d => ∃ m, d = .int m ∧ Bt 205 m
theorem Nb (T : Txt K mg)
    : Pm P w K mg base 1 "_law_number" Cq ["_law_cell_here"] FJ := by
  obtain ⟨f, fd, F⟩ := T.t__law_number
  refine ⟨f, fd, F, F.fn.okD Ht (by walk_at "lE") fun cdv A outer s H E hr => ⟨_, (Ad (BK (Gn hr.units (Bp (dv 0) Ab) Ab) (Ai (Aq (Cm (Bp (Cp (dv 0) Ab) Ab) Ab))) Az) (Ad (Ar 1 Ht.nd (Bo (Ak Ab (Pb Ab Ab)) Ab)) (Ai (Aq (Cm (Bp (Ak (Cp (dv 0) Ab) Ab) (dv 1)) (Pb Ab Ab)))))), fun ds Q h => ?_⟩⟩
  obtain ⟨n, rfl, hn, q⟩ := h
  have hn : Bt 1048576 n := hn
  have c6 : Rk 10 60 := ⟨by decide, by decide, by decide⟩
  have two : IntMulOk 2 (10 ^ Int.toNat 60) := Bt.mulOk (n := 2) (m := 200) (by unfold Bt; decide) (by unfold Bt; decide)
  have r9 := Br (n.fdiv 3) (m := 25) (by decide)
  have r6 := Br (n.fdiv 3 * 27182818284590452353602874713526624977572470936999595749669) (m := 2 * 10 ^ Int.toNat 60 + 1) (by decide)
  have big : Bt 200 27182818284590452353602874713526624977572470936999595749669 := by unfold Bt; decide
  have e : (10 ^ Int.toNat 60 : Int) < 2 ^ 200 := by decide
  walk_at "go"
  exact ⟨by decide, Hh (fun _ => ⟨⟨by decide, by decide⟩, by decide, q _ ⟨_, rfl, Bt.of (by omega) (by omega)⟩⟩) (fun _ => ⟨c6, two, ⟨by decide, by decide⟩, (XQ hn).mulOk big, by decide, c6, q _ ⟨_, rfl, Bt.of (by omega) (by omega)⟩⟩)⟩
theorem AaA {f h : I3} {l d : Dt} (hl : FN f l) (w : AaH f l h d) : (d = .non ∧ ¬ ∃ x : I4, det x = 1 ∧ mov f x = h) ∨ ∃ y : I4, d = t4 y ∧ det y = 1 ∧ mov f y = h ∧ B4 190000 y := by
  have fk : Bg f ∨ Sad f := hl.elim (fun z => .inl z.1) fun z => .inr z.1
  rcases w with ⟨n, rfl⟩ | ⟨hm, g, t, g', u, el, h2, rfl⟩
  · exact .inl ⟨rfl, fun ⟨x, dx, ex⟩ => n ⟨by rw [← ex, Bq dx], by rw [← ex]; exact Zf fk dx⟩⟩
  · obtain ⟨g0, t0, e0, L, dt, mt, bt⟩ := Wc hl
    rw [el] at e0
    obtain ⟨g1, u1, e1, L1, du, mu, bu⟩ := Wc h2
    obtain ⟨rfl, rfl⟩ := Rw e0
    obtain ⟨rfl, rfl⟩ := Rw e1
    by_cases eg : g = g'
    · refine .inr ⟨Aj t (Ax u), if_pos eg, by rw [CJ, Dv, dt, du]; rfl, ?_, (B4.then bt bu.back).le (by decide)⟩
      rw [← Bj, mt, eg, ← mu, Bu du]
    · exact .inl ⟨if_neg eg, fun ⟨x, dx, ex⟩ => eg (L.same L1 dx ex)⟩
noncomputable abbrev G5 : DSp := spec (fun p : I3 × I3 => [.lst [.int p.1.1, .int p.1.2.1, .int p.1.2.2], t3 p.2]) (fun p => B3 1048576 p.1 ∧ B3 100 p.2) fun p d => ∃ h : I3, d = t3 h ∧ B3 1500 h ∧ (p.1.1.fmod 5 = 4 → ∃ t : I4, det t = 1 ∧ mov p.2 t = h)
theorem Aag {n : Nat} {x : Int} (h : Bt n x) : Bt n (x.fdiv 5) := by
  rw [Int.fdiv_eq_ediv_of_nonneg _ (by decide)]
  unfold Bt at *; omega
theorem Z0 (k : Int) : det (1, k, 0, 1) = 1 := by show 1 * 1 - k * 0 = 1; omega
theorem K3 {k : Int} {n : Nat} (h : Bt n k) (h1 : 1 ≤ n) : B4 n (1, k, 0, 1) := ⟨Bt.one.le h1, h, Bt.zero.le (Nat.zero_le _), Bt.one.le h1⟩
theorem KC (T : Txt K mg)
    (G__law_moved : Pm P w K mg base 2 "_law_moved" Ce ["_law_form_here", "_law_turn"] Ep)
    (G__law_number : Pm P w K mg base 1 "_law_number" Cq ["_law_cell_here"] FJ)
    : Pm P w K mg base 3 "_law_strange" BP ["_law_cells", "_law_form_here"] G5 := by
  obtain ⟨f, fd, F⟩ := T.t__law_strange
  refine ⟨f, fd, F, F.fn.okD CZ (by walk_at "lE") fun cdv A outer s H E hr => ⟨_, (Ad (RB (Vs (JW (sc := Ag BP) (NN := ["_law_cells", "_law_form_here", "_law_m", "_law_n", "_law_k", "_law_kind"]) (x := "_law_cell_here") (N := []) (sl := []) rfl rfl (by decide +kernel)) rfl (Ae0 (dv 0)) (fun cl C s0 H0 ex => (Ah Ae G__law_number (hr.mono (by decide)) rfl (Aa (Cp (dv 0) Ab) Af)))) (AfL (n := 3) rfl (Du (Ej 2 CZ.nd) (Du (Ej 3 CZ.nd) (Du (Ej 4 CZ.nd) Qh))))) (Ad (Ar 5 CZ.nd (Bp (Ac (dv 0) Ab) Ab)) (Ad (BK (Gn hr.units (dv 5) Ab) (Ai (Aq (BW (Aa (dv 2) (Aa (dv 3) (Aa (dv 4) Af)))))) Az) (Ad (BK (Gn hr.units (dv 5) Ab) (Ai (Aq (Ah Ae G__law_moved (hr.mono (by decide)) rfl (Aa (BW (Aa (GZ (Ac (dv 1) Ab)) (Aa (Ac (dv 1) Ab) (Aa (GZ (Ac (dv 1) Ab)) Af)))) (Aa (BW (Aa Ab (Aa (dv 3) (Aa Ab (Aa Ab Af))))) Af))))) Az) (Ad (BK (Gn hr.units (dv 5) Ab) (Ai (Aq (BW (Aa (dv 2) (Aa (Bo (Ak (dv 2) (dv 4)) (dv 3)) (Aa (Ak (dv 3) (dv 4)) Af)))))) Az) (Ad (BK (Gn hr.units (dv 5) Ab) (Ai (Aq (BW (Aa Ab (Aa (dv 3) (Aa (Cp (Cm (Cm (Cm (Ak (dv 3) (dv 3)) Ab) (Ak Ab (Bp (dv 4) Ab))) (Bp (dv 3) Ab)) Ab) Af)))))) Az) (Ai (Aq (Ah Ae G__law_moved (hr.mono (by decide)) rfl (Aa (dv 1) (Aa (BW (Aa Ab (Aa (dv 2) (Aa Ab (Aa Ab Af))))) Af))))))))))), fun ds Q h => ?_⟩⟩
  obtain ⟨⟨⟨c0, c1, c2⟩, f⟩, rfl, ⟨⟨h0, h1, h2⟩, hf⟩, q⟩ := h
  have hf : B3 100 f := hf
  have q : ∀ d, (∃ h : I3, d = t3 h ∧ B3 1500 h ∧ (c0.fmod 5 = 4 → ∃ t : I4, det t = 1 ∧ mov f t = h)) → Q d := q
  walk_at "go"
  refine WL [.int c0, .int c1, .int c2] (fun d => ∃ m, d = .int m ∧ Bt 205 m) (fun R h => h) (Bc (by show 3 ≤ 1000; decide)) Iu ?_ ?_
  · rintro d hd R hR
    have : ∃ c, d = .int c ∧ Bt 1048576 c := by
      simp only [List.mem_cons, List.not_mem_nil, or_false] at hd
      rcases hd with e | e | e
      · exact ⟨_, e, h0⟩
      · exact ⟨_, e, h1⟩
      · exact ⟨_, e, h2⟩
    obtain ⟨c, rfl, hc⟩ := this
    unfold inner
    walk_at "rd"
    exact ⟨⟨by decide, by decide⟩, Bw _ (Aag hc) fun d hd => hR d hd⟩
  · intro acc hl hacc
    match acc, hl, hacc with
    | [_, _, _], _, hacc =>
      obtain ⟨m, rfl, hm⟩ := hacc _ (List.mem_cons_self ..)
      obtain ⟨n, rfl, hn⟩ := hacc _ (List.mem_cons_of_mem _ (List.mem_cons_self ..))
      obtain ⟨k, rfl, hk⟩ := hacc _ (List.mem_cons_of_mem _ (List.mem_cons_of_mem _ (List.mem_cons_self ..)))
      have four : Bt 3 4 := Bt.of_abs (by decide)
      have r5 := Br c0 (m := 5) (by decide)
      have rk3 := Br k (m := 3) (by decide)
      have rn2 := Br n (m := 2) (by decide)
      have hk3 : Bt 3 (k.fmod 3) := Bt.of (by omega) (by omega)
      have hn1 : Bt 3 (n.fmod 2) := Bt.of (by omega) (by omega)
      have h39 : Bt 13 3996 := Bt.of_abs (by decide)
      have hq4 : Bt 500 ((n * n - 3996 - 4 * k.fmod 3 - n.fmod 2).fdiv 4) := (XJ ((((hn.mul hn).sub h39).sub (four.mul hk3)).sub hn1)).le (by decide)
      have fneg : B3 100 (-f.1, f.2.1, -f.2.2) := ⟨hf.1.neg, hf.2.1, hf.2.2.neg⟩
      refine ⟨rfl, by decide, Hh (fun h => ⟨Bc (by decide), q _ ⟨(m, n, k), rfl, ⟨hm.le (by decide), hn.le (by decide), hk.le (by decide)⟩, fun z => ?_⟩⟩) (fun _ => Hh (fun h => ?_) (fun _ => Hh (fun h => ?_) (fun _ => Hh (fun h => ?_) (fun _ => ?_))))⟩
      · have h := of_decide_eq_true h; omega
      · have h := of_decide_eq_true h
        refine ⟨Bc (by decide), Bc (by decide), Al ((-f.1, f.2.1, -f.2.2), (1, n, 0, 1)) ⟨fneg.le (by decide), (K3 hn (by decide)).le (by decide)⟩ (q _ ⟨_, rfl, (B3.mov fneg (K3 hn (by decide))).le (by decide), fun z => ?_⟩)⟩
        omega
      · have h := of_decide_eq_true h
        exact ⟨hm.mulOk hk, hn.mulOk hk, Bc (by decide), q _ ⟨(_, _, _), rfl, ⟨hm.le (by decide), ((hm.mul hk).add hn).le (by decide), (hn.mul hk).le (by decide)⟩, fun z => by omega⟩⟩
      · have h := of_decide_eq_true h
        exact ⟨hn.mulOk hn, by decide, four.mulOk hk3, by decide, ⟨by decide, by decide⟩, Bc (by decide), q _ ⟨(_, _, _), rfl, ⟨Bt.one.le (by decide), hn.le (by decide), hq4.le (by decide)⟩, fun z => by omega⟩⟩
      · exact ⟨Bc (by decide), Al (f, (1, m, 0, 1)) ⟨hf.le (by decide), (K3 hm (by decide)).le (by decide)⟩ (q _ ⟨_, rfl, (B3.mov hf (K3 hm (by decide))).le (by decide), fun _ => ⟨(1, m, 0, 1), Z0 m, rfl⟩⟩)⟩
noncomputable abbrev Hj : DSp := Cv (fun p : Str × I3 × Dt × I4 => [Mf p.1 p.2.1 p.2.2.1, t4 p.2.2.2]) (fun p => ((p.1 = "Bowl" ∨ p.1 = "Saddle") ∧ B3 1500 p.2.1 ∧ B4 300000 p.2.2.2) ∧ det p.2.2.2 ≠ 1) fun p => Qn p.2.2.2
theorem Lw (T : Txt K mg)
    (GMX_leaves : Xd P w K mg base 5 ["Bowl", "Saddle"] "leaves" HD)
    : Pm P w K mg base 6 "_law_caught" Df ["_law_one", "_law_four"] Hj := by
  obtain ⟨f, fd, F⟩ := T.t__law_caught
  obtain ⟨U_FormError, u_FormError⟩ := T.u_FormError
  refine ⟨f, fd, F, F.fn.okD Eh (by walk_at "lE") fun cdv A outer s H E hr => ⟨_, (Ad (Ar 2 Eh.nd PB) (Ad (AbL (AbG 3 u_FormError Eh.nd (fun W pn => (Hl (QZ (Xl El GMX_leaves (hr.mono (by decide)) (dv 0) (Aa (dv 1) Af))))) (fun a => (Ai (Ar 2 Eh.nd (dv 3)))))) (Ai (Aq (dv 2))))), fun ds Q h => ?_⟩⟩
  obtain ⟨⟨c, f, l, t⟩, rfl, ⟨hb, nt⟩, q⟩ := h
  have q' := q _ rfl
  have nt : det t ≠ 1 := nt
  have un := T.un_NoTurn_FormError
  have hc : c = "Bowl" ∨ c = "Saddle" := hb.1
  walk_at "go"
  refine ⟨⟨by rcases hc with e | e <;> rw [e] <;> simp, by decide⟩, Ly (c, f, l, t) hb (fun z => absurd z nt) fun _ => ⟨un, q'⟩⟩
noncomputable abbrev G6 : DSp := Cv (fun t : I4 => [Qn t, t4 t]) (fun _ => True) fun _ => .bl true
theorem KH (T : Txt K mg)
    : Pm P w K mg base 1 "_law_refused" Cy ["_law_e", "_law_four"] G6 := by
  obtain ⟨f, fd, F⟩ := T.t__law_refused
  obtain ⟨A_Apart, m_Apart, b_NoTurn_Apart⟩ := T.c_Apart
  obtain ⟨A_NoAnswer, m_NoAnswer, b_NoTurn_NoAnswer⟩ := T.c_NoAnswer
  obtain ⟨A_NoMeasure, m_NoMeasure, b_NoTurn_NoMeasure⟩ := T.c_NoMeasure
  obtain ⟨A_NoRoot, m_NoRoot, b_NoTurn_NoRoot⟩ := T.c_NoRoot
  obtain ⟨A_NoShape, m_NoShape, b_NoTurn_NoShape⟩ := T.c_NoShape
  obtain ⟨A_NoTurn, m_NoTurn, b_NoTurn_NoTurn⟩ := T.c_NoTurn
  obtain ⟨A_NotLevel, m_NotLevel, b_NoTurn_NotLevel⟩ := T.c_NotLevel
  obtain ⟨A_NotOwn, m_NotOwn, b_NoTurn_NotOwn⟩ := T.c_NotOwn
  obtain ⟨A_NotPlain, m_NotPlain, b_NoTurn_NotPlain⟩ := T.c_NotPlain
  obtain ⟨A_Nought, m_Nought, b_NoTurn_Nought⟩ := T.c_Nought
  obtain ⟨A_TooGreat, m_TooGreat, b_NoTurn_TooGreat⟩ := T.c_TooGreat
  refine ⟨f, fd, F, F.fn.okD Ks (by walk_at "lE") fun cdv A outer s H E hr => ⟨_, (Ad (BK (DW.dt (Vv (Gb (Ew (Aeo T.z_isinstance (Aa (dv 0) (Aa (Dj m_NoTurn) Af))))) (OJ (Gb (Ew (Afp T.z_isinstance T.z_ValueError (dv 0))))))) (Ai (Aq Jq)) Az) (Ad (BK (Ew (Vy T.z_isinstance (Aa (dv 0) (Aa (BW (Aa (Dj m_Apart) (Aa (Dj m_NoAnswer) (Aa (Dj m_NoMeasure) (Aa (Dj m_NoRoot) (Aa (Dj m_NoShape) (Aa (Dj m_NotLevel) (Aa (Dj m_NotOwn) Af)))))))) Af)))) (Ai (Aq Jq)) Az) (Ai (Aq (MJ (Yc (Vy T.z_isinstance (Aa (dv 0) (Aa (BW (Aa (Dj m_NotPlain) (Aa (Dj m_Nought) (Aa (Dj m_TooGreat) Af)))) Af)))) (JV (Kh hr.units (Ab8 (dv 0)) (dv 1)))))))), fun ds Q h => ?_⟩⟩
  obtain ⟨t, rfl, _, q⟩ := h
  walk_at "go"
  have na : Hg K "NoTurn" "turn" := T.nf_NoTurn_turn
  refine ⟨true, b_NoTurn_NoTurn, GQ rfl ⟨Bc (by decide), [A_Apart, A_NoAnswer, A_NoMeasure, A_NoRoot, A_NoShape, A_NotLevel, A_NotOwn], false, rfl, ?_, GQ rfl ⟨Bc (by decide), [A_NotPlain, A_Nought, A_TooGreat], false, rfl, ?_, ift rfl ⟨na, t4 t, rfl, ?_, ?_⟩⟩⟩⟩
  · exact .cons b_NoTurn_Apart (.cons b_NoTurn_NoAnswer (.cons b_NoTurn_NoMeasure (.cons b_NoTurn_NoRoot (.cons b_NoTurn_NoShape (.cons b_NoTurn_NotLevel (.cons b_NoTurn_NotOwn .nil))))))
  · exact .cons b_NoTurn_NotPlain (.cons b_NoTurn_Nought (.cons b_NoTurn_TooGreat .nil))
  · simp only [K7, KY, KN, JR, Bool.and_true]
  · rw [AaC, decide_eq_true rfl]
    exact q _ rfl
noncomputable abbrev Jh : DSp := Cv (fun p : (Str × Dt) × I3 × I3 × Bool => [Mf p.1.1 p.2.1 p.1.2, t3 p.2.1, .int (meas p.2.1), t3 p.2.2.1, .bl p.2.2.2]) (fun p => (p.1.1 = "Bowl" ∨ p.1.1 = "Saddle") ∧ FN p.2.1 p.1.2 ∧ B3 100 p.2.1 ∧ B3 1500 p.2.2.1 ∧ (p.2.2.2 = true → ∃ t : I4, det t = 1 ∧ mov p.2.1 t = p.2.2.1)) fun _ => .bl true
theorem PJ (T : Txt K mg)
    (GM_way_to : PmM P w K mg base 12 ["Bowl", "Saddle"] "way_to" Mi)
    (G__law_walks : Pm P w K mg base 3 "_law_walks" Dp ["_law_form_here", "_law_turn", "_law_other"] Il)
    : Pm P w K mg base 13 "_law_good" DR ["_law_one", "_law_form_here", "_law_bar_here", "_law_strange_here", "_law_there"] Jh := by
  obtain ⟨f, fd, F⟩ := T.t__law_good
  refine ⟨f, fd, F, F.fn.okD Jm (by walk_at "lE") fun cdv A outer s H E hr => ⟨_, (Ad (Ar 5 Jm.nd (Lg Ae GM_way_to (hr.mono (by decide)) (dv 0) (Aa (dv 3) Af))) (Ad (BK (Afo (dv 5) PB) (Ai (Aq (Yc (dv 4)))) Az) (Ad (BK (Im hr.units (Cm (Ak (Ac (dv 3) Ab) (Ac (dv 3) Ab)) (Ak (Ak Ab (Ac (dv 3) Ab)) (Ac (dv 3) Ab))) (dv 2)) (Ai (Aq Jq)) Az) (Ai (Aq (Ah Ae G__law_walks (hr.mono (by decide)) rfl (Aa (dv 1) (Aa (dv 5) (Aa (dv 3) Af))))))))), fun ds Q h => ?_⟩⟩
  obtain ⟨⟨⟨c, l⟩, f, h, b⟩, rfl, ⟨hc, hl, hf, hh, hb⟩, q⟩ := h
  have q' := q _ rfl
  have hc : c = "Bowl" ∨ c = "Saddle" := hc
  have hl : FN f l := hl
  have hf : B3 100 f := hf
  have hh : B3 1500 h := hh
  have hb : b = true → ∃ t : I4, det t = 1 ∧ mov f t = h := hb
  have four : Bt 3 4 := Bt.of_abs (by decide)
  obtain ⟨h1, h2, h3⟩ := id hh
  have em : h.2.1 * h.2.1 - 4 * h.1 * h.2.2 = meas h := rfl
  walk_at "go"
  refine ⟨⟨by rcases hc with e | e <;> rw [e] <;> simp, by decide⟩, Bw (c, f, l, h) ⟨hc, hl, hh⟩ ?_⟩
  rintro _ hw
  rcases AaA hl hw with ⟨rfl, no⟩ | ⟨y, rfl, dy, ey, by'⟩
  · walk_at "rd"
    have : b = false := by
      cases b with
      | false => rfl
      | true => exact absurd (hb rfl) no
    rw [this]
    exact q'
  · walk_at "rd"
    rw [em]
    have ey : mov f y = h := ey
    have e : meas h = meas f := by rw [← ey, Bq dy]
    exact ⟨h2.mulOk h2, four.mulOk h1, (four.mul h1).mulOk h3, GQ (by rw [decide_eq_true e]; rfl) (Al (f, y, h) ⟨hf.le (by decide), by'.le (by decide), dy, ey⟩ q')⟩
theorem Agt (ns : List Int) (i : Nat) (h : 3 * i + 3 ≤ ns.length) : ∃ p : I3, cutD (ns.map Dt.int) (some (3 * (0 + (i : Int)))) (some (3 * (0 + (i : Int)) + 3)) = [.int p.1, .int p.2.1, .int p.2.2] ∧ (p.1 ∈ ns ∧ p.2.1 ∈ ns ∧ p.2.2 ∈ ns) ∧ p.1 = ns.getD (3 * i) 0 := by
  obtain ⟨p, e, hm⟩ := AjV ns i h
  refine ⟨p, e, hm, ?_⟩
  unfold cutD at e
  have e1 : HT.sIx (ns.map Dt.int).length 0 (some (3 * (0 + (i : Int)))) = 3 * i := by
    rw [List.length_map, show 3 * (0 + (i : Int)) = ((3 * i : Nat) : Int) by omega, HT.KQ]; omega
  have e2 : HT.sIx (ns.map Dt.int).length (ns.map Dt.int).length (some (3 * (0 + (i : Int)) + 3)) = 3 * i + 3 := by
    rw [List.length_map, show 3 * (0 + (i : Int)) + 3 = ((3 * i + 3 : Nat) : Int) by omega, HT.KQ]; omega
  rw [e1, e2] at e
  have := congrArg (fun l => l[0]?) e
  simp only [List.getElem?_take, List.getElem?_drop, List.getElem?_map, List.getElem?_cons_zero] at this
  rw [if_pos (by omega)] at this
  have hi : 3 * i < ns.length := by omega
  rw [show 3 * i + 0 = 3 * i by omega, List.getElem?_eq_getElem hi] at this
  simp only [Option.map_some, Option.some.injEq, Dt.int.injEq] at this
  rw [← this]
  simp [List.getD, hi]
theorem AcU {ns : List Int} {b : Nat} (h : ∀ n ∈ ns, Bt b n) (k : Nat) : Bt b (ns.getD k 0) := by
  rcases Nat.lt_or_ge k ns.length with z | z
  · rw [show ns.getD k 0 = ns[k] by simp [List.getD, z]]
    exact h _ (List.getElem_mem z)
  · rw [show ns.getD k 0 = 0 by simp [List.getD, z]]
    exact Bt.zero.le (Nat.zero_le _)
theorem AdY (T : Txt K mg)
    (GM_leaves : PmM P w K mg base 5 ["Bowl", "Saddle"] "leaves" MF)
    (G__law_bar : Pm P w K mg base 1 "_law_bar" DN ["_law_cell_here"] Kq)
    (G__law_form : Pm P w K mg base 2 "_law_form" DX ["_law_bar_here", "_law_one", "_law_other"] JH)
    (G_shape_of : Pm P w K mg base 11 "shape_of" Dy ["form"] FW)
    (G__law_cell : Pm P w K mg base 1 "_law_cell" DP ["_law_script", "_law_k"] Gx)
    (G__law_strange : Pm P w K mg base 3 "_law_strange" BP ["_law_cells", "_law_form_here"] G5)
    (G__law_number : Pm P w K mg base 1 "_law_number" Cq ["_law_cell_here"] FJ)
    (G__law_refused : Pm P w K mg base 1 "_law_refused" Cy ["_law_e", "_law_four"] G6)
    (G__law_good : Pm P w K mg base 13 "_law_good" DR ["_law_one", "_law_form_here", "_law_bar_here", "_law_strange_here", "_law_there"] Jh)
    (G__law_caught : Pm P w K mg base 6 "_law_caught" Df ["_law_one", "_law_four"] Hj)
    (G__law_moved : Pm P w K mg base 2 "_law_moved" Ce ["_law_form_here", "_law_turn"] Ep)
    : Pm P w K mg base 14 "law" JB ["_law_script"] MN := by
  obtain ⟨f, fd, F⟩ := T.t_law
  refine ⟨f, fd, F, F.fn.okD GD (by walk_at "lE") fun cdv A outer s H E hr => ⟨_, (Ad (Ar 1 GD.nd (Ah Ae G__law_bar (hr.mono (by decide)) rfl (Aa (Ah Ae G__law_cell (hr.mono (by decide)) rfl (Aa (dv 0) (Aa Ab Af))) Af))) (Ad (Ar 2 GD.nd (Ah Ae G__law_form (hr.mono (by decide)) rfl (Aa (dv 1) (Aa (Ah Ae G__law_cell (hr.mono (by decide)) rfl (Aa (dv 0) (Aa Ab Af))) (Aa (Ah Ae G__law_cell (hr.mono (by decide)) rfl (Aa (dv 0) (Aa Ab Af))) Af))))) (Ad (Ar 3 GD.nd (Ah Ae G_shape_of (hr.mono (by decide)) rfl (Aa (dv 2) Af))) (Ad (Ar 4 GD.nd (Qs (dv 0) (KZ Ab) (KZ Ab))) (Ad (AfD PassesOwn.never rfl (V1 rfl T.z_range (Aa (Cp (Qj T.z_len (Aa (dv 4) Af)) Ab) Af)) (Ej 5 GD.nd) (Ad (Ar 6 GD.nd (Ah Ae G__law_strange (hr.mono (by decide)) rfl (Aa (Qs (dv 4) (KZ (Ak Ab (dv 5))) (KZ (Bo (Ak Ab (dv 5)) Ab))) (Aa (dv 2) Af)))) (Ai (BK (Gb (Ew (Ah Ae G__law_good (hr.mono (by decide)) rfl (Aa (dv 3) (Aa (dv 2) (Aa (dv 1) (Aa (dv 6) (Aa (Kh hr.units (Bp (Ac (dv 4) (Ak Ab (dv 5))) Ab) Ab) Af)))))))) (Ai (Aq Jq)) Az)))) (Ad (Ar 7 GD.nd (BW (Aa (Ah Ae G__law_number (hr.mono (by decide)) rfl (Aa (Ah Ae G__law_cell (hr.mono (by decide)) rfl (Aa (dv 0) (Aa Ab Af))) Af)) (Aa (Cm (Bp (Ah Ae G__law_cell (hr.mono (by decide)) rfl (Aa (dv 0) (Aa Ab Af))) Ab) Ab) (Aa (Cm (Bp (Ah Ae G__law_cell (hr.mono (by decide)) rfl (Aa (dv 0) (Aa Ab Af))) Ab) Ab) (Aa Ab Af)))))) (Ad (BK (Gn hr.units (Cm (Ac (dv 7) Ab) (Ak (Ac (dv 7) Ab) (Ac (dv 7) Ab))) Ab) (Ad (Ar 8 GD.nd (Lg Ae GM_leaves (hr.mono (by decide)) (dv 3) (Aa (dv 7) Af))) (Ai (Aq (MJ (Qg T.z_isinstance T.z_bool Q8 (dv 8)) (JV (Kh hr.units (dv 8) (Kh hr.units (Ah Ae G__law_moved (hr.mono (by decide)) rfl (Aa (dv 2) (Aa (dv 7) Af))) (dv 2)))))))) Az) (Ai (Aq (MJ (Ah Ae G__law_refused (hr.mono (by decide)) rfl (Aa (Ah Ae G__law_caught (hr.mono (by decide)) rfl (Aa (dv 3) (Aa (dv 7) Af))) (Aa (dv 7) Af))) (JV (AfH (Lg Ae GM_leaves (hr.mono (by decide)) (dv 3) (Aa (BW (Aa Ab (Aa Ab (Aa Ab (Aa Ab Af))))) Af)) Jq)))))))))))), fun ds Q h => ?_⟩⟩
  obtain ⟨ns, rfl, ⟨hn, hB⟩, q⟩ := h
  have hn : ns.length ≤ 63 := hn
  have hB : ∀ n ∈ ns, Bt 1048576 n := hB
  have q' : Q (.bl true) := q _ rfl
  walk_at "go"
  refine Ia ns 0 (by decide) (Bw _ trivial ?_)
  rintro _ ⟨n, rfl, hBar⟩
  refine Ia ns 1 (by decide) (Ia ns 2 (by decide) (Bw (n, _, _) hBar ?_))
  rintro _ ⟨f, rfl, hf, hmf, hk⟩
  have hmf : meas f = n := hmf
  subst hmf
  have hf15 := hf.le (m := 1500) (by decide)
  refine Bw f ⟨hf15, hk⟩ ?_
  rintro _ ho
  obtain ⟨c, l, hc, rfl, hl⟩ := Vi ho
  obtain ⟨cs, e, hcs, hme⟩ := Wl ns (some 3) (some 63)
  walk_at "rd"
  rw [e]
  have hwb : ∀ n ∈ cs, Bt 1048576 n := fun n h => hB n (hme n h)
  refine Abi (ups 0 (cs.length / 3)) (fun R hR => ?_) (fun i ρ => ∃ a b d, ρ = [some (.is (.lst (ns.map Dt.int))), some (.is (.int (meas f))), some (.is (t3 f)), some (.is (Mf c f l)), some (.is (.lst (cs.map Dt.int))), a, b, d, none]) ⟨_, _, _, rfl⟩ ?_ ?_
  · walk_at "rd"
    have e3 : ((cs.length : Int).fdiv 3).toNat = cs.length / 3 := by rw [Int.fdiv_eq_ediv_of_nonneg _ (by decide)]; omega
    rw [e3]
    refine ⟨⟨by decide, by decide⟩, ⟨?_, ?_⟩, hR⟩
    · rw [Int.fdiv_eq_ediv_of_nonneg _ (by decide)]; omega
    · rw [Int.fdiv_eq_ediv_of_nonneg _ (by decide)]; omega
  · rintro i d _ hi ⟨a, b, d, rfl⟩
    obtain ⟨hi, rfl⟩ := PK hi
    have h3 : Bt 2 3 := Bt.of_abs (by decide)
    have hib : Bt 10 (0 + (i : Int)) := Bt.of (by omega) (by omega)
    dsimp only [MK, List.set_cons_zero, List.set_cons_succ]
    refine Ac4 ?_
    dsimp only [dCall, Wf, Aca, TX, AaM, dOp, dI, dI0, dC, Tn, AcQ, AdM, List.getElem?_cons_zero, List.getElem?_cons_succ, List.set_cons_zero, List.set_cons_succ]
    refine ⟨by walk_at "mul", by walk_at "mul", ?_⟩
    obtain ⟨p, ep, ⟨m1, m2, m3⟩, e0⟩ := Agt cs i (by omega)
    rw [ep]
    refine Bw (p, f) ⟨⟨hwb _ m1, hwb _ m2, hwb _ m3⟩, hf⟩ ?_
    rintro _ ⟨h, rfl, hh, ht⟩
    have ht : p.1.fmod 5 = 4 → ∃ t : I4, det t = 1 ∧ mov f t = h := ht
    walk_at "rd"
    refine ⟨h3.mulOk hib, ?_⟩
    rw [Ow (k := 3 * (0 + (i : Int))) (by omega) (by omega), show (3 * (0 + (i : Int))).toNat = 3 * i by omega, ← e0]
    walk_at "rd"
    refine ⟨by decide, Al ((c, l), f, h, _) ⟨hc, hl, hf, hh, fun z => ht (of_decide_eq_true z)⟩ (GQ rfl ⟨_, _, _, rfl⟩)⟩
  · rintro _ ⟨a, b, d, rfl⟩
    walk_at "rd"
    have hmem : c ∈ [Str.ofString "Bowl", Str.ofString "Saddle"] := by rcases hc with e | e <;> rw [e] <;> simp
    refine Ia ns 1 (by decide) (Bw _ (AcU hB _) ?_)
    rintro _ ⟨x, rfl, hx⟩
    refine Ia ns 2 (by decide) ⟨by decide, Ia ns 0 (by decide) ⟨by decide, Bc (by decide), ?_⟩⟩
    have r1 := Br (ns.getD (Int.toNat 2) 0) (m := 19) (by decide)
    have r2 := Br (ns.getD (Int.toNat 0) 0) (m := 5) (by decide)
    have hu : Bt 5 ((ns.getD (Int.toNat 2) 0).fmod 19 - 9) := Bt.of (by omega) (by omega)
    have hv : Bt 3 ((ns.getD (Int.toNat 0) 0).fmod 5 - 2) := Bt.of (by omega) (by omega)
    generalize (ns.getD (Int.toNat 2) 0).fmod 19 - 9 = u at *
    generalize (ns.getD (Int.toNat 0) 0).fmod 5 - 2 = v at *
    have b4 : B4 210 (x, u, v, 1) := ⟨hx.le (by decide), hu.le (by decide), hv.le (by decide), Bt.one.le (by decide)⟩
    have ed : det (x, u, v, 1) = x - u * v := by show x * 1 - u * v = _; omega
    refine ⟨hu.mulOk hv, Hh (fun h => ?_) (fun h => ?_)⟩
    · have dt : det (x, u, v, 1) = 1 := by rw [ed]; exact of_decide_eq_true h
      refine ⟨⟨hmem, by decide⟩, Al (c, f, l, (x, u, v, 1)) ⟨⟨hc, hf15, b4.le (by decide)⟩, dt⟩ ?_⟩
      walk_at "rd"
      refine Al (f, (x, u, v, 1)) ⟨hf.le (by decide), b4.le (by decide)⟩ ?_
      walk_at "rd"
      have e9 : (decide ((mov f (x, u, v, 1)).1 = f.1) && (decide ((mov f (x, u, v, 1)).2.1 = f.2.1) && decide ((mov f (x, u, v, 1)).2.2 = f.2.2))) = decide (mov f (x, u, v, 1) = f) := by
        rw [← Bool.decide_and, ← Bool.decide_and]
        exact decide_eq_decide.mpr ⟨fun z => Prod.ext z.1 (Prod.ext z.2.1 z.2.2), fun z => by rw [z]; exact ⟨rfl, rfl, rfl⟩⟩
      rw [e9, beq_self_eq_true]
      exact q'
    · have dt : det (x, u, v, 1) ≠ 1 := fun z => h (decide_eq_true (by rw [← ed]; exact z))
      refine Al (c, f, l, (x, u, v, 1)) ⟨⟨hc, hf15, b4.le (by decide)⟩, dt⟩ (Al (x, u, v, 1) trivial ?_)
      walk_at "rd"
      refine ⟨⟨hmem, by decide⟩, Bc (by decide), Al (c, f, l, (1, 0, 0, 1)) ⟨⟨hc, hf15, ⟨Bt.one.le (by decide), Bt.zero.le (by decide), Bt.zero.le (by decide), Bt.one.le (by decide)⟩⟩, rfl⟩ ?_⟩
      have e9 : mov f (1, 0, 0, 1) = f := Di
      dsimp only
      rw [e9, decide_eq_true rfl]
      exact q'
end
noncomputable abbrev nF (K : PySem.W.Frag) (n : Str) (s : Stmt) : Prop := ∃ (f : Addr) (oc : Value) (od : Option Addr) (kV dc pm : Value) (an : Option Addr) (cd ct : Value) (sl : Array (Option Value)), PySem.W.nsIn K mainGlobals n = some (some (.ref f)) ∧ K.lookup f = some ⟨oc, od, .func (PySem.W.fnOf n n (CT s) (BZ s) (Ag s) .none kV dc pm an cd ct), sl⟩ ∧ PySem.W.codeIn K cd n = true ∧ PySem.W.keepIn K (.ref f) = true
theorem Adz {K : PySem.W.Frag} {n : Str} {s : Stmt} {f : Addr} {od an : Option Addr} {sl : Array (Option Value)} {oc kV dc pm cd ct : Value} (a : PySem.W.nsIn K mainGlobals n = some (some (.ref f))) (l : K.lookup f = some ⟨oc, od, .func (PySem.W.fnOf n n (CT s) (BZ s) (Ag s) .none kV dc pm an cd ct), sl⟩) (c : PySem.W.codeIn K cd n = true) (k : PySem.W.keepIn K (.ref f) = true) : nF K n s := ⟨f, oc, od, kV, dc, pm, an, cd, ct, sl, a, l, c, k⟩
theorem tM {K : PySem.W.Frag} {h : Heap} {mg : Str → Option Value} {n : Str} {s : Stmt} {ps : List Str} (X : K.In h) (G : h.Ns mainGlobals mg) (H : nF K n s)
    (hb : ∀ (kV doc pm : Value) (an : Option Addr) (cdv ct : Value) (us : List Value), us.length = ps.length → bindArgs (PySem.W.fnOf n n (CT s) (BZ s) (Ag s) .none kV doc pm an cdv ct) ⟨us, []⟩ = pure (ps.zip us)) : ∃ f fd, FnT K mg n s ps f fd := by
  obtain ⟨f, oc, od, kV, dc, pm, an, cd, ct, sl, a, l, c, k⟩ := H
  have F := HF (st := s) l c k
  exact ⟨_, _, F, PySem.W.mg_of X G a, F.binds hb⟩
set_option maxHeartbeats 8000000 in
theorem all_mk {l : PySem.W.OpenLaw} {w : World} {K : PySem.W.Frag} {h : Heap} {mg : Str → Option Value} {fa : Addr} (X : K.In h) (G : h.Ns mainGlobals mg) (hfa : mg "law" = some (.ref fa))
    (h0 : nF K "root" Hu)
    (h1 : nF K "is_square" DY)
    (h2 : nF K "check_at_most" Cd)
    (h3 : nF K "is_turn" Fe)
    (h4 : nF K "check_turn" BL)
    (h5 : nF K "put_behind" Cg)
    (h6 : nF K "back" JL)
    (h7 : nF K "measure" Cw)
    (h8 : nF K "value" Ib)
    (h9 : nF K "moved" Em)
    (h10 : nF K "middle" Gp)
    (h11 : nF K "shape" EY)
    (h12 : nF K "check_bowl" Dm)
    (h13 : nF K "stands_least" CK)
    (h14 : nF K "settled" Fg)
    (h15 : nF K "turn_lower" Dn)
    (h16 : nF K "check_saddle" BR)
    (h17 : nF K "stands_level" CQ)
    (h18 : nF K "turn_behind" Dc)
    (h19 : nF K "stop_behind" Cr)
    (h20 : nF K "eased" HN)
    (h21 : nF K "stops_round" Dd)
    (h22 : nF K "lowered" Fd)
    (h23 : nF K "shape_of" Dy)
    (h24 : nF K "way_between" Dg)
    (h25 : nF K "_law_cell" DP)
    (h26 : nF K "_law_wholes" Cu)
    (h27 : nF K "_law_value" Dk)
    (h28 : nF K "_law_moved" Ce)
    (h29 : nF K "_law_divisor" CG)
    (h30 : nF K "_law_bar" DN)
    (h31 : nF K "_law_form" DX)
    (h32 : nF K "_law_walks" Dp)
    (h33 : nF K "_law_number" Cq)
    (h34 : nF K "_law_strange" BP)
    (h35 : nF K "_law_caught" Df)
    (h36 : nF K "_law_refused" Cy)
    (h37 : nF K "_law_good" DR)
    (h38 : nF K "law" JB)
    (z_abs : PySem.W.nsIn K mainGlobals "abs" = some none)
    (z_bool : PySem.W.nsIn K mainGlobals "bool" = some none)
    (z_int : PySem.W.nsIn K mainGlobals "int" = some none)
    (z_isinstance : PySem.W.nsIn K mainGlobals "isinstance" = some none)
    (z_len : PySem.W.nsIn K mainGlobals "len" = some none)
    (z_max : PySem.W.nsIn K mainGlobals "max" = some none)
    (z_min : PySem.W.nsIn K mainGlobals "min" = some none)
    (z_range : PySem.W.nsIn K mainGlobals "range" = some none)
    (z_tuple : PySem.W.nsIn K mainGlobals "tuple" = some none)
    (z_ValueError : PySem.W.nsIn K mainGlobals "ValueError" = some none)
    {U_FormError NU_FormError : Addr} {nmU_FormError qU_FormError : Str} {bsU_FormError subU_FormError : List Value} {hdU_FormError abU_FormError : Bool} {snU_FormError : List Str} {colU_FormError : Option Bool} {ddU_FormError odU_FormError : Option Addr} {ka_FormError kb_FormError kc_FormError kd_FormError kf_FormError : Option Value} {idU_FormError : String} {ocU_FormError : Value} {es_FormError : Array DictEntry} {ep_FormError : Nat} {sl_FormError : Array (Option Value)}
    (aU_FormError : PySem.W.nsIn K mainGlobals "FormError" = some (some (.ref U_FormError)))
    (lU_FormError : K.lookup U_FormError = some (PySem.excClassObj nmU_FormError qU_FormError U_FormError NU_FormError bsU_FormError bmV hdU_FormError snU_FormError subU_FormError abU_FormError colU_FormError ddU_FormError ka_FormError kb_FormError kc_FormError kd_FormError kf_FormError idU_FormError))
    (lN_FormError : K.lookup NU_FormError = some ⟨ocU_FormError, odU_FormError, .dict es_FormError ep_FormError, sl_FormError⟩) (sk_FormError : AeC es_FormError = true) (ni_FormError : nsFind es_FormError "__init__" = none)
    {C_NoTurn N_NoTurn fI_NoTurn : Addr} {nm_NoTurn q_NoTurn : Str} {bs_NoTurn sub_NoTurn : List Value} {ab_NoTurn : Bool} {sn_NoTurn : List Str} {col_NoTurn : Option Bool} {dd_NoTurn odi_NoTurn ani_NoTurn : Option Addr} {xa_NoTurn xb_NoTurn xc_NoTurn xd_NoTurn xf_NoTurn : Option Value} {oci_NoTurn kVi_NoTurn dci_NoTurn pmi_NoTurn cdi_NoTurn cti_NoTurn : Value} {sli_NoTurn : Array (Option Value)}
    (aC_NoTurn : PySem.W.nsIn K mainGlobals "NoTurn" = some (some (.ref C_NoTurn)))
    (lC_NoTurn : K.lookup C_NoTurn = some (PySem.excClassObj nm_NoTurn q_NoTurn C_NoTurn N_NoTurn bs_NoTurn (.ref U_FormError :: bmV) true sn_NoTurn sub_NoTurn ab_NoTurn col_NoTurn dd_NoTurn xa_NoTurn xb_NoTurn xc_NoTurn xd_NoTurn xf_NoTurn "ValueError.__new__"))
    (kC_NoTurn : PySem.W.keepIn K (.ref C_NoTurn) = true) (sa_NoTurn : PySem.W.findIn K (.ref C_NoTurn) "__setattr__" = some (some (.builtin "object.__setattr__"))) (ga_NoTurn : PySem.W.findIn K (.ref C_NoTurn) "__getattribute__" = some (some (.builtin "BaseException.__getattribute__"))) (gh_NoTurn : PySem.W.findIn K (.ref C_NoTurn) "__getattr__" = some none)
    (cl_NoTurn : PySem.W.findIn K (.ref C_NoTurn) "__class__" = some (some (.builtin "object.__class__"))) (gg_NoTurn : PySem.W.specialIn K (.builtin "object.__class__") "__get__" = some (some (.builtin "getset_descriptor.__get__"))) (gt_NoTurn : PySem.W.takesIn K (.builtin "object.__class__") = some true)
    (hi_NoTurn : PySem.W.findIn K (.ref C_NoTurn) "__init__" = some (some (.ref fI_NoTurn))) (hf_NoTurn : PySem.W.typeIn K (.ref fI_NoTurn) = some (.type "function"))
    (lI_NoTurn : K.lookup fI_NoTurn = some ⟨oci_NoTurn, odi_NoTurn, .func (PySem.W.fnOf "__init__" "NoTurn.__init__" (CT Fp) (BZ Fp) (Ag Fp) .none kVi_NoTurn dci_NoTurn pmi_NoTurn ani_NoTurn cdi_NoTurn cti_NoTurn), sli_NoTurn⟩) (cI_NoTurn : PySem.W.codeIn K cdi_NoTurn "NoTurn.__init__" = true) (kI_NoTurn : PySem.W.keepIn K (.ref fI_NoTurn) = true)
    (tk_NoTurn_turn : PySem.W.takerIn K C_NoTurn "turn" = some none) (nf_NoTurn_turn : PySem.W.findIn K (.ref C_NoTurn) "turn" = some none)
    {CS_Shape gS_Shape : Addr} {odS_Shape anS_Shape : Option Addr} {slS_Shape : Array (Option Value)} {ocS_Shape kVS_Shape dcS_Shape pmS_Shape cdS_Shape ctS_Shape : Value}
    (aS_Shape : PySem.W.nsIn K mainGlobals "Shape" = some (some (.ref CS_Shape))) (sS_Shape : PySem.W.specialIn K (.ref CS_Shape) "__getattribute__" = some (some (.builtin "type.__getattribute__"))) (rS_Shape : PySem.W.readsIn K CS_Shape (.type "type") = true) (fS_Shape : PySem.W.findCls K (.ref CS_Shape) (.type "type") "__init__" = some (.val (.ref gS_Shape)))
    (lS_Shape : K.lookup gS_Shape = some ⟨ocS_Shape, odS_Shape, .func (PySem.W.fnOf "__init__" "Shape.__init__" (CT Gu) (BZ Gu) (Ag Gu) .none kVS_Shape dcS_Shape pmS_Shape anS_Shape cdS_Shape ctS_Shape), slS_Shape⟩) (cS_Shape : PySem.W.codeIn K cdS_Shape "Shape.__init__" = true) (kS_Shape : PySem.W.keepIn K (.ref gS_Shape) = true)
    {CO_Bowl fO_Bowl : Addr} {odO_Bowl anO_Bowl : Option Addr} {slO_Bowl : Array (Option Value)} {ocO_Bowl kVO_Bowl dcO_Bowl pmO_Bowl cdO_Bowl ctO_Bowl : Value}
    (aO_Bowl : PySem.W.nsIn K mainGlobals "Bowl" = some (some (.ref CO_Bowl))) (mO_Bowl : PySem.W.makesIn K CO_Bowl = true) (iO_Bowl : PySem.W.findIn K (.ref CO_Bowl) "__init__" = some (some (.ref fO_Bowl))) (nO_Bowl : PySem.W.isFn K (.ref fO_Bowl) = true) (kO_Bowl : PySem.W.keepIn K (.ref CO_Bowl) = true)
    (pgO_Bowl : PySem.W.plainGet K CO_Bowl Str.empty = true) (hdO_Bowl : PySem.W.hasDictIn K CO_Bowl = true) (poO_Bowl : PySem.W.plainOver K CO_Bowl = true) (saO_Bowl : PySem.W.findIn K (.ref CO_Bowl) "__setattr__" = some (some (.builtin "object.__setattr__")))
    (clO_Bowl : PySem.W.findIn K (.ref CO_Bowl) "__class__" = some (some (.builtin "object.__class__"))) (gg1_Bowl : PySem.W.specialIn K (.builtin "object.__class__") "__get__" = some (some (.builtin "getset_descriptor.__get__"))) (gt1_Bowl : PySem.W.takesIn K (.builtin "object.__class__") = some true) (mrO_Bowl : PySem.W.mroIn K CO_Bowl (.type "object") = some true)
    (lO_Bowl : K.lookup fO_Bowl = some ⟨ocO_Bowl, odO_Bowl, .func (PySem.W.fnOf "__init__" "Bowl.__init__" (CT HW) (BZ HW) (Ag HW) .none kVO_Bowl dcO_Bowl pmO_Bowl anO_Bowl cdO_Bowl ctO_Bowl), slO_Bowl⟩) (cO_Bowl : PySem.W.codeIn K cdO_Bowl "Bowl.__init__" = true) (kfO_Bowl : PySem.W.keepIn K (.ref fO_Bowl) = true)
    (nfO_Bowl_form : PySem.W.findIn K (.ref CO_Bowl) "form" = some none)
    (nfO_Bowl_measure : PySem.W.findIn K (.ref CO_Bowl) "measure" = some none)
    (nfO_Bowl_lowest : PySem.W.findIn K (.ref CO_Bowl) "lowest" = some none)
    {CO_Saddle fO_Saddle : Addr} {odO_Saddle anO_Saddle : Option Addr} {slO_Saddle : Array (Option Value)} {ocO_Saddle kVO_Saddle dcO_Saddle pmO_Saddle cdO_Saddle ctO_Saddle : Value}
    (aO_Saddle : PySem.W.nsIn K mainGlobals "Saddle" = some (some (.ref CO_Saddle))) (mO_Saddle : PySem.W.makesIn K CO_Saddle = true) (iO_Saddle : PySem.W.findIn K (.ref CO_Saddle) "__init__" = some (some (.ref fO_Saddle))) (nO_Saddle : PySem.W.isFn K (.ref fO_Saddle) = true) (kO_Saddle : PySem.W.keepIn K (.ref CO_Saddle) = true)
    (pgO_Saddle : PySem.W.plainGet K CO_Saddle Str.empty = true) (hdO_Saddle : PySem.W.hasDictIn K CO_Saddle = true) (poO_Saddle : PySem.W.plainOver K CO_Saddle = true) (saO_Saddle : PySem.W.findIn K (.ref CO_Saddle) "__setattr__" = some (some (.builtin "object.__setattr__")))
    (clO_Saddle : PySem.W.findIn K (.ref CO_Saddle) "__class__" = some (some (.builtin "object.__class__"))) (gg1_Saddle : PySem.W.specialIn K (.builtin "object.__class__") "__get__" = some (some (.builtin "getset_descriptor.__get__"))) (gt1_Saddle : PySem.W.takesIn K (.builtin "object.__class__") = some true) (mrO_Saddle : PySem.W.mroIn K CO_Saddle (.type "object") = some true)
    (lO_Saddle : K.lookup fO_Saddle = some ⟨ocO_Saddle, odO_Saddle, .func (PySem.W.fnOf "__init__" "Saddle.__init__" (CT Fl) (BZ Fl) (Ag Fl) .none kVO_Saddle dcO_Saddle pmO_Saddle anO_Saddle cdO_Saddle ctO_Saddle), slO_Saddle⟩) (cO_Saddle : PySem.W.codeIn K cdO_Saddle "Saddle.__init__" = true) (kfO_Saddle : PySem.W.keepIn K (.ref fO_Saddle) = true)
    (nfO_Saddle_form : PySem.W.findIn K (.ref CO_Saddle) "form" = some none)
    (nfO_Saddle_measure : PySem.W.findIn K (.ref CO_Saddle) "measure" = some none)
    (nfO_Saddle_lowest : PySem.W.findIn K (.ref CO_Saddle) "lowest" = some none)
    {gM_leaves : Addr} {odM_leaves anM_leaves : Option Addr} {slM_leaves : Array (Option Value)} {ocM_leaves kVM_leaves dcM_leaves pmM_leaves cdM_leaves ctM_leaves : Value}
    (fM_leaves_Bowl : PySem.W.findIn K (.ref CO_Bowl) "leaves" = some (some (.ref gM_leaves)))
    (fM_leaves_Saddle : PySem.W.findIn K (.ref CO_Saddle) "leaves" = some (some (.ref gM_leaves)))
    (nM_leaves : PySem.W.isFn K (.ref gM_leaves) = true) (lM_leaves : K.lookup gM_leaves = some ⟨ocM_leaves, odM_leaves, .func (PySem.W.fnOf "leaves" "Shape.leaves" (CT Fo) (BZ Fo) (Ag Fo) .none kVM_leaves dcM_leaves pmM_leaves anM_leaves cdM_leaves ctM_leaves), slM_leaves⟩) (cM_leaves : PySem.W.codeIn K cdM_leaves "Shape.leaves" = true) (kM_leaves : PySem.W.keepIn K (.ref gM_leaves) = true)
    {gM_way_to : Addr} {odM_way_to anM_way_to : Option Addr} {slM_way_to : Array (Option Value)} {ocM_way_to kVM_way_to dcM_way_to pmM_way_to cdM_way_to ctM_way_to : Value}
    (fM_way_to_Bowl : PySem.W.findIn K (.ref CO_Bowl) "way_to" = some (some (.ref gM_way_to)))
    (fM_way_to_Saddle : PySem.W.findIn K (.ref CO_Saddle) "way_to" = some (some (.ref gM_way_to)))
    (nM_way_to : PySem.W.isFn K (.ref gM_way_to) = true) (lM_way_to : K.lookup gM_way_to = some ⟨ocM_way_to, odM_way_to, .func (PySem.W.fnOf "way_to" "Shape.way_to" (CT Fj) (BZ Fj) (Ag Fj) .none kVM_way_to dcM_way_to pmM_way_to anM_way_to cdM_way_to ctM_way_to), slM_way_to⟩) (cM_way_to : PySem.W.codeIn K cdM_way_to "Shape.way_to" = true) (kM_way_to : PySem.W.keepIn K (.ref gM_way_to) = true)
    {A_Apart : Addr} {cd_Apart : ClassData} (aA_Apart : PySem.W.nsIn K mainGlobals "Apart" = some (some (.ref A_Apart))) (zA_Apart : PySem.W.clsIn K A_Apart = some cd_Apart) (tA_Apart : PySem.W.typeIn K (.ref A_Apart) = some (.type "type"))
    (m_NoTurn_Apart : PySem.W.mroIn K C_NoTurn (.ref A_Apart) = some false)
    {A_NoAnswer : Addr} {cd_NoAnswer : ClassData} (aA_NoAnswer : PySem.W.nsIn K mainGlobals "NoAnswer" = some (some (.ref A_NoAnswer))) (zA_NoAnswer : PySem.W.clsIn K A_NoAnswer = some cd_NoAnswer) (tA_NoAnswer : PySem.W.typeIn K (.ref A_NoAnswer) = some (.type "type"))
    (m_NoTurn_NoAnswer : PySem.W.mroIn K C_NoTurn (.ref A_NoAnswer) = some false)
    {A_NoMeasure : Addr} {cd_NoMeasure : ClassData} (aA_NoMeasure : PySem.W.nsIn K mainGlobals "NoMeasure" = some (some (.ref A_NoMeasure))) (zA_NoMeasure : PySem.W.clsIn K A_NoMeasure = some cd_NoMeasure) (tA_NoMeasure : PySem.W.typeIn K (.ref A_NoMeasure) = some (.type "type"))
    (m_NoTurn_NoMeasure : PySem.W.mroIn K C_NoTurn (.ref A_NoMeasure) = some false)
    {A_NoRoot : Addr} {cd_NoRoot : ClassData} (aA_NoRoot : PySem.W.nsIn K mainGlobals "NoRoot" = some (some (.ref A_NoRoot))) (zA_NoRoot : PySem.W.clsIn K A_NoRoot = some cd_NoRoot) (tA_NoRoot : PySem.W.typeIn K (.ref A_NoRoot) = some (.type "type"))
    (m_NoTurn_NoRoot : PySem.W.mroIn K C_NoTurn (.ref A_NoRoot) = some false)
    {A_NoShape : Addr} {cd_NoShape : ClassData} (aA_NoShape : PySem.W.nsIn K mainGlobals "NoShape" = some (some (.ref A_NoShape))) (zA_NoShape : PySem.W.clsIn K A_NoShape = some cd_NoShape) (tA_NoShape : PySem.W.typeIn K (.ref A_NoShape) = some (.type "type"))
    (m_NoTurn_NoShape : PySem.W.mroIn K C_NoTurn (.ref A_NoShape) = some false)
    {A_NotLevel : Addr} {cd_NotLevel : ClassData} (aA_NotLevel : PySem.W.nsIn K mainGlobals "NotLevel" = some (some (.ref A_NotLevel))) (zA_NotLevel : PySem.W.clsIn K A_NotLevel = some cd_NotLevel) (tA_NotLevel : PySem.W.typeIn K (.ref A_NotLevel) = some (.type "type"))
    (m_NoTurn_NotLevel : PySem.W.mroIn K C_NoTurn (.ref A_NotLevel) = some false)
    {A_NotOwn : Addr} {cd_NotOwn : ClassData} (aA_NotOwn : PySem.W.nsIn K mainGlobals "NotOwn" = some (some (.ref A_NotOwn))) (zA_NotOwn : PySem.W.clsIn K A_NotOwn = some cd_NotOwn) (tA_NotOwn : PySem.W.typeIn K (.ref A_NotOwn) = some (.type "type"))
    (m_NoTurn_NotOwn : PySem.W.mroIn K C_NoTurn (.ref A_NotOwn) = some false)
    {A_NotPlain : Addr} {cd_NotPlain : ClassData} (aA_NotPlain : PySem.W.nsIn K mainGlobals "NotPlain" = some (some (.ref A_NotPlain))) (zA_NotPlain : PySem.W.clsIn K A_NotPlain = some cd_NotPlain) (tA_NotPlain : PySem.W.typeIn K (.ref A_NotPlain) = some (.type "type"))
    (m_NoTurn_NotPlain : PySem.W.mroIn K C_NoTurn (.ref A_NotPlain) = some false)
    {A_Nought : Addr} {cd_Nought : ClassData} (aA_Nought : PySem.W.nsIn K mainGlobals "Nought" = some (some (.ref A_Nought))) (zA_Nought : PySem.W.clsIn K A_Nought = some cd_Nought) (tA_Nought : PySem.W.typeIn K (.ref A_Nought) = some (.type "type"))
    (m_NoTurn_Nought : PySem.W.mroIn K C_NoTurn (.ref A_Nought) = some false)
    {A_TooGreat : Addr} {cd_TooGreat : ClassData} (aA_TooGreat : PySem.W.nsIn K mainGlobals "TooGreat" = some (some (.ref A_TooGreat))) (zA_TooGreat : PySem.W.clsIn K A_TooGreat = some cd_TooGreat) (tA_TooGreat : PySem.W.typeIn K (.ref A_TooGreat) = some (.type "type"))
    (m_NoTurn_TooGreat : PySem.W.mroIn K C_NoTurn (.ref A_TooGreat) = some false)
    {C_SAME : Addr} {od_SAME : Option Addr} {sl_SAME : Array (Option Value)} {n_SAME : Nat} {t_SAME_0 : Tok} {t_SAME_1 : Tok} {t_SAME_2 : Tok} {t_SAME_3 : Tok}
    (a_SAME : PySem.W.nsIn K mainGlobals "SAME" = some (some (.ref C_SAME))) (l_SAME : K.lookup C_SAME = some ⟨.type "tuple", od_SAME, .seq #[.int (1) t_SAME_0, .int (0) t_SAME_1, .int (0) t_SAME_2, .int (1) t_SAME_3] n_SAME, sl_SAME⟩)
    {t_MOST_MEASURE : Tok} (a_MOST_MEASURE : PySem.W.nsIn K mainGlobals "MOST_MEASURE" = some (some (.int (4000) t_MOST_MEASURE)))
    : ∃ fd : FuncData, (∀ (s : Shared) (v : Value), BindsTo s fd ⟨[v], []⟩ [("_law_script", v)]) ∧ ∀ base : Heap, K.In base → base.Ns mainGlobals mg → Dl l.prog w K mg base CX0 14 fa fd ["_law_script"] (lSp K MN) := by
  obtain ⟨f38, oc38, od38, kV38, dc38, pm38, an38, cd38, ct38, sl38, a38, l38, c38, k38⟩ := h38
  have e := hfa.symm.trans (PySem.W.mg_of X G a38)
  cases e
  have F38 := HF (st := JB) l38 c38 k38
  have X_NoTurn : XC K C_NoTurn U_FormError := ⟨⟨_, _, _, _, _, _, _, _, _, _, _, _, _, _, lC_NoTurn⟩, ⟨_, _, _, _, _, _, _, _, _, lU_FormError, lN_FormError, sk_FormError, ni_FormError⟩, sa_NoTurn, ga_NoTurn, gh_NoTurn, cl_NoTurn, gg_NoTurn, gt_NoTurn⟩
  have FI_NoTurn := HF (st := Fp) lI_NoTurn cI_NoTurn kI_NoTurn
  have FS_Shape := HF (st := Gu) lS_Shape cS_Shape kS_Shape
  have FO_Bowl := HF (st := HW) lO_Bowl cO_Bowl kfO_Bowl
  have FO_Saddle := HF (st := Fl) lO_Saddle cO_Saddle kfO_Saddle
  have FM_leaves := HF (st := Fo) lM_leaves cM_leaves kM_leaves
  have FM_way_to := HF (st := Fj) lM_way_to cM_way_to kM_way_to
  have T : Txt K mg := {
    o_Bowl := ⟨_, _, _, ⟨⟨mO_Bowl, iO_Bowl, nO_Bowl, kO_Bowl⟩, aO_Bowl, PySem.W.mg_of X G aO_Bowl, ⟨pgO_Bowl, hdO_Bowl, poO_Bowl, saO_Bowl⟩, fun f hf => by simp only [List.mem_cons, List.not_mem_nil, or_false] at hf; rcases hf with hf | hf | hf <;> (subst hf; first | exact nfO_Bowl_form | exact nfO_Bowl_measure | exact nfO_Bowl_lowest)⟩, FO_Bowl, FO_Bowl.binds (ps := ["self", "form"]) fun _ _ _ _ _ _ us hl => match us, hl with | [_, _], _ => rfl⟩
    ic_Bowl := ⟨(fun C e => by rw [aO_Bowl] at e; cases e; exact clO_Bowl), gg1_Bowl, gt1_Bowl, (fun C e => by rw [aO_Bowl] at e; cases e; exact mrO_Bowl)⟩
    na_Bowl_form := fun C e => by rw [aO_Bowl] at e; cases e; exact nfO_Bowl_form
    na_Bowl_measure := fun C e => by rw [aO_Bowl] at e; cases e; exact nfO_Bowl_measure
    na_Bowl_lowest := fun C e => by rw [aO_Bowl] at e; cases e; exact nfO_Bowl_lowest
    o_Saddle := ⟨_, _, _, ⟨⟨mO_Saddle, iO_Saddle, nO_Saddle, kO_Saddle⟩, aO_Saddle, PySem.W.mg_of X G aO_Saddle, ⟨pgO_Saddle, hdO_Saddle, poO_Saddle, saO_Saddle⟩, fun f hf => by simp only [List.mem_cons, List.not_mem_nil, or_false] at hf; rcases hf with hf | hf | hf <;> (subst hf; first | exact nfO_Saddle_form | exact nfO_Saddle_measure | exact nfO_Saddle_lowest)⟩, FO_Saddle, FO_Saddle.binds (ps := ["self", "form"]) fun _ _ _ _ _ _ us hl => match us, hl with | [_, _], _ => rfl⟩
    ic_Saddle := ⟨(fun C e => by rw [aO_Saddle] at e; cases e; exact clO_Saddle), gg1_Saddle, gt1_Saddle, (fun C e => by rw [aO_Saddle] at e; cases e; exact mrO_Saddle)⟩
    na_Saddle_form := fun C e => by rw [aO_Saddle] at e; cases e; exact nfO_Saddle_form
    na_Saddle_measure := fun C e => by rw [aO_Saddle] at e; cases e; exact nfO_Saddle_measure
    na_Saddle_lowest := fun C e => by rw [aO_Saddle] at e; cases e; exact nfO_Saddle_lowest
    cm_Shape := ⟨_, _, ⟨⟨_, PySem.W.mg_of X G aS_Shape, sS_Shape, rS_Shape, fS_Shape⟩, kS_Shape⟩, FS_Shape, FS_Shape.binds (ps := ["self", "form", "lowest"]) fun _ _ _ _ _ _ us hl => match us, hl with | [_, _, _], _ => rfl⟩
    me_leaves := ⟨_, _, fun c hc => by simp only [List.mem_cons, List.not_mem_nil, or_false] at hc; rcases hc with hc | hc <;> (subst hc; intro C e; first | (rw [aO_Bowl] at e; cases e; exact ⟨fM_leaves_Bowl, nM_leaves, kM_leaves⟩) | (rw [aO_Saddle] at e; cases e; exact ⟨fM_leaves_Saddle, nM_leaves, kM_leaves⟩)), kM_leaves, FM_leaves, FM_leaves.binds (ps := ["self", "turn"]) fun _ _ _ _ _ _ us hl => match us, hl with | [_, _], _ => rfl⟩
    me_way_to := ⟨_, _, fun c hc => by simp only [List.mem_cons, List.not_mem_nil, or_false] at hc; rcases hc with hc | hc <;> (subst hc; intro C e; first | (rw [aO_Bowl] at e; cases e; exact ⟨fM_way_to_Bowl, nM_way_to, kM_way_to⟩) | (rw [aO_Saddle] at e; cases e; exact ⟨fM_way_to_Saddle, nM_way_to, kM_way_to⟩)), kM_way_to, FM_way_to, FM_way_to.binds (ps := ["self", "other"]) fun _ _ _ _ _ _ us hl => match us, hl with | [_, _], _ => rfl⟩
    x_NoTurn := ⟨_, _, _, _, aC_NoTurn, PySem.W.mg_of X G aC_NoTurn, kC_NoTurn, X_NoTurn, hi_NoTurn, hf_NoTurn, FI_NoTurn.binds (ps := ["self", "turn"]) fun _ _ _ _ _ _ us hl => match us, hl with | [_, _], _ => rfl, rfl, FI_NoTurn, fun f hf => by simp only [List.mem_cons, List.not_mem_nil, or_false] at hf; subst hf; exact tk_NoTurn_turn⟩
    un_NoTurn_FormError := Under.mk aC_NoTurn X_NoTurn (PySem.W.mg_of X G aU_FormError)
    nf_NoTurn_turn := Hg.mk aC_NoTurn nf_NoTurn_turn
    u_FormError := ⟨_, PySem.W.mg_of X G aU_FormError, _, _, _, _, _, _, _, _, _, _, _, _, _, _, _, _, lU_FormError⟩
    c_Apart := ⟨_, PySem.W.mg_of X G aA_Apart, DK.no aC_NoTurn X_NoTurn zA_Apart tA_Apart m_NoTurn_Apart⟩
    c_NoAnswer := ⟨_, PySem.W.mg_of X G aA_NoAnswer, DK.no aC_NoTurn X_NoTurn zA_NoAnswer tA_NoAnswer m_NoTurn_NoAnswer⟩
    c_NoMeasure := ⟨_, PySem.W.mg_of X G aA_NoMeasure, DK.no aC_NoTurn X_NoTurn zA_NoMeasure tA_NoMeasure m_NoTurn_NoMeasure⟩
    c_NoRoot := ⟨_, PySem.W.mg_of X G aA_NoRoot, DK.no aC_NoTurn X_NoTurn zA_NoRoot tA_NoRoot m_NoTurn_NoRoot⟩
    c_NoShape := ⟨_, PySem.W.mg_of X G aA_NoShape, DK.no aC_NoTurn X_NoTurn zA_NoShape tA_NoShape m_NoTurn_NoShape⟩
    c_NotLevel := ⟨_, PySem.W.mg_of X G aA_NotLevel, DK.no aC_NoTurn X_NoTurn zA_NotLevel tA_NotLevel m_NoTurn_NotLevel⟩
    c_NotOwn := ⟨_, PySem.W.mg_of X G aA_NotOwn, DK.no aC_NoTurn X_NoTurn zA_NotOwn tA_NotOwn m_NoTurn_NotOwn⟩
    c_NoTurn := ⟨_, PySem.W.mg_of X G aC_NoTurn, DK.self aC_NoTurn⟩
    c_NotPlain := ⟨_, PySem.W.mg_of X G aA_NotPlain, DK.no aC_NoTurn X_NoTurn zA_NotPlain tA_NotPlain m_NoTurn_NotPlain⟩
    c_Nought := ⟨_, PySem.W.mg_of X G aA_Nought, DK.no aC_NoTurn X_NoTurn zA_Nought tA_Nought m_NoTurn_Nought⟩
    c_TooGreat := ⟨_, PySem.W.mg_of X G aA_TooGreat, DK.no aC_NoTurn X_NoTurn zA_TooGreat tA_TooGreat m_NoTurn_TooGreat⟩
    z_ValueError := PySem.W.mg_none_of X G z_ValueError
    t_root := tM X G h0 (by walk_at "b1")
    t_is_square := tM X G h1 (by walk_at "b1")
    t_check_at_most := tM X G h2 (by walk_at "b2")
    t_is_turn := tM X G h3 (by walk_at "b1")
    t_check_turn := tM X G h4 (by walk_at "b1")
    t_put_behind := tM X G h5 (by walk_at "b2")
    t_back := tM X G h6 (by walk_at "b1")
    t_measure := tM X G h7 (by walk_at "b1")
    t_value := tM X G h8 (by walk_at "b2")
    t_moved := tM X G h9 (by walk_at "b2")
    t_middle := tM X G h10 (by walk_at "b3")
    t_shape := tM X G h11 (by walk_at "b1")
    t_check_bowl := tM X G h12 (by walk_at "b1")
    t_stands_least := tM X G h13 (by walk_at "b1")
    t_settled := tM X G h14 (by walk_at "b1")
    t_turn_lower := tM X G h15 (by walk_at "b1")
    t_check_saddle := tM X G h16 (by walk_at "b1")
    t_stands_level := tM X G h17 (by walk_at "b2")
    t_turn_behind := tM X G h18 (by walk_at "b2")
    t_stop_behind := tM X G h19 (by walk_at "b2")
    t_eased := tM X G h20 (by walk_at "b1")
    t_stops_round := tM X G h21 (by walk_at "b1")
    t_lowered := tM X G h22 (by walk_at "b1")
    t_shape_of := tM X G h23 (by walk_at "b1")
    t_way_between := tM X G h24 (by walk_at "b2")
    t__law_cell := tM X G h25 (by walk_at "b2")
    t__law_wholes := tM X G h26 (by walk_at "b2")
    t__law_value := tM X G h27 (by walk_at "b3")
    t__law_moved := tM X G h28 (by walk_at "b2")
    t__law_divisor := tM X G h29 (by walk_at "b2")
    t__law_bar := tM X G h30 (by walk_at "b1")
    t__law_form := tM X G h31 (by walk_at "b3")
    t__law_walks := tM X G h32 (by walk_at "b3")
    t__law_number := tM X G h33 (by walk_at "b1")
    t__law_strange := tM X G h34 (by walk_at "b2")
    t__law_caught := tM X G h35 (by walk_at "b2")
    t__law_refused := tM X G h36 (by walk_at "b2")
    t__law_good := tM X G h37 (by walk_at "b5")
    t_law := ⟨_, _, F38, PySem.W.mg_of X G a38, F38.binds (ps := ["_law_script"]) fun _ _ _ _ _ _ us hl => match us, hl with | [_], _ => rfl⟩
    z_abs := PySem.W.mg_none_of X G z_abs
    z_bool := PySem.W.mg_none_of X G z_bool
    z_int := PySem.W.mg_none_of X G z_int
    z_isinstance := PySem.W.mg_none_of X G z_isinstance
    z_len := PySem.W.mg_none_of X G z_len
    z_max := PySem.W.mg_none_of X G z_max
    z_min := PySem.W.mg_none_of X G z_min
    z_range := PySem.W.mg_none_of X G z_range
    z_tuple := PySem.W.mg_none_of X G z_tuple
    k_SAME := ⟨_, PySem.W.mg_of X G a_SAME, fun H => Ds.mpr ⟨_, [.int (1), .int (0), .int (0), .int (1)], rfl, .inr ⟨_, _, _, l_SAME, rfl, rfl, Bc (by show 4 ≤ 1000; decide), .cons ⟨_, rfl⟩ (.cons ⟨_, rfl⟩ (.cons ⟨_, rfl⟩ (.cons ⟨_, rfl⟩ (.nil))))⟩, RpL.cons (Bd.mpr rfl) (RpL.cons (Bd.mpr rfl) (RpL.cons (Bd.mpr rfl) (RpL.cons (Bd.mpr rfl) (RpL.nil))))⟩⟩
    m_MOST_MEASURE := ⟨_, PySem.W.mg_of X G a_MOST_MEASURE⟩
  }
  refine ⟨PySem.W.fnOf "law" "law" (CT JB) (BZ JB) (Ag JB) .none kV38 dc38 pm38 an38 cd38 ct38, fun s v => .of_eq rfl, fun base kb nb => ?_⟩
  have g_root := Abl l.prog w base T 
  have g_check_at_most := J1 l.prog w base T 
  have g_is_turn := Uc l.prog w base T 
  have g_put_behind := Nx l.prog w base T 
  have g_measure := S7 l.prog w base T 
  have g_value := Xx l.prog w base T 
  have g_middle := Xb l.prog w base T 
  have g_stands_least := Kz l.prog w base T 
  have g_turn_lower := Nr l.prog w base T 
  have g_stands_level := Kv l.prog w base T 
  have g_turn_behind := Mr l.prog w base T 
  have g__law_cell := Pz l.prog w base T 
  have g__law_wholes := Ls l.prog w base T 
  have g__law_value := Ni l.prog w base T 
  have g__law_divisor := Ku l.prog w base T 
  have g__law_bar := Rr l.prog w base T 
  have g__law_number := Nb l.prog w base T 
  have g__law_refused := KH l.prog w base T 
  have gc_Shape := Xr l.prog w base T g_measure
  have g_is_square := Qf l.prog w base T g_root
  have g__law_moved := Nv l.prog w base T g__law_value
  have g__law_form := O7 l.prog w base T g__law_divisor
  have gx_check_turn := M4 l.prog w base T g_is_turn
  have g_check_turn := Np gx_check_turn
  have g_shape := Y5 l.prog w base T g_measure g_is_square
  have g__law_walks := Nh l.prog w base T g__law_moved g__law_wholes
  have g__law_strange := KC l.prog w base T g__law_moved g__law_number
  have g_back := AaV l.prog w base T g_check_turn
  have gx_moved := W2 l.prog w base T gx_check_turn g_value g_middle
  have g_moved := YK gx_moved
  have g_check_bowl := Nm l.prog w base T g_shape
  have g_check_saddle := Kr l.prog w base T g_check_at_most g_shape g_measure
  have gmx_leaves := Ry l.prog w base T gx_moved
  have gm_leaves := Sv gmx_leaves
  have g_settled := SX l.prog w base T g_check_bowl g_stands_least g_turn_lower g_moved g_put_behind
  have g_stop_behind := Lj l.prog w base T g_turn_behind g_moved g_put_behind
  have g_way_between := M8 l.prog w base T g_put_behind g_back
  have gi_Bowl := Aaj l.prog w base T gc_Shape g_settled
  have g_eased := ZG l.prog w base T g_check_saddle g_root g_measure g_stands_level g_stop_behind
  have g__law_caught := Lw l.prog w base T gmx_leaves
  have g_stops_round := MP l.prog w base T g_root g_eased g_stop_behind g_measure
  have g_lowered := Tq l.prog w base T g_check_saddle g_stops_round
  have gi_Saddle := Tt l.prog w base T gc_Shape g_lowered
  have g_shape_of := Rv l.prog w base T gi_Bowl gi_Saddle g_shape
  have gm_way_to := RK l.prog w base T g_measure g_shape g_way_between g_shape_of
  have g__law_good := PJ l.prog w base T gm_way_to g__law_walks
  have g_law := AdY l.prog w base T gm_leaves g__law_bar g__law_form g_shape_of g__law_cell g__law_strange g__law_number g__law_refused g__law_good g__law_caught g__law_moved
  obtain ⟨f, fd, FT, GG⟩ := g_law
  have e1 := FT.mg.symm.trans (PySem.W.mg_of X G a38)
  cases e1
  have e2 := FT.fn.uniq F38
  subst e2
  exact GG
theorem walk {l : PySem.W.OpenLaw} {q : Program} {loose : List Str} {XP : (Str → Option Value) → Heap → Prop} {YP : World → Heap → Prop} {d : DefRec} {K : Params → PySem.W.Frag} (hn : l.most = some 63) (hdf : d.params.defaults = [])
    (hY : ∀ (w : World) (h : Heap), YP w h → (K w.params).In h)
    (F : ∀ (w : World) (mg : Str → Option Value) (fa : Addr) (h : Heap), (K w.params).In h → h.Ns mainGlobals mg → mg d.name = some (.ref fa) →
      ∃ fd : FuncData, (∀ (s : Shared) (u : Value), BindsTo s fd ⟨[u], []⟩ [("_law_script", u)]) ∧ ∀ base : Heap, (K w.params).In base → base.Ns mainGlobals mg → Dl l.prog w (K w.params) mg base CX0 14 fa fd ["_law_script"] (lSp (K w.params) MN)) :
    PySem.W.WalkO q loose XP YP l.row.toRowW d [] (fun f vs => PySem.call f vs) :=
  L2.Zm (k := 14) (x := "_law_script") hn hdf ⟨rfl, by decide, by decide⟩ hY F
end My
open PySem PySem.W PyProof.Rows
local macro_rules | `(tactic| walk_at "nF") => `(tactic| (refine' My.Adz ?qa ?ql ?qc ?qk; (case qa => k_is); (case ql => k_is); (case qc => k_is); (case qk => k_is)))
theorem My.hFk {K : PySem.W.Frag} {n : PySem.Str} {s : PySem.Stmt} (f : PySem.Addr) (m : String) (t c : Nat) (a : PySem.W.nsIn K PySem.mainGlobals n = some (some (.ref f)) := by kernel_rfl) (l : K.lookup f = some ⟨.type "function", none, .func (PySem.W.fnOf n n (L2.CT s) (L2.BZ s) (L2.Ag s) .none .none .none (.str (.ofString m) t) none (.ref c) .none), #[]⟩ := by kernel_rfl) (d : PySem.W.codeIn K (.ref c) n = true := by kernel_rfl) (k : PySem.W.keepIn K (.ref f) = true := by kernel_rfl) : My.nF K n s := My.Adz a l d k
theorem My.hF0 (P : PySem.Params) : My.nF (My.KK P) "root" My.Hu := My.hFk 236 "formcycle.wholes" 473 235
theorem My.hF1 (P : PySem.Params) : My.nF (My.KK P) "is_square" My.DY := My.hFk 243 "formcycle.wholes" 473 242
theorem My.hF2 (P : PySem.Params) : My.nF (My.KK P) "check_at_most" My.Cd := My.hFk 250 "formcycle.wholes" 473 249
theorem My.hF3 (P : PySem.Params) : My.nF (My.KK P) "is_turn" My.Fe := My.hFk 258 "formcycle.turns" 500 257
theorem My.hF4 (P : PySem.Params) : My.nF (My.KK P) "check_turn" My.BL := My.hFk 265 "formcycle.turns" 500 264
theorem My.hF5 (P : PySem.Params) : My.nF (My.KK P) "put_behind" My.Cg := My.hFk 272 "formcycle.turns" 500 271
theorem My.hF6 (P : PySem.Params) : My.nF (My.KK P) "back" My.JL := My.hFk 279 "formcycle.turns" 500 278
theorem My.hF7 (P : PySem.Params) : My.nF (My.KK P) "measure" My.Cw := My.hFk 286 "formcycle.forms" 536 285
theorem My.hF8 (P : PySem.Params) : My.nF (My.KK P) "value" My.Ib := My.hFk 293 "formcycle.forms" 536 292
theorem My.hF9 (P : PySem.Params) : My.nF (My.KK P) "moved" My.Em := My.hFk 300 "formcycle.forms" 536 299
theorem My.hF10 (P : PySem.Params) : My.nF (My.KK P) "middle" My.Gp := My.hFk 307 "formcycle.forms" 536 306
theorem My.hF11 (P : PySem.Params) : My.nF (My.KK P) "shape" My.EY := My.hFk 314 "formcycle.forms" 536 313
theorem My.hF12 (P : PySem.Params) : My.nF (My.KK P) "check_bowl" My.Dm := My.hFk 321 "formcycle.bowls" 583 320
theorem My.hF13 (P : PySem.Params) : My.nF (My.KK P) "stands_least" My.CK := My.hFk 328 "formcycle.bowls" 583 327
theorem My.hF14 (P : PySem.Params) : My.nF (My.KK P) "settled" My.Fg := My.hFk 335 "formcycle.bowls" 583 334
theorem My.hF15 (P : PySem.Params) : My.nF (My.KK P) "turn_lower" My.Dn := My.hFk 342 "formcycle.bowls" 583 341
theorem My.hF16 (P : PySem.Params) : My.nF (My.KK P) "check_saddle" My.BR := My.hFk 349 "formcycle.saddles" 619 348
theorem My.hF17 (P : PySem.Params) : My.nF (My.KK P) "stands_level" My.CQ := My.hFk 356 "formcycle.saddles" 619 355
theorem My.hF18 (P : PySem.Params) : My.nF (My.KK P) "turn_behind" My.Dc := My.hFk 363 "formcycle.saddles" 619 362
theorem My.hF19 (P : PySem.Params) : My.nF (My.KK P) "stop_behind" My.Cr := My.hFk 370 "formcycle.saddles" 619 369
theorem My.hF20 (P : PySem.Params) : My.nF (My.KK P) "eased" My.HN := My.hFk 377 "formcycle.saddles" 619 376
theorem My.hF21 (P : PySem.Params) : My.nF (My.KK P) "stops_round" My.Dd := My.hFk 384 "formcycle.saddles" 619 383
theorem My.hF22 (P : PySem.Params) : My.nF (My.KK P) "lowered" My.Fd := My.hFk 391 "formcycle.saddles" 619 390
theorem My.hF23 (P : PySem.Params) : My.nF (My.KK P) "shape_of" My.Dy := My.hFk 478 "formcycle.shapes" 686 477
theorem My.hF24 (P : PySem.Params) : My.nF (My.KK P) "way_between" My.Dg := My.hFk 485 "formcycle.shapes" 686 484
theorem My.hF25 (P : PySem.Params) : My.nF (My.KK P) "_law_cell" My.DP := My.hFk 492 "law_formcycle_k37_no_way" 806 491
theorem My.hF26 (P : PySem.Params) : My.nF (My.KK P) "_law_wholes" My.Cu := My.hFk 497 "law_formcycle_k37_no_way" 806 496
theorem My.hF27 (P : PySem.Params) : My.nF (My.KK P) "_law_value" My.Dk := My.hFk 504 "law_formcycle_k37_no_way" 806 503
theorem My.hF28 (P : PySem.Params) : My.nF (My.KK P) "_law_moved" My.Ce := My.hFk 511 "law_formcycle_k37_no_way" 806 510
theorem My.hF29 (P : PySem.Params) : My.nF (My.KK P) "_law_divisor" My.CG := My.hFk 518 "law_formcycle_k37_no_way" 806 517
theorem My.hF30 (P : PySem.Params) : My.nF (My.KK P) "_law_bar" My.DN := My.hFk 523 "law_formcycle_k37_no_way" 806 522
theorem My.hF31 (P : PySem.Params) : My.nF (My.KK P) "_law_form" My.DX := My.hFk 530 "law_formcycle_k37_no_way" 806 529
theorem My.hF32 (P : PySem.Params) : My.nF (My.KK P) "_law_walks" My.Dp := My.hFk 537 "law_formcycle_k37_no_way" 806 536
theorem My.hF33 (P : PySem.Params) : My.nF (My.KK P) "_law_number" My.Cq := My.hFk 544 "law_formcycle_k37_no_way" 806 543
theorem My.hF34 (P : PySem.Params) : My.nF (My.KK P) "_law_strange" My.BP := My.hFk 549 "law_formcycle_k37_no_way" 806 548
theorem My.hF35 (P : PySem.Params) : My.nF (My.KK P) "_law_caught" My.Df := My.hFk 556 "law_formcycle_k37_no_way" 806 555
theorem My.hF36 (P : PySem.Params) : My.nF (My.KK P) "_law_refused" My.Cy := My.hFk 563 "law_formcycle_k37_no_way" 806 562
theorem My.hF37 (P : PySem.Params) : My.nF (My.KK P) "_law_good" My.DR := My.hFk 570 "law_formcycle_k37_no_way" 806 569
theorem My.hF38 (P : PySem.Params) : My.nF (My.KK P) "law" My.JB := My.hFk 577 "law_formcycle_k37_no_way" 806 576
set_option maxRecDepth 100000 in
set_option maxHeartbeats 0 in
theorem PySem.Challenge.cw_formcycle_k37_no_way_holds : PySem.Challenge.rw_formcycle_k37_no_way.Holds := by
  w_on
  refine holds_law My.said0 fun said => ?_
  refine holds_open (r := PySem.Challenge.rw_formcycle_k37_no_way.row) (q := My.vw) (loose := []) (Xt := fun s => xlAt My.vw [] s && recOk (RowW.records (PySem.Challenge.rw_formcycle_k37_no_way.row.toRowW)) s) (XP := XL My.vw []) (Yf := Hook.obs (kHook My.KK My.asK (fun _ => by kernel_rfl))) (Ya := Hook.val (kHook My.KK My.asK (fun _ => by kernel_rfl))) (YP := Hook.says (kHook My.KK My.asK (fun _ => by kernel_rfl))) (N := 5015) My.hl (Hook.of (kHook My.KK My.asK (fun _ => by kernel_rfl))) (Hook.keeps (kHook My.KK My.asK (fun _ => by kernel_rfl))) (fun s e => xl_of s (Bool.and_eq_true_iff.mp e).1) XL.keeps (by rfl) (by rfl) (by rfl) (fun s e => recFacts_of (Bool.and_eq_true_iff.mp e).2) (by rfl) said (by decide +kernel) ⟨rfl, rfl, rfl, rfl, rfl, by decide +kernel⟩ ?hw ?hc
  (case hw => w_witness2)
  k_fill
  refine My.walk (l := PySem.Challenge.rw_formcycle_k37_no_way) rfl rfl (fun w h Y => PySem.W.kIn_of Y) ?F
  case F =>
    intro w mg fa h KX G hmg
    refine' My.all_mk KX G hmg ?h0 ?h1 ?h2 ?h3 ?h4 ?h5 ?h6 ?h7 ?h8 ?h9 ?h10 ?h11 ?h12 ?h13 ?h14 ?h15 ?h16 ?h17 ?h18 ?h19 ?h20 ?h21 ?h22 ?h23 ?h24 ?h25 ?h26 ?h27 ?h28 ?h29 ?h30 ?h31 ?h32 ?h33 ?h34 ?h35 ?h36 ?h37 ?h38 ?z_abs ?z_bool ?z_int ?z_isinstance ?z_len ?z_max ?z_min ?z_range ?z_tuple ?z_ValueError ?aU_FormError ?lU_FormError ?lN_FormError ?sk_FormError ?ni_FormError ?aC_NoTurn ?lC_NoTurn ?kC_NoTurn ?sa_NoTurn ?ga_NoTurn ?gh_NoTurn ?cl_NoTurn ?gg_NoTurn ?gt_NoTurn ?hi_NoTurn ?hf_NoTurn ?lI_NoTurn ?cI_NoTurn ?kI_NoTurn ?tk_NoTurn_turn ?nf_NoTurn_turn ?aS_Shape ?sS_Shape ?rS_Shape ?fS_Shape ?lS_Shape ?cS_Shape ?kS_Shape ?aO_Bowl ?mO_Bowl ?iO_Bowl ?nO_Bowl ?kO_Bowl ?pgO_Bowl ?hdO_Bowl ?poO_Bowl ?saO_Bowl ?clO_Bowl ?gg1_Bowl ?gt1_Bowl ?mrO_Bowl ?lO_Bowl ?cO_Bowl ?kfO_Bowl ?nfO_Bowl_form ?nfO_Bowl_measure ?nfO_Bowl_lowest ?aO_Saddle ?mO_Saddle ?iO_Saddle ?nO_Saddle ?kO_Saddle ?pgO_Saddle ?hdO_Saddle ?poO_Saddle ?saO_Saddle ?clO_Saddle ?gg1_Saddle ?gt1_Saddle ?mrO_Saddle ?lO_Saddle ?cO_Saddle ?kfO_Saddle ?nfO_Saddle_form ?nfO_Saddle_measure ?nfO_Saddle_lowest ?fM_leaves_Bowl ?fM_leaves_Saddle ?nM_leaves ?lM_leaves ?cM_leaves ?kM_leaves ?fM_way_to_Bowl ?fM_way_to_Saddle ?nM_way_to ?lM_way_to ?cM_way_to ?kM_way_to ?aA_Apart ?zA_Apart ?tA_Apart ?m_NoTurn_Apart ?aA_NoAnswer ?zA_NoAnswer ?tA_NoAnswer ?m_NoTurn_NoAnswer ?aA_NoMeasure ?zA_NoMeasure ?tA_NoMeasure ?m_NoTurn_NoMeasure ?aA_NoRoot ?zA_NoRoot ?tA_NoRoot ?m_NoTurn_NoRoot ?aA_NoShape ?zA_NoShape ?tA_NoShape ?m_NoTurn_NoShape ?aA_NotLevel ?zA_NotLevel ?tA_NotLevel ?m_NoTurn_NotLevel ?aA_NotOwn ?zA_NotOwn ?tA_NotOwn ?m_NoTurn_NotOwn ?aA_NotPlain ?zA_NotPlain ?tA_NotPlain ?m_NoTurn_NotPlain ?aA_Nought ?zA_Nought ?tA_Nought ?m_NoTurn_Nought ?aA_TooGreat ?zA_TooGreat ?tA_TooGreat ?m_NoTurn_TooGreat ?a_SAME ?l_SAME ?a_MOST_MEASURE
    (case h0 => exact My.hF0 _)
    (case h1 => exact My.hF1 _)
    (case h2 => exact My.hF2 _)
    (case h3 => exact My.hF3 _)
    (case h4 => exact My.hF4 _)
    (case h5 => exact My.hF5 _)
    (case h6 => exact My.hF6 _)
    (case h7 => exact My.hF7 _)
    (case h8 => exact My.hF8 _)
    (case h9 => exact My.hF9 _)
    (case h10 => exact My.hF10 _)
    (case h11 => exact My.hF11 _)
    (case h12 => exact My.hF12 _)
    (case h13 => exact My.hF13 _)
    (case h14 => exact My.hF14 _)
    (case h15 => exact My.hF15 _)
    (case h16 => exact My.hF16 _)
    (case h17 => exact My.hF17 _)
    (case h18 => exact My.hF18 _)
    (case h19 => exact My.hF19 _)
    (case h20 => exact My.hF20 _)
    (case h21 => exact My.hF21 _)
    (case h22 => exact My.hF22 _)
    (case h23 => exact My.hF23 _)
    (case h24 => exact My.hF24 _)
    (case h25 => exact My.hF25 _)
    (case h26 => exact My.hF26 _)
    (case h27 => exact My.hF27 _)
    (case h28 => exact My.hF28 _)
    (case h29 => exact My.hF29 _)
    (case h30 => exact My.hF30 _)
    (case h31 => exact My.hF31 _)
    (case h32 => exact My.hF32 _)
    (case h33 => exact My.hF33 _)
    (case h34 => exact My.hF34 _)
    (case h35 => exact My.hF35 _)
    (case h36 => exact My.hF36 _)
    (case h37 => exact My.hF37 _)
    (case h38 => exact My.hF38 _)
    (case z_abs => as_aux_lemma => k_is)
    (case z_bool => as_aux_lemma => k_is)
    (case z_int => as_aux_lemma => k_is)
    (case z_isinstance => as_aux_lemma => k_is)
    (case z_len => as_aux_lemma => k_is)
    (case z_max => as_aux_lemma => k_is)
    (case z_min => as_aux_lemma => k_is)
    (case z_range => as_aux_lemma => k_is)
    (case z_tuple => as_aux_lemma => k_is)
    (case z_ValueError => as_aux_lemma => k_is)
    (case aU_FormError => as_aux_lemma => k_is)
    (case lU_FormError => as_aux_lemma => k_is)
    (case lN_FormError => as_aux_lemma => k_is)
    (case sk_FormError => rfl)
    (case ni_FormError => rfl)
    (case aC_NoTurn => as_aux_lemma => k_is)
    (case lC_NoTurn => as_aux_lemma => k_is)
    (case kC_NoTurn => as_aux_lemma => k_is)
    (case sa_NoTurn => as_aux_lemma => k_is)
    (case ga_NoTurn => as_aux_lemma => k_is)
    (case gh_NoTurn => as_aux_lemma => k_is)
    (case cl_NoTurn => as_aux_lemma => k_is)
    (case gg_NoTurn => as_aux_lemma => k_is)
    (case gt_NoTurn => as_aux_lemma => k_is)
    (case hi_NoTurn => as_aux_lemma => k_is)
    (case hf_NoTurn => as_aux_lemma => k_is)
    (case lI_NoTurn => as_aux_lemma => k_is)
    (case cI_NoTurn => as_aux_lemma => k_is)
    (case kI_NoTurn => as_aux_lemma => k_is)
    (case tk_NoTurn_turn => as_aux_lemma => k_is)
    (case nf_NoTurn_turn => as_aux_lemma => k_is)
    (case aS_Shape => as_aux_lemma => k_is)
    (case sS_Shape => as_aux_lemma => k_is)
    (case rS_Shape => as_aux_lemma => k_is)
    (case fS_Shape => as_aux_lemma => k_is)
    (case lS_Shape => as_aux_lemma => k_is)
    (case cS_Shape => as_aux_lemma => k_is)
    (case kS_Shape => as_aux_lemma => k_is)
    (case aO_Bowl => as_aux_lemma => k_is)
    (case mO_Bowl => as_aux_lemma => k_is)
    (case iO_Bowl => as_aux_lemma => k_is)
    (case nO_Bowl => as_aux_lemma => k_is)
    (case kO_Bowl => as_aux_lemma => k_is)
    (case pgO_Bowl => as_aux_lemma => k_is)
    (case hdO_Bowl => as_aux_lemma => k_is)
    (case poO_Bowl => as_aux_lemma => k_is)
    (case saO_Bowl => as_aux_lemma => k_is)
    (case clO_Bowl => as_aux_lemma => k_is)
    (case gg1_Bowl => as_aux_lemma => k_is)
    (case gt1_Bowl => as_aux_lemma => k_is)
    (case mrO_Bowl => as_aux_lemma => k_is)
    (case lO_Bowl => as_aux_lemma => k_is)
    (case cO_Bowl => as_aux_lemma => k_is)
    (case kfO_Bowl => as_aux_lemma => k_is)
    (case nfO_Bowl_form => as_aux_lemma => k_is)
    (case nfO_Bowl_measure => as_aux_lemma => k_is)
    (case nfO_Bowl_lowest => as_aux_lemma => k_is)
    (case aO_Saddle => as_aux_lemma => k_is)
    (case mO_Saddle => as_aux_lemma => k_is)
    (case iO_Saddle => as_aux_lemma => k_is)
    (case nO_Saddle => as_aux_lemma => k_is)
    (case kO_Saddle => as_aux_lemma => k_is)
    (case pgO_Saddle => as_aux_lemma => k_is)
    (case hdO_Saddle => as_aux_lemma => k_is)
    (case poO_Saddle => as_aux_lemma => k_is)
    (case saO_Saddle => as_aux_lemma => k_is)
    (case clO_Saddle => as_aux_lemma => k_is)
    (case gg1_Saddle => as_aux_lemma => k_is)
    (case gt1_Saddle => as_aux_lemma => k_is)
    (case mrO_Saddle => as_aux_lemma => k_is)
    (case lO_Saddle => as_aux_lemma => k_is)
    (case cO_Saddle => as_aux_lemma => k_is)
    (case kfO_Saddle => as_aux_lemma => k_is)
    (case nfO_Saddle_form => as_aux_lemma => k_is)
    (case nfO_Saddle_measure => as_aux_lemma => k_is)
    (case nfO_Saddle_lowest => as_aux_lemma => k_is)
    (case fM_leaves_Bowl => as_aux_lemma => k_is)
    (case fM_leaves_Saddle => as_aux_lemma => k_is)
    (case nM_leaves => as_aux_lemma => k_is)
    (case lM_leaves => as_aux_lemma => k_is)
    (case cM_leaves => as_aux_lemma => k_is)
    (case kM_leaves => as_aux_lemma => k_is)
    (case fM_way_to_Bowl => as_aux_lemma => k_is)
    (case fM_way_to_Saddle => as_aux_lemma => k_is)
    (case nM_way_to => as_aux_lemma => k_is)
    (case lM_way_to => as_aux_lemma => k_is)
    (case cM_way_to => as_aux_lemma => k_is)
    (case kM_way_to => as_aux_lemma => k_is)
    (case aA_Apart => as_aux_lemma => k_is)
    (case zA_Apart => as_aux_lemma => k_is)
    (case tA_Apart => as_aux_lemma => k_is)
    (case m_NoTurn_Apart => as_aux_lemma => k_is)
    (case aA_NoAnswer => as_aux_lemma => k_is)
    (case zA_NoAnswer => as_aux_lemma => k_is)
    (case tA_NoAnswer => as_aux_lemma => k_is)
    (case m_NoTurn_NoAnswer => as_aux_lemma => k_is)
    (case aA_NoMeasure => as_aux_lemma => k_is)
    (case zA_NoMeasure => as_aux_lemma => k_is)
    (case tA_NoMeasure => as_aux_lemma => k_is)
    (case m_NoTurn_NoMeasure => as_aux_lemma => k_is)
    (case aA_NoRoot => as_aux_lemma => k_is)
    (case zA_NoRoot => as_aux_lemma => k_is)
    (case tA_NoRoot => as_aux_lemma => k_is)
    (case m_NoTurn_NoRoot => as_aux_lemma => k_is)
    (case aA_NoShape => as_aux_lemma => k_is)
    (case zA_NoShape => as_aux_lemma => k_is)
    (case tA_NoShape => as_aux_lemma => k_is)
    (case m_NoTurn_NoShape => as_aux_lemma => k_is)
    (case aA_NotLevel => as_aux_lemma => k_is)
    (case zA_NotLevel => as_aux_lemma => k_is)
    (case tA_NotLevel => as_aux_lemma => k_is)
    (case m_NoTurn_NotLevel => as_aux_lemma => k_is)
    (case aA_NotOwn => as_aux_lemma => k_is)
    (case zA_NotOwn => as_aux_lemma => k_is)
    (case tA_NotOwn => as_aux_lemma => k_is)
    (case m_NoTurn_NotOwn => as_aux_lemma => k_is)
    (case aA_NotPlain => as_aux_lemma => k_is)
    (case zA_NotPlain => as_aux_lemma => k_is)
    (case tA_NotPlain => as_aux_lemma => k_is)
    (case m_NoTurn_NotPlain => as_aux_lemma => k_is)
    (case aA_Nought => as_aux_lemma => k_is)
    (case zA_Nought => as_aux_lemma => k_is)
    (case tA_Nought => as_aux_lemma => k_is)
    (case m_NoTurn_Nought => as_aux_lemma => k_is)
    (case aA_TooGreat => as_aux_lemma => k_is)
    (case zA_TooGreat => as_aux_lemma => k_is)
    (case tA_TooGreat => as_aux_lemma => k_is)
    (case m_NoTurn_TooGreat => as_aux_lemma => k_is)
    (case a_SAME => as_aux_lemma => k_is)
    (case l_SAME => as_aux_lemma => k_is)
    (case a_MOST_MEASURE => as_aux_lemma => k_is)
