import PyProof.Rows.All
import Wide.All
import OpenK.AllK
import Wide.FinOn
import Lean
import PyProof.EqAt
import PyProof.EqKinds
import PyProof.TupleCall
import PySem.Challenge.RW_formcycle_k46_classes
set_option Elab.async false
set_option linter.all false
set_option maxRecDepth 100000
set_option maxRecDepth 1000000
set_option maxHeartbeats 0
theorem My.said0 : PySem.Challenge.rw_formcycle_k46_classes.wellSaid = true := by kernel_rfl
namespace My
open PySem PySem.W
noncomputable def Q0 (tb : String → Option Builtin) (p : Program) (w : World) (m : Nat) (ann : Option Value) : Nat → SharedT → Thread → Option SharedT
  | 0, _, _ => none
  | k + 1, s, t => match through t with
    | true => some s
    | false => match stepOk m ann t with
      | false => none
      | true => match stepT (denote tb) p w s t with
        | some (s', t') => Q0 tb p w m ann k s' t'
        | none => none
theorem Ol {tb : String → Option Builtin} {p : Program} {w : World} {m : Nat} {ann : Option Value} : ∀ (k : Nat) {s r : SharedT} {t : Thread}, Q0 tb p w m ann k s t = some r → topRun tb p w m ann k s.abs t = some r.abs
  | 0, s, r, t, h => by cases h
  | k + 1, s, r, t, h => by
    unfold Q0 at h
    unfold topRun
    cases e : through t with
    | true =>
      rw [e] at h
      cases h
      rfl
    | false =>
      rw [e] at h
      dsimp only at h ⊢
      cases e2 : stepOk m ann t with
      | false => rw [e2] at h; cases h
      | true =>
        rw [e2] at h
        dsimp only at h ⊢
        cases e3 : stepT (denote tb) p w s t with
        | none => rw [e3] at h; cases h
        | some st =>
          obtain ⟨s', t'⟩ := st
          rw [e3] at h
          rw [stepT_spec e3]
          exact Ol k h
noncomputable def Aav : List Obj → Nat → BT → BT
  | [], _, t => t
  | o :: os, n, t => Aav os (n + 1) (t.ins n o)
noncomputable def Nj (w : World) (os : OsState) : SharedT := ⟨Aav (boot_heap w.params).objs.toList 0 .nil, (boot_heap w.params).objs.size, (boot_heap w.params).life, Array.mk [], boot_drawn, boot_toks, os⟩
noncomputable def Bk (w : World) (os : OsState) : Shared := ⟨boot_heap w.params, Array.mk [], boot_drawn, boot_toks, os⟩
noncomputable def stays (p : Program) (s₀ s₁ : Shared) : Bool := staticsOk (importedModules p.main.body) s₀.heap s₁.heap && namesBound p s₁.heap && gensDone s₁ && laidKept s₀.heap s₁.heap
theorem boot_abs : ∀ w os, (Nj w os).abs = Bk w os := fun w os => by kernel_rfl
theorem ZW {p : Program} {w : World} {N : Nat} {α : Type} {F : Shared → α} {g : α} (e : opening p = plainProg p.main.scope.names) (hN : Nat.ble 600 N = true) (f : ∀ s, fenceModules? p s = some s)
    (h : ∀ os, (Q0 treeTable p w (Bk w os).heap.objs.size ((Bk w os).heap.nsMap mainGlobals "__annotations__") N (Nj w os) (topStub p)).map (fun r => (stays p (Bk w os) r.abs, F r.abs)) = some (true, g))
    (h0 : ∀ os, ((Bk w os).heap.isNs mainGlobals && (Bk w os).gens.size == 0) = true) : (openEnds treeTable p w N).map F = some g := by
  have hb := boot_open e hN f w
  unfold openEnds
  cases q : fencedOpening treeTable p w N with
  | none => rw [q] at hb; cases hb
  | some s =>
    rw [q] at hb
    have hs : s = Bk w s.os := by
      obtain ⟨a, b, c, d, o⟩ := s
      simp only [Option.map_some, Option.some.injEq, Prod.mk.injEq] at hb
      obtain ⟨rfl, rfl, rfl, rfl⟩ := hb
      rfl
    generalize s.os = o at hs
    subst hs
    show (topFrom treeTable p w N (Bk w o)).map F = some g
    unfold topFrom
    rw [h0 o]
    have hh := h o
    cases q2 : Q0 treeTable p w (Bk w o).heap.objs.size ((Bk w o).heap.nsMap mainGlobals "__annotations__") N (Nj w o) (topStub p) with
    | none => rw [q2] at hh; cases hh
    | some r =>
      rw [q2] at hh
      have hr := Ol N q2
      rw [boot_abs] at hr
      simp only [Option.map_some, Option.some.injEq, Prod.mk.injEq] at hh
      obtain ⟨h1, h2⟩ := hh
      unfold stays at h1
      dsimp only
      rw [hr]
      show (match staticsOk (importedModules p.main.body) (Bk w o).heap r.abs.heap && namesBound p r.abs.heap && gensDone r.abs && laidKept (Bk w o).heap r.abs.heap with
        | true => some r.abs
        | false => none).map F = some g
      rw [h1]
      exact congrArg some h2
noncomputable def TR (p : Program) (w : World) (os : OsState) (N : Nat) : Option SharedT := Q0 treeTable p w (Bk w os).heap.objs.size ((Bk w os).heap.nsMap mainGlobals "__annotations__") N (Nj w os) (topStub p)
theorem AdR {p : Program} {w : World} {N : Nat} {α β : Type} {F : Shared → α} {G : Shared → β} {f' : α} {g' : β} (e : opening p = plainProg p.main.scope.names) (hN : Nat.ble 600 N = true) (f : ∀ s, fenceModules? p s = some s)
    (h1 : ∀ os, (TR p w os N).map (fun r => stays p (Bk w os) r.abs) = some true) (h2 : ∀ os, (TR p w os N).map (fun r => F r.abs) = some f') (h3 : ∀ os, (TR p w os N).map (fun r => G r.abs) = some g')
    (h0 : ∀ os, ((Bk w os).heap.isNs mainGlobals && (Bk w os).gens.size == 0) = true) : (openEnds treeTable p w N).map (fun s => (F s, G s)) = some (f', g') :=
  ZW (F := fun s => (F s, G s)) e hN f (fun os => by
    have a := h1 os
    have b := h2 os
    have c := h3 os
    unfold TR at a b c
    revert a b c
    generalize Q0 treeTable p w (Bk w os).heap.objs.size ((Bk w os).heap.nsMap mainGlobals "__annotations__") N (Nj w os) (topStub p) = o
    intro a b c
    cases o with
    | none => cases a
    | some r =>
      simp only [Option.map_some, Option.some.injEq] at a b c ⊢
      rw [a, b, c]) h0
end My
namespace My
open PySem PySem.W
noncomputable def goT (tb : String → Option Builtin) (p : Program) (w : World) (m : Nat) (ann : Option Value) : Nat → SharedT → Thread → Option (SharedT × Thread)
  | 0, s, t => some (s, t)
  | k + 1, s, t => match through t with
    | true => none
    | false => match stepOk m ann t with
      | false => none
      | true => match stepT (denote tb) p w s t with
        | some (s', t') => goT tb p w m ann k s' t'
        | none => none
theorem V2 {tb : String → Option Builtin} {p : Program} {w : World} {m : Nat} {ann : Option Value} : ∀ (k : Nat) {s s' : SharedT} {t t' : Thread}, goT tb p w m ann k s t = some (s', t') → topGo tb p w m ann k s.abs t = some (s'.abs, t')
  | 0, s, s', t, t', h => by cases h; rfl
  | k + 1, s, s', t, t', h => by
    unfold goT at h
    unfold topGo
    cases e : through t with
    | true => rw [e] at h; cases h
    | false =>
      rw [e] at h
      dsimp only at h ⊢
      cases e2 : stepOk m ann t with
      | false => rw [e2] at h; cases h
      | true =>
        rw [e2] at h
        dsimp only at h ⊢
        cases e3 : stepT (denote tb) p w s t with
        | none => rw [e3] at h; cases h
        | some st =>
          obtain ⟨s2, t2⟩ := st
          rw [e3] at h
          rw [stepT_spec e3]
          exact V2 k h
theorem XM {p : Program} {w : World} {N : Nat} {α : Type} {F : Shared → α} {g : α} (e : opening p = plainProg p.main.scope.names) (hN : Nat.ble 600 N = true) (f : ∀ s, fenceModules? p s = some s)
    (h : ∀ os, ∃ r : Shared, topRun treeTable p w (Bk w os).heap.objs.size ((Bk w os).heap.nsMap mainGlobals "__annotations__") N (Bk w os) (topStub p) = some r ∧ stays p (Bk w os) r = true ∧ F r = g)
    (h0 : ∀ os, ((Bk w os).heap.isNs mainGlobals && (Bk w os).gens.size == 0) = true) : (openEnds treeTable p w N).map F = some g := by
  have hb := boot_open e hN f w
  unfold openEnds
  cases q : fencedOpening treeTable p w N with
  | none => rw [q] at hb; cases hb
  | some s =>
    rw [q] at hb
    have hs : s = Bk w s.os := by
      obtain ⟨a, b, c, d, o⟩ := s
      simp only [Option.map_some, Option.some.injEq, Prod.mk.injEq] at hb
      obtain ⟨rfl, rfl, rfl, rfl⟩ := hb
      rfl
    generalize s.os = o at hs
    subst hs
    show (topFrom treeTable p w N (Bk w o)).map F = some g
    unfold topFrom
    rw [h0 o]
    obtain ⟨r, hr, h1, h2⟩ := h o
    unfold stays at h1
    dsimp only
    rw [hr]
    show (match staticsOk (importedModules p.main.body) (Bk w o).heap r.heap && namesBound p r.heap && gensDone r && laidKept (Bk w o).heap r.heap with
      | true => some r
      | false => none).map F = some g
    rw [h1]
    exact congrArg some h2
theorem Wu {p : Program} {w : World} {N : Nat} {α β : Type} {F : Shared → α} {G : Shared → β} {f' : α} {g' : β} {TL : OsState → Option SharedT} (e : opening p = plainProg p.main.scope.names) (hN : Nat.ble 600 N = true) (f : ∀ s, fenceModules? p s = some s)
    (hr : ∀ os r, TL os = some r → topRun treeTable p w (Bk w os).heap.objs.size ((Bk w os).heap.nsMap mainGlobals "__annotations__") N (Bk w os) (topStub p) = some r.abs)
    (h1 : ∀ os, (TL os).map (fun r => stays p (Bk w os) r.abs) = some true) (h2 : ∀ os, (TL os).map (fun r => F r.abs) = some f') (h3 : ∀ os, (TL os).map (fun r => G r.abs) = some g')
    (h0 : ∀ os, ((Bk w os).heap.isNs mainGlobals && (Bk w os).gens.size == 0) = true) : (openEnds treeTable p w N).map (fun s => (F s, G s)) = some (f', g') :=
  XM (F := fun s => (F s, G s)) e hN f (fun os => by
    have a := h1 os
    have b := h2 os
    have c := h3 os
    have d := hr os
    cases q : TL os with
    | none => rw [q] at a; cases a
    | some r =>
      rw [q] at a b c
      simp only [Option.map_some, Option.some.injEq] at a b c
      exact ⟨_, d r q, a, by rw [b, c]⟩) h0
end My
set_option maxRecDepth 1000000
set_option maxHeartbeats 0
namespace My
open PySem PySem.W
noncomputable def tp (i : Nat) : Stmt := PySem.Challenge.pw_formcycle_k46_classes.main.body.getD i (.Pass ⟨0, 0, 0, 0⟩)
noncomputable def fA (s : Stmt) : Arguments := match s with
  | .FunctionDef _ a _ _ _ _ _ _ _ _ => a
  | _ => ⟨[], [], none, [], [], none, []⟩
noncomputable def fB (s : Stmt) : List Stmt := match s with
  | .FunctionDef _ _ b _ _ _ _ _ _ _ => b
  | _ => []
noncomputable def fS (s : Stmt) : Scope := match s with
  | .FunctionDef _ _ _ _ _ _ c _ _ _ => c
  | _ => ⟨.function, [], false, false, []⟩
noncomputable def inC (s : Stmt) (j : Nat) : Stmt := match s with
  | .ClassDef _ _ _ b _ _ _ _ _ _ _ => b.getD j (.Pass ⟨0, 0, 0, 0⟩)
  | _ => .Pass ⟨0, 0, 0, 0⟩
noncomputable section
noncomputable abbrev O := Obj
noncomputable abbrev sT (s : String) (t : Nat) : Value := .str (.ofString s) t
noncomputable abbrev iZ (n : Int) : Value := .int n 0
noncomputable abbrev dE (P : Params) (s : String) (t : Nat) (v : Value) : DictEntry := .mk (PyData.keyHash P (.ofString s)) (.str (.ofString s) t) v
noncomputable abbrev fO (n q : String) (w : Stmt) (m : String) (t c : Nat) : Obj := .mk (.type "function") none (Data.func (FuncData.mk (.ofString n) (.ofString q) (fA w) (.stmts (fB w)) (fS w) 3 [] .none .none .none (.str (.ofString m) t) none (.ref c) .none 0)) #[]
noncomputable abbrev tO (a : Array Value) : Obj := .mk (.type "tuple") none (Data.seq a) #[]
noncomputable abbrev cO (a : Array Value) : Obj := .mk (.type "code") none (Data.fields a) #[]
noncomputable abbrev nO (a : Array Value) : Obj := .mk .none none (Data.fields a) #[]
noncomputable abbrev mO (a : Array DictEntry) : Obj := .mk (.type "dict") none (Data.dict a) #[]
noncomputable abbrev bO (a : Array Value) : Obj := .mk (.type "builtin_function_or_method") none (Data.fields a) #[]
noncomputable abbrev Lf (o : Obj) : BT := .node o .nil .nil
noncomputable abbrev Nd (o : Obj) (l r : BT) : BT := .node o l r
noncomputable abbrev sF (t : Nat) : Value := .str (.ofString "/claim/cut.py") t
noncomputable def tE : Obj := .mk (.type "tuple") none (Data.seq #[]) #[]
noncomputable abbrev cF (n q : String) (a l k r t : Nat) : Obj := .mk (.type "code") none (Data.fields #[.str (.ofString n) a, .str (.ofString q) (a + 1), .str (.ofString "/claim/cut.py") (a + 2), .int l 0, .int k 0, .int 0 0, .int 0 0, .int 3 0, .ref r, .bool true, .int 181 0, .ref (r + 1), .none, .ref (r + 2), .ref (r + 3), .ref (r + 4), .int t 0, .int l 0, .str (.ofString "/claim/cut.py") (t + 1)]) #[]
noncomputable abbrev pO (n q : String) (w : Stmt) (c : Nat) : Obj := .mk .none none (Data.func (FuncData.mk (.ofString n) (.ofString q) (fA w) (.stmts (fB w)) (fS w) 3 [] .none .none .none .none none (.ref c) .none 0)) #[]
noncomputable abbrev rO (c l : Nat) (m : String) (t : Nat) : Obj := .mk (.type "frame") none Data.plain #[some (.ref c), some (.ref 3), some (.ref l), none, some (.str (.ofString m) t), none, some (.ref 0)]
noncomputable abbrev sO (c : Nat) : Obj := .mk (.type "super") none (Data.fields #[.ref c, .ref c, .ref c]) #[]
noncomputable abbrev dO (a : Array DictEntry) (n : Nat) : Obj := .mk (.type "dict") none (Data.dict a n) #[]
noncomputable abbrev xO (n : String) (b c d e t u : Nat) : Obj := .mk (.type "type") none (Data.cls (ClassData.mk (.ofString n) [.ref b] [.ref c, .ref b, .type "ValueError", .type "Exception", .type "BaseException", .type "object"] d (.ofString n) true [] [] false none false)) #[some (.ref e), none, some (.str (.ofString n) t), some (.str (.ofString n) u), some (.builtin "ValueError.__new__"), some (.bool true)]
noncomputable def o2:O:=.mk .none none (Data.dict #[]) #[]
noncomputable def o3 (P:Params):O:=dO #[dE P "__name__" 165 (sT "law_formcycle_k46_classes" 579),dE P "__doc__" 166 .none,dE P "__package__" 167 .none,dE P "__loader__" 168 (.builtin "__main__.__loader__#opaque"),dE P "__spec__" 169 .none,dE P "__annotations__" 170 (.ref 6),dE P "__builtins__" 171 (.ref 4),dE P "__file__" 173 (sF 172),dE P "__cached__" 174 .none,dE P "FormError" 206 (.ref 24),dE P "NoTurn" 231 (.ref 44),dE P "NoShape" 256 (.ref 63),dE P "TooGreat" 283 (.ref 82),dE P "NoRoot" 308 (.ref 101),dE P "NoMeasure" 333 (.ref 120),dE P "divisor" 344 (.ref 129),dE P "root" 353 (.ref 136),dE P "is_square" 361 (.ref 143),dE P "check_at_most" 369 (.ref 150),dE P "check_within" 377 (.ref 157),dE P "SAME" 384 (.ref 158),dE P "is_turn" 391 (.ref 165),dE P "check_turn" 398 (.ref 172),dE P "put_behind" 406 (.ref 179),dE P "measure" 415 (.ref 186),dE P "value" 425 (.ref 193),dE P "content" 432 (.ref 200),dE P "moved" 442 (.ref 207),dE P "middle" 452 (.ref 214),dE P "shape" 460 (.ref 221),dE P "stands_least" 472 (.ref 228),dE P "MOST_MEASURE" 476 (.int 4000 475),dE P "check_saddle" 483 (.ref 235),dE P "stands_level" 492 (.ref 242),dE P "turn_behind" 503 (.ref 249),dE P "stop_behind" 512 (.ref 256),dE P "eased" 521 (.ref 263),dE P "stops_round" 532 (.ref 270),dE P "round_of" 538 (.ref 275),dE P "check_measure" 547 (.ref 282),dE P "classes" 554 (.ref 289),dE P "least_bowls" 560 (.ref 294),dE P "least_saddles" 572 (.ref 301),dE P "plain_forms" 578 (.ref 306),dE P "_law_cell" 588 (.ref 313),dE P "_law_whole" 595 (.ref 320),dE P "_law_wholes" 601 (.ref 325),dE P "_law_bar" 608 (.ref 332),dE P "_law_root" 616 (.ref 339),dE P "_law_level" 624 (.ref 346),dE P "_law_behind" 636 (.ref 353),dE P "_law_rest" 644 (.ref 360),dE P "_law_number" 652 (.ref 367),dE P "_law_bowls" 663 (.ref 374),dE P "_law_saddles" 678 (.ref 381),dE P "law" 689 (.ref 388)] 56
noncomputable def o15:O:=tO #[.type "ValueError"]
noncomputable def o23 (P:Params):O:=dO #[dE P "__module__" 196 (sT "formcycle.errors" 187),dE P "__firstlineno__" 200 (.int 2 199),dE P "__static_attributes__" 201 (.ref 22),dE P "__weakref__" 203 (.ref 25),dE P "__doc__" 204 .none] 3
noncomputable def o24:O:=.mk (.type "type") none (Data.cls (ClassData.mk (.ofString "FormError") [.type "ValueError"] [.ref 24, .type "ValueError", .type "Exception", .type "BaseException", .type "object"] 23 (.ofString "FormError") Bool.true [] [.ref 44,.ref 63,.ref 82,.ref 101,.ref 120] Bool.false none Bool.false)) #[some (.ref 15), none, some (sT "FormError" 189), some (sT "FormError" 197), some (.builtin "ValueError.__new__"), some (.bool true)]
noncomputable def o25:O:=.mk (.type "getset_descriptor") none (Data.fields #[sT "__weakref__" 202,.ref 24, .builtin "ExceptionGroup.__weakref__", .none]) #[]
noncomputable def o28:O:=tO #[.ref 24]
noncomputable def o37:O:=tO #[sT "self" 222,sT "turn" 223]
noncomputable def o40:O:=cF "__init__" "NoTurn.__init__" 219 6 2 35 224
noncomputable def o41:O:=fO "__init__" "NoTurn.__init__" (inC (tp 2) 0) "formcycle.errors" 187 40
noncomputable def o42:O:=tO #[sT "turn" 227]
noncomputable def o43 (P:Params):O:=dO #[dE P "__module__" 214 (sT "formcycle.errors" 187),dE P "__firstlineno__" 218 (.int 4 217),dE P "__init__" 226 (.ref 41),dE P "__static_attributes__" 228 (.ref 42),dE P "__doc__" 229 .none] 2
noncomputable def o44:O:=xO "NoTurn" 24 44 43 28 207 215
noncomputable def o47:O:=tO #[.ref 24]
noncomputable def o56:O:=tO #[sT "self" 247,sT "form" 248]
noncomputable def o59:O:=cF "__init__" "NoShape.__init__" 244 10 2 54 249
noncomputable def o60:O:=fO "__init__" "NoShape.__init__" (inC (tp 3) 0) "formcycle.errors" 187 59
noncomputable def o61:O:=tO #[sT "form" 252]
noncomputable def o62 (P:Params):O:=dO #[dE P "__module__" 239 (sT "formcycle.errors" 187),dE P "__firstlineno__" 243 (.int 8 242),dE P "__init__" 251 (.ref 60),dE P "__static_attributes__" 253 (.ref 61),dE P "__doc__" 254 .none] 2
noncomputable def o63:O:=xO "NoShape" 24 63 62 47 232 240
noncomputable def o66:O:=tO #[.ref 24]
noncomputable def o75:O:=tO #[sT "self" 272,sT "number" 273,sT "most" 274]
noncomputable def o78:O:=cF "__init__" "TooGreat.__init__" 269 14 3 73 275
noncomputable def o79:O:=fO "__init__" "TooGreat.__init__" (inC (tp 4) 0) "formcycle.errors" 187 78
noncomputable def o80:O:=tO #[sT "most" 278,sT "number" 279]
noncomputable def o81 (P:Params):O:=dO #[dE P "__module__" 264 (sT "formcycle.errors" 187),dE P "__firstlineno__" 268 (.int 12 267),dE P "__init__" 277 (.ref 79),dE P "__static_attributes__" 280 (.ref 80),dE P "__doc__" 281 .none] 2
noncomputable def o82:O:=xO "TooGreat" 24 82 81 66 257 265
noncomputable def o85:O:=tO #[.ref 24]
noncomputable def o94:O:=tO #[sT "self" 299,sT "number" 300]
noncomputable def o97:O:=cF "__init__" "NoRoot.__init__" 296 19 2 92 301
noncomputable def o98:O:=fO "__init__" "NoRoot.__init__" (inC (tp 5) 0) "formcycle.errors" 187 97
noncomputable def o99:O:=tO #[sT "number" 304]
noncomputable def o100 (P:Params):O:=dO #[dE P "__module__" 291 (sT "formcycle.errors" 187),dE P "__firstlineno__" 295 (.int 17 294),dE P "__init__" 303 (.ref 98),dE P "__static_attributes__" 305 (.ref 99),dE P "__doc__" 306 .none] 2
noncomputable def AdQ:O:=xO "NoRoot" 24 101 100 85 284 292
noncomputable def Ads:O:=tO #[.ref 24]
noncomputable def Ad4:O:=tO #[sT "self" 324,sT "number" 325]
noncomputable def AcY:O:=cF "__init__" "NoMeasure.__init__" 321 23 2 111 326
noncomputable def Aeo:O:=fO "__init__" "NoMeasure.__init__" (inC (tp 6) 0) "formcycle.errors" 187 116
noncomputable def Ad8:O:=tO #[sT "number" 329]
noncomputable def Ade (P:Params):O:=dO #[dE P "__module__" 316 (sT "formcycle.errors" 187),dE P "__firstlineno__" 320 (.int 21 319),dE P "__init__" 328 (.ref 117),dE P "__static_attributes__" 330 (.ref 118),dE P "__doc__" 331 .none] 2
noncomputable def Adt:O:=xO "NoMeasure" 24 120 119 104 309 317
noncomputable def AdE:O:=tO #[sT "one" 339,sT "other" 340,sT "rest" 341]
noncomputable def Ac4:O:=cF "divisor" "divisor" 336 26 2 123 342
noncomputable def Adg:O:=fO "divisor" "divisor" (tp 8) "formcycle.wholes" 334 128
noncomputable def Aee:O:=tO #[sT "number" 348,sT "guess" 349,sT "better" 350]
noncomputable def AcV:O:=cF "root" "root" 345 32 1 130 351
noncomputable def Aeb:O:=fO "root" "root" (tp 9) "formcycle.wholes" 334 135
noncomputable def Aeh:O:=tO #[sT "number" 357,sT "side" 358]
noncomputable def Aef:O:=cF "is_square" "is_square" 354 43 1 137 359
noncomputable def Ac9:O:=fO "is_square" "is_square" (tp 10) "formcycle.wholes" 334 142
noncomputable def AgE:O:=tO #[sT "number" 365,sT "most" 366]
noncomputable def Af8:O:=cF "check_at_most" "check_at_most" 362 48 2 144 367
noncomputable def Ae0:O:=fO "check_at_most" "check_at_most" (tp 11) "formcycle.wholes" 334 149
noncomputable def AgM:O:=tO #[sT "number" 373,sT "most" 374]
noncomputable def Aga:O:=cF "check_within" "check_within" 370 51 2 151 375
noncomputable def AfS:O:=fO "check_within" "check_within" (tp 12) "formcycle.wholes" 334 156
noncomputable def AeI:O:=tO #[.int 1 380, .int 0 381, .int 0 382, .int 1 383]
noncomputable def Ag0:O:=tO #[sT "turn" 388]
noncomputable def Afy:O:=cF "is_turn" "is_turn" 385 56 1 159 389
noncomputable def AgY:O:=fO "is_turn" "is_turn" (tp 15) "formcycle.turns" 378 164
noncomputable def AeN:O:=tO #[sT "turn" 395]
noncomputable def Ag6:O:=cF "check_turn" "check_turn" 392 58 1 166 396
noncomputable def Agm:O:=fO "check_turn" "check_turn" (tp 16) "formcycle.turns" 378 171
noncomputable def AfH:O:=tO #[sT "one" 402,sT "other" 403]
noncomputable def Af7:O:=cF "put_behind" "put_behind" 399 61 2 173 404
noncomputable def AfB:O:=fO "put_behind" "put_behind" (tp 17) "formcycle.turns" 378 178
noncomputable def AeG:O:=tO #[sT "form" 412]
noncomputable def AeC:O:=cF "measure" "measure" 409 64 1 180 413
noncomputable def AfR:O:=fO "measure" "measure" (tp 19) "formcycle.forms" 407 185
noncomputable def Ag2:O:=tO #[sT "form" 419,sT "point" 420,sT "x" 421,sT "y" 422]
noncomputable def AeL:O:=cF "value" "value" 416 66 2 187 423
noncomputable def Afh:O:=fO "value" "value" (tp 20) "formcycle.forms" 407 192
noncomputable def AeQ:O:=tO #[sT "form" 429]
noncomputable def AfW:O:=cF "content" "content" 426 70 1 194 430
noncomputable def o200:O:=fO "content" "content" (tp 21) "formcycle.forms" 407 199
noncomputable def Ag5:O:=tO #[sT "form" 436,sT "turn" 437,sT "left" 438,sT "right" 439]
noncomputable def Ae6:O:=cF "moved" "moved" 433 72 2 201 440
noncomputable def AgP:O:=fO "moved" "moved" (tp 22) "formcycle.forms" 407 206
noncomputable def AgX:O:=tO #[sT "form" 446,sT "left" 447,sT "right" 448,sT "crossed" 449]
noncomputable def AfV:O:=cF "middle" "middle" 443 77 3 208 450
noncomputable def AgV:O:=fO "middle" "middle" (tp 23) "formcycle.forms" 407 213
noncomputable def Af4:O:=tO #[sT "form" 456,sT "number" 457]
noncomputable def AfZ:O:=cF "shape" "shape" 453 80 1 215 458
noncomputable def Ae1:O:=fO "shape" "shape" (tp 24) "formcycle.forms" 407 220
noncomputable def AgS:O:=tO #[sT "form" 466,sT "a" 467,sT "b" 468,sT "c" 469]
noncomputable def AfL:O:=cF "stands_least" "stands_least" 463 90 1 222 470
noncomputable def Ae9:O:=fO "stands_least" "stands_least" (tp 26) "formcycle.bowls" 461 227
noncomputable def AfK:O:=tO #[sT "form" 480]
noncomputable def Afe:O:=cF "check_saddle" "check_saddle" 477 99 1 229 481
noncomputable def AeP:O:=fO "check_saddle" "check_saddle" (tp 29) "formcycle.saddles" 473 234
noncomputable def AeY:O:=tO #[sT "form" 487,sT "far" 488,sT "b" 489]
noncomputable def AeU:O:=cF "stands_level" "stands_level" 484 103 2 236 490
noncomputable def AeK:O:=fO "stands_level" "stands_level" (tp 30) "formcycle.saddles" 473 241
noncomputable def AeW:O:=tO #[sT "form" 496,sT "top" 497,sT "b" 498,sT "c" 499,sT "d" 500]
noncomputable def AeO:O:=cF "turn_behind" "turn_behind" 493 106 2 243 501
noncomputable def Afl:O:=fO "turn_behind" "turn_behind" (tp 31) "formcycle.saddles" 473 248
noncomputable def Afu:O:=tO #[sT "stop" 507,sT "top" 508,sT "turn" 509]
noncomputable def Agv:O:=cF "stop_behind" "stop_behind" 504 111 2 250 510
noncomputable def Af2:O:=fO "stop_behind" "stop_behind" (tp 32) "formcycle.saddles" 473 255
noncomputable def Agk:O:=tO #[sT "form" 516,sT "far" 517,sT "stop" 518]
noncomputable def Af5:O:=cF "eased" "eased" 513 114 1 257 519
noncomputable def Afz:O:=fO "eased" "eased" (tp 33) "formcycle.saddles" 473 262
noncomputable def Ae7:O:=tO #[sT "form" 525,sT "far" 526,sT "first" 527,sT "stops" 528,sT "stop" 529]
noncomputable def AfQ:O:=cF "stops_round" "stops_round" 522 121 1 264 530
noncomputable def Agx:O:=fO "stops_round" "stops_round" (tp 34) "formcycle.saddles" 473 269
noncomputable def Ae5:O:=cO #[sT "round_of" 533,sT "round_of" 534, sF 535,iZ 131,iZ 1,iZ 0,iZ 0,iZ 3,.ref 271, .bool true,iZ 181,.ref 272, .none, .none, .none,.ref 273,iZ 536,iZ 131, sF 537]
noncomputable def Afx:O:=fO "round_of" "round_of" (tp 35) "formcycle.saddles" 473 274
noncomputable def AgR:O:=tO #[sT "number" 544]
noncomputable def Agf:O:=cF "check_measure" "check_measure" 541 137 1 276 545
noncomputable def AgZ:O:=fO "check_measure" "check_measure" (tp 37) "formcycle.classes" 539 281
noncomputable def Afo:O:=tO #[sT "number" 551]
noncomputable def Afb:O:=cF "classes" "classes" 548 140 1 283 552
noncomputable def AfI:O:=fO "classes" "classes" (tp 38) "formcycle.classes" 539 288
noncomputable def AfC:O:=cO #[sT "least_bowls" 555,sT "least_bowls" 556, sF 557,iZ 146,iZ 1,iZ 0,iZ 0,iZ 3,.ref 290, .bool true,iZ 181,.ref 291, .none, .none, .none,.ref 292,iZ 558,iZ 146, sF 559]
noncomputable def Agb:O:=fO "least_bowls" "least_bowls" (tp 39) "formcycle.classes" 539 293
noncomputable def AfY:O:=tO #[sT "number" 564,sT "far" 565,sT "found" 566,sT "seen" 567,sT "form" 568,sT "other" 569]
noncomputable def o300:O:=cF "least_saddles" "least_saddles" 561 148 1 295 570
noncomputable def Agz:O:=fO "least_saddles" "least_saddles" (tp 40) "formcycle.classes" 539 300
noncomputable def AgW:O:=cO #[sT "plain_forms" 573,sT "plain_forms" 574, sF 575,iZ 158,iZ 2,iZ 0,iZ 0,iZ 3,.ref 302, .bool true,iZ 181,.ref 303, .none, .none, .none,.ref 304,iZ 576,iZ 158, sF 577]
noncomputable def Agu:O:=fO "plain_forms" "plain_forms" (tp 41) "formcycle.classes" 539 305
noncomputable def Af9:O:=tO #[sT "_law_script" 584,sT "_law_k" 585]
noncomputable def Ags:O:=cF "_law_cell" "_law_cell" 581 166 2 307 586
noncomputable def Afn:O:=fO "_law_cell" "_law_cell" (tp 43) "law_formcycle_k46_classes" 579 312
noncomputable def AgD:O:=tO #[sT "_law_found" 592]
noncomputable def AfT:O:=cF "_law_whole" "_law_whole" 589 170 1 314 593
noncomputable def Ag3:O:=fO "_law_whole" "_law_whole" (tp 44) "law_formcycle_k46_classes" 579 319
noncomputable def Af3:O:=cO #[sT "_law_wholes" 596,sT "_law_wholes" 597, sF 598,iZ 172,iZ 2,iZ 0,iZ 0,iZ 3,.ref 321, .bool true,iZ 181,.ref 322, .none, .none, .none,.ref 323,iZ 599,iZ 172, sF 600]
noncomputable def AgI:O:=fO "_law_wholes" "_law_wholes" (tp 45) "law_formcycle_k46_classes" 579 324
noncomputable def AfX:O:=tO #[sT "_law_form" 605]
noncomputable def Af0:O:=cF "_law_bar" "_law_bar" 602 176 1 326 606
noncomputable def AeJ:O:=fO "_law_bar" "_law_bar" (tp 46) "law_formcycle_k46_classes" 579 331
noncomputable def AfU:O:=tO #[sT "_law_number_here" 612,sT "_law_near" 613]
noncomputable def Agj:O:=cF "_law_root" "_law_root" 609 178 1 333 614
noncomputable def Ae3:O:=fO "_law_root" "_law_root" (tp 47) "law_formcycle_k46_classes" 579 338
noncomputable def AgA:O:=tO #[sT "_law_form" 628,sT "_law_top" 629,sT "_law_a" 630,sT "_law_b" 631,sT "_law_c" 632,sT "_law_d" 633]
noncomputable def Agc:O:=cF "_law_behind" "_law_behind" 625 185 2 347 634
noncomputable def Agl:O:=fO "_law_behind" "_law_behind" (tp 49) "law_formcycle_k46_classes" 579 352
noncomputable def Af6:O:=tO #[sT "_law_one" 640,sT "_law_other" 641]
noncomputable def Af1:O:=cF "_law_rest" "_law_rest" 637 189 2 354 642
noncomputable def Agw:O:=fO "_law_rest" "_law_rest" (tp 50) "law_formcycle_k46_classes" 579 359
noncomputable def AfA:O:=tO #[sT "_law_script" 648,sT "_law_number_here" 649]
noncomputable def AfE:O:=cF "_law_number" "_law_number" 645 193 1 361 650
noncomputable def Afp:O:=fO "_law_number" "_law_number" (tp 51) "law_formcycle_k46_classes" 579 366
noncomputable def Age:O:=tO #[sT "_law_number_here" 656,sT "_law_found" 657,sT "_law_a" 658,sT "_law_b" 659,sT "_law_c" 660]
noncomputable def AgO:O:=cF "_law_bowls" "_law_bowls" 653 200 1 368 661
noncomputable def Afq:O:=fO "_law_bowls" "_law_bowls" (tp 52) "law_formcycle_k46_classes" 579 373
noncomputable def o377:O:=tO #[sT "_law_number_here" 667,sT "_law_far" 668,sT "_law_found" 669,sT "_law_b" 670,sT "_law_a" 671,sT "_law_c" 672,sT "_law_tops" 673,sT "_law_seen" 674,sT "_law_form" 675]
noncomputable def AeD:O:=cF "_law_saddles" "_law_saddles" 664 209 1 375 676
noncomputable def AfP:O:=fO "_law_saddles" "_law_saddles" (tp 53) "law_formcycle_k46_classes" 579 380
noncomputable def AgU:O:=tO #[sT "_law_script" 682,sT "_law_number_here" 683,sT "_law_due" 684,sT "_law_found" 685,sT "_law_form" 686]
noncomputable def AfJ:O:=cF "law" "law" 679 227 1 382 687
noncomputable def Agh:O:=fO "law" "law" (tp 54) "law_formcycle_k46_classes" 579 387
noncomputable def KK : Params → Frag :=
fun P => (nat_lit 2,o2)::(nat_lit 3,o3 P)::(nat_lit 15,o15)::(nat_lit 22,tE)::(nat_lit 23,o23 P)::(nat_lit 24,o24)::(nat_lit 25,o25)::(nat_lit 28,o28)::(nat_lit 35,tE)::(nat_lit 37,o37)::(nat_lit 38,tE)::(nat_lit 40,o40)::(nat_lit 41,o41)::(nat_lit 42,o42)::(nat_lit 43,o43 P)::(nat_lit 44,o44)::(nat_lit 47,o47)::(nat_lit 54,tE)::(nat_lit 56,o56)::(nat_lit 57,tE)::(nat_lit 59,o59)::(nat_lit 60,o60)::(nat_lit 61,o61)::(nat_lit 62,o62 P)::(nat_lit 63,o63)::(nat_lit 66,o66)::(nat_lit 73,tE)::(nat_lit 75,o75)::(nat_lit 76,tE)::(nat_lit 78,o78)::(nat_lit 79,o79)::(nat_lit 80,o80)::(nat_lit 81,o81 P)::(nat_lit 82,o82)::(nat_lit 85,o85)::(nat_lit 92,tE)::(nat_lit 94,o94)::(nat_lit 95,tE)::(nat_lit 97,o97)::(nat_lit 98,o98)::(nat_lit 99,o99)::(nat_lit 100,o100 P)::(nat_lit 101,AdQ)::(nat_lit 104,Ads)::(nat_lit 111,tE)::(nat_lit 113,Ad4)::(nat_lit 114,tE)::(nat_lit 116,AcY)::(nat_lit 117,Aeo)::(nat_lit 118,Ad8)::(nat_lit 119,Ade P)::(nat_lit 120,Adt)::(nat_lit 123,tE)::(nat_lit 125,AdE)::(nat_lit 126,tE)::(nat_lit 128,Ac4)::(nat_lit 129,Adg)::(nat_lit 130,tE)::(nat_lit 132,Aee)::(nat_lit 133,tE)::(nat_lit 135,AcV)::(nat_lit 136,Aeb)::(nat_lit 137,tE)::(nat_lit 139,Aeh)::(nat_lit 140,tE)::(nat_lit 142,Aef)::(nat_lit 143,Ac9)::(nat_lit 144,tE)::(nat_lit 146,AgE)::(nat_lit 147,tE)::(nat_lit 149,Af8)::(nat_lit 150,Ae0)::(nat_lit 151,tE)::(nat_lit 153,AgM)::(nat_lit 154,tE)::(nat_lit 156,Aga)::(nat_lit 157,AfS)::(nat_lit 158,AeI)::(nat_lit 159,tE)::(nat_lit 161,Ag0)::(nat_lit 162,tE)::(nat_lit 164,Afy)::(nat_lit 165,AgY)::(nat_lit 166,tE)::(nat_lit 168,AeN)::(nat_lit 169,tE)::(nat_lit 171,Ag6)::(nat_lit 172,Agm)::(nat_lit 173,tE)::(nat_lit 175,AfH)::(nat_lit 176,tE)::(nat_lit 178,Af7)::(nat_lit 179,AfB)::(nat_lit 180,tE)::(nat_lit 182,AeG)::(nat_lit 183,tE)::(nat_lit 185,AeC)::(nat_lit 186,AfR)::(nat_lit 187,tE)::(nat_lit 189,Ag2)::(nat_lit 190,tE)::(nat_lit 192,AeL)::(nat_lit 193,Afh)::(nat_lit 194,tE)::(nat_lit 196,AeQ)::(nat_lit 197,tE)::(nat_lit 199,AfW)::(nat_lit 200,o200)::(nat_lit 201,tE)::(nat_lit 203,Ag5)::(nat_lit 204,tE)::(nat_lit 206,Ae6)::(nat_lit 207,AgP)::(nat_lit 208,tE)::(nat_lit 210,AgX)::(nat_lit 211,tE)::(nat_lit 213,AfV)::(nat_lit 214,AgV)::(nat_lit 215,tE)::(nat_lit 217,Af4)::(nat_lit 218,tE)::(nat_lit 220,AfZ)::(nat_lit 221,Ae1)::(nat_lit 222,tE)::(nat_lit 224,AgS)::(nat_lit 225,tE)::(nat_lit 227,AfL)::(nat_lit 228,Ae9)::(nat_lit 229,tE)::(nat_lit 231,AfK)::(nat_lit 232,tE)::(nat_lit 234,Afe)::(nat_lit 235,AeP)::(nat_lit 236,tE)::(nat_lit 238,AeY)::(nat_lit 239,tE)::(nat_lit 241,AeU)::(nat_lit 242,AeK)::(nat_lit 243,tE)::(nat_lit 245,AeW)::(nat_lit 246,tE)::(nat_lit 248,AeO)::(nat_lit 249,Afl)::(nat_lit 250,tE)::(nat_lit 252,Afu)::(nat_lit 253,tE)::(nat_lit 255,Agv)::(nat_lit 256,Af2)::(nat_lit 257,tE)::(nat_lit 259,Agk)::(nat_lit 260,tE)::(nat_lit 262,Af5)::(nat_lit 263,Afz)::(nat_lit 264,tE)::(nat_lit 266,Ae7)::(nat_lit 267,tE)::(nat_lit 269,AfQ)::(nat_lit 270,Agx)::(nat_lit 271,tE)::(nat_lit 274,Ae5)::(nat_lit 275,Afx)::(nat_lit 276,tE)::(nat_lit 278,AgR)::(nat_lit 279,tE)::(nat_lit 281,Agf)::(nat_lit 282,AgZ)::(nat_lit 283,tE)::(nat_lit 285,Afo)::(nat_lit 286,tE)::(nat_lit 288,Afb)::(nat_lit 289,AfI)::(nat_lit 290,tE)::(nat_lit 293,AfC)::(nat_lit 294,Agb)::(nat_lit 295,tE)::(nat_lit 297,AfY)::(nat_lit 298,tE)::(nat_lit 300,o300)::(nat_lit 301,Agz)::(nat_lit 302,tE)::(nat_lit 305,AgW)::(nat_lit 306,Agu)::(nat_lit 307,tE)::(nat_lit 309,Af9)::(nat_lit 310,tE)::(nat_lit 312,Ags)::(nat_lit 313,Afn)::(nat_lit 314,tE)::(nat_lit 316,AgD)::(nat_lit 317,tE)::(nat_lit 319,AfT)::(nat_lit 320,Ag3)::(nat_lit 321,tE)::(nat_lit 324,Af3)::(nat_lit 325,AgI)::(nat_lit 326,tE)::(nat_lit 328,AfX)::(nat_lit 329,tE)::(nat_lit 331,Af0)::(nat_lit 332,AeJ)::(nat_lit 333,tE)::(nat_lit 335,AfU)::(nat_lit 336,tE)::(nat_lit 338,Agj)::(nat_lit 339,Ae3)::(nat_lit 347,tE)::(nat_lit 349,AgA)::(nat_lit 350,tE)::(nat_lit 352,Agc)::(nat_lit 353,Agl)::(nat_lit 354,tE)::(nat_lit 356,Af6)::(nat_lit 357,tE)::(nat_lit 359,Af1)::(nat_lit 360,Agw)::(nat_lit 361,tE)::(nat_lit 363,AfA)::(nat_lit 364,tE)::(nat_lit 366,AfE)::(nat_lit 367,Afp)::(nat_lit 368,tE)::(nat_lit 370,Age)::(nat_lit 371,tE)::(nat_lit 373,AgO)::(nat_lit 374,Afq)::(nat_lit 375,tE)::(nat_lit 377,o377)::(nat_lit 378,tE)::(nat_lit 380,AeD)::(nat_lit 381,AfP)::(nat_lit 382,tE)::(nat_lit 384,AgU)::(nat_lit 385,tE)::(nat_lit 387,AfJ)::(nat_lit 388,Agh)::[]
noncomputable def Ij:O:=nO #[]
noncomputable def Aak:O:=cO #[sT "<module>" 182,sT "<module>" 183, sF 184,iZ 1,iZ 0,iZ 0,iZ 0,iZ 0,.ref 11, .bool false,iZ 181,.ref 12, .none, .none, .none, .none,iZ 185,iZ 1, sF 186]
noncomputable def Aaz:O:=rO 13 3 "__main__" 164
noncomputable def AdS (P:Params):O:=dO #[dE P "__name__" 165 (sT "formcycle.wholes" 334),dE P "__doc__" 166 .none,dE P "__package__" 167 .none,dE P "__loader__" 168 (.builtin "__main__.__loader__#opaque"),dE P "__spec__" 169 .none,dE P "__annotations__" 170 (.ref 6),dE P "__builtins__" 171 (.ref 4),dE P "__file__" 173 (sF 172),dE P "__cached__" 174 .none,dE P "FormError" 206 (.ref 24),dE P "NoTurn" 231 (.ref 44),dE P "NoShape" 256 (.ref 63),dE P "TooGreat" 283 (.ref 82),dE P "NoRoot" 308 (.ref 101),dE P "NoMeasure" 333 (.ref 120),dE P "divisor" 344 (.ref 129),dE P "root" 353 (.ref 136),dE P "is_square" 361 (.ref 143)] 18
noncomputable def AaE:O:=nO #[iZ 2,iZ 0,.ref 20,iZ 4,iZ 0,.ref 33,iZ 8,iZ 0,.ref 52,iZ 12,iZ 0,.ref 71,iZ 17,iZ 0,.ref 90,iZ 21,iZ 0,.ref 109,iZ 26,iZ 0,.ref 128,iZ 32,iZ 0,.ref 135,iZ 43,iZ 0,.ref 142]
noncomputable def JQ:O:=bO #[.builtin "type.__prepare__", .type "type"]
noncomputable def AcE (P:Params):O:=dO #[dE P "__module__" 196 (sT "formcycle.errors" 187),dE P "__qualname__" 198 (sT "FormError" 197),dE P "__firstlineno__" 200 (.int 2 199),dE P "__static_attributes__" 201 (.ref 22)] 4
noncomputable def AaJ:O:=cO #[sT "FormError" 191,sT "FormError" 192, sF 193,iZ 2,iZ 0,iZ 0,iZ 0,iZ 0,.ref 18, .bool false,iZ 181,.ref 19, .none, .none, .none, .none,iZ 194,iZ 2, sF 195]
noncomputable def AaX:O:=rO 20 17 "formcycle.errors" 187
noncomputable def AaI:O:=sO 24
noncomputable def Abi:O:=bO #[.builtin "object.__init_subclass__",.ref 24]
noncomputable def AcB (P:Params):O:=dO #[dE P "__module__" 214 (sT "formcycle.errors" 187),dE P "__qualname__" 216 (sT "NoTurn" 215),dE P "__firstlineno__" 218 (.int 4 217),dE P "__init__" 226 (.ref 41),dE P "__static_attributes__" 228 (.ref 42)] 5
noncomputable def Abl:O:=nO #[iZ 6,iZ 4,.ref 40]
noncomputable def Acv:O:=cO #[sT "NoTurn" 209,sT "NoTurn" 210, sF 211,iZ 4,iZ 0,iZ 0,iZ 0,iZ 0,.ref 31, .bool false,iZ 181,.ref 32, .none, .none, .none, .none,iZ 212,iZ 4, sF 213]
noncomputable def Aa4:O:=rO 33 30 "formcycle.errors" 187
noncomputable def Aa3:O:=.mk .none none (Data.func (FuncData.mk (.ofString "__init__") (.ofString "NoTurn.__init__") (fA (inC (tp 2) 0)) (.stmts (fB (inC (tp 2) 0))) (fS (inC (tp 2) 0)) 0 [] .none .none .none .none none .none .none 0)) #[]
noncomputable def AbT:O:=sO 44
noncomputable def Abg:O:=bO #[.builtin "object.__init_subclass__",.ref 44]
noncomputable def AbN (P:Params):O:=dO #[dE P "__module__" 239 (sT "formcycle.errors" 187),dE P "__qualname__" 241 (sT "NoShape" 240),dE P "__firstlineno__" 243 (.int 8 242),dE P "__init__" 251 (.ref 60),dE P "__static_attributes__" 253 (.ref 61)] 5
noncomputable def AcD:O:=nO #[iZ 10,iZ 4,.ref 59]
noncomputable def Abd:O:=cO #[sT "NoShape" 234,sT "NoShape" 235, sF 236,iZ 8,iZ 0,iZ 0,iZ 0,iZ 0,.ref 50, .bool false,iZ 181,.ref 51, .none, .none, .none, .none,iZ 237,iZ 8, sF 238]
noncomputable def Acs:O:=rO 52 49 "formcycle.errors" 187
noncomputable def Ab4:O:=.mk .none none (Data.func (FuncData.mk (.ofString "__init__") (.ofString "NoShape.__init__") (fA (inC (tp 3) 0)) (.stmts (fB (inC (tp 3) 0))) (fS (inC (tp 3) 0)) 0 [] .none .none .none .none none .none .none 0)) #[]
noncomputable def AbU:O:=sO 63
noncomputable def Ab3:O:=bO #[.builtin "object.__init_subclass__",.ref 63]
noncomputable def Acr (P:Params):O:=dO #[dE P "__module__" 264 (sT "formcycle.errors" 187),dE P "__qualname__" 266 (sT "TooGreat" 265),dE P "__firstlineno__" 268 (.int 12 267),dE P "__init__" 277 (.ref 79),dE P "__static_attributes__" 280 (.ref 80)] 5
noncomputable def AaM:O:=nO #[iZ 14,iZ 4,.ref 78]
noncomputable def AaF:O:=cO #[sT "TooGreat" 259,sT "TooGreat" 260, sF 261,iZ 12,iZ 0,iZ 0,iZ 0,iZ 0,.ref 69, .bool false,iZ 181,.ref 70, .none, .none, .none, .none,iZ 262,iZ 12, sF 263]
noncomputable def Abb:O:=rO 71 68 "formcycle.errors" 187
noncomputable def Acu:O:=.mk .none none (Data.func (FuncData.mk (.ofString "__init__") (.ofString "TooGreat.__init__") (fA (inC (tp 4) 0)) (.stmts (fB (inC (tp 4) 0))) (fS (inC (tp 4) 0)) 0 [] .none .none .none .none none .none .none 0)) #[]
noncomputable def AaU:O:=sO 82
noncomputable def Aa2:O:=bO #[.builtin "object.__init_subclass__",.ref 82]
noncomputable def AcA (P:Params):O:=dO #[dE P "__module__" 291 (sT "formcycle.errors" 187),dE P "__qualname__" 293 (sT "NoRoot" 292),dE P "__firstlineno__" 295 (.int 17 294),dE P "__init__" 303 (.ref 98),dE P "__static_attributes__" 305 (.ref 99)] 5
noncomputable def Ab6:O:=nO #[iZ 19,iZ 4,.ref 97]
noncomputable def AcJ:O:=cO #[sT "NoRoot" 286,sT "NoRoot" 287, sF 288,iZ 17,iZ 0,iZ 0,iZ 0,iZ 0,.ref 88, .bool false,iZ 181,.ref 89, .none, .none, .none, .none,iZ 289,iZ 17, sF 290]
noncomputable def Abj:O:=rO 90 87 "formcycle.errors" 187
noncomputable def Ab8:O:=.mk .none none (Data.func (FuncData.mk (.ofString "__init__") (.ofString "NoRoot.__init__") (fA (inC (tp 5) 0)) (.stmts (fB (inC (tp 5) 0))) (fS (inC (tp 5) 0)) 0 [] .none .none .none .none none .none .none 0)) #[]
noncomputable def YG:O:=sO 101
noncomputable def Zc:O:=bO #[.builtin "object.__init_subclass__",.ref 101]
noncomputable def ZC (P:Params):O:=dO #[dE P "__module__" 316 (sT "formcycle.errors" 187),dE P "__qualname__" 318 (sT "NoMeasure" 317),dE P "__firstlineno__" 320 (.int 21 319),dE P "__init__" 328 (.ref 117),dE P "__static_attributes__" 330 (.ref 118)] 5
noncomputable def ZM:O:=nO #[iZ 23,iZ 4,.ref 116]
noncomputable def Zb:O:=cO #[sT "NoMeasure" 311,sT "NoMeasure" 312, sF 313,iZ 21,iZ 0,iZ 0,iZ 0,iZ 0,.ref 107, .bool false,iZ 181,.ref 108, .none, .none, .none, .none,iZ 314,iZ 21, sF 315]
noncomputable def Zj:O:=rO 109 106 "formcycle.errors" 187
noncomputable def Za:O:=.mk .none none (Data.func (FuncData.mk (.ofString "__init__") (.ofString "NoMeasure.__init__") (fA (inC (tp 6) 0)) (.stmts (fB (inC (tp 6) 0))) (fS (inC (tp 6) 0)) 0 [] .none .none .none .none none .none .none 0)) #[]
noncomputable def YM:O:=sO 120
noncomputable def Zo:O:=bO #[.builtin "object.__init_subclass__",.ref 120]
noncomputable def Yo:O:=.mk .none none (Data.func (FuncData.mk (.ofString "divisor") (.ofString "divisor") (fA (tp 8)) (.stmts (fB (tp 8))) (fS (tp 8)) 0 [] .none .none .none .none none .none .none 0)) #[]
noncomputable def YW:O:=.mk .none none (Data.func (FuncData.mk (.ofString "root") (.ofString "root") (fA (tp 9)) (.stmts (fB (tp 9))) (fS (tp 9)) 0 [] .none .none .none .none none .none .none 0)) #[]
noncomputable def Zd:O:=.mk .none none (Data.func (FuncData.mk (.ofString "is_square") (.ofString "is_square") (fA (tp 10)) (.stmts (fB (tp 10))) (fS (tp 10)) 0 [] .none .none .none .none none .none .none 0)) #[]
noncomputable def tr0 (P : Params) : BT := Nd (boot_o_0 P) (Nd (boot_o_1 P) (Nd (boot_o_3 P) (Lf (boot_o_7 P)) (Lf tE)) (Nd (boot_o_5 P) (Lf (boot_o_9 P)) (Lf Aak))) (Nd (boot_o_2 P) (Nd (boot_o_4 P) (Lf (boot_o_8 P)) (Lf Ij)) (Nd (boot_o_6 P) (Lf (boot_o_10 P)) (Lf Aaz)))
noncomputable def St0 (w : World) (os : OsState) : SharedT := ⟨tr0 w.params, 15, Life.mk [] [] [] 0 [] [] Bool.false #[] [] 0 Bool.false Bool.false Bool.false 0 [2000, 10, 10] Bool.false 0 Bool.true [] [] 0 Bool.false, Array.mk [], Drawn.mk 0 0 0 0, 187, os⟩
noncomputable def ps0 : Pos := ⟨0, 0, 0, 0⟩
noncomputable def AgC (P : Params) : BT := Nd (boot_o_0 P) (Nd (boot_o_1 P) (Nd (AdS P) (Nd (boot_o_7 P) (Nd o15 (Nd tE (Nd o63 (Lf Yo) .nil) (Lf tE)) (Nd o47 (Nd o79 (Lf Ac9) .nil) (Lf tE))) (Nd (o23 P) (Nd Aa3 (Nd AaF (Lf AcV) .nil) (Lf Zc)) (Nd Ij (Lf (AcA P)) (Lf (Ade P))))) (Nd tE (Nd Ij (Nd tE (Nd JQ (Lf Ij) .nil) (Lf o99)) (Nd AcD (Lf AaU) (Lf Za))) (Nd Abi (Nd (o43 P) (Nd o75 (Lf Aeh) .nil) (Lf tE)) (Nd o59 (Lf Abj) (Lf tE))))) (Nd (boot_o_5 P) (Nd (boot_o_9 P) (Nd (AcE P) (Nd Acv (Nd Ab3 (Lf Adg) .nil) (Lf o97)) (Nd (AbN P) (Lf (o81 P)) (Lf Ad4))) (Nd o25 (Nd o41 (Nd tE (Lf tE) .nil) (Lf JQ)) (Nd tE (Lf Ab6) (Lf YM)))) (Nd Aak (Nd AaX (Nd o37 (Nd tE (Lf tE) .nil) (Lf AdQ)) (Nd Acs (Lf o85) (Lf Aeo))) (Nd JQ (Nd AbT (Nd Acu (Lf Zd) .nil) (Lf Zb)) (Nd o61 (Lf Ij) (Lf AdE)))))) (Nd (boot_o_2 P) (Nd (boot_o_4 P) (Nd (boot_o_8 P) (Nd JQ (Nd Abl (Nd AbU (Lf Ac4) .nil) (Lf Ab8)) (Nd JQ (Lf o80) (Lf Ij))) (Nd o24 (Nd o40 (Nd Abb (Lf Aeb) .nil) (Lf Ads)) (Nd o56 (Lf tE) (Lf Adt)))) (Nd AaE (Nd AaJ (Nd Ij (Nd (Acr P) (Lf Aee) .nil) (Lf (o100 P))) (Nd Abd (Lf Aa2) (Lf AcY))) (Nd o28 (Nd o44 (Nd tE (Lf tE) .nil) (Lf ZM)) (Nd o60 (Lf tE) (Lf Ij))))) (Nd (boot_o_6 P) (Nd (boot_o_10 P) (Nd tE (Nd Aa4 (Nd o66 (Lf tE) .nil) (Lf o98)) (Nd tE (Lf o82) (Lf tE))) (Nd AaI (Nd o42 (Nd Ij (Lf Ij) .nil) (Lf (ZC P))) (Nd Ab4 (Lf AcJ) (Lf Zo)))) (Nd Aaz (Nd tE (Nd tE (Nd AaM (Lf YW) .nil) (Lf YG)) (Nd tE (Lf JQ) (Lf Ad8))) (Nd (AcB P) (Nd Abg (Nd o78 (Lf Aef) .nil) (Lf Zj)) (Nd (o62 P) (Lf o94) (Lf tE))))))
noncomputable def AcN (w : World) (os : OsState) : SharedT := ⟨AgC w.params, 144, Life.mk [] [] [] 0 [] [] Bool.false #[] [] 0 Bool.false Bool.false Bool.false 0 [2000, 10, 10] Bool.false 0 Bool.true [] [] 0 Bool.false, Array.mk [], Drawn.mk 0 0 0 0, 362, os⟩
noncomputable def AcR : Pos := ⟨43, 0, 47, 32⟩
end
noncomputable def vw : Program := { PySem.Challenge.pw_formcycle_k46_classes with main := { PySem.Challenge.pw_formcycle_k46_classes.main with body := [tp 1, tp 2, tp 3, tp 4, tp 5, tp 6, tp 8, tp 9, tp 10, tp 11, tp 12, tp 14, tp 15, tp 16, tp 17, tp 19, tp 20, tp 21, tp 22, tp 23, tp 24, tp 26, tp 28, tp 29, tp 30, tp 31, tp 32, tp 33, tp 34, tp 35, tp 37, tp 38, tp 39, tp 40, tp 41, tp 43, tp 44, tp 45, tp 46, tp 47, tp 48, tp 49, tp 50, tp 51, tp 52, tp 53, tp 54] } }
noncomputable def asK : List Nat := [2, 3, 15, 22, 23, 24, 25, 28, 35, 37, 38, 40, 41, 42, 43, 44, 47, 54, 56, 57, 59, 60, 61, 62, 63, 66, 73, 75, 76, 78, 79, 80, 81, 82, 85, 92, 94, 95, 97, 98, 99, 100, 101, 104, 111, 113, 114, 116, 117, 118, 119, 120, 123, 125, 126, 128, 129, 130, 132, 133, 135, 136, 137, 139, 140, 142, 143, 144, 146, 147, 149, 150, 151, 153, 154, 156, 157, 158, 159, 161, 162, 164, 165, 166, 168, 169, 171, 172, 173, 175, 176, 178, 179, 180, 182, 183, 185, 186, 187, 189, 190, 192, 193, 194, 196, 197, 199, 200, 201, 203, 204, 206, 207, 208, 210, 211, 213, 214, 215, 217, 218, 220, 221, 222, 224, 225, 227, 228, 229, 231, 232, 234, 235, 236, 238, 239, 241, 242, 243, 245, 246, 248, 249, 250, 252, 253, 255, 256, 257, 259, 260, 262, 263, 264, 266, 267, 269, 270, 271, 274, 275, 276, 278, 279, 281, 282, 283, 285, 286, 288, 289, 290, 293, 294, 295, 297, 298, 300, 301, 302, 305, 306, 307, 309, 310, 312, 313, 314, 316, 317, 319, 320, 321, 324, 325, 326, 328, 329, 331, 332, 333, 335, 336, 338, 339, 347, 349, 350, 352, 353, 354, 356, 357, 359, 360, 361, 363, 364, 366, 367, 368, 370, 371, 373, 374, 375, 377, 378, 380, 381, 382, 384, 385, 387, 388]
noncomputable def bE : List Stmt := behindTheImports PySem.Challenge.rw_formcycle_k46_classes.row.prog
noncomputable def ev : Env := { scope := PySem.Challenge.rw_formcycle_k46_classes.row.prog.main.scope, locals := mainNs, globals := mainNs, cells := [], code := .ref 13, frame := some 14 }
noncomputable def cc : Code := .body bE ev
noncomputable def qq : Pos := .mk 0 0 0 0
noncomputable def pp : Pos := ⟨0, 0, 0, 0⟩
theorem AdK : ∀ w os, goT treeTable PySem.Challenge.rw_formcycle_k46_classes.row.prog w 11 (some (.ref 6)) 12 (Nj w os) (topStub PySem.Challenge.rw_formcycle_k46_classes.row.prog) = some (St0 w os, ⟨denote treeTable cc, cc, pp, [topFrame qq]⟩) := fun w os => by kernel_rfl
theorem AdB : ∀ w os, segRunT treeTable PySem.Challenge.rw_formcycle_k46_classes.row.prog w 11 (some (.ref 6)) 1 1 (St0 w os) (blockOf bE ev cc pp [topFrame qq]) = some (.next, St0 w os, cc, ps0) := fun w os => by kernel_rfl
noncomputable def l11 : List Stmt := List.take 11 bE
noncomputable def r11 : List Stmt := List.drop 11 bE
theorem Afa : ∀ w os, segRunT treeTable PySem.Challenge.rw_formcycle_k46_classes.row.prog w 11 (some (.ref 6)) 1 1524 (St0 w os) (piecesOf l11 ev cc ps0 [topFrame qq]) = some (.next, AcN w os, cc, AcR) := fun w os => by kernel_rfl
noncomputable def TL (w : World) (os : OsState) : Option SharedT := Q0 treeTable PySem.Challenge.rw_formcycle_k46_classes.row.prog w 11 (some (.ref 6)) 1221 (AcN w os) (restOf r11 ev cc AcR [topFrame qq])
theorem hr : ∀ w os r, TL w os = some r → topRun treeTable PySem.Challenge.rw_formcycle_k46_classes.row.prog w (Bk w os).heap.objs.size ((Bk w os).heap.nsMap mainGlobals "__annotations__") 2758 (Bk w os) (topStub PySem.Challenge.rw_formcycle_k46_classes.row.prog) = some r.abs := fun w os r h => by
  rw [show (Bk w os).heap.objs.size = 11 by kernel_rfl, show (Bk w os).heap.nsMap mainGlobals "__annotations__" = some (.ref 6) by kernel_rfl]
  have k := Ol _ h
  have k := piece_app (segRun_of (Afa w os)) k
  rw [show l11 ++ r11 = bE from List.take_append_drop _ _] at k
  have k := piece_block (segRun_of (AdB w os)) k
  have k := go_top (V2 _ (AdK w os)) k
  rw [boot_abs] at k
  exact k
noncomputable def sA0 (s : Shared) := PyProof.Rows.seen ((PyProof.Rows.recsOf vw).map (·.name)) (PyProof.Rows.ownsOf vw) [] { s with gens := #[] }
noncomputable def sA1 (s : Shared) := s.heap.bltView
noncomputable def sA2 (s : Shared) := s.heap.keysOk (looseW vw []) ((PyProof.Rows.recsOf vw).map (·.name)) ((PyProof.Rows.litsOf vw).map (·.1)) ((PyProof.Rows.clssOf vw (looseW vw [])).map (·.name)) && s.heap.accountedOkI (importedModules PySem.Challenge.rw_formcycle_k46_classes.row.prog.main.body) && s.heap.isNs mainGlobals && s.heap.isNs builtinsNs && PyProof.Rows.tablesOk vw s.heap && (xlAt vw [] s && recOk (RowW.records PySem.Challenge.rw_formcycle_k46_classes.row.toRowW) s) && (if true then s.gens.size == 0 else !leftWithCleanup s.gens)
noncomputable def sA3 (s : Shared) := PyProof.Rows.tabsOk vw s
noncomputable def sA4 (s : Shared) := pinSeenD vw (PyProof.Rows.drecsOf vw) s
noncomputable def sA5 (s : Shared) := PyProof.Rows.plainSeenE vw (looseW vw []) s
noncomputable def sA6 (s : Shared) := PyProof.Rows.plainSeenD vw [] s
noncomputable def sA7 (s : Shared) := wideSeen vw s
noncomputable def sA8 (s : Shared) := clsSeenW vw [] s
theorem hA : ∀ (w : World) (os : OsState), (TL w os).map (fun r => stays PySem.Challenge.rw_formcycle_k46_classes.row.prog (Bk w os) r.abs) = some true := fun w os => by kernel_rfl
theorem hB0 : ∀ (w : World) (os : OsState), (TL w os).map (fun r => sA0 r.abs) = some (PyProof.Rows.expectedOf vw) := fun w os => by kernel_rfl
theorem hB1 : ∀ (w : World) (os : OsState), (TL w os).map (fun r => (sA1 r.abs, sA3 r.abs, sA4 r.abs, sA6 r.abs, sA8 r.abs)) = some (bltViewBooted, true, pinGoodD (PyProof.Rows.drecsOf vw), PyProof.Rows.plainGoodD vw [], clsGoodW vw []) := fun w os => by kernel_rfl
theorem hB2 : ∀ (w : World) (os : OsState), (TL w os).map (fun r => sA2 r.abs) = some true := fun w os => by kernel_rfl
theorem hB5 : ∀ (w : World) (os : OsState), (TL w os).map (fun r => sA5 r.abs) = some (PyProof.Rows.plainGoodE vw (looseW vw [])) := fun w os => by kernel_rfl
theorem hB7 : ∀ (w : World) (os : OsState), (TL w os).map (fun r => sA7 r.abs) = some (wideGood vw) := fun w os => by kernel_rfl
theorem nine {α0 α1 α2 α3 α4 α5 α6 α7 α8 : Type} {o : Option SharedT} {A0 : Shared → α0} {A1 : Shared → α1} {A2 : Shared → α2} {A3 : Shared → α3} {A4 : Shared → α4} {A5 : Shared → α5} {A6 : Shared → α6} {A7 : Shared → α7} {A8 : Shared → α8} {a0 : α0} {a1 : α1} {a2 : α2} {a3 : α3} {a4 : α4} {a5 : α5} {a6 : α6} {a7 : α7} {a8 : α8}
    (h0 : o.map (fun r => A0 r.abs) = some a0) (h1 : o.map (fun r => (A1 r.abs, A3 r.abs, A4 r.abs, A6 r.abs, A8 r.abs)) = some (a1, a3, a4, a6, a8)) (h2 : o.map (fun r => A2 r.abs) = some a2) (h5 : o.map (fun r => A5 r.abs) = some a5) (h7 : o.map (fun r => A7 r.abs) = some a7) :
    o.map (fun r => (A0 r.abs, A1 r.abs, A2 r.abs, A3 r.abs, A4 r.abs, A5 r.abs, A6 r.abs, A7 r.abs, A8 r.abs)) = some (a0, a1, a2, a3, a4, a5, a6, a7, a8) := by
  cases o with
  | none => cases h0
  | some r =>
    simp only [Option.map_some, Option.some.injEq, Prod.mk.injEq] at h0 h1 h2 h5 h7 ⊢
    exact ⟨h0, h1.1, h2, h1.2.1, h1.2.2.1, h5, h1.2.2.2.1, h7, h1.2.2.2.2⟩
theorem hB : ∀ (w : World) (os : OsState), (TL w os).map (fun r => openSeen vw [] (importedModules PySem.Challenge.rw_formcycle_k46_classes.row.prog.main.body) (fun s => xlAt vw [] s && recOk (RowW.records PySem.Challenge.rw_formcycle_k46_classes.row.toRowW) s) true r.abs) = some (openGood vw []) := fun w os => nine (A0 := sA0) (A1 := sA1) (A2 := sA2) (A3 := sA3) (A4 := sA4) (A5 := sA5) (A6 := sA6) (A7 := sA7) (A8 := sA8) (hB0 w os) (hB1 w os) (hB2 w os) (hB5 w os) (hB7 w os)
theorem hC : ∀ (w : World) (os : OsState), (TL w os).map (fun r => Hook.obs (kHook My.KK My.asK (fun _ => by kernel_rfl)) r.abs) = some (Hook.val (kHook My.KK My.asK (fun _ => by kernel_rfl)) w) := fun w os => by kernel_rfl
theorem hl : LeftO PySem.Challenge.rw_formcycle_k46_classes.row.prog vw [] (fun s => xlAt vw [] s && recOk (RowW.records PySem.Challenge.rw_formcycle_k46_classes.row.toRowW) s) (Hook.obs (kHook My.KK My.asK (fun _ => by kernel_rfl))) (Hook.val (kHook My.KK My.asK (fun _ => by kernel_rfl))) 2758 := fun w => Wu (TL := TL w) (by kernel_rfl) (by decide) (fun _ => by kernel_rfl) (hr w) (hA w) (hB w) (hC w) (fun os => by kernel_rfl)
end My
namespace L2
open PySem PySem.Spec PyProof.Rows
noncomputable abbrev Key := Sum Int Str
noncomputable def Tv : Key → Value → Bool
  | .inl k, v => Value.isInt k v
  | .inr x, v => Value.isStrOf x v
noncomputable def AbJ (w : World) : Key → Int
  | .inl k => hashInt k
  | .inr x => hashStr w x
theorem BZ : ∀ {k : Key} {v : Value}, Tv k v = true → (∃ i t, k = Sum.inl i ∧ v = Value.int i t) ∨ (∃ x t, k = Sum.inr x ∧ v = Value.str x t)
  | .inl i, v, h => by
    obtain ⟨t, e⟩ := Value.isInt_shape (k := i) (v := v) h
    exact .inl ⟨i, t, rfl, e⟩
  | .inr x, v, h => by
    obtain ⟨t, e⟩ := Value.isStrOf_shape (x := x) (v := v) h
    exact .inr ⟨x, t, rfl, e⟩
theorem Vi (i : Int) (t : Tok) : Tv (.inl i) (.int i t) = true := by simp [Tv, Value.isInt]
theorem Abm (a b : Int) : decide ((Sum.inl a : Key) = Sum.inl b) = (a == b) := by
  by_cases e : a = b
  · subst e; simp
  · have h : ¬ (Sum.inl a : Key) = Sum.inl b := fun q => e (Sum.inl.inj q)
    rw [decide_eq_false h]
    exact (beq_eq_false_iff_ne.mpr e).symm
theorem AaN (a b : Str) : decide ((Sum.inr a : Key) = Sum.inr b) = decide (a = b) := by
  by_cases e : a = b
  · subst e; simp
  · have h : ¬ (Sum.inr a : Key) = Sum.inr b := fun q => e (Sum.inr.inj q)
    rw [decide_eq_false h, decide_eq_false e]
theorem AcC (a : Int) (b : Str) : decide ((Sum.inl a : Key) = Sum.inr b) = false := decide_eq_false (fun q => nomatch q)
theorem AbY (a : Str) (b : Int) : decide ((Sum.inr a : Key) = Sum.inl b) = false := decide_eq_false (fun q => nomatch q)
noncomputable def EY (prog : Program) (w : World) : PySem.KeyKind prog w Key where
  is := Tv
  hash := AbJ w
  inj := fun v a b ha hb => by
    rcases BZ ha with ⟨i, t, rfl, rfl⟩ | ⟨x, t, rfl, rfl⟩
    · rcases BZ hb with ⟨j, u, rfl, e⟩ | ⟨y, u, rfl, e⟩
      · injection e with e1 _; rw [e1]
      · exact nomatch e
    · rcases BZ hb with ⟨j, u, rfl, e⟩ | ⟨y, u, rfl, e⟩
      · exact nomatch e
      · injection e with e1 _; rw [e1]
  byValue := fun k v h => by
    rcases BZ h with ⟨i, t, rfl, rfl⟩ | ⟨x, t, rfl, rfl⟩ <;> rfl
  pyHash := fun hv h => by
    rcases BZ hv with ⟨i, t, rfl, rfl⟩ | ⟨x, t, rfl, rfl⟩
    · exact wpAny_pyHash_int h
    · exact wpAny_pyHash_str h
  eqBool := fun hu hv h => by
    rcases BZ hu with ⟨i, t, rfl, rfl⟩ | ⟨x, t, rfl, rfl⟩
    · rcases BZ hv with ⟨j, u, rfl, rfl⟩ | ⟨y, u, rfl, rfl⟩
      · rw [Abm] at h; exact wpAny_eqBool_int h
      · rw [AcC] at h; exact SeqAt.EqAt.int_str i t y u _ _ _ _ h
    · rcases BZ hv with ⟨j, u, rfl, rfl⟩ | ⟨y, u, rfl, rfl⟩
      · rw [AbY] at h; exact SeqAt.EqAt.str_int x t j u _ _ _ _ h
      · rw [AaN] at h; exact wpAny_eqBool_str h
  «strs» := fun k x t v h => by
    rcases BZ h with ⟨i, u, rfl, e⟩ | ⟨y, u, rfl, e⟩
    · exact nomatch e
    · injection e with e1 _
      subst e1
      cases v <;> rfl
theorem Qc (prog : Program) (w : World) (i : Int) (t : Tok) : (EY prog w).is (.inl i) (.int i t) = true := Vi i t
inductive V where
  | non | bl (b : Bool) | int (i : Int) | str (x : Str) | byt (b : Array UInt8) | flt (b : UInt64) | ref (a : Addr) | ty (n : String)
  deriving DecidableEq
noncomputable def RelV : V → Value → Prop
  | .non, u => u = Value.none
  | .bl b, u => u = Value.bool b
  | .int i, u => ∃ t, u = Value.int i t
  | .str x, u => ∃ t, u = Value.str x t
  | .byt b, u => ∃ t, u = Value.bytes b t
  | .flt b, u => ∃ t, u = Value.float b t
  | .ref a, u => u = Value.ref a
  | .ty n, u => u = Value.type n
noncomputable abbrev Vals : List V → List Value → Prop := Paired RelV
theorem Vals.length {xs : List V} {us : List Value} (r : Vals xs us) : xs.length = us.length := Paired.length r
theorem Vals.get : ∀ {xs : List V} {us : List Value} {i : Nat} {x : V}, Vals xs us → xs[i]? = some x → ∃ u, us[i]? = some u ∧ RelV x u
  | _, _, _, _, .nil, e => by simp at e
  | _, _, 0, _, .cons r _, e => by simp at e; subst e; exact ⟨_, rfl, r⟩
  | _, _, i + 1, x, .cons _ t, e => by
    obtain ⟨u, h1, h2⟩ := Vals.get (i := i) (x := x) t (by simpa using e)
    exact ⟨u, by simpa using h1, h2⟩
theorem Vals.append : ∀ {xs ys : List V} {us ws : List Value}, Vals xs us → Vals ys ws → Vals (xs ++ ys) (us ++ ws)
  | _, _, _, _, .nil, s => s
  | _, _, _, _, .cons r t, s => .cons r (Vals.append t s)
theorem Vals.take : ∀ {xs : List V} {us : List Value} (n : Nat), Vals xs us → Vals (xs.take n) (us.take n)
  | _, _, 0, _ => .nil
  | _, _, _ + 1, .nil => .nil
  | _, _, n + 1, .cons r t => .cons r (Vals.take n t)
theorem Vals.drop : ∀ {xs : List V} {us : List Value} (n : Nat), Vals xs us → Vals (xs.drop n) (us.drop n)
  | _, _, 0, r => r
  | _, _, _ + 1, .nil => .nil
  | _, _, n + 1, .cons _ t => Vals.drop n t
noncomputable def Ad2 : Option V → Option Value → Prop
  | some v, some u => RelV v u
  | none, none => True
  | _, _ => False
noncomputable def KV {κ : Type} : List (κ × V) → List (κ × Value) → Prop := Paired fun (p : κ × V) (q : κ × Value) => p.1 = q.1 ∧ RelV p.2 q.2
noncomputable def kV : Key → V
  | .inl i => .int i
  | .inr x => .str x
inductive HO where
    | lst (xs : List V)
    | tup (xs : List V)
    | dK (kvs : List (Key × V)) | dT (kvs : List (List Key × V))
    | set (S : Int → Bool) (n : Nat)
    | ins (C dx : Addr) (fs : List (Str × V))
    | own (x : Addr)
    | xd (fs : List (Str × V))
    | met (f x : Addr)
    | rng (lo hi : Int)
    | frz (o : Obj) (u : HO)
    | tbl (ps : Array Value)
    | ext (φ : Heap → Prop)
noncomputable abbrev Hp := Addr → Option HO
noncomputable def upd (H : Hp) (a : Addr) (o : HO) : Hp := fun b => if b = a then some o else H b
theorem Bp {H : Hp} {a : Addr} {o : HO} : upd H a o a = some o := by unfold upd; rw [if_pos rfl]
theorem Bc {H : Hp} {a b : Addr} {o : HO} (h : b ≠ a) : upd H a o b = H b := by unfold upd; rw [if_neg h]
theorem Dw {H : Hp} {a b : Addr} {o : HO} (h : H a = some o) (h' : H b = none) : a ≠ b := by
  intro e; subst e; rw [h] at h'; cases h'
section
variable (P : Program) (w : World)
noncomputable def Gq (H : Hp) (h : Heap) (a : Addr) : HO → Prop
  | .lst xs => xs.length ≤ sizeLine ∧ ∃ (its : List Value) (n : Nat), Vals xs its ∧ h.get? a = some { cls := .type "list", data := .seq its.toArray n }
  | .tup xs => xs.length ≤ sizeLine ∧ ∃ its : List Value, Vals xs its ∧ IsTup h a its.toArray
  | .dK kvs => kvs.length ≤ sizeLine ∧ (a == sysModules) = false ∧ ∃ vs, KV kvs vs ∧ h.DictOf (EY P w) a vs
  | .dT kvs => kvs.length ≤ sizeLine ∧ (a == sysModules) = false ∧ ∃ xs : List (List Key × Addr × Value),
      Paired (fun (p : List Key × V) (q : List Key × Addr × Value) => p.1 = q.1 ∧ H q.2.1 = some (.tup (p.1.map kV)) ∧ RelV p.2 q.2.2) kvs xs ∧
      ∃ o es ep, h.get? a = some o ∧ o.ExactDict ∧ o.data = .dict es ep ∧ es.toList = xs.map (entryOfKey (tupleKind (EY P w))) ∧ (xs.map (·.1)).Nodup
  | .set S n => h.SetOf (intKind P w) a S n
  | .ins C dx fs => H dx = some (.own a) ∧ fs.length ≤ 1000 ∧ dx ≠ a ∧ h.get? a = some (PySem.W.instObj C dx) ∧
      ∃ mA, h.Ns1 dx mA ∧ (∀ f, Ad2 (fs.lookup f) (mA f)) ∧ PySem.Within mA (fs.map (·.1))
  | .own _ => ∃ o, h.get? a = some o
  | .xd fs => ∃ mA, h.Ns1 a mA ∧ ∀ f, Ad2 (fs.lookup f) (mA f)
  | .rng lo hi => ∃ t u v, h.get? a = some { cls := .type "range", data := .fields #[.int lo t, .int hi u, .int 1 v] }
  | .frz o u => h.get? a = some o ∧ Gq H h a u
  | .tbl ps => h.get? a = some { cls := .none, data := .fields ps }
  | .met f x => h.get? a = some (PySem.W.methodObj (.ref f) (.ref x))
  | .ext φ => φ h ∧ (∃ o, h.get? a = some o) ∧ ∀ h1 h2 : Heap, φ h1 → (∀ o, h1.get? a = some o → h2.get? a = some o) → φ h2
noncomputable def HOk (H : Hp) (h : Heap) : Prop := ∀ a o, H a = some o → Gq P w H h a o
end
section
variable {P : Program} {w : World} {H H' : Hp} {h h' : Heap} {a : Addr} {o : HO}
theorem Gq.lt (x : Gq P w H h a o) : a < h.objs.size := by
  cases o with
  | lst xs => obtain ⟨_, _, _, _, e⟩ := x; exact Heap.lt_size e
  | tup xs => obtain ⟨_, _, _, p⟩ := x; exact p.lt
  | dK kvs => obtain ⟨_, _, _, _, o, _, _, e, _⟩ := x; exact Heap.lt_size e
  | dT kvs => obtain ⟨_, _, _, _, o, _, _, e, _⟩ := x; exact Heap.lt_size e
  | set S n => obtain ⟨o, _, _, _, e, _⟩ := x; exact Heap.lt_size e
  | ins C dx fs => obtain ⟨_, _, _, e, _⟩ := x; exact Heap.lt_size e
  | own y => obtain ⟨_, e⟩ := x; exact Heap.lt_size e
  | xd fs => obtain ⟨_, ⟨_, _, _, e, _⟩, _⟩ := x; exact Heap.lt_size e
  | rng lo hi => obtain ⟨_, _, _, e⟩ := x; exact Heap.lt_size e
  | frz ob u => obtain ⟨e, _⟩ := x; exact Heap.lt_size e
  | tbl ps => exact Heap.lt_size (show h.get? a = some _ from x)
  | met f y => exact Heap.lt_size (show h.get? a = some _ from x)
  | ext φ => obtain ⟨_, ⟨_, e⟩, _⟩ := x; exact Heap.lt_size e
theorem Paired.mapP {α β : Type} {F G : α → β → Prop} : ∀ {l₁ : List α} {l₂ : List β}, Paired F l₁ l₂ → (∀ a b, F a b → G a b) → Paired G l₁ l₂
  | _, _, .nil, _ => .nil
  | _, _, .cons r t, f => .cons (f _ _ r) (Paired.mapP t f)
theorem Gq.stay (x : Gq P w H h a o) (k : ∀ b u, (b = a ∨ H b = some (.own a)) → h.get? b = some u → h'.get? b = some u)
    (ho : ∀ b, H b = some (.own a) → H' b = some (.own a)) (ht : ∀ b xs, H b = some (.tup xs) → H' b = some (.tup xs)) : Gq P w H' h' a o := by
  induction o with
  | lst xs => obtain ⟨z, its, n, r, e⟩ := x; exact ⟨z, its, n, r, k _ _ (.inl rfl) e⟩
  | tup xs => obtain ⟨z, its, r, ob, e, c⟩ := x; exact ⟨z, its, r, ob, k _ _ (.inl rfl) e, c⟩
  | dK kvs => obtain ⟨z, y, vs, r, ob, es, ep, e, c⟩ := x; exact ⟨z, y, vs, r, ob, es, ep, k _ _ (.inl rfl) e, c⟩
  | dT kvs =>
    obtain ⟨z, y, xs, r, ob, es, ep, e, c⟩ := x
    exact ⟨z, y, xs, Paired.mapP r fun p q z => ⟨z.1, ht _ _ z.2.1, z.2.2⟩, ob, es, ep, k _ _ (.inl rfl) e, c⟩
  | set S n => obtain ⟨ob, es, ep, t, e, c⟩ := x; exact ⟨ob, es, ep, t, k _ _ (.inl rfl) e, c⟩
  | ins C dx fs =>
    obtain ⟨d, z, ne, e, mA, ⟨od, es, ep, e2, c⟩, r⟩ := x
    exact ⟨ho _ d, z, ne, k _ _ (.inl rfl) e, mA, ⟨od, es, ep, k _ _ (.inr d) e2, c⟩, r⟩
  | own y => obtain ⟨ob, e⟩ := x; exact ⟨ob, k _ _ (.inl rfl) e⟩
  | xd fs => obtain ⟨mA, ⟨od, es, ep, e, c⟩, r⟩ := x; exact ⟨mA, ⟨od, es, ep, k _ _ (.inl rfl) e, c⟩, r⟩
  | rng lo hi => obtain ⟨t, u, v, e⟩ := x; exact ⟨t, u, v, k _ _ (.inl rfl) e⟩
  | frz ob u ih => obtain ⟨e, q⟩ := x; exact ⟨k _ _ (.inl rfl) e, ih q⟩
  | tbl ps =>
    have e : h.get? a = some { cls := .none, data := .fields ps } := x
    show h'.get? a = some { cls := .none, data := .fields ps }
    exact k a _ (.inl rfl) e
  | met f y =>
    have e : h.get? a = some (PySem.W.methodObj (.ref f) (.ref y)) := x
    show h'.get? a = some (PySem.W.methodObj (.ref f) (.ref y))
    exact k a _ (.inl rfl) e
  | ext φ => obtain ⟨p, ⟨o, e⟩, st⟩ := x; exact ⟨st _ _ p fun o q => k _ _ (.inl rfl) q, ⟨o, k _ _ (.inl rfl) e⟩, st⟩
theorem HOk.lt (x : HOk P w H h) (e : H a = some o) : a < h.objs.size := (x a o e).lt
theorem HOk.fresh (x : HOk P w H h) (e : h.objs.size ≤ a) : H a = none := by
  cases q : H a with
  | none => rfl
  | some u => exact absurd (Nat.lt_of_lt_of_le (x.lt q) e) (Nat.lt_irrefl _)
theorem HOk.kept (x : HOk P w H h) (k : ∀ b u, h.get? b = some u → h'.get? b = some u) : HOk P w H h' := fun a o e =>
  (x a o e).stay (fun b u _ q => k b u q) (fun _ q => q) fun _ _ q => q
theorem HOk.laid (x : HOk P w H h) (k : ∀ b u, h.get? b = some u → h'.get? b = some u) (hp : h.objs.size ≤ a) (new : Gq P w (upd H a o) h' a o) : HOk P w (upd H a o) h' := fun b u e => by
  have hn := x.fresh hp
  by_cases hb : b = a
  · subst hb; rw [Bp] at e; cases e; exact new
  · rw [Bc hb] at e
    exact (x b u e).stay (fun c v _ q => k c v q) (fun c q => by rw [Bc (Dw q hn)]; exact q) fun c xs q => by rw [Bc (Dw q hn)]; exact q
end
noncomputable def Rd (H : Hp) (a : Addr) (u : HO) : Prop := H a = some u ∨ ∃ o, H a = some (.frz o u)
theorem Rd.ok {P : Program} {w : World} {H : Hp} {h : Heap} {a : Addr} {u : HO} (r : Rd H a u) (x : HOk P w H h) : Gq P w H h a u := by
  rcases r with r | ⟨o, r⟩
  · exact x a u r
  · obtain ⟨_, q⟩ := x a _ r
    exact q
noncomputable def Mut : Option HO → Prop
  | some (.lst _) => True
  | some (.dK _) => True
  | some (.dT _) => True
  | some (.set _ _) => True
  | some (.ins _ _ _) => True
  | some (.ext _) => True
  | _ => False
section
variable {P : Program} {w : World} {H : Hp} {h h' : Heap} {x e : Addr} {o' : HO}
theorem HOk.write (ok : HOk P w H h) (mu : Mut (H x)) (he : e = x ∨ H e = some (.own x)) (k : ∀ b u, b ≠ e → h.get? b = some u → h'.get? b = some u) (heo : ∃ u, h'.get? e = some u)
    (new : Gq P w (upd H x o') h' x o') : HOk P w (upd H x o') h' := fun b u q => by
  have nown : ∀ c y, H c = some (.own y) → c ≠ x := fun c y r z => by subst z; rw [r] at mu; exact mu
  have ntup : ∀ c xs, H c = some (.tup xs) → c ≠ x := fun c xs r z => by subst z; rw [r] at mu; exact mu
  by_cases hb : b = x
  · subst hb; rw [Bp] at q; cases q; exact new
  · rw [Bc hb] at q
    by_cases hbe : b = e
    · have q' : H b = some (.own x) := by
        rcases he with z | z
        · exact absurd (hbe.trans z) hb
        · rw [hbe]; exact z
      rw [q] at q'; cases q'
      obtain ⟨v, hv⟩ := heo
      exact ⟨v, by rw [hbe]; exact hv⟩
    · refine (ok b u q).stay (fun c v hc r => k c v ?_ r) (fun c r => by rw [Bc (nown c b r)]; exact r) fun c xs r => by rw [Bc (ntup c xs r)]; exact r
      rcases hc with rfl | hc
      · exact hbe
      · rintro rfl
        rcases he with z | z
        · exact nown c b hc z
        · rw [hc] at z; cases z; exact hb rfl
end
structure Un (fs ex : List Addr) (H H' : Hp) (h h' : Heap) : Prop where
  keep : ∀ b o, h.get? b = some o → H b = none → b ∉ fs → b ∉ ex → h'.get? b = some o
  slot : ∀ b o, h.get? b = some o → H b = none → b ∈ fs → b ∉ ex → ∃ sl, h'.get? b = some { o with slots := sl }
  free : ∀ b o, h.get? b = some o → H b = none → b ∉ ex → H' b = none
  there : ∀ b o, h.get? b = some o → b ∉ ex → ∃ o', h'.get? b = some o'
  tups : ∀ b xs, H b = some (.tup xs) → H' b = some (.tup xs)
  frzs : ∀ b o u, H b = some (.frz o u) → H' b = some (.frz o u)
  tbls : ∀ b ps, H b = some (.tbl ps) → ∃ more, H' b = some (.tbl (ps ++ more))
section
variable {fs fs' ex ex' : List Addr} {H H1 H2 : Hp} {h h1 h2 h' : Heap} {a x e : Addr} {o : HO}
theorem Un.any (u : Un fs ex H H1 h h1) {b : Addr} {ob : Obj} (q : h.get? b = some ob) (n : H b = none) (hx : b ∉ ex) : ∃ sl, h1.get? b = some { ob with slots := sl } := by
  by_cases hb : b ∈ fs
  · exact u.slot b ob q n hb hx
  · exact ⟨ob.slots, u.keep b ob q n hb hx⟩
theorem Un.trans (a : Un fs ex H H1 h h1) (b : Un fs ex H1 H2 h1 h2) : Un fs ex H H2 h h2 where
  keep := fun c ob q n hc hx => b.keep c ob (a.keep c ob q n hc hx) (a.free c ob q n hx) hc hx
  slot := fun c ob q n hc hx => by
    obtain ⟨sl, e1⟩ := a.slot c ob q n hc hx
    obtain ⟨sl', e2⟩ := b.slot c _ e1 (a.free c ob q n hx) hc hx
    exact ⟨sl', e2⟩
  free := fun c ob q n hx => by
    obtain ⟨o', e1⟩ := a.there c ob q hx
    exact b.free c o' e1 (a.free c ob q n hx) hx
  there := fun c ob q hx => by
    obtain ⟨o', e1⟩ := a.there c ob q hx
    exact b.there c o' e1 hx
  tups := fun c xs q => b.tups c xs (a.tups c xs q)
  frzs := fun c ob xs q => b.frzs c ob xs (a.frzs c ob xs q)
  tbls := fun c ps q => by
    obtain ⟨m1, e1⟩ := a.tbls c ps q
    obtain ⟨m2, e2⟩ := b.tbls c _ e1
    exact ⟨m1 ++ m2, by rw [e2, Array.append_assoc]⟩
theorem Un.kept (k : ∀ b u, h.get? b = some u → h'.get? b = some u) : Un fs ex H H h h' :=
  ⟨fun b ob q _ _ _ => k b ob q, fun b ob q _ _ _ => ⟨ob.slots, k b ob q⟩, fun _ _ _ n _ => n, fun b ob q _ => ⟨ob, k b ob q⟩, fun _ _ q => q, fun _ _ _ q => q, fun _ ps q => ⟨#[], by rw [q]; simp⟩⟩
theorem Un.refl : Un fs ex H H h h := Un.kept fun _ _ q => q
theorem Un.laid (k : ∀ b u, h.get? b = some u → h'.get? b = some u) (hp : h.objs.size ≤ a) (hn : H a = none) : Un fs ex H (upd H a o) h h' where
  keep := fun b u q _ _ _ => k b u q
  slot := fun b u q _ _ _ => ⟨u.slots, k b u q⟩
  free := fun b u q n _ => by rw [Bc (Nat.ne_of_lt (Nat.lt_of_lt_of_le (Heap.lt_size q) hp))]; exact n
  there := fun b u q _ => ⟨u, k b u q⟩
  tups := fun b xs q => by rw [Bc (Dw q hn)]; exact q
  frzs := fun b u xs q => by rw [Bc (Dw q hn)]; exact q
  tbls := fun b ps q => ⟨#[], by rw [Bc (Dw q hn), q]; simp⟩
theorem Un.write (mu : Mut (H x)) (he : e = x ∨ H e = some (.own x)) (k : ∀ b u, b ≠ e → h.get? b = some u → h'.get? b = some u) (heo : ∃ u, h'.get? e = some u) : Un fs ex H (upd H x o) h h' := by
  have hx : ∀ b, H b = none → b ≠ x := fun b n z => by subst z; rw [n] at mu; exact mu
  have hb : ∀ b, H b = none → b ≠ e := fun b n z => by
    subst z
    rcases he with r | r
    · exact hx b n r
    · rw [n] at r; cases r
  have hm : ∀ b u, H b = some u → ¬ Mut (some u) → b ≠ x := fun b u q nm z => by subst z; rw [q] at mu; exact nm mu
  refine ⟨fun b u q n _ _ => k b u (hb b n) q, fun b u q n _ _ => ⟨u.slots, k b u (hb b n) q⟩, fun b u q n _ => by rw [Bc (hx b n)]; exact n, fun b u q _ => ?_,
    fun b xs q => by rw [Bc (hm b _ q fun z => z)]; exact q, fun b u xs q => by rw [Bc (hm b _ q fun z => z)]; exact q, fun b ps q => ⟨#[], by rw [Bc (hm b _ q fun z => z), q]; simp⟩⟩
  by_cases hbe : b = e
  · subst hbe; exact heo
  · exact ⟨u, k b u hbe q⟩
end
noncomputable def trk (h : Heap) (H : Hp) : List Addr := (List.range h.objs.size).filter fun a => (H a).isSome
noncomputable def Pg (h : Heap) (H : Hp) : Heap := PySem.W.hideAll h (trk h H)
theorem Vb (h : Heap) (H : Hp) : (Pg h H).objs.size = h.objs.size := PySem.W.hideAll_size _ _
theorem Yc {h : Heap} {H : Hp} {b : Addr} {o : Obj} (e : h.get? b = some o) (n : H b = none) : (Pg h H).get? b = some o :=
  PySem.W.hideAll_get _ e fun hm => by
    have q : (H b).isSome = true := (List.mem_filter.mp hm).2
    rw [n] at q; simp at q
theorem YK {h : Heap} {H : Hp} {b : Addr} {o : Obj} (e : (Pg h H).get? b = some o) : h.get? b = some o ∧ H b = none := by
  have e' : h.get? b = some o := PySem.W.of_hideAll (trk h H) e
  refine ⟨e', ?_⟩
  cases q : H b with
  | none => rfl
  | some x =>
    have hm : b ∈ trk h H := List.mem_filter.mpr ⟨List.mem_range.mpr (Heap.lt_size e'), by simp [q]⟩
    have z : (Pg h H).get? b = none := PySem.W.hideAll_none (trk h H) hm
    rw [z] at e; cases e
noncomputable def YQ (g h : Heap) (L : Addr) : List (Addr × Obj) := (List.range h.objs.size).filterMap fun a => if a = L ∨ (g.get? a).isSome = true then none else (h.get? a).map fun o => (a, o)
noncomputable def rest (g h : Heap) (L d : Addr) : List (Addr × Obj) := (YQ g h L).filter fun p => decide (p.1 ≠ d)
structure Mod (K : PySem.W.Frag) (mg : Str → Option Value) (base : Heap) : Prop where
  kin : K.In base
  glob : base.Ns mainGlobals mg
  blt : ∃ mb, base.Ns builtinsNs mb ∧ ∀ x : Str, x ≠ "__name__" → mb x = bootBuiltins x
  nolimit : base.NoLimit
structure Cx where
  prog : Program
  w : World
  K : PySem.W.Frag
  mg : Str → Option Value
  base : Heap
  A : Around
  N : List Str
  s₀ : Shared
  H₀ : Hp
  env : Env
  outer : List Env
  stack : List Env
  ex : List Addr
  fn : Str → Bool
  calm : Bool
  pn : List (Addr × Obj)
  xe : Value → Shared → Prop
noncomputable def frs (l : List Env) : List Addr := l.filterMap (·.frame)
noncomputable abbrev Cx.fs (X : Cx) : List Addr := frs X.outer
noncomputable def Vis (sc : Scope) (x : Str) : Prop := sc.names.lookup x = some .local ∨ sc.names.lookup x = some .cell ∨ sc.names.lookup x = some .free
noncomputable def Loc (sc : Scope) (x : Str) : Prop := sc.names.lookup x = some .local ∨ sc.names.lookup x = some .cell
noncomputable def Look (env : Env) (h : Heap) (m : Str → Option Value) (x : Str) (u : Value) : Prop :=
  (env.kindOf x = some .local ∧ m x = some u) ∨ ((env.kindOf x = some .cell ∨ env.kindOf x = some .free) ∧ ∃ c, env.cells.lookup x = some c ∧ h.IsCell c (some u))
structure Cx.Ok (X : Cx) : Prop where
  mod : Mod X.K X.mg X.base
  kind : X.env.scope.kind = .function
  glob : X.env.globals = mainGlobals
  blt : X.env.builtins = builtinsNs
  above : X.s₀.heap.objs.size ≤ X.env.locals
  inj : ∀ x y c, X.env.cells.lookup x = some c → X.env.cells.lookup y = some c → x = y
  has : ∀ x, (X.env.kindOf x = some .cell ∨ X.env.kindOf x = some .free) → ∃ c, X.env.cells.lookup x = some c
  cab : ∀ x c, X.fn x = true → X.env.cells.lookup x = some c → X.s₀.heap.objs.size ≤ c
  hd : X.calm = true → X.A.handled = none
  frames : X.A.frames = some X.stack
  stk : X.stack = X.outer ∨ (X.stack = X.env :: X.outer ∧ X.env.frame = some X.env.locals)
  exf : ∀ b ∈ X.ex, b ≠ X.env.locals ∧ ∀ x c, X.env.cells.lookup x = some c → c ≠ b
  bs : ∀ b o, X.base.get? b = some o → X.s₀.heap.get? b = some o ∧ X.H₀ b = none
  bsz : X.base.objs.size ≤ X.s₀.heap.objs.size
  noex : ∀ b o, X.base.get? b = some o → b ∉ X.ex
  exfs : ∀ b ∈ X.ex, b ∉ X.fs
  funs : X.s₀.heap.FunFrames X.base X.outer
  frf : ∀ b ∈ X.fs, X.H₀ b = none
structure Inv (X : Cx) (pins : List (Addr × Obj)) (σ : List (Option V)) (H : Hp) (s : Shared) : Prop where
  ok : X.Ok
  os : s.os = X.s₀.os
  bare : AllBare s.gens
  base : Un X.fs X.ex X.H₀ H X.s₀.heap s.heap
  loc : ∃ m, s.heap.Ns X.env.locals m ∧ ∀ (i : Nat) (x : Str) (v : V), X.N[i]? = some x → σ[i]? = some (some v) → Vis X.env.scope x → ∃ u, RelV v u ∧ Look X.env s.heap m x u
  cell : ∀ x c, X.env.cells.lookup x = some c → ∃ v, s.heap.IsCell c v
  free : H X.env.locals = none
  freeC : ∀ x c, X.env.cells.lookup x = some c → H c = none
  pin : ∀ p ∈ X.pn ++ pins, s.heap.get? p.1 = some p.2 ∧ H p.1 = none ∧ p.1 ≠ X.env.locals ∧ p.1 ∉ X.fs ∧ ∀ v, p.2.data ≠ .cell v
  hok : HOk X.prog X.w H s.heap
  len : σ.length = X.N.length
section
variable {X : Cx} {pins : List (Addr × Obj)} {σ : List (Option V)} {H H' : Hp} {s : Shared} {h' : Heap}
theorem Cx.Ok.nofr (ok : X.Ok) {b : Addr} {o : Obj} (e : X.base.get? b = some o) : b ∉ X.fs := fun hb => by
  have := (ok.funs.mem hb).1
  rw [e] at this; cases this
theorem Inv.bs (I : Inv X pins σ H s) : ∀ b o, X.base.get? b = some o → s.heap.get? b = some o ∧ H b = none := fun b o e =>
  ⟨I.base.keep b o (I.ok.bs b o e).1 (I.ok.bs b o e).2 (I.ok.nofr e) (I.ok.noex b o e), I.base.free b o (I.ok.bs b o e).1 (I.ok.bs b o e).2 (I.ok.noex b o e)⟩
theorem Inv.bk (I : Inv X pins σ H s) : ∀ b o, X.base.get? b = some o → s.heap.get? b = some o := fun b o e => (I.bs b o e).1
theorem Inv.mod (I : Inv X pins σ H s) : Mod X.K X.mg X.base := I.ok.mod
theorem Inv.kIn (I : Inv X pins σ H s) : X.K.In s.heap := I.ok.mod.kin.keeps I.bk
theorem Inv.lt (I : Inv X pins σ H s) : X.env.locals < s.heap.objs.size := let ⟨_, hn, _⟩ := I.loc; hn.lt
theorem Inv.sz (I : Inv X pins σ H s) : X.s₀.heap.objs.size ≤ s.heap.objs.size := Nat.le_trans I.ok.above (Nat.le_of_lt I.lt)
theorem Inv.nofs (I : Inv X pins σ H s) {a : Addr} (h : s.heap.objs.size ≤ a) : a ∉ X.fs := fun hb => by
  obtain ⟨_, o, ho, _⟩ := I.ok.funs.mem hb
  exact absurd (Nat.lt_of_lt_of_le (Heap.lt_size ho) (Nat.le_trans I.sz h)) (Nat.lt_irrefl _)
theorem Inv.cne (I : Inv X pins σ H s) : ∀ x c, X.env.cells.lookup x = some c → c ≠ X.env.locals := fun x c e z => by
  obtain ⟨v, o, ho, hd⟩ := I.cell x c e
  obtain ⟨m, ⟨o', es, ep, ho', hd', _⟩, _⟩ := I.loc
  rw [z, ho'] at ho; cases ho; rw [hd'] at hd; cases hd
theorem Inv.funs (I : Inv X pins σ H s) : s.heap.FunFrames X.base X.outer := by
  have all : ∀ (l : List Env), (∀ b ∈ frs l, b ∈ X.fs) → X.s₀.heap.FunFrames X.base l → s.heap.FunFrames X.base l := by
    intro l
    induction l with
    | nil => intro _ _; trivial
    | cons env r ih =>
      intro hs hl
      obtain ⟨hk, ⟨L, o, hf, hn, ho, hd⟩, hr⟩ := hl
      have hL : L ∈ X.fs := hs L (by unfold frs; rw [List.filterMap_cons, hf]; exact List.mem_cons_self)
      obtain ⟨sl, e⟩ := I.base.slot L o ho (I.ok.frf L hL) hL fun z => I.ok.exfs L z hL
      exact ⟨hk, ⟨L, _, hf, hn, e, hd⟩, ih (fun b hb => hs b (by unfold frs; rw [List.filterMap_cons, hf]; exact List.mem_cons_of_mem _ hb)) hr⟩
  exact all X.outer (fun _ hb => hb) I.ok.funs
theorem Inv.stack (I : Inv X pins σ H s) : s.heap.FunFrames X.base X.stack := by
  rcases I.ok.stk with e | ⟨e, hf⟩
  · rw [e]; exact I.funs
  · rw [e]
    obtain ⟨m, hn, _⟩ := I.loc
    refine .cons (by rw [I.ok.kind]; decide) hf hn ?_ I.funs
    exact Heap.get?_none_of_le (Nat.le_trans I.ok.bsz I.ok.above)
theorem Inv.stkSub (I : Inv X pins σ H s) : ∀ b ∈ frs X.stack, b ∈ X.env.locals :: X.fs := fun b hb => by
  rcases I.ok.stk with e | ⟨e, hf⟩
  · rw [e] at hb; exact List.mem_cons_of_mem _ hb
  · rw [e] at hb
    unfold frs at hb
    rw [List.filterMap_cons, hf] at hb
    exact hb
theorem Inv.stkFree (I : Inv X pins σ H s) : ∀ b ∈ frs X.stack, H b = none := fun b hb => by
  rcases List.mem_cons.mp (I.stkSub b hb) with e | hb
  · rw [e]; exact I.free
  · obtain ⟨_, o, ho, _⟩ := I.ok.funs.mem hb
    exact I.base.free b o ho (I.ok.frf b hb) fun z => I.ok.exfs b z hb
theorem Inv.step {g' : Array GenState} {t' : Nat} {d' : Drawn} {ch : List Addr} (I : Inv X pins σ H s)
    (hch : ∀ b ∈ ch, (b ∈ X.ex ∨ X.s₀.heap.objs.size ≤ b) ∧ b ≠ X.env.locals ∧ (∀ x c, X.env.cells.lookup x = some c → c ≠ b) ∧ ∀ p ∈ X.pn ++ pins, p.1 ≠ b)
    (keep : ∀ b o, b ≠ X.env.locals → b ∉ X.fs → b ∉ ch → s.heap.get? b = some o → H b = none → h'.get? b = some o)
    (slot : ∀ b o, b ≠ X.env.locals → b ∈ X.fs → b ∉ ch → s.heap.get? b = some o → H b = none → ∃ sl, h'.get? b = some { o with slots := sl }) (free : ∀ b o, b ∉ ch → s.heap.get? b = some o → H b = none → H' b = none)
    (there : ∀ b o, b ∉ ch → s.heap.get? b = some o → ∃ o', h'.get? b = some o')
    (tups : ∀ b xs, H b = some (.tup xs) → H' b = some (.tup xs)) (frzs : ∀ b o u, H b = some (.frz o u) → H' b = some (.frz o u)) (tbls : ∀ b ps, H b = some (.tbl ps) → ∃ more, H' b = some (.tbl (ps ++ more)))
    (ns : ∀ m, s.heap.Ns X.env.locals m → h'.Ns X.env.locals m) (hok : HOk X.prog X.w H' h') (hg : AllBare g') :
    Inv X pins σ H' { s with heap := h', gens := g', drawn := d', toks := t' } := by
  have neL : ∀ b o, X.s₀.heap.get? b = some o → b ≠ X.env.locals := fun b o e => Nat.ne_of_lt (Nat.lt_of_lt_of_le (Heap.lt_size e) I.ok.above)
  have neC : ∀ b o, X.s₀.heap.get? b = some o → b ∉ X.ex → b ∉ ch := fun b o e hx hb => by
    rcases (hch b hb).1 with z | z
    · exact hx z
    · exact absurd (Nat.lt_of_lt_of_le (Heap.lt_size e) z) (Nat.lt_irrefl _)
  have cellK : ∀ x c, X.env.cells.lookup x = some c → ∀ v, s.heap.IsCell c v → h'.IsCell c v := fun x c e v ⟨o, ho, hd⟩ => by
    have nch : c ∉ ch := fun z => (hch c z).2.2.1 x c e rfl
    by_cases hc : c ∈ X.fs
    · obtain ⟨sl, q⟩ := slot c o (I.cne x c e) hc nch ho (I.freeC x c e)
      exact ⟨_, q, hd⟩
    · exact ⟨o, keep c o (I.cne x c e) hc nch ho (I.freeC x c e), hd⟩
  refine ⟨I.ok, I.os, hg, ⟨fun b o e n hb hx => ?_, fun b o e n hb hx => ?_, fun b o e n hx => ?_, fun b o e hx => ?_, fun b xs e => tups b xs (I.base.tups b xs e), fun b o xs e => frzs b o xs (I.base.frzs b o xs e), fun b ps e => ?_⟩, ?_, fun x c e => ?_, ?_, fun x c e => ?_, fun p hp => ?_, hok, I.len⟩
  · exact keep b o (neL b o e) hb (neC b o e hx) (I.base.keep b o e n hb hx) (I.base.free b o e n hx)
  · obtain ⟨sl, e1⟩ := I.base.slot b o e n hb hx
    obtain ⟨sl', e2⟩ := slot b _ (neL b o e) hb (neC b o e hx) e1 (I.base.free b o e n hx)
    exact ⟨sl', e2⟩
  · obtain ⟨o', e1⟩ := I.base.there b o e hx
    exact free b o' (neC b o e hx) e1 (I.base.free b o e n hx)
  · obtain ⟨o', e1⟩ := I.base.there b o e hx
    exact there b o' (neC b o e hx) e1
  · obtain ⟨m1, e1⟩ := I.base.tbls b ps e
    obtain ⟨m2, e2⟩ := tbls b _ e1
    exact ⟨m1 ++ m2, by rw [e2, Array.append_assoc]⟩
  · obtain ⟨m, hn, hl⟩ := I.loc
    refine ⟨m, ns m hn, fun i x v e1 e2 e3 => ?_⟩
    obtain ⟨u, r, l⟩ := hl i x v e1 e2 e3
    refine ⟨u, r, ?_⟩
    rcases l with l | ⟨k, c, e, z⟩
    · exact .inl l
    · exact .inr ⟨k, c, e, cellK x c e _ z⟩
  · obtain ⟨v, z⟩ := I.cell x c e
    exact ⟨v, cellK x c e v z⟩
  · obtain ⟨m, ⟨o, _, _, ho, _⟩, _⟩ := I.loc
    exact free _ o (fun z => (hch _ z).2.1 rfl) ho I.free
  · obtain ⟨v, o, ho, hd⟩ := I.cell x c e
    exact free c o (fun z => (hch c z).2.2.1 x c e rfl) ho (I.freeC x c e)
  · obtain ⟨e, n, ne, nf, d⟩ := I.pin p hp
    have nch : p.1 ∉ ch := fun z => (hch p.1 z).2.2.2 p hp rfl
    exact ⟨keep p.1 p.2 ne nf nch e n, free p.1 p.2 nch e n, ne, nf, d⟩
theorem Inv.un {t' : Nat} (I : Inv X pins σ H s) (u : Un X.fs [] H H' s.heap h') (hok : HOk X.prog X.w H' h') : Inv X pins σ H' { s with heap := h', toks := t' } := by
  obtain ⟨m, ⟨o, es, ep, ho, r⟩, _⟩ := id I.loc
  obtain ⟨sl, hL⟩ := u.any ho I.free (by simp)
  exact I.step (g' := s.gens) (d' := s.drawn) (ch := []) (fun _ z => nomatch z) (fun b o _ hb _ e n => u.keep b o e n hb (by simp)) (fun b o _ hb _ e n => u.slot b o e n hb (by simp)) (fun b o _ e n => u.free b o e n (by simp)) (fun b o _ e => u.there b o e (by simp)) u.tups u.frzs u.tbls (fun m' hm => by
    obtain ⟨o', es', ep', ho', r'⟩ := hm
    rw [ho] at ho'; cases ho'
    exact ⟨_, es', ep', hL, r'⟩) hok I.bare
theorem Inv.call {g' : Array GenState} {t' : Nat} {d' : Drawn} {ch : List Addr} (I : Inv X pins σ H s) (u : Un (frs X.stack) ch H H' s.heap h') (hok : HOk X.prog X.w H' h') (hg : AllBare g')
    (hch : ∀ b ∈ ch, (b ∈ X.ex ∨ X.s₀.heap.objs.size ≤ b) ∧ b ≠ X.env.locals ∧ (∀ x c, X.env.cells.lookup x = some c → c ≠ b) ∧ ∀ p ∈ X.pn ++ pins, p.1 ≠ b) :
    Inv X pins σ H' { s with heap := h', gens := g', drawn := d', toks := t' } := by
  obtain ⟨m, ⟨o, es, ep, ho, r⟩, _⟩ := id I.loc
  obtain ⟨sl, hL⟩ := u.any ho I.free fun z => (hch _ z).2.1 rfl
  exact I.step (ch := ch) hch (fun b o hL hb hc e n => u.keep b o e n (fun z => (List.mem_cons.mp (I.stkSub b z)).elim hL hb) hc) (fun b o _ _ hc e n => u.any e n hc) (fun b o hc e n => u.free b o e n hc) (fun b o hc e => u.there b o e hc) u.tups u.frzs u.tbls (fun m' hm => by
    obtain ⟨o', es', ep', ho', r'⟩ := hm
    rw [ho] at ho'; cases ho'
    exact ⟨_, es', ep', hL, r'⟩) hok hg
theorem Inv.turned {t' : Nat} {it : Addr} (I : Inv X pins σ H s) (k : ∀ b o, b ≠ it → s.heap.get? b = some o → h'.get? b = some o) (hn : H it = none) (hL : it ≠ X.env.locals)
    (h1 : it ∈ X.ex ∨ X.s₀.heap.objs.size ≤ it) (h2 : ∀ x c, X.env.cells.lookup x = some c → c ≠ it) (h3 : ∀ p ∈ X.pn ++ pins, p.1 ≠ it) : Inv X pins σ H { s with heap := h', toks := t' } := by
  have nit : ∀ b u, H b = some u → b ≠ it := fun b u e z => by rw [z, hn] at e; cases e
  refine I.step (g' := s.gens) (d' := s.drawn) (ch := [it]) (fun b hb => ?_) (fun b o _ _ hc e _ => k b o (fun z => hc (by simp [z])) e) (fun b o _ _ hc e _ => ⟨o.slots, k b o (fun z => hc (by simp [z])) e⟩) (fun _ _ _ _ n => n)
    (fun b o hc e => ⟨o, k b o (fun z => hc (by simp [z])) e⟩) (fun _ _ e => e) (fun _ _ _ e => e) (fun b ps e => ⟨#[], by rw [e]; simp⟩) (fun m hm => ?_) (fun b u e => ?_) I.bare
  · have e : b = it := by simpa using hb
    subst e
    exact ⟨h1, hL, h2, h3⟩
  · obtain ⟨o, es, ep, ho, r⟩ := hm
    exact ⟨o, es, ep, k _ o (Ne.symm hL) ho, r⟩
  · refine (I.hok b u e).stay (fun c v hc q => k c v ?_ q) (fun _ q => q) fun _ _ q => q
    rcases hc with z | z
    · rw [z]; exact nit b u e
    · exact nit c _ z
theorem Inv.tok (I : Inv X pins σ H s) (t : Nat) : Inv X pins σ H { s with toks := t } := I.un (h' := s.heap) (t' := t) Un.refl I.hok
theorem Inv.kept {t' : Nat} (I : Inv X pins σ H s) (k : ∀ b u, s.heap.get? b = some u → h'.get? b = some u) : Inv X pins σ H { s with heap := h', toks := t' } := I.un (Un.kept k) (I.hok.kept k)
theorem Inv.laid {a : Addr} {o : HO} {t' : Nat} (I : Inv X pins σ H s) (k : ∀ b u, s.heap.get? b = some u → h'.get? b = some u) (hp : s.heap.objs.size ≤ a) (new : Gq X.prog X.w (upd H a o) h' a o) :
    Inv X pins σ (upd H a o) { s with heap := h', toks := t' } := I.un (Un.laid k hp (I.hok.fresh hp)) (I.hok.laid k hp new)
theorem Inv.write {x e : Addr} {o : HO} {t' : Nat} (I : Inv X pins σ H s) (mu : Mut (H x)) (he : e = x ∨ H e = some (.own x)) (k : ∀ b u, b ≠ e → s.heap.get? b = some u → h'.get? b = some u) (heo : ∃ u, h'.get? e = some u)
    (new : Gq X.prog X.w (upd H x o) h' x o) : Inv X pins σ (upd H x o) { s with heap := h', toks := t' } := I.un (Un.write mu he k heo) (I.hok.write mu he k heo new)
theorem Inv.pins_of {pins' : List (Addr × Obj)} (I : Inv X pins σ H s) (h : ∀ p ∈ pins', s.heap.get? p.1 = some p.2 ∧ H p.1 = none ∧ p.1 ≠ X.env.locals ∧ p.1 ∉ X.fs ∧ ∀ v, p.2.data ≠ .cell v) : Inv X pins' σ H s :=
  ⟨I.ok, I.os, I.bare, I.base, I.loc, I.cell, I.free, I.freeC, fun p hp => (List.mem_append.mp hp).elim (fun z => I.pin p (List.mem_append_left _ z)) (h p), I.hok, I.len⟩
theorem QX {N : List Str} (hN : N.Nodup) {i j : Nat} {x : Str} (a : N[i]? = some x) (b : N[j]? = some x) : i = j := by
  obtain ⟨h1, e1⟩ := List.getElem?_eq_some_iff.mp a
  obtain ⟨h2, e2⟩ := List.getElem?_eq_some_iff.mp b
  exact (List.getElem_inj hN).mp (e1.trans e2.symm)
theorem Od {M : Model} {A : Around} {E : Value → Shared → Prop} {i : Nat} {x : Str} {v : V} {u : Value} {Q : Unit → Shared → Prop} (I : Inv X pins σ H s) (hN : X.N.Nodup) (hi : X.N[i]? = some x) (hx : Loc X.env.scope x) (r : RelV v u)
    (h : ∀ s', Inv X pins (σ.set i (some v)) H s' → (∃ a, Heap.SameBut a s.heap s'.heap ∧ (a = X.env.locals ∨ X.env.cells.lookup x = some a)) → Q () s') (hf : X.fn x = true ∨ X.env.scope.names.lookup x = some .local := by first | exact .inl rfl | exact .inr rfl | assumption) : wpAny M A (storeName X.env x u) Q E s := by
  obtain ⟨m, hn, hl⟩ := id I.loc
  have hcls : (X.env.scope.kind == .class || (X.env.scope.kind == .module && X.env.locals != X.env.globals)) = false := by rw [I.ok.kind]; rfl
  have hiσ : i < σ.length := by rw [I.len]; exact (List.getElem?_eq_some_iff.mp hi).1
  have cne := I.cne
  have tracked : ∀ {a : Addr} {h' : Heap}, (∃ o, s.heap.get? a = some o ∧ H a = none) → Heap.SameBut a s.heap h' → HOk X.prog X.w H h' := fun {a h'} ha hs b ob e => by
    obtain ⟨_, _, hfree⟩ := ha
    refine (I.hok b ob e).stay (fun c w' hc q => (hs.2 c ?_).trans q) (fun _ q => q) fun _ _ q => q
    rintro rfl
    rcases hc with rfl | hc
    · rw [hfree] at e; cases e
    · rw [hfree] at hc; cases hc
  rcases hx with hk | hk
  · refine wpAny_storeName_local hk hn (fun h' hn' hs => ?_) hcls
    obtain ⟨oL, _, _, hoL, _⟩ := id hn
    refine h _ ⟨I.ok, I.os, I.bare, ⟨fun b o e n hb hx => ?_, fun b o e n hb hx => ?_, I.base.free, fun b o e hx => ?_, I.base.tups, I.base.frzs, I.base.tbls⟩, ⟨_, hn', fun j y v' e1 e2 e3 => ?_⟩, fun y c e => ?_, I.free, I.freeC, fun p hp => ?_, tracked ⟨oL, hoL, I.free⟩ hs, by simpa using I.len⟩ ⟨_, hs, .inl rfl⟩
    · exact (hs.2 b (Nat.ne_of_lt (Nat.lt_of_lt_of_le (Heap.lt_size e) I.ok.above))).trans (I.base.keep b o e n hb hx)
    · obtain ⟨sl, e1⟩ := I.base.slot b o e n hb hx
      exact ⟨sl, (hs.2 b (Nat.ne_of_lt (Nat.lt_of_lt_of_le (Heap.lt_size e) I.ok.above))).trans e1⟩
    · obtain ⟨o', e1⟩ := I.base.there b o e hx
      exact ⟨o', (hs.2 b (Nat.ne_of_lt (Nat.lt_of_lt_of_le (Heap.lt_size e) I.ok.above))).trans e1⟩
    · by_cases hj : j = i
      · subst hj
        rw [hi] at e1; cases e1
        rw [List.getElem?_set_self hiσ] at e2
        cases e2
        exact ⟨u, r, .inl ⟨hk, by simp⟩⟩
      · rw [List.getElem?_set_ne (Ne.symm hj)] at e2
        obtain ⟨u', r', q⟩ := hl j y v' e1 e2 e3
        refine ⟨u', r', ?_⟩
        rcases q with ⟨k, e⟩ | ⟨k, c, e, z⟩
        · refine .inl ⟨k, ?_⟩
          have : y ≠ x := fun e => hj (QX hN e1 (e ▸ hi))
          simp [this, e]
        · exact .inr ⟨k, c, e, z.sameBut hs (cne y c e)⟩
    · obtain ⟨w', z⟩ := I.cell y c e
      exact ⟨w', z.sameBut hs (cne y c e)⟩
    · obtain ⟨e, n, ne, nf, d⟩ := I.pin p hp
      exact ⟨(hs.2 p.1 ne).trans e, n, ne, nf, d⟩
  · have hfn : X.fn x = true := by
      rcases hf with z | z
      · exact z
      · rw [z] at hk; cases hk
    obtain ⟨c, hc⟩ := I.ok.has x (.inl hk)
    obtain ⟨w', z⟩ := I.cell x c hc
    refine wpAny_storeName_cell I.ok.kind hk hc z (fun h' hc' hs => ?_)
    obtain ⟨oc, hoc, hocd⟩ := id z
    refine h { s with heap := h' } ⟨I.ok, I.os, I.bare, ⟨fun b o e n hb hx => ?_, fun b o e n hb hx => ?_, I.base.free, fun b o e hx => ?_, I.base.tups, I.base.frzs, I.base.tbls⟩, ⟨m, hn.sameBut hs (Ne.symm (cne x c hc)), fun j y v' e1 e2 e3 => ?_⟩, fun y c' e => ?_, I.free, I.freeC, fun p hp => ?_, tracked ⟨oc, hoc, I.freeC x c hc⟩ hs, by simpa using I.len⟩ ⟨c, hs, .inr hc⟩
    · exact (hs.2 b (Nat.ne_of_lt (Nat.lt_of_lt_of_le (Heap.lt_size e) (I.ok.cab x c hfn hc)))).trans (I.base.keep b o e n hb hx)
    · obtain ⟨sl, e1⟩ := I.base.slot b o e n hb hx
      exact ⟨sl, (hs.2 b (Nat.ne_of_lt (Nat.lt_of_lt_of_le (Heap.lt_size e) (I.ok.cab x c hfn hc)))).trans e1⟩
    · obtain ⟨o', e1⟩ := I.base.there b o e hx
      exact ⟨o', (hs.2 b (Nat.ne_of_lt (Nat.lt_of_lt_of_le (Heap.lt_size e) (I.ok.cab x c hfn hc)))).trans e1⟩
    · by_cases hj : j = i
      · subst hj
        rw [hi] at e1; cases e1
        rw [List.getElem?_set_self hiσ] at e2
        cases e2
        exact ⟨u, r, .inr ⟨.inl hk, c, hc, hc'⟩⟩
      · rw [List.getElem?_set_ne (Ne.symm hj)] at e2
        obtain ⟨u', r', q⟩ := hl j y v' e1 e2 e3
        refine ⟨u', r', ?_⟩
        rcases q with q | ⟨k, c', e, z'⟩
        · exact .inl q
        · refine .inr ⟨k, c', e, z'.sameBut hs ?_⟩
          rintro rfl
          exact hj (QX hN e1 (I.ok.inj _ _ _ e hc ▸ hi))
    · by_cases hcc : c' = c
      · subst hcc; exact ⟨_, hc'⟩
      · obtain ⟨w2, z2⟩ := I.cell y c' e
        exact ⟨w2, z2.sameBut hs hcc⟩
    · obtain ⟨e, n, ne, nf, d⟩ := I.pin p hp
      refine ⟨(hs.2 p.1 ?_).trans e, n, ne, nf, d⟩
      intro q
      rw [q, hoc] at e
      have q' : oc = p.2 := Option.some.inj e
      exact d w' (by rw [← q']; exact hocd)
theorem Jm {M : Model} {A : Around} {E : Value → Shared → Prop} {i : Nat} {x : Str} {v : V} {u : Value} {Q : Unit → Shared → Prop} (I : Inv X pins σ H s) (hN : X.N.Nodup) (hi : X.N[i]? = some x) (hx : Loc X.env.scope x) (r : RelV v u)
    (h : ∀ s', Inv X pins (σ.set i (some v)) H s' → Q () s') (hf : X.fn x = true ∨ X.env.scope.names.lookup x = some .local := by first | exact .inl rfl | exact .inr rfl | assumption) : wpAny M A (storeName X.env x u) Q E s :=
  Od I hN hi hx r (fun s' I' _ => h s' I') hf
theorem Inv.call' {s' : Shared} {ch : List Addr} (I : Inv X pins σ H s) (ho : s'.os = s.os) (u : Un (frs X.stack) ch H H' s.heap s'.heap) (hok : HOk X.prog X.w H' s'.heap) (hg : AllBare s'.gens)
    (hch : ∀ b ∈ ch, (b ∈ X.ex ∨ X.s₀.heap.objs.size ≤ b) ∧ b ≠ X.env.locals ∧ (∀ x c, X.env.cells.lookup x = some c → c ≠ b) ∧ ∀ p ∈ X.pn ++ pins, p.1 ≠ b) : Inv X pins σ H' s' := by
  obtain ⟨h', g', d', t', o'⟩ := s'
  have e : o' = s.os := ho
  subst e
  exact I.call (g' := g') (t' := t') (d' := d') u hok hg hch
end
noncomputable abbrev XK := Value → Option Addr → Hp → Prop
noncomputable abbrev St := List (Option V)
noncomputable abbrev VK := V → Hp → Prop
noncomputable abbrev TE := St → Hp → VK → Prop
noncomputable abbrev TT := St → Hp → (Bool → Hp → Prop) → Prop
noncomputable abbrev TA := St → Hp → (List V → Hp → Prop) → Prop
structure Ends where
  nx : St → Hp → Prop
  rt : VK
  bk : St → Hp → Prop := fun _ _ => False
  ct : St → Hp → Prop := fun _ _ => False
noncomputable abbrev TS := Ends → St → Hp → Prop
noncomputable def EP (X : Cx) (pins : List (Addr × Obj)) (σ : St) (Q : VK) (u : Value) (s' : Shared) : Prop := ∃ v H', Inv X pins σ H' s' ∧ RelV v u ∧ Q v H'
noncomputable def TP (X : Cx) (pins : List (Addr × Obj)) (σ : St) (Q : Bool → Hp → Prop) (b : Bool) (s' : Shared) : Prop := ∃ H', Inv X pins σ H' s' ∧ Q b H'
noncomputable def AP (X : Cx) (pins : List (Addr × Obj)) (σ : St) (Q : List V → Hp → Prop) (us : List Value) (s' : Shared) : Prop := ∃ vs H', Inv X pins σ H' s' ∧ Vals vs us ∧ Q vs H'
noncomputable def SP (X : Cx) (pins : List (Addr × Obj)) (D : Ends) (f : Flow) (s' : Shared) : Prop :=
  match f with
  | .next => ∃ σ' H', Inv X pins σ' H' s' ∧ D.nx σ' H'
  | .brk => ∃ σ' H', Inv X pins σ' H' s' ∧ D.bk σ' H'
  | .cont => ∃ σ' H', Inv X pins σ' H' s' ∧ D.ct σ' H'
  | .ret u => ∃ v σ' H', Inv X pins σ' H' s' ∧ RelV v u ∧ D.rt v H'
noncomputable def PE (X : Cx) (e : Expr) (t : TE) : Prop :=
  ∀ (pins : List (Addr × Obj)) (s : Shared) (σ : St) (H : Hp) (Q : VK), Inv X pins σ H s → t σ H Q → wpAny (model X.prog X.w) X.A (eval e X.env) (EP X pins σ Q) X.xe s
noncomputable def PT (X : Cx) (e : Expr) (t : TT) : Prop :=
  ∀ (pins : List (Addr × Obj)) (s : Shared) (σ : St) (H : Hp) (Q : Bool → Hp → Prop), Inv X pins σ H s → t σ H Q → wpAny (model X.prog X.w) X.A (isTrue e X.env (eval e X.env)) (TP X pins σ Q) X.xe s
noncomputable def PW (X : Cx) (e : Expr) (t : TT) : Prop :=
  ∀ (whole : Sem Value) (pins : List (Addr × Obj)) (s : Shared) (σ : St) (H : Hp) (Q : Bool → Hp → Prop), Inv X pins σ H s → t σ H Q → wpAny (model X.prog X.w) X.A (isTrue e X.env whole) (TP X pins σ Q) X.xe s
theorem PW.pt {X : Cx} {e : Expr} {t : TT} (h : PW X e t) : PT X e t := h _
noncomputable def PA (X : Cx) (es : List Expr) (t : TA) : Prop :=
  ∀ (pos : Pos) (pins : List (Addr × Obj)) (s : Shared) (σ : St) (H : Hp) (Q : List V → Hp → Prop), Inv X pins σ H s → t σ H Q → wpAny (model X.prog X.w) X.A (spliced (backTo pos (starEach es X.env))) (AP X pins σ Q) X.xe s
noncomputable def PS (X : Cx) (st : Stmt) (t : TS) : Prop :=
  ∀ (pins : List (Addr × Obj)) (s : Shared) (σ : St) (H : Hp) (D : Ends), Inv X pins σ H s → t D σ H → wpAny (model X.prog X.w) X.A (exec st X.env) (SP X pins D) X.xe s
noncomputable def PSs (X : Cx) (st : List Stmt) (t : TS) : Prop :=
  ∀ (pins : List (Addr × Obj)) (s : Shared) (σ : St) (H : Hp) (D : Ends), Inv X pins σ H s → t D σ H → wpAny (model X.prog X.w) X.A (execs st X.env) (SP X pins D) X.xe s
theorem thn {α : Type} {t : Sem α} {Q Q' : α → Shared → Prop} {M : Model} {A : Around} {E : Value → Shared → Prop} {s : Shared} (h : wpAny M A t Q E s) (hQ : ∀ a s, Q a s → Q' a s) : wpAny M A t Q' E s := wpAny_mono h hQ fun _ _ x => x
section
variable {X : Cx}
theorem bin {a b : Expr} {ta tb : TE} (ha : PE X a ta) (hb : PE X b tb) {pins : List (Addr × Obj)} {s : Shared} {σ : St} {H : Hp} {R : V → V → Hp → Prop} (I : Inv X pins σ H s) (h : ta σ H fun x H1 => tb σ H1 fun y H2 => R x y H2)
    {α : Type} {Q : α → Shared → Prop} {f : Value → Value → Sem α}
    (hf : ∀ v u s2 x y H2, Inv X pins σ H2 s2 → RelV x v → RelV y u → R x y H2 → wpAny (model X.prog X.w) X.A (f v u) Q X.xe s2) :
    wpAny (model X.prog X.w) X.A (eval a X.env) (fun v s₁ => wpAny (model X.prog X.w) X.A (eval b X.env) (fun u s₂ => wpAny (model X.prog X.w) X.A (f v u) Q X.xe s₂) X.xe s₁) X.xe s := by
  refine thn (ha pins s σ H _ I h) fun v s1 ⟨x, H1, I1, r1, q1⟩ => ?_
  refine thn (hb pins s1 σ H1 _ I1 q1) fun u s2 ⟨y, H2, I2, r2, q2⟩ => ?_
  exact hf v u s2 x y H2 I2 r1 r2 q2
noncomputable def Ae4 (i : Nat) : TE := fun σ H Q => ∃ v, σ[i]? = some (some v) ∧ Q v H
noncomputable def tC (v : V) : TE := fun _ H Q => Q v H
theorem GJ {i : Nat} {x : Str} {pos : Pos} (hN : X.N[i]? = some x) (hv : Vis X.env.scope x) (hd : (x == ("__debug__" : Str)) = false := by decide) (hcd : (x == ("__classdict__" : Str)) = false := by decide) : PE X (.Name x pos) (Ae4 i) := by
  intro pins s σ H Q I h
  obtain ⟨v, e, h⟩ := h
  obtain ⟨m, hn, hl⟩ := I.loc
  obtain ⟨u, r, l⟩ := hl i x v hN e hv
  have fin : EP X pins σ Q u s := ⟨v, H, I, r, h⟩
  rcases l with ⟨hk, hm⟩ | ⟨hk, c, hc, hcell⟩
  · exact wpAny_Name (wpAny_loadName_local I.ok.kind hk hn hm fin) hd
  · rcases hk with hk | hk
    · exact wpAny_Name (wpAny_loadName_cell I.ok.kind hk hc hcell fin) hd
    · exact wpAny_Name (wpAny_loadName_free I.ok.kind hk hc hcell fin hcd) hd
theorem Abk {i j pos} : PE X (.Constant (.int i) j pos) (tC (.int i)) := fun _ _ _ H _ I h => wpAny_Constant_int ⟨.int i, H, I.tok _, ⟨_, rfl⟩, h⟩
theorem AdX {b j pos} : PE X (.Constant (.bool b) j pos) (tC (.bl b)) := fun _ _ _ H _ I h => Constant_bool ⟨.bl b, H, I, rfl, h⟩
theorem Acw {x j pos} : PE X (.Constant (.str x) j pos) (tC (.str x)) := fun _ _ _ H _ I h => Calls.Constant_str ⟨.str x, H, I.tok _, ⟨_, rfl⟩, h⟩
noncomputable def Gl (X : Cx) (x : Str) : Prop := X.env.kindOf x = some .globalImplicit
theorem Uy {E : Value → Shared → Prop} {pins : List (Addr × Obj)} {s : Shared} {σ : St} {H : Hp} {x : Str} {u : Value} {pos : Pos} {Q : Value → Shared → Prop} (I : Inv X pins σ H s) (hg : Gl X x) (hm : X.mg x = some u) (h : Q u s)
    (hd : (x == ("__debug__" : Str)) = false := by decide) : wpAny (model X.prog X.w) X.A (eval (.Name x pos) X.env) Q E s :=
  Calls.Name_function_global I.ok.kind hg (Calls.loadGlobal_global (by rw [I.ok.glob]; exact I.mod.glob.keeps I.bk) hm h) hd
theorem Oh {E : Value → Shared → Prop} {pins : List (Addr × Obj)} {s : Shared} {σ : St} {H : Hp} {x : Str} {u : Value} {pos : Pos} {Q : Value → Shared → Prop} (I : Inv X pins σ H s) (hg : Gl X x) (hm : X.mg x = none) (hv : bootBuiltins x = some u) (h : Q u s)
    (hn : x ≠ "__name__" := by decide) (hd : (x == ("__debug__" : Str)) = false := by decide) : wpAny (model X.prog X.w) X.A (eval (.Name x pos) X.env) Q E s := by
  obtain ⟨mb, h1, h2⟩ := I.mod.blt
  exact Calls.Name_function_global I.ok.kind hg (Calls.loadGlobal_builtin (by rw [I.ok.glob]; exact I.mod.glob.keeps I.bk) hm (by rw [I.ok.blt]; exact h1.keeps I.bk) ((h2 x hn).trans hv) h) hd
theorem Ys {x : Str} {v : V} {u : Value} {pos : Pos} (hg : Gl X x) (hm : X.mg x = some u) (r : RelV v u) (hd : (x == ("__debug__" : Str)) = false := by decide) : PE X (.Name x pos) (tC v) :=
  fun _ _ _ H _ I h => Uy I hg hm ⟨v, H, I, r, h⟩ hd
theorem ZJ {x : Str} {v : V} {u : Value} {pos : Pos} (hg : Gl X x) (hm : X.mg x = none) (hv : bootBuiltins x = some u) (r : RelV v u) (hn : x ≠ "__name__" := by decide) (hd : (x == ("__debug__" : Str)) = false := by decide) : PE X (.Name x pos) (tC v) :=
  fun _ _ _ H _ I h => Oh I hg hm hv ⟨v, H, I, r, h⟩ hn hd
variable {a b : Expr} {ta tb : TE} {pos : Pos}
noncomputable def PC (X : Cx) (op : CmpOp) (a b : Expr) (t : TE) : Prop :=
  ∀ (pins : List (Addr × Obj)) (s : Shared) (σ : St) (H : Hp) (Q : VK), Inv X pins σ H s → t σ H Q →
    wpAny (model X.prog X.w) X.A (eval a X.env) (fun v s₁ => wpAny (model X.prog X.w) X.A (eval b X.env) (fun u s₂ => wpAny (model X.prog X.w) X.A (compareOp op v u) (EP X pins σ Q) X.xe s₂) X.xe s₁) X.xe s
noncomputable def tB (t : TE) : TT := fun σ H Q => t σ H fun x H1 => ∃ c, x = .bl c ∧ Q c H1
theorem AgF {op : CmpOp} {t : TE} (h : PC X op a b t) (h1 : behindInMarks op b = false := by first | exact nobehind _ (by decide) (by decide) | rfl) : PT X (.Compare a [op] [b] pos) (tB t) := by
  intro pins s σ H Q I hw
  refine wpAny_isTrue_Compare1 (thn (h pins s σ H _ I hw) fun v s1 h1 => thn h1 fun u s2 h2 => thn h2 fun c s3 ⟨x, H1, I1, r1, q1⟩ => ?_) h1
  obtain ⟨d, rfl, q⟩ := q1
  cases r1
  exact wpAny_truthy_bool ⟨H1, I1, q⟩
theorem Acg {e : Expr} {t : TE} (h : PE X e t) (he : ∀ whole, isTrue e X.env whole = (do let v ← whole; standAt e.pos; holding [v] (truthy v)) := by intro _; rfl) : PT X e (tB t) := by
  intro pins s σ H Q I hw
  refine isTrue_plain (thn (h pins s σ H _ I hw) fun v s1 ⟨x, H1, I1, r1, q1⟩ => ?_) (he _)
  obtain ⟨d, rfl, q⟩ := q1
  cases r1
  exact wpAny_truthy_bool ⟨H1, I1, q⟩
variable {tA tB' : TT} {rest : List Expr}
noncomputable def AfM (t u : TT) : TT := fun σ H Q => t σ H fun c H1 => if c = true then u σ H1 Q else Q false H1
noncomputable def tOr (t u : TT) : TT := fun σ H Q => t σ H fun c H1 => if c = true then Q true H1 else u σ H1 Q
noncomputable def AeF (t : TT) : TT := fun σ H Q => t σ H fun c H1 => Q (!c) H1
theorem Y9 (ha : PT X a tA) : PW X (.BoolOp .And [a] pos) tA := by
  intro wh pins s σ H Q I h
  refine isTrue_and (thn (ha pins s σ H Q I h) fun c s1 e => ?_)
  cases c with
  | true => exact isTrue_and_nil e
  | false => exact e
theorem AbL (ha : PT X a tA) : PW X (.BoolOp .Or [a] pos) tA := by
  intro wh pins s σ H Q I h
  refine isTrue_or (thn (ha pins s σ H Q I h) fun c s1 e => ?_)
  cases c with
  | false => exact isTrue_or_nil e
  | true => exact e
theorem Acd (ha : PT X a tA) (hb : PW X (.BoolOp .And (b :: rest) pos) tB') : PW X (.BoolOp .And (a :: b :: rest) pos) (AfM tA tB') := by
  intro wh pins s σ H Q I h
  refine isTrue_and (thn (ha pins s σ H _ I h) fun c s1 ⟨H1, I1, q1⟩ => ?_)
  cases c with
  | true => exact hb wh pins s1 σ H1 Q I1 q1
  | false => exact ⟨H1, I1, q1⟩
theorem Aeu (ha : PT X a tA) (hb : PW X (.BoolOp .Or (b :: rest) pos) tB') : PW X (.BoolOp .Or (a :: b :: rest) pos) (tOr tA tB') := by
  intro wh pins s σ H Q I h
  refine isTrue_or (thn (ha pins s σ H _ I h) fun c s1 ⟨H1, I1, q1⟩ => ?_)
  cases c with
  | true => exact ⟨H1, I1, q1⟩
  | false => exact hb wh pins s1 σ H1 Q I1 q1
theorem AaV (ha : PT X a tA) : PT X (.UnaryOp .Not a pos) (AeF tA) := by
  intro pins s σ H Q I h
  exact isTrue_not (ha pins s σ H (fun c H1 => Q (!c) H1) I h)
noncomputable def Adc (ta tb : TE) : TE := fun σ H Q => ta σ H fun x H1 => ∃ c, x = .bl c ∧ if c = true then tb σ H1 Q else Q (.bl false) H1
noncomputable def Afi (ta tb : TE) : TE := fun σ H Q => ta σ H fun x H1 => ∃ c, x = .bl c ∧ if c = true then Q (.bl true) H1 else tb σ H1 Q
noncomputable def Adk (ta : TE) : TE := fun σ H Q => ta σ H fun x H1 => ∃ c, x = .bl c ∧ Q (.bl (!c)) H1
theorem Aca {op} {t : TE} (h : PE X a t) : PE X (.BoolOp op [a] pos) t := fun pins s σ H Q I hw => BoolOp_one (h pins s σ H Q I hw)
theorem Ack (ha : PE X a ta) (hb : PE X (.BoolOp .And (b :: rest) pos) tb) : PE X (.BoolOp .And (a :: b :: rest) pos) (Adc ta tb) := by
  intro pins s σ H Q I h
  refine BoolOp_and (thn (ha pins s σ H _ I h) fun v s1 ⟨x, H1, I1, r1, q1⟩ => ?_)
  obtain ⟨c, rfl, q1⟩ := q1
  cases r1
  refine wpAny_truthy_bool ?_
  cases c with
  | true => exact hb pins s1 σ H1 Q I1 q1
  | false => exact ⟨.bl false, H1, I1, rfl, q1⟩
theorem Aeq (ha : PE X a ta) (hb : PE X (.BoolOp .Or (b :: rest) pos) tb) : PE X (.BoolOp .Or (a :: b :: rest) pos) (Afi ta tb) := by
  intro pins s σ H Q I h
  refine BoolOp_or (thn (ha pins s σ H _ I h) fun v s1 ⟨x, H1, I1, r1, q1⟩ => ?_)
  obtain ⟨c, rfl, q1⟩ := q1
  cases r1
  refine wpAny_truthy_bool ?_
  cases c with
  | false => exact hb pins s1 σ H1 Q I1 q1
  | true => exact ⟨.bl true, H1, I1, rfl, q1⟩
theorem AcG (ha : PE X a ta) : PE X (.UnaryOp .Not a pos) (Adk ta) := by
  intro pins s σ H Q I h
  refine UnaryOp_ (thn (ha pins s σ H _ I h) fun v s1 ⟨x, H1, I1, r1, q1⟩ => ?_)
  obtain ⟨c, rfl, q1⟩ := q1
  cases r1
  exact not_of (wpAny_truthy_bool ⟨.bl (!c), H1, I1, rfl, q1⟩)
end
noncomputable def SqL (K : PySem.W.Frag) (H : Hp) (a : Addr) (xs : List V) : Prop :=
  Rd H a (.lst xs) ∨
    ∃ (o : Obj) (its : Array Value) (n : Nat), K.lookup a = some o ∧ o.cls = .type "list" ∧ o.dict = none ∧ o.data = .seq its n ∧ its.size ≤ sizeLine ∧ Vals xs its.toList
noncomputable def SqT (K : PySem.W.Frag) (H : Hp) (a : Addr) (xs : List V) : Prop :=
  Rd H a (.tup xs) ∨
    ∃ (o : Obj) (its : Array Value) (n : Nat), K.lookup a = some o ∧ o.cls = .type "tuple" ∧ o.data = .seq its n ∧ its.size ≤ sizeLine ∧ Vals xs its.toList
noncomputable def Aft : Value → Option V
  | .none => some .non
  | .bool b => some (.bl b)
  | .int i _ => some (.int i)
  | .str x _ => some (.str x)
  | .bytes b _ => some (.byt b)
  | .float b _ => some (.flt b)
  | .ref a => some (.ref a)
  | .type n => some (.ty n)
  | _ => none
theorem RelV.abs {x : V} {u : Value} (r : RelV x u) : Aft u = some x := by
  cases x with
  | non => cases r; rfl
  | bl _ => cases r; rfl
  | int _ => obtain ⟨t, rfl⟩ := r; rfl
  | str _ => obtain ⟨t, rfl⟩ := r; rfl
  | byt _ => obtain ⟨t, rfl⟩ := r; rfl
  | flt _ => obtain ⟨t, rfl⟩ := r; rfl
  | ref _ => cases r; rfl
  | ty _ => cases r; rfl
theorem RelV.inj {x y : V} {u : Value} (r : RelV x u) (q : RelV y u) : x = y := Option.some.inj (r.abs.symm.trans q.abs)
theorem Vals.inj : ∀ {xs ys : List V} {us : List Value}, Vals xs us → Vals ys us → xs = ys
  | _, _, _, .nil, .nil => rfl
  | _, _, _, .cons r t, .cons r' t' => by rw [r.inj r', Vals.inj t t']
section
variable {X : Cx} {pins : List (Addr × Obj)} {σ : St} {H : Hp} {s : Shared} {a : Addr} {xs ys : List V}
theorem SqL.of {K : PySem.W.Frag} (h : H a = some (.lst xs)) : SqL K H a xs := .inl (.inl h)
theorem SqT.of {K : PySem.W.Frag} (h : H a = some (.tup xs)) : SqT K H a xs := .inl (.inl h)
theorem Inv.list (I : Inv X pins σ H s) (h : SqL X.K H a xs) : ∃ its : List Value, Vals xs its ∧ PlainL s.heap a its.toArray ∧ xs.length ≤ sizeLine := by
  rcases h with h | ⟨o, its, n, hk, hc, hd, hs, hz, r⟩
  · obtain ⟨z, its, n, r, e⟩ := h.ok I.hok
    exact ⟨its, r, ⟨_, n, e, rfl, rfl, rfl⟩, z⟩
  · refine ⟨its.toList, r, ⟨o, n, I.kIn a o hk, hc, hd, by simpa using hs⟩, ?_⟩
    have e := r.length
    simp only [Array.length_toList] at e
    omega
theorem Inv.tuple (I : Inv X pins σ H s) (h : SqT X.K H a xs) : ∃ its : List Value, Vals xs its ∧ IsTup s.heap a its.toArray ∧ xs.length ≤ sizeLine := by
  rcases h with h | ⟨o, its, n, hk, hc, hs, hz, r⟩
  · obtain ⟨z, its, r, p⟩ := h.ok I.hok
    exact ⟨its, r, p, z⟩
  · refine ⟨its.toList, r, ⟨o, I.kIn a o hk, hc, n, by simpa using hs⟩, ?_⟩
    have e := r.length
    simp only [Array.length_toList] at e
    omega
theorem Inv.list_inj (I : Inv X pins σ H s) (h : SqL X.K H a xs) (h' : SqL X.K H a ys) : xs = ys := by
  obtain ⟨its, r, ⟨o, n, e, _, _, d⟩, _⟩ := I.list h
  obtain ⟨its', r', ⟨o', n', e', _, _, d'⟩, _⟩ := I.list h'
  rw [e] at e'; cases e'
  rw [d] at d'
  injection d' with d1 _
  have : its = its' := by simpa using congrArg Array.toList d1
  subst this
  exact r.inj r'
theorem Inv.tuple_inj (I : Inv X pins σ H s) (h : SqT X.K H a xs) (h' : SqT X.K H a ys) : xs = ys := by
  obtain ⟨its, r, ⟨o, e, _, n, d⟩, _⟩ := I.tuple h
  obtain ⟨its', r', ⟨o', e', _, n', d'⟩, _⟩ := I.tuple h'
  rw [e] at e'; cases e'
  rw [d] at d'
  injection d' with d1 _
  have : its = its' := by simpa using congrArg Array.toList d1
  subst this
  exact r.inj r'
end
noncomputable abbrev Cx.wish (X : Cx) (E : Value → Shared → Prop) : Cx := { X with xe := E }
noncomputable abbrev Cx.nox (X : Cx) : Cx := X.wish fun _ _ => False
theorem Cx.Ok.wish {X : Cx} (ok : X.Ok) (E : Value → Shared → Prop) : (X.wish E).Ok :=
  ⟨ok.mod, ok.kind, ok.glob, ok.blt, ok.above, ok.inj, ok.has, ok.cab, ok.hd, ok.frames, ok.stk, ok.exf, ok.bs, ok.bsz, ok.noex, ok.exfs, ok.funs, ok.frf⟩
theorem Cx.Ok.unwish {X : Cx} {E : Value → Shared → Prop} (ok : (X.wish E).Ok) : X.Ok :=
  ⟨ok.mod, ok.kind, ok.glob, ok.blt, ok.above, ok.inj, ok.has, ok.cab, ok.hd, ok.frames, ok.stk, ok.exf, ok.bs, ok.bsz, ok.noex, ok.exfs, ok.funs, ok.frf⟩
section
variable {X : Cx} {pins : List (Addr × Obj)} {σ : St} {H : Hp} {s : Shared} {E : Value → Shared → Prop}
theorem Inv.wish (I : Inv X pins σ H s) (E : Value → Shared → Prop) : Inv (X.wish E) pins σ H s := ⟨I.ok.wish E, I.os, I.bare, I.base, I.loc, I.cell, I.free, I.freeC, I.pin, I.hok, I.len⟩
theorem Inv.unwish (I : Inv (X.wish E) pins σ H s) : Inv X pins σ H s := ⟨I.ok.unwish, I.os, I.bare, I.base, I.loc, I.cell, I.free, I.freeC, I.pin, I.hok, I.len⟩
theorem SP.unwish {D : Ends} {f : Flow} {s' : Shared} (h : SP (X.wish E) pins D f s') : SP X pins D f s' := by
  cases f with
  | next => obtain ⟨σ', H', I, q⟩ := h; exact ⟨σ', H', I.unwish, q⟩
  | brk => obtain ⟨σ', H', I, q⟩ := h; exact ⟨σ', H', I.unwish, q⟩
  | cont => obtain ⟨σ', H', I, q⟩ := h; exact ⟨σ', H', I.unwish, q⟩
  | ret u => obtain ⟨v, σ', H', I, r, q⟩ := h; exact ⟨v, σ', H', I.unwish, r, q⟩
theorem PSs.nox {st : List Stmt} {t : TS} (h : PSs X.nox st t) : PSs X st t := fun pins s σ H D I hw =>
  wpAny_mono (h pins s σ H D (I.wish _) hw) (fun _ _ q => q.unwish) fun _ _ z => False.elim z
end
section
variable {X : Cx} {st : Stmt} {rest : List Stmt} {t u : TS} {e : Expr} {te : TE} {pos : Pos}
noncomputable def Aeg : TS := fun D σ H => D.nx σ H
noncomputable def AfO (t u : TS) : TS := fun D σ H => t { D with nx := u D } σ H
theorem Zg : PSs X [] Aeg := fun _ _ σ H _ I h => wpAny_execs_nil ⟨σ, H, I, h⟩
theorem WY (h1 : PS X st t) (h2 : PSs X rest u) : PSs X (st :: rest) (AfO t u) := by
  intro pins s σ H D I h
  refine wpAny_execs_cons (thn (h1 pins s σ H { D with nx := u D } I h) fun f s1 q => ?_)
  cases f with
  | next =>
    obtain ⟨σ', H', I', q⟩ := q
    exact h2 pins s1 σ' H' D I' q
  | ret v => exact q
  | brk => exact q
  | cont => exact q
theorem Zv (h1 : PS X st t) : PSs X [st] t := by
  intro pins s σ H D I h
  refine wpAny_execs_cons (thn (h1 pins s σ H D I h) fun f s1 q => ?_)
  cases f with
  | next => exact wpAny_execs_nil q
  | ret v => exact q
  | brk => exact q
  | cont => exact q
theorem Inv.quiet {pins : List (Addr × Obj)} {σ : St} {H : Hp} {s : Shared} (I : Inv X pins σ H s) : interactive X.env = false := by simp [interactive, I.ok.kind]
noncomputable def Aei (te : TE) : TS := fun D σ H => te σ H fun _ H1 => D.nx σ H1
theorem Kr (he : PE X e te) (hs : swapsWith e none pos.line X.env = pure false := by rfl) : PS X (.Expr e pos) (Aei te) := by
  intro pins s σ H D I h
  exact wpAny_Expr_any (thn (he pins s σ H _ I h) fun v s1 ⟨x, H1, I1, r1, q1⟩ => ⟨σ, H1, I1, q1⟩) I.quiet hs
noncomputable def AfN (te : TE) : TS := fun D σ H => te σ H D.rt
theorem Aa1 (he : PE X e te) : PS X (.Return (some e) pos) (AfN te) := by
  intro pins s σ H D I h
  exact wpAny_Return_some (thn (he pins s σ H _ I h) fun v s1 ⟨x, H1, I1, r1, q1⟩ => ⟨x, σ, H1, I1, r1, q1⟩)
noncomputable def Afg (c : TT) (t u : TS) : TS := fun D σ H => c σ H fun b H1 => if b = true then t D σ H1 else u D σ H1
theorem Ada {c : Expr} {a b : List Stmt} {tc : TT} (hc : PT X c tc) (ha : PSs X a t) (hb : PSs X b u) : PS X (.If c a b pos) (Afg tc t u) := by
  intro pins s σ H D I h
  refine wpAny_If (thn (hc pins s σ H _ I h) fun d s1 ⟨H1, I1, q1⟩ => ?_)
  cases d with
  | true => exact ha pins s1 σ H1 D I1 q1
  | false => exact hb pins s1 σ H1 D I1 q1
noncomputable def Abn : TS := fun _ _ _ => False
theorem Wi : PS X st Abn := fun _ _ _ _ _ _ h => h.elim
end
noncomputable abbrev TG := V → St → Hp → (St → Hp → Prop) → Prop
noncomputable abbrev TGs := List V → St → Hp → (St → Hp → Prop) → Prop
noncomputable def PG (X : Cx) (target : Expr) (t : TG) : Prop :=
  ∀ (pins : List (Addr × Obj)) (s : Shared) (σ : St) (H : Hp) (v : V) (u : Value) (Q : St → Hp → Prop), Inv X pins σ H s → RelV v u → t v σ H Q →
    wpAny (model X.prog X.w) X.A (assign target X.env u) (fun _ s' => ∃ σ' H', Inv X pins σ' H' s' ∧ Q σ' H') X.xe s
noncomputable def PGs (X : Cx) (ts : List Expr) (t : TGs) : Prop :=
  ∀ (pins : List (Addr × Obj)) (s : Shared) (σ : St) (H : Hp) (vs : List V) (us : List Value) (Q : St → Hp → Prop), Inv X pins σ H s → Vals vs us → t vs σ H Q →
    wpAny (model X.prog X.w) X.A (assignInOrder ((assignEach ts X.env).map (·.2)) us) (fun _ s' => ∃ σ' H', Inv X pins σ' H' s' ∧ Q σ' H') X.xe s
noncomputable abbrev Aa6 := V → V → V → Hp → (Hp → Prop) → Prop
noncomputable def Aer (X : Cx) (t : Aa6) : Prop :=
  ∀ (pins : List (Addr × Obj)) (s : Shared) (σ : St) (H : Hp) (o i v : V) (ov iv u : Value) (Q : Hp → Prop), Inv X pins σ H s → RelV o ov → RelV i iv → RelV v u → t o i v H Q →
    wpAny (model X.prog X.w) X.A (setItem ov iv u) (fun _ s' => ∃ H', Inv X pins σ H' s' ∧ Q H') X.xe s
section
variable {X : Cx} {pos : Pos}
noncomputable def Um (i : Nat) : TG := fun v σ H Q => Q (σ.set i (some v)) H
theorem Px {i : Nat} {x : Str} (hN : X.N.Nodup) (hi : X.N[i]? = some x) (hx : Loc X.env.scope x) (hf : X.fn x = true ∨ X.env.scope.names.lookup x = some .local := by first | exact .inl rfl | exact .inr rfl | assumption) : PG X (.Name x pos) (Um i) := by
  intro pins s σ H v u Q I r h
  exact wpAny_assign_Name (Jm I hN hi hx r (fun s' I' => ⟨_, H, I', h⟩) hf)
noncomputable def Afr : TGs := fun vs σ H Q => vs = [] ∧ Q σ H
noncomputable def Adb (t : TG) (u : TGs) : TGs := fun vs σ H Q => ∃ v r, vs = v :: r ∧ t v σ H fun σ' H' => u r σ' H' Q
theorem Y8 : PGs X [] Afr := by
  intro pins s σ H vs us Q I r h
  obtain ⟨e, h⟩ := h
  subst e
  cases r
  exact assignInOrder_nil ⟨σ, H, I, h⟩
theorem Xh {e : Expr} {es : List Expr} {t : TG} {u : TGs} (h1 : PG X e t) (h2 : PGs X es u)
    (hs : (assignEach (e :: es) X.env).map (·.2) = assign e X.env :: (assignEach es X.env).map (·.2) := by rfl) : PGs X (e :: es) (Adb t u) := by
  intro pins s σ H vs us Q I r h
  obtain ⟨v, vr, e1, h⟩ := h
  subst e1
  cases r with
  | cons r rr =>
    rw [hs]
    refine assignInOrder_cons (thn (h1 pins s σ H _ _ _ I r h) fun _ s1 ⟨σ1, H1, I1, q1⟩ => ?_)
    exact h2 pins s1 σ1 H1 _ _ Q I1 rr q1
noncomputable def Agn (K : PySem.W.Frag) (n : Nat) (t : TGs) : TG := fun v σ H Q => ∃ a xs, v = .ref a ∧ SqT K H a xs ∧ xs.length = n ∧ t xs σ H Q
theorem Abz {es : List Expr} {k : Nat} {t : TGs} {n : Nat} (hc : X.calm = true) (h : PGs X es t)
    (hn : (assignEach es X.env).length = n := by rfl) (hst : (assignEach es X.env).findIdx? (·.1) = none := by rfl) : PG X (.Tuple es k pos) (Agn X.K n t) := by
  intro pins s σ H v u Q I r hw
  obtain ⟨a, xs, e1, hq, hl, hw⟩ := hw
  subst e1
  cases r
  obtain ⟨its, rv, ht, hz⟩ := I.tuple hq
  refine assign_Tuple_tuple (I.ok.hd hc) ht (by simp [hn, ← hl, rv.length]) hst fun h' hx => ?_
  have I1 : Inv X pins σ H { s with heap := h' } := I.kept (t' := s.toks) fun b o e => hx b o (Nat.ne_of_lt (Heap.lt_size e)) e
  exact h pins _ σ H xs _ Q I1 (by simpa using rv) hw
noncomputable def Agr (to ti : TE) (t : Aa6) : TG := fun v σ H Q => to σ H fun o H1 => ti σ H1 fun i H2 => t o i v H2 fun H3 => Q σ H3
theorem AbS {o i : Expr} {to ti : TE} {t : Aa6} (ho : PE X o to) (hi : PE X i ti) (hs : Aer X t)
    (ha : ∀ v, assign (.Subscript o i pos) X.env v = (do
      let ov ← holding [v] (eval o X.env)
      let iv ← holding [v, ov] (eval i X.env)
      standAt pos
      holding [v, ov, iv] (setItem ov iv v)
      release [v, ov, iv] []) := by intro _; rfl) : PG X (.Subscript o i pos) (Agr to ti t) := by
  intro pins s σ H v u Q I r h
  rw [ha]
  refine wpAny_bind (wpAny_holding (thn (ho pins s σ H _ I h) fun ov s1 ⟨x, H1, I1, r1, q1⟩ => ?_))
  refine wpAny_bind (wpAny_holding (thn (hi pins s1 σ H1 _ I1 q1) fun iv s2 ⟨y, H2, I2, r2, q2⟩ => ?_))
  refine wpAny_bind (wpAny_standAt (wpAny_bind (wpAny_holding (thn (hs pins s2 σ H2 x y v ov iv u _ I2 r1 r2 r q2) fun _ s3 ⟨H3, I3, q3⟩ => ?_))))
  exact wpAny_release ⟨σ, H3, I3, q3⟩
noncomputable def Aet (te : TE) (g : TG) : TS := fun D σ H => te σ H fun x H1 => g x σ H1 D.nx
theorem WR {tg e : Expr} {te : TE} {g : TG} (he : PE X e te) (hg : PG X tg g) (hs : swapsWithSole [tg] e pos.line X.env = pure false := by rfl) (hw : swappedStores [tg] e X.env = pure none := by rfl)
    (h1 : (assignEach [tg] X.env).map (·.2) = [assign tg X.env] := by rfl) : PS X (.Assign [tg] e pos) (Aet te g) := by
  intro pins s σ H D I h
  refine wpAny_Assign_stores (thn (he pins s σ H _ I h) fun v s1 ⟨x, H1, I1, r1, q1⟩ => ?_) hs hw
  rw [h1]
  exact thn (hg pins s1 σ H1 x v _ I1 r1 q1) fun _ s2 q => q
theorem Ou {i : Nat} {x : Str} {e : Expr} {te : TE} {pos' : Pos} (hN : X.N.Nodup) (hi : X.N[i]? = some x) (hx : Loc X.env.scope x) (he : PE X e te) (hs : swapsWith e (some (.Name x pos')) pos.line X.env = pure false := by rfl) (hf : X.fn x = true ∨ X.env.scope.names.lookup x = some .local := by first | exact .inl rfl | exact .inr rfl | assumption) :
    PS X (.Assign [.Name x pos'] e pos) (Aet te (Um i)) := by
  intro pins s σ H D I h
  refine wpAny_Assign_Name (thn (he pins s σ H _ I h) fun v s1 ⟨y, H1, I1, r1, q1⟩ => ?_) hs
  exact Jm I1 hN hi hx r1 (fun s2 I2 => ⟨_, H1, I2, q1⟩) hf
noncomputable def AeZ (i j : Nat) (ta : TA) : TS := fun D σ H => ta σ H fun vs H1 => ∃ v w, vs = [v, w] ∧ D.nx ((σ.set i (some v)).set j (some w)) H1
theorem Aa0 {i j : Nat} {x y : Str} {a b : Expr} {ta : TA} {px py pt : Pos} {kt k2 pt2} (hc : X.calm = true) (hN : X.N.Nodup) (hi : X.N[i]? = some x) (hj : X.N[j]? = some y) (hij : i ≠ j)
    (hx : X.env.scope.names.lookup x = some .local) (hy : X.env.scope.names.lookup y = some .local) (ha : PA X [a, b] ta)
    (hw : swappedStores [.Tuple [.Name x px, .Name y py] kt pt] (.Tuple [a, b] k2 pt2) X.env = pure (some [x, y]))
    (hs : swapsWithSole [.Tuple [.Name x px, .Name y py] kt pt] (.Tuple [a, b] k2 pt2) pos.line X.env = pure false := by rfl) :
    PS X (.Assign [.Tuple [.Name x px, .Name y py] kt pt] (.Tuple [a, b] k2 pt2) pos) (AeZ i j ta) := by
  intro pins s σ H D I h
  rw [exec_Assign_arm]
  refine wpAny_bind (wpAny_standAt ?_)
  rw [hs]
  refine wpAny_bind (wpAny_pure ?_)
  rw [if_neg (by decide)]
  refine wpAny_bind (Tuple_ (thn (ha _ pins s σ H _ I h) fun us s1 ⟨vs, H1, I1, r1, q1⟩ => ?_))
  obtain ⟨v, w, e1, q1⟩ := q1
  subst e1
  obtain ⟨u1, u2, rfl, rv, rw'⟩ : ∃ u1 u2, us = [u1, u2] ∧ RelV v u1 ∧ RelV w u2 := by
    cases r1 with
    | cons p q =>
      cases q with
      | cons p' q' =>
        cases q'
        exact ⟨_, _, rfl, p, p'⟩
  refine wpAny_newObj_type ?_ (by show 2 ≤ sizeLine; decide)
  have I2 : Inv X pins σ H1 { s1 with heap := s1.heap.push { cls := .type "tuple", data := .seq [u1, u2].toArray } } := I1.kept (t' := s1.toks) fun b o e => Heap.get?_push_of_some _ e
  rw [hw]
  refine wpAny_bind (wpAny_pure ?_)
  show wpAny (model X.prog X.w) X.A (do rule "assign.swapped-stores"; let items ← unpackItems (.ref s1.heap.objs.size) 2 none; assignInOrder [fun v => bindName X.env y v, fun v => bindName X.env x v] items.reverse; pure Flow.next) _ _ _
  refine wpAny_bind (wpAny_rule (wpAny_bind (unpackItems_tuple (items := #[u1, u2]) (I.ok.hd hc) (IsTup.new s1.heap _) fun h' hx' => ?_)))
  have I3 := I2.kept (h' := h') (t' := s1.toks) fun b o e => hx' b o (Nat.ne_of_lt (Heap.lt_size e)) e
  show wpAny _ _ (assignInOrder [fun v => bindName X.env y v, fun v => bindName X.env x v] [u2, u1] >>= fun _ => pure Flow.next) _ _ _
  refine wpAny_bind (assignInOrder_cons (wpAny_bindName (Jm I3 hN hj (.inl hy) rw' (fun s2 I4 => ?_) (.inr hy))))
  refine assignInOrder_cons (wpAny_bindName (Jm I4 hN hi (.inl hx) rv (fun s3 I5 => assignInOrder_nil (wpAny_pure ?_)) (.inr hx)))
  rw [List.set_comm _ _ (Ne.symm hij)] at I5
  exact ⟨_, H1, I5, q1⟩
end
section
variable {X : Cx} {pos : Pos}
noncomputable def Acz (c : TT) (tb : TS) : TS := fun D σ H => ∃ W : Nat → St → Hp → Prop, (∃ m, W m σ H) ∧ ∀ m σ H, W m σ H →
  c σ H fun b H1 => if b = true then ∃ N : St → Hp → Prop, (∀ σ' H', N σ' H' → ∃ m', m' < m ∧ W m' σ' H') ∧ tb { D with nx := N, ct := N, bk := D.nx } σ H1 else D.nx σ H1
theorem Xe {c : Expr} {body : List Stmt} {tc : TT} {tb : TS} (hp : PassesOwn (model X.prog X.w) X.A X.env X.xe) (hc : PT X c tc) (hb : PSs X body tb) : PS X (.While c body [] pos) (Acz tc tb) := by
  intro pins s σ H D I h
  obtain ⟨W, ⟨m0, w0⟩, turn⟩ := h
  refine wpAny_While (codeAny_whileLoop (fun n s' => ∃ σ' H', Inv X pins σ' H' s' ∧ W n σ' H') ?_ m0 ⟨σ, H, I, w0⟩)
  rintro n s1 ⟨σ1, H1, I1, w1⟩
  refine wpAny_passesOwn hp (thn (hc pins s1 σ1 H1 _ I1 (turn n σ1 H1 w1)) fun b s2 ⟨H2, I2, q2⟩ => ?_)
  cases b with
  | true =>
    obtain ⟨N, hN, q2⟩ := q2
    rw [if_pos rfl]
    refine wpAny_passesOwn hp (thn (hb pins s2 σ1 H2 _ I2 q2) fun f s3 q3 => ?_)
    cases f with
    | next =>
      obtain ⟨σ3, H3, I3, n3⟩ := q3
      obtain ⟨m', hm, w3⟩ := hN σ3 H3 n3
      exact ⟨m', hm, σ3, H3, I3, w3⟩
    | cont =>
      obtain ⟨σ3, H3, I3, n3⟩ := q3
      obtain ⟨m', hm, w3⟩ := hN σ3 H3 n3
      exact ⟨m', hm, σ3, H3, I3, w3⟩
    | brk => exact q3
    | ret v => exact q3
  | false =>
    rw [if_neg Bool.false_ne_true]
    exact wpAny_execs_nil ⟨σ1, H2, I2, q2⟩
end
structure It where
  go : Nat → Hp → Prop
  yld : Nat → Hp → V → Hp → Prop
  stop : Nat → Hp → Prop
noncomputable def Kp (X : Cx) (pins : List (Addr × Obj)) (H : Hp) (b : Addr) : Prop :=
  H b = none ∧ b ≠ X.env.locals ∧ b ∉ X.fs ∧ (b ∈ X.ex ∨ X.s₀.heap.objs.size ≤ b) ∧ (∀ x c, X.env.cells.lookup x = some c → c ≠ b) ∧ ∀ p ∈ X.pn ++ pins, p.1 ≠ b
theorem Inv.fpOk {X : Cx} {pins : List (Addr × Obj)} {σ : St} {H H' : Hp} {s : Shared} {b : Addr} (I : Inv X pins σ H s) (hb : s.heap.objs.size ≤ b) (hn : H' b = none) : Kp X pins H' b := by
  refine ⟨hn, Nat.ne_of_gt (Nat.lt_of_lt_of_le I.lt hb), I.nofs hb, .inr (Nat.le_trans I.sz hb), fun x c e z => ?_, fun p hp z => ?_⟩
  · obtain ⟨v, q⟩ := I.cell x c e
    exact absurd (Nat.lt_of_lt_of_le q.lt (by rw [z]; exact hb)) (Nat.lt_irrefl _)
  · exact absurd (Nat.lt_of_lt_of_le (Heap.lt_size (I.pin p hp).1) (by rw [z]; exact hb)) (Nat.lt_irrefl _)
structure Turn (P : Program) (w : World) (K : PySem.W.Frag) (tg : Expr) (J : It) (fp : List Addr) (it : Addr) (tn : Nat → Heap → Prop) : Prop where
  mem : it ∈ fp
  obj : ∀ i h, tn i h → ∀ b ∈ fp, ∃ o, h.get? b = some o ∧ ∀ v, o.data ≠ .cell v
  keep : ∀ i h h', tn i h → (∀ b ∈ fp, ∀ o, h.get? b = some o → h'.get? b = some o) → tn i h'
  item : ∀ (X : Cx), X.prog = P → X.w = w → X.K = K → X.calm = true → ∀ (i : Nat) (pins : List (Addr × Obj)) (s : Shared) (σ : St) (H : Hp) (E : Value → Shared → Prop), Inv X pins σ H s → (∀ b ∈ fp, Kp X pins H b) → tn i s.heap → J.go i H →
    wpAny (model P w) X.A (pyNext (.ref it)) (fun r s1 => ∃ u, r = some u ∧
      wpAny (model P w) X.A (letOwnedTupleGo tg (.ref it) u) (fun _ s2 => ∃ x H', Inv X pins σ H' s2 ∧ RelV x u ∧ J.yld i H x H' ∧ tn (i + 1) s2.heap ∧ ∀ b ∈ fp, H' b = none) E s1) E s
  done : ∀ (X : Cx), X.prog = P → X.w = w → X.K = K → X.calm = true → ∀ (i : Nat) (pins : List (Addr × Obj)) (s : Shared) (σ : St) (H : Hp) (E : Value → Shared → Prop), Inv X pins σ H s → (∀ b ∈ fp, Kp X pins H b) → tn i s.heap → J.stop i H →
    wpAny (model P w) X.A (pyNext (.ref it)) (fun r s1 => r = none ∧ Inv X pins σ H s1) E s
  self : ∀ (A : Around) (i : Nat) (s : Shared) (Q : Value → Shared → Prop) (E : Value → Shared → Prop), tn i s.heap → Q (.ref it) s → wpAny (model P w) A (pyIter (.ref it)) Q E s
noncomputable abbrev TI := St → Hp → (It → Hp → Prop) → Prop
noncomputable def PIE (X : Cx) (pins : List (Addr × Obj)) (σ : St) (tg : Expr) (R : It → Hp → Prop) (itv : Value) (s2 : Shared) : Prop :=
  ∃ (it : Addr) (fp : List Addr) (tn : Nat → Heap → Prop) (J : It) (H' : Hp), itv = .ref it ∧ Inv X pins σ H' s2 ∧ Turn X.prog X.w X.K tg J fp it tn ∧ tn 0 s2.heap ∧ (∀ b ∈ fp, Kp X pins H' b) ∧ R J H'
noncomputable def PI (X : Cx) (tg iter : Expr) (wi : TI) : Prop :=
  ∀ (pins : List (Addr × Obj)) (s : Shared) (σ : St) (H : Hp) (R : It → Hp → Prop), Inv X pins σ H s → wi σ H R →
    wpAny (model X.prog X.w) X.A (eval iter X.env) (fun v s1 => wpAny (model X.prog X.w) X.A (pyIter v) (PIE X pins σ tg R) X.xe s1) X.xe s
theorem X4 {M : Model} {A : Around} {E : Value → Shared → Prop} {s : Shared} {tg : Expr} {it : Addr} {u : Value} {o : Obj} {n : String} {vs : Array Value} {Q : Unit → Shared → Prop} (ho : s.heap.get? it = some o) (hc : o.cls = .type n) (hd : o.data = .fields vs)
    (hn : ["enumerate", "zip", "dict_itemiterator", "dict_reverseitemiterator", "odict_iterator", "itertools.zip_longest", "itertools.pairwise"].contains n = false) (hQ : Q () s) : wpAny M A (letOwnedTupleGo tg (.ref it) u) Q E s := by
  unfold letOwnedTupleGo
  cases tg <;> first
    | exact wpAny_pure hQ
    | (cases u <;> first
        | exact wpAny_pure hQ
        | (refine wpAny_bind (wpAny_load ho ?_)
           rw [hc, hd]
           show wpAny M A (if (["enumerate", "zip", "dict_itemiterator", "dict_reverseitemiterator", "odict_iterator", "itertools.zip_longest", "itertools.pairwise"].contains n && vs[0]? == some (rawInt _)) = true then _ else _) Q E s
           rw [if_neg (by intro h; rw [hn, Bool.false_and] at h; cases h)]
           exact wpAny_pure hQ))
noncomputable def Itl (K : PySem.W.Frag) (a : Addr) : It :=
  ⟨fun i H => ∃ xs x, SqL K H a xs ∧ xs[i]? = some x, fun i H x H' => H' = H ∧ ∀ xs, SqL K H a xs → xs[i]? = some x, fun i H => ∃ xs, SqL K H a xs ∧ xs.length ≤ i⟩
noncomputable def Itt (K : PySem.W.Frag) (a : Addr) : It :=
  ⟨fun i H => ∃ xs x, SqT K H a xs ∧ xs[i]? = some x, fun i H x H' => H' = H ∧ ∀ xs, SqT K H a xs → xs[i]? = some x, fun i H => ∃ xs, SqT K H a xs ∧ xs.length ≤ i⟩
noncomputable def Itr (lo : Int) (n : Nat) : It := ⟨fun i _ => i < n, fun i H x H' => H' = H ∧ x = .int (lo + i), fun i _ => n ≤ i⟩
theorem VH {P : Program} {w : World} {K : PySem.W.Frag} {tg : Expr} (a it : Addr) : Turn P w K tg (Itl K a) [it] it (fun i h => h.IsListIter it a i) where
  mem := by simp
  obj := fun i h st b hb => by
    have e : b = it := by simpa using hb
    subst e
    obtain ⟨o, e, c, d⟩ := st
    exact ⟨o, e, fun v z => by rw [d] at z; cases z⟩
  keep := fun i h h' st k => st.at fun o e => k it (by simp) o e
  item := by
    intro X hP hw hK hc i pins s σ H E I hf st hg
    subst hP hw hK
    obtain ⟨xs, x, hq, hx⟩ := hg
    obtain ⟨its, rv, p, hz⟩ := I.list hq
    obtain ⟨u, hu, ru⟩ := rv.get hx
    obtain ⟨f0, f1, f2, f3, f4, f5⟩ := hf it (by simp)
    refine wpAny_pyNext_list_item st p.isList (x := u) (by simpa using hu) fun h' st' sb => ?_
    have I1 : Inv X pins σ H { s with heap := h' } := I.turned (t' := s.toks) (fun b o hb e => (sb.2 b hb).trans e) f0 f1 f3 f4 f5
    obtain ⟨o, e, c, d⟩ := id st'
    exact ⟨u, rfl, X4 (s := { s with heap := h' }) e c d (by decide) ⟨x, H, I1, ru, ⟨rfl, fun ys hy => by rw [I.list_inj hy hq]; exact hx⟩, st', fun b hb => (hf b hb).1⟩⟩
  done := by
    intro X hP hw hK hc i pins s σ H E I hf st hg
    subst hP hw hK
    obtain ⟨xs, hq, hx⟩ := hg
    obtain ⟨its, rv, p, hz⟩ := I.list hq
    obtain ⟨f0, f1, f2, f3, f4, f5⟩ := hf it (by simp)
    have hl := rv.length
    exact wpAny_pyNext_list_end (I.ok.hd hc) st p.isList (by simp; omega) fun h' eb => ⟨rfl, I.turned (t' := s.toks) (fun b o hb e => eb b o hb e) f0 f1 f3 f4 f5⟩
  self := fun _ _ _ _ _ st h => wpAny_pyIter_listiter st h
theorem Ry {P : Program} {w : World} {K : PySem.W.Frag} {tg : Expr} (a it : Addr) : Turn P w K tg (Itt K a) [it] it (fun i h => h.IsTupleIter it a i) where
  mem := by simp
  obj := fun i h st b hb => by
    have e : b = it := by simpa using hb
    subst e
    obtain ⟨o, e, c, d⟩ := st
    exact ⟨o, e, fun v z => by rw [d] at z; cases z⟩
  keep := fun i h h' st k => st.at fun o e => k it (by simp) o e
  item := by
    intro X hP hw hK hc i pins s σ H E I hf st hg
    subst hP hw hK
    obtain ⟨xs, x, hq, hx⟩ := hg
    obtain ⟨its, rv, p, hz⟩ := I.tuple hq
    obtain ⟨u, hu, ru⟩ := rv.get hx
    obtain ⟨f0, f1, f2, f3, f4, f5⟩ := hf it (by simp)
    refine wpAny_pyNext_tuple_item st (show s.heap.IsTuple a its.toArray from p) (x := u) (by simpa using hu) fun h' st' sb => ?_
    have I1 : Inv X pins σ H { s with heap := h' } := I.turned (t' := s.toks) (fun b o hb e => (sb.2 b hb).trans e) f0 f1 f3 f4 f5
    obtain ⟨o, e, c, d⟩ := id st'
    exact ⟨u, rfl, X4 (s := { s with heap := h' }) e c d (by decide) ⟨x, H, I1, ru, ⟨rfl, fun ys hy => by rw [I.tuple_inj hy hq]; exact hx⟩, st', fun b hb => (hf b hb).1⟩⟩
  done := by
    intro X hP hw hK hc i pins s σ H E I hf st hg
    subst hP hw hK
    obtain ⟨xs, hq, hx⟩ := hg
    obtain ⟨its, rv, p, hz⟩ := I.tuple hq
    obtain ⟨f0, f1, f2, f3, f4, f5⟩ := hf it (by simp)
    have hl := rv.length
    exact wpAny_pyNext_tuple_end (I.ok.hd hc) st (show s.heap.IsTuple a its.toArray from p) (by simp; omega) fun h' eb => ⟨rfl, I.turned (t' := s.toks) (fun b o hb e => eb b o hb e) f0 f1 f3 f4 f5⟩
  self := fun _ _ _ _ _ st h => wpAny_pyIter_tupleiter st h
theorem RW {P : Program} {w : World} {K : PySem.W.Frag} {tg : Expr} (it : Addr) (lo : Int) (n : Nat) : Turn P w K tg (Itr lo n) [it] it (fun i h => IsRangeIter h it (lo + (i : Nat) * 1) ((n : Int) - (i : Nat)) 1) where
  mem := by simp
  obj := fun i h st b hb => by
    have e : b = it := by simpa using hb
    subst e
    exact ⟨_, st, fun v z => by
      have z' : Data.fields _ = Data.cell v := z
      cases z'⟩
  keep := fun i h h' st k => k it (by simp) _ st
  item := by
    intro X hP hw hK hc i pins s σ H E I hf st hg
    subst hP hw hK
    obtain ⟨f0, f1, f2, f3, f4, f5⟩ := hf it (by simp)
    have W := Walks.range (prog := X.prog) (w := X.w) (I.ok.hd hc) it lo 1 n
    refine W.item i s _ _ hg st fun v h' tk hv st' kk => ?_
    obtain ⟨t, rfl⟩ := hv
    have I1 : Inv X pins σ H { s with heap := h', toks := tk } := I.turned (fun b o hb e => kk b o (by simpa using hb) e) f0 f1 f3 f4 f5
    refine ⟨_, rfl, X4 (s := { s with heap := h', toks := tk }) (n := "range_iterator") st' rfl rfl (by decide) ⟨.int (lo + i), H, I1, ⟨t, ?_⟩, ⟨rfl, rfl⟩, st', fun b hb => (hf b hb).1⟩⟩
    rw [Int.mul_one]
  done := by
    intro X hP hw hK hc i pins s σ H E I hf st hg
    subst hP hw hK
    obtain ⟨f0, f1, f2, f3, f4, f5⟩ := hf it (by simp)
    exact wpAny_pyNext_range_end (I.ok.hd hc) st (by have : n ≤ i := hg; omega) fun h' eb => ⟨rfl, I.turned (t' := s.toks) (fun b o hb e => eb b o hb e) f0 f1 f3 f4 f5⟩
  self := fun _ _ _ _ _ st h => wpAny_pyIter_rangeiter st h
section
variable {X : Cx} {tg : Expr}
noncomputable def Aej (K : PySem.W.Frag) (tl : TE) : TI := fun σ H R => tl σ H fun x H1 => ∃ a, x = .ref a ∧ (∃ xs, SqL K H1 a xs) ∧ R (Itl K a) H1
noncomputable def Ago (K : PySem.W.Frag) (tl : TE) : TI := fun σ H R => tl σ H fun x H1 => ∃ a, x = .ref a ∧ (∃ xs, SqT K H1 a xs) ∧ R (Itt K a) H1
theorem Ux {l : Expr} {tl : TE} (hl : PE X l tl) : PI X tg l (Aej X.K tl) := by
  intro pins s σ H R I h
  refine thn (hl pins s σ H _ I h) fun v s1 ⟨x, H1, I1, r1, q1⟩ => ?_
  obtain ⟨a, e, ⟨xs, hq⟩, q⟩ := q1
  subst e
  cases r1
  obtain ⟨its, rv, p, hz⟩ := I1.list hq
  refine wpAny_pyIter_list p.isList ?_
  refine ⟨s1.heap.objs.size, [s1.heap.objs.size], _, _, H1, rfl, I1.kept (t' := s1.toks) fun b o e => Heap.get?_push_of_some _ e, VH a _, ⟨_, Heap.get?_push_size _ rfl, rfl, rfl⟩, fun b hb => ?_, q⟩
  have e : b = s1.heap.objs.size := by simpa using hb
  subst e
  exact I1.fpOk (Nat.le_refl _) (I1.hok.fresh (Nat.le_refl _))
theorem Abs {l : Expr} {tl : TE} (hl : PE X l tl) : PI X tg l (Ago X.K tl) := by
  intro pins s σ H R I h
  refine thn (hl pins s σ H _ I h) fun v s1 ⟨x, H1, I1, r1, q1⟩ => ?_
  obtain ⟨a, e, ⟨xs, hq⟩, q⟩ := q1
  subst e
  cases r1
  obtain ⟨its, rv, p, hz⟩ := I1.tuple hq
  refine wpAny_pyIter_tuple (show s1.heap.IsTuple a its.toArray from p) ?_
  refine ⟨s1.heap.objs.size, [s1.heap.objs.size], _, _, H1, rfl, I1.kept (t' := s1.toks) fun b o e => Heap.get?_push_of_some _ e, Ry a _, ⟨_, Heap.get?_push_size _ rfl, rfl, rfl⟩, fun b hb => ?_, q⟩
  have e : b = s1.heap.objs.size := by simpa using hb
  subst e
  exact I1.fpOk (Nat.le_refl _) (I1.hok.fresh (Nat.le_refl _))
theorem Wq {pins : List (Addr × Obj)} {σ : St} {H : Hp} {s : Shared} {R : It → Hp → Prop} {E : Value → Shared → Prop} {lo hi : Int} {t u v : Tok} {tk : Nat} (I : Inv X pins σ H s) (h1 : -(2 ^ 62) ≤ lo) (h2 : lo < 2 ^ 62) (h3 : -(2 ^ 62) ≤ hi) (h4 : hi < 2 ^ 62)
    (q : R (Itr lo (hi - lo).toNat) H) : wpAny (model X.prog X.w) X.A (pyIter (.ref s.heap.objs.size)) (PIE X pins σ tg R) E { s with heap := s.heap.push { cls := .type "range", data := .fields #[.int lo t, .int hi u, .int 1 v] }, toks := tk } := by
  refine wpAny_pyIter_range (IsRange.new ..) (small_one h1 h2 h3 h4) ?_
  have I1 : Inv X pins σ H { s with heap := s.heap.push { cls := .type "range", data := .fields #[.int lo t, .int hi u, .int 1 v] }, toks := tk } := I.kept fun b o e => Heap.get?_push_of_some _ e
  refine ⟨(s.heap.push { cls := .type "range", data := .fields #[.int lo t, .int hi u, .int 1 v] }).objs.size, [(s.heap.push { cls := .type "range", data := .fields #[.int lo t, .int hi u, .int 1 v] }).objs.size], _, _, H, rfl,
    I1.kept (t' := tk) fun b o e => Heap.get?_push_of_some _ e, RW _ lo (hi - lo).toNat, ?_, fun b hb => ?_, q⟩
  · have e1 : lo + ((0 : Nat) : Int) * 1 = lo := by simp
    have e2 : (((hi - lo).toNat : Nat) : Int) - ((0 : Nat) : Int) = Builtin.Range.rangeSize lo hi 1 := by rw [rangeSize_one]; split <;> omega
    show IsRangeIter _ _ (lo + ((0 : Nat) : Int) * 1) ((((hi - lo).toNat : Nat) : Int) - ((0 : Nat) : Int)) 1
    rw [e1, e2]
    exact Heap.get?_push_size _ rfl
  · have e : b = (s.heap.push { cls := .type "range", data := .fields #[.int lo t, .int hi u, .int 1 v] }).objs.size := by simpa using hb
    subst e
    exact I1.fpOk (Nat.le_refl _) (I1.hok.fresh (Nat.le_refl _))
noncomputable def AdF (ta : TA) : TI := fun σ H R => ta σ H fun vs H1 => ∃ i j : Int, vs = [.int i, .int j] ∧ (-(2 ^ 62) ≤ i ∧ i < 2 ^ 62 ∧ -(2 ^ 62) ≤ j ∧ j < 2 ^ 62) ∧ R (Itr i (j - i).toNat) H1
theorem VN {a b : Expr} {ta : TA} {p pos : Pos} (hg : Gl X "range") (hm : X.mg "range" = none) (ha : PA X [a, b] ta) (hs : starEach [a, b] X.env = [(false, eval a X.env), (false, eval b X.env)] := by rfl) (hs2 : starEach [b] X.env = [(false, eval b X.env)] := by rfl) :
    PI X tg (.Call (.Name "range" p) [a, b] [] pos) (AdF ta) := by
  intro pins s σ H R I h
  refine Call_ (Oh I hg hm boot_range (PyProof.Rows.callWith_type1 (thn (ha pos pins s σ H _ I h) fun us s1 ⟨vs, H1, I1, r1, q1⟩ => ?_) (by rw [hs, hs2]) (by rw [hs2]; rfl)))
  obtain ⟨i, j, e, ⟨q1, q2, q3, q4⟩, q⟩ := q1
  subst e
  cases r1 with
  | cons r rr =>
    cases rr with
    | cons r' rr =>
      cases rr
      obtain ⟨t, rfl⟩ := r
      obtain ⟨t', rfl⟩ := r'
      exact call_range_2 (Wq I1 q1 q2 q3 q4 q)
noncomputable def Afv (wi : TI) (g : TG) (tb : TS) : TS := fun D σ H => wi σ H fun J H1 => ∃ W : Nat → Nat → St → Hp → Prop, (∃ m, W 0 m σ H1) ∧ ∀ i m σ H, W i m σ H →
  (J.stop i H ∧ D.nx σ H) ∨ (J.go i H ∧ ∃ N : St → Hp → Prop, (∀ σ' H', N σ' H' → ∃ m', m' < m ∧ W (i + 1) m' σ' H') ∧ ∀ x H', J.yld i H x H' → g x σ H' fun σ2 H2 => tb { D with nx := N, ct := N, bk := D.nx } σ2 H2)
noncomputable def J1 (fp : List Addr) (h : Heap) : List (Addr × Obj) := fp.filterMap fun b => (h.get? b).map fun o => (b, o)
theorem Eh {fp : List Addr} {h : Heap} {b : Addr} {o : Obj} (hb : b ∈ fp) (e : h.get? b = some o) : (b, o) ∈ J1 fp h := List.mem_filterMap.mpr ⟨b, hb, by rw [e]; rfl⟩
theorem Vg {fp : List Addr} {h : Heap} {p : Addr × Obj} (hp : p ∈ J1 fp h) : p.1 ∈ fp ∧ h.get? p.1 = some p.2 := by
  obtain ⟨b, hb, e⟩ := List.mem_filterMap.mp hp
  cases q : h.get? b with
  | none => rw [q] at e; cases e
  | some o =>
    rw [q] at e
    have e' : (b, o) = p := Option.some.inj e
    subst e'
    exact ⟨hb, q⟩
theorem Inv.pinned {pins : List (Addr × Obj)} {σ : St} {H : Hp} {s : Shared} {fp : List Addr} (I : Inv X pins σ H s) (hf : ∀ b ∈ fp, Kp X pins H b) (ho : ∀ b ∈ fp, ∃ o, s.heap.get? b = some o ∧ ∀ v, o.data ≠ .cell v) : Inv X (pins ++ J1 fp s.heap) σ H s :=
  I.pins_of fun p hp => (List.mem_append.mp hp).elim (fun z => I.pin p (List.mem_append_right _ z)) fun z => by
    obtain ⟨hb, e⟩ := Vg z
    obtain ⟨f0, f1, f2, _⟩ := hf p.1 hb
    obtain ⟨o, e', d⟩ := ho p.1 hb
    rw [e] at e'; cases e'
    exact ⟨e, f0, f1, f2, d⟩
theorem Inv.unpinned {pins pl : List (Addr × Obj)} {σ : St} {H : Hp} {s : Shared} (I : Inv X (pins ++ pl) σ H s) : Inv X pins σ H s := I.pins_of fun p hp => I.pin p (List.mem_append_right _ (List.mem_append_left _ hp))
theorem Xm {iter : Expr} {body : List Stmt} {wi : TI} {g : TG} {tb : TS} {pos : Pos} (hp : PassesOwn (model X.prog X.w) X.A X.env X.xe) (hc : X.calm = true) (hi : PI X tg iter wi) (hg : PG X tg g) (hb : PSs X body tb)
    (hs : ∀ x, foldedSetIterable iter X.env x = pure x := by intro _; rfl) : PS X (.For tg iter body [] pos) (Afv wi g tb) := by
  intro pins s σ H D I h
  refine wpAny_For (thn (hi pins s σ H _ I h) fun v s1 h1 => thn h1 fun itv s2 h2 => ?_) hs
  obtain ⟨it, fp, tn, J, H2, e, I2, T, st2, f2, W, ⟨m0, w0⟩, turn⟩ := h2
  subst e
  have stat : ∀ {H' : Hp}, (∀ b ∈ fp, H' b = none) → ∀ b ∈ fp, Kp X pins H' b := fun hn b hb => ⟨hn b hb, (f2 b hb).2⟩
  refine codeAny_forLoop_any (fun n s' => ∃ i σ' H', Inv X pins σ' H' s' ∧ tn i s'.heap ∧ (∀ b ∈ fp, H' b = none) ∧ W i n σ' H') ?_ m0 ⟨0, σ, H2, I2, st2, fun b hb => (f2 b hb).1, w0⟩
  rintro n s3 ⟨i, σ3, H3, I3, st3, fr3, w3⟩
  rcases turn i n σ3 H3 w3 with ⟨stop, qn⟩ | ⟨go, N, hN, step⟩
  · refine wpAny_passesOwn hp (thn (T.done X rfl rfl rfl hc i pins s3 σ3 H3 X.xe I3 (stat fr3) st3 stop) fun r s4 ⟨hr, I4⟩ => ?_)
    subst hr
    exact wpAny_execs_nil ⟨σ3, H3, I4, qn⟩
  · refine wpAny_passesOwn hp (thn (T.item X rfl rfl rfl hc i pins s3 σ3 H3 X.xe I3 (stat fr3) st3 go) fun r s4 ⟨u, hr, h4⟩ => ?_)
    subst hr
    refine wpAny_passesOwn hp (thn h4 fun _ s5 ⟨x, H5, I5, r5, y5, st5, fr5⟩ => ?_)
    have I5' := I5.pinned (stat fr5) (T.obj _ _ st5)
    refine wpAny_passesOwn hp (thn (hg _ s5 σ3 H5 x u _ I5' r5 (step x H5 y5)) fun _ s6 ⟨σ6, H6, I6, q6⟩ => ?_)
    refine wpAny_passesOwn hp (thn (hb _ s6 σ6 H6 _ I6 q6) fun f s7 q7 => ?_)
    have again : ∀ {σ7 : St} {H7 : Hp}, Inv X (pins ++ J1 fp s5.heap) σ7 H7 s7 → N σ7 H7 → ∃ m, m < n ∧ ∃ i σ' H', Inv X pins σ' H' s7 ∧ tn i s7.heap ∧ (∀ b ∈ fp, H' b = none) ∧ W i m σ' H' := fun {σ7 H7} I7 n7 => by
      obtain ⟨m', hm, w7⟩ := hN σ7 H7 n7
      refine ⟨m', hm, i + 1, σ7, H7, I7.unpinned, T.keep _ _ _ st5 fun b hb o e => (I7.pin (b, o) (List.mem_append_right _ (List.mem_append_right _ (Eh hb e)))).1, fun b hb => ?_, w7⟩
      obtain ⟨o, e, d⟩ := T.obj _ _ st5 b hb
      exact (I7.pin (b, o) (List.mem_append_right _ (List.mem_append_right _ (Eh hb e)))).2.1
    cases f with
    | next => obtain ⟨σ7, H7, I7, n7⟩ := q7; exact again I7 n7
    | cont => obtain ⟨σ7, H7, I7, n7⟩ := q7; exact again I7 n7
    | brk => obtain ⟨σ7, H7, I7, q7⟩ := q7; exact ⟨σ7, H7, I7.unpinned, q7⟩
    | ret v => obtain ⟨x7, σ7, H7, I7, r7, q7⟩ := q7; exact ⟨x7, σ7, H7, I7.unpinned, r7, q7⟩
end
noncomputable abbrev R2 := V → V → Hp → VK → Prop
noncomputable def OpR (X : Cx) (f : Value → Value → Sem Value) (r : R2) : Prop :=
  ∀ (pins : List (Addr × Obj)) (s : Shared) (σ : St) (H : Hp) (x y : V) (v u : Value) (Q : VK), Inv X pins σ H s → RelV x v → RelV y u → r x y H Q →
    wpAny (model X.prog X.w) X.A (f v u) (EP X pins σ Q) X.xe s
noncomputable def UnR (X : Cx) (f : Value → Sem Value) (r : V → Hp → VK → Prop) : Prop :=
  ∀ (pins : List (Addr × Obj)) (s : Shared) (σ : St) (H : Hp) (x : V) (v : Value) (Q : VK), Inv X pins σ H s → RelV x v → r x H Q →
    wpAny (model X.prog X.w) X.A (f v) (EP X pins σ Q) X.xe s
noncomputable def Hz (X : Cx) (f : Value) (r : List V → Hp → VK → Prop) : Prop :=
  ∀ (pins : List (Addr × Obj)) (s : Shared) (σ : St) (H : Hp) (xs : List V) (us : List Value) (Q : VK), Inv X pins σ H s → Vals xs us → r xs H Q →
    wpAny (model X.prog X.w) X.A (call f us) (EP X pins σ Q) X.xe s
noncomputable def tOp (r : R2) (ta tb : TE) : TE := fun σ H Q => ta σ H fun x H1 => tb σ H1 fun y H2 => r x y H2 Q
noncomputable def tUn (r : V → Hp → VK → Prop) (ta : TE) : TE := fun σ H Q => ta σ H fun x H1 => r x H1 Q
noncomputable def rI (C : Int → Int → Prop) (g : Int → Int → V) : R2 := fun x y H Q => ∃ i j, x = .int i ∧ y = .int j ∧ C i j ∧ Q (g i j) H
noncomputable def rI0 (g : Int → Int → V) : R2 := fun x y H Q => ∃ i j, x = .int i ∧ y = .int j ∧ Q (g i j) H
noncomputable def rU (g : Int → V) : V → Hp → VK → Prop := fun x H Q => ∃ i, x = .int i ∧ Q (g i) H
section
variable {X : Cx} {a b c : Expr} {ta tb tc : TE} {pos : Pos}
theorem Ach (ha : PE X a ta) (hb : PE X b tb) {pins : List (Addr × Obj)} {s : Shared} {σ : St} {H : Hp} {R : V → V → Hp → Prop} (I : Inv X pins σ H s)
    (h : ta σ H fun x H1 => tb σ H1 fun y H2 => R x y H2) {Q : Value → Shared → Prop} {f : Value → Value → Sem Value}
    (hf : ∀ v u s2 x y H2, Inv X pins σ H2 s2 → RelV x v → RelV y u → R x y H2 → wpAny (model X.prog X.w) X.A (f v u) Q X.xe s2) :
    wpAny (model X.prog X.w) X.A (eval a X.env) (fun v s₁ => wpAny (model X.prog X.w) X.A (eval b X.env) (fun u s₂ => wpAny (model X.prog X.w) X.A (f v u) Q X.xe s₂) X.xe s₁) X.xe s := by
  refine thn (ha pins s σ H _ I h) fun v s1 ⟨x, H1, I1, r1, q1⟩ => ?_
  refine thn (hb pins s1 σ H1 _ I1 q1) fun u s2 ⟨y, H2, I2, r2, q2⟩ => ?_
  exact hf v u s2 x y H2 I2 r1 r2 q2
theorem W6 {op : Operator} {r : R2} (ho : OpR X (binaryOp op) r) (ha : PE X a ta) (hb : PE X b tb) : PE X (.BinOp a op b pos) (tOp r ta tb) := by
  intro pins s σ H Q I h
  exact wpAny_BinOp (Ach ha hb I h fun v u s2 x y H2 I2 rx ry q => ho pins s2 σ H2 x y v u Q I2 rx ry q)
theorem Adv {op : UnaryOp} {r : V → Hp → VK → Prop} (ho : UnR X (unaryOp op) r) (ha : PE X a ta) : PE X (.UnaryOp op a pos) (tUn r ta) := by
  intro pins s σ H Q I h
  exact UnaryOp_ (thn (ha pins s σ H _ I h) fun v s1 ⟨x, H1, I1, r1, q1⟩ => ho pins s1 σ H1 x v Q I1 r1 q1)
theorem opI {f : Value → Value → Sem Value} {C : Int → Int → Prop} {g : Int → Int → Int}
    (rule : ∀ (i j : Int) (t u : Tok) (s : Shared) (Q : Value → Shared → Prop) (E : Value → Shared → Prop), C i j → Q (.int (g i j) s.toks) { s with toks := s.toks + 1 } → wpAny (model X.prog X.w) X.A (f (.int i t) (.int j u)) Q E s) :
    OpR X f (rI C fun i j => .int (g i j)) := by
  intro pins s σ H x y v u Q I rx ry h
  obtain ⟨i, j, rfl, rfl, hc, q⟩ := h
  obtain ⟨t, rfl⟩ := rx
  obtain ⟨t', rfl⟩ := ry
  exact rule i j t t' s _ _ hc ⟨.int (g i j), H, I.tok _, ⟨_, rfl⟩, q⟩
theorem Adx {f : Value → Value → Sem Value} {g : Int → Int → Int}
    (rule : ∀ (i j : Int) (t u : Tok) (s : Shared) (Q : Value → Shared → Prop) (E : Value → Shared → Prop), Q (.int (g i j) s.toks) { s with toks := s.toks + 1 } → wpAny (model X.prog X.w) X.A (f (.int i t) (.int j u)) Q E s) :
    OpR X f (rI0 fun i j => .int (g i j)) := by
  intro pins s σ H x y v u Q I rx ry h
  obtain ⟨i, j, rfl, rfl, q⟩ := h
  obtain ⟨t, rfl⟩ := rx
  obtain ⟨t', rfl⟩ := ry
  exact rule i j t t' s _ _ ⟨.int (g i j), H, I.tok _, ⟨_, rfl⟩, q⟩
theorem YB {f : Value → Value → Sem Value} {g : Int → Int → Bool}
    (rule : ∀ (i j : Int) (t u : Tok) (s : Shared) (Q : Value → Shared → Prop) (E : Value → Shared → Prop), Q (.bool (g i j)) s → wpAny (model X.prog X.w) X.A (f (.int i t) (.int j u)) Q E s) :
    OpR X f (rI0 fun i j => .bl (g i j)) := by
  intro pins s σ H x y v u Q I rx ry h
  obtain ⟨i, j, rfl, rfl, q⟩ := h
  obtain ⟨t, rfl⟩ := rx
  obtain ⟨t', rfl⟩ := ry
  exact rule i j t t' s _ _ ⟨.bl (g i j), H, I, rfl, q⟩
noncomputable def Yy (i j : Int) : Prop := 0 ≤ j ∧ j ≤ 1000000 ∧ i.natAbs < 2 ^ 64
theorem AbZ : OpR X (binaryOp .Add) (rI0 fun i j => .int (i + j)) := Adx fun _ _ _ _ _ _ _ q => add_int q
theorem AbV : OpR X (binaryOp .Sub) (rI0 fun i j => .int (i - j)) := Adx fun _ _ _ _ _ _ _ q => sub_int q
theorem YD : OpR X (binaryOp .Mod) (rI (fun _ j => j ≠ 0) fun i j => .int (i.fmod j)) := opI fun _ _ _ _ _ _ _ hc q => mod_int' hc q
theorem AcF : OpR X (binaryOp .LShift) (rI Yy fun i j => .int (i * 2 ^ j.toNat)) := opI fun _ _ _ _ _ _ _ hc q => lshift_int_small hc.1 hc.2.1 hc.2.2 q
theorem unI {f : Value → Sem Value} {g : Int → Int}
    (rule : ∀ (i : Int) (t : Tok) (s : Shared) (Q : Value → Shared → Prop) (E : Value → Shared → Prop), Q (.int (g i) s.toks) { s with toks := s.toks + 1 } → wpAny (model X.prog X.w) X.A (f (.int i t)) Q E s) :
    UnR X f (rU fun i => .int (g i)) := by
  intro pins s σ H x v Q I rx h
  obtain ⟨i, rfl, q⟩ := h
  obtain ⟨t, rfl⟩ := rx
  exact rule i t s _ _ ⟨.int (g i), H, I.tok _, ⟨_, rfl⟩, q⟩
theorem Abo : UnR X (unaryOp .USub) (rU fun i => .int (-i)) := unI fun _ _ _ _ _ q => neg_int q
end
section
variable {X : Cx} {a b c : Expr} {ta tb tc : TE} {pos : Pos}
theorem V1 : OpR X (compareOp .Lt) (rI0 fun i j => .bl (decide (i < j))) := YB fun _ _ _ _ _ _ _ q => lt_int q
theorem QT : OpR X (compareOp .LtE) (rI0 fun i j => .bl (decide (i ≤ j))) := YB fun _ _ _ _ _ _ _ q => le_int q
theorem AdL : OpR X (compareOp .Gt) (rI0 fun i j => .bl (decide (j < i))) := YB fun _ _ _ _ _ _ _ q => gt_int q
theorem Aaf : OpR X (compareOp .GtE) (rI0 fun i j => .bl (decide (j ≤ i))) := YB fun _ _ _ _ _ _ _ q => ge_int q
theorem Hu (b : Expr) {op : CmpOp} (h : op ≠ .In := by decide) (h2 : op ≠ .NotIn := by decide) : behindInMarks op b = false := by
  have e1 : (op == CmpOp.In) = false := by cases op <;> first | rfl | exact absurd rfl h
  have e2 : (op == CmpOp.NotIn) = false := by cases op <;> first | rfl | exact absurd rfl h2
  cases b <;> simp [behindInMarks, e1, e2]
theorem Te {op : CmpOp} {r : R2} (ho : OpR X (compareOp op) r) (ha : PE X a ta) (hb : PE X b tb) (hm : behindInMarks op b = false) : PE X (.Compare a [op] [b] pos) (tOp r ta tb) := by
  intro pins s σ H Q I h
  exact wpAny_Compare1 (Ach ha hb I h fun v u s2 x y H2 I2 rx ry q => ho pins s2 σ H2 x y v u Q I2 rx ry q) hm
noncomputable def AdA (t : TE) : TT := fun σ H Q => t σ H fun x H' => ∃ k, x = .bl k ∧ Q k H'
theorem Ul {op : CmpOp} {r : R2} (ho : OpR X (compareOp op) r) (ha : PE X a ta) (hb : PE X b tb) (hm : behindInMarks op b = false) : PT X (.Compare a [op] [b] pos) (AdA (tOp r ta tb)) := by
  intro pins s σ H Q I h
  refine wpAny_isTrue_Compare1 (thn (ha pins s σ H _ I h) fun v s1 ⟨x, H1, I1, r1, q1⟩ => thn (hb pins s1 σ H1 _ I1 q1) fun u s2 ⟨y, H2, I2, r2, q2⟩ =>
    thn (ho pins s2 σ H2 x y v u _ I2 r1 r2 q2) fun c s3 ⟨z, H3, I3, r3, k, e, q3⟩ => ?_) hm
  subst e
  cases r3
  exact wpAny_truthy_bool ⟨H3, I3, q3⟩
noncomputable def V8 (r r' : R2) (ta tb tc : TE) : TE := fun σ H Q => ta σ H fun x H1 => tb σ H1 fun y H2 => r x y H2 fun z H3 => ∃ k, z = .bl k ∧
  (if k = true then tc σ H3 fun w' H4 => r' y w' H4 Q else Q (.bl false) H3)
theorem W2 {op op' : CmpOp} {r r' : R2} (ho : OpR X (compareOp op) r) (ho' : OpR X (compareOp op') r') (ha : PE X a ta) (hb : PE X b tb) (hc : PE X c tc)
    (hm : lastMarks [op, op'] [b, c] = false := by with_unfolding_all rfl) : PE X (.Compare a [op, op'] [b, c] pos) (V8 r r' ta tb tc) := by
  intro pins s σ H Q I h
  refine Compare_chain (thn (ha pins s σ H _ I h) fun v s1 ⟨x, H1, I1, r1, q1⟩ => chain_link (thn (hb pins s1 σ H1 _ I1 q1) fun u s2 ⟨y, H2, I2, r2, q2⟩ =>
    thn (ho pins s2 σ H2 x y v u _ I2 r1 r2 q2) fun d s3 ⟨z, H3, I3, r3, k, e, q3⟩ => ?_)) hm
  subst e
  cases r3
  refine wpAny_truthy_bool ?_
  cases k with
  | false => exact ite_ff ⟨.bl false, H3, I3, rfl, q3⟩
  | true => exact ite_tt (chain_last (thn (hc pins s3 σ H3 _ I3 q3) fun w' s4 ⟨z', H4, I4, r4, q4⟩ => ho' pins s4 σ H4 y z' u w' Q I4 r2 r4 q4))
theorem Pj : (sizeLine : Nat) < 2 ^ 63 := by rw [sizeLine_eq]; decide
theorem vals1 {x : V} {us : List Value} (r : Vals [x] us) : ∃ u, us = [u] ∧ RelV x u := by
  cases r with
  | cons r1 r2 => cases r2; exact ⟨_, rfl, r1⟩
theorem vals2 {x y : V} {us : List Value} (r : Vals [x, y] us) : ∃ u w', us = [u, w'] ∧ RelV x u ∧ RelV y w' := by
  cases r with
  | cons r1 r2 =>
    cases r2 with
    | cons r3 r4 => cases r4; exact ⟨_, _, rfl, r1, r3⟩
theorem Xb : Hz X (.builtin "abs") (fun xs H Q => ∃ i, xs = [.int i] ∧ Q (.int (if i < 0 then -i else i)) H) := by
  intro pins s σ H xs us Q I r h
  obtain ⟨i, rfl, q⟩ := h
  obtain ⟨u, rfl, t, rfl⟩ := vals1 r
  exact call_abs_int fun u tk => ⟨.int (if i < 0 then -i else i), H, I.tok _, ⟨_, rfl⟩, q⟩
theorem Vm (hc : X.calm = true) : Hz X (.builtin "max") (fun xs H Q => ∃ i j, xs = [.int i, .int j] ∧ Q (.int (if j > i then j else i)) H) := by
  intro pins s σ H xs us Q I r h
  obtain ⟨i, j, rfl, q⟩ := h
  obtain ⟨u, w', rfl, ⟨t, rfl⟩, ⟨t', rfl⟩⟩ := vals2 r
  refine max_two_ints (I.ok.hd hc) fun h' tk k => ⟨_, H, I.kept k, ?_, q⟩
  by_cases hj : j > i
  · rw [if_pos hj, if_pos hj]; exact ⟨_, rfl⟩
  · rw [if_neg hj, if_neg hj]; exact ⟨_, rfl⟩
theorem Vr : Hz X (.type "int") (fun xs H Q => (∃ i, xs = [.int i] ∧ Q (.int i) H) ∨ ∃ k, xs = [.bl k] ∧ Q (.int (if k then 1 else 0)) H) := by
  intro pins s σ H xs us Q I r h
  rcases h with ⟨i, rfl, q⟩ | ⟨k, rfl, q⟩
  · obtain ⟨u, rfl, t, rfl⟩ := vals1 r
    exact call_int_int ⟨.int i, H, I, ⟨_, rfl⟩, q⟩
  · obtain ⟨u, rfl, r1⟩ := vals1 r
    cases r1
    exact call_int_bool ⟨.int (if k then 1 else 0), H, I.tok _, ⟨_, rfl⟩, q⟩
end
section
variable {prog : Program} {w : World} {A : Around} {E : Value → Shared → Prop} {s : Shared} {K : PySem.W.Frag} {x dx C f : Addr} {mA : Str → Option Value} {name : Str} {v : Value}
end
section
variable {P : Program} {w : World} {H H' : Hp} {h h' : Heap} {a C dx : Addr} {fs fs' : List (Str × V)}
end
structure Cls (K : PySem.W.Frag) (C : Addr) : Prop where
  pg : PySem.W.plainGet K C Str.empty = true
  hd : PySem.W.hasDictIn K C = true
  po : PySem.W.plainOver K C = true
  sa : PySem.W.findIn K (.ref C) "__setattr__" = some (some (.builtin "object.__setattr__"))
section
variable {X : Cx} {pins : List (Addr × Obj)} {σ : St} {H : Hp} {s : Shared} {a C dx : Addr} {fs : List (Str × V)} {f : Str} {v : V} {A : Around} {E : Value → Shared → Prop}
end
section
variable {X : Cx} {o e value : Expr} {f : Str} {pos pos' tpos : Pos} {ta tv : TE}
end
section
variable {X : Cx} {pins : List (Addr × Obj)} {σ : St} {H : Hp} {s : Shared} {A : Around} {E : Value → Shared → Prop} {Q : Value → Shared → Prop} {c : Value} {b : Bool}
end
structure Gf (k : Nat) (A : Around) : Prop where
  hd : A.handled = none
  dp : A.depth + 3 * k + 5 < recursionLimit
  un : A.units + 16 * k + 200 < cLine
theorem Gf.mono {j k : Nat} {A : Around} (r : Gf k A) (h : j ≤ k) : Gf j A := ⟨r.hd, by have := r.dp; omega, by have := r.un; omega⟩
theorem Gf.deeper {k : Nat} {A : Around} (r : Gf (k + 1) A) (env : Env) : Gf k (A.deeper env) :=
  ⟨r.hd, by have := r.dp; show A.depth + 1 + 3 * k + 5 < _; omega, by have := r.un; show A.units + 3 + 16 * k + 200 < _; omega⟩
theorem Gf.depth {k : Nat} {A : Around} (r : Gf k A) : A.depth < recursionLimit := by have := r.dp; omega
theorem Gf.units {k : Nat} {A : Around} (r : Gf k A) : A.units + 64 < cLine := by have := r.un; omega
noncomputable def Ae2 : TA := fun _ H Q => Q [] H
noncomputable def Ac0 (ta : TE) (tr : TA) : TA := fun σ H Q => ta σ H fun x H1 => tr σ H1 fun xs H2 => Q (x :: xs) H2
section
variable {X : Cx} {e : Expr} {es : List Expr} {te : TE} {t : TA} {pos : Pos}
theorem PL : PA X [] Ae2 := fun _ _ _ _ H Q I h => Calls.spliced_nil ⟨[], H, I, .nil, h⟩
theorem Jy (ha : PE X e te) (hr : PA X es t) (hs : starEach (e :: es) X.env = (false, eval e X.env) :: starEach es X.env := by rfl) : PA X (e :: es) (Ac0 te t) := by
  intro pos pins s σ H Q I h
  rw [hs]
  show wpAny _ _ (spliced ((false, eval e X.env) :: backTo pos (starEach es X.env))) _ _ s
  refine Calls.spliced_cons (thn (ha pins s σ H _ I h) fun u s1 ⟨x, H1, I1, r1, q1⟩ => ?_)
  exact thn (hr pos pins s1 σ H1 _ I1 q1) fun us s2 ⟨xs, H2, I2, r2, q2⟩ => ⟨x :: xs, H2, I2, .cons r1 r2, q2⟩
noncomputable def AgL (t : TA) : TE := fun σ H Q => t σ H fun xs H1 => xs.length ≤ sizeLine ∧ ∀ p, H1 p = none → Q (.ref p) (upd H1 p (.tup xs))
noncomputable def Agt (t : TA) : TE := fun σ H Q => t σ H fun xs H1 => xs.length ≤ sizeLine ∧ ∀ p, H1 p = none → Q (.ref p) (upd H1 p (.lst xs))
theorem Aco {x1} (h : PA X es t) : PE X (.Tuple es x1 pos) (AgL t) := by
  intro pins s σ H Q I hq
  refine wpAny_Tuple_spliced (thn (h pos pins s σ H _ I hq) fun us s1 ⟨xs, H1, I1, r, z, q⟩ => ⟨by rw [← r.length]; exact z, ?_⟩)
  have hf : H1 s1.heap.objs.size = none := I1.hok.fresh (Nat.le_refl _)
  refine ⟨.ref s1.heap.objs.size, upd H1 s1.heap.objs.size (.tup xs), I1.laid (t' := s1.toks) (fun b u e => Heap.get?_push_of_some _ e) (Nat.le_refl _) ?_, rfl, q _ hf⟩
  exact ⟨z, us, r, ⟨_, Heap.get?_push_size _ rfl, rfl, _, rfl⟩⟩
theorem Sx (h : PA X es t) : PE X (.List es pos) (Agt t) := by
  intro pins s σ H Q I hq
  refine wpAny_List_spliced (thn (h pos pins s σ H _ I hq) fun us s1 ⟨xs, H1, I1, r, z, q⟩ => ⟨by rw [← r.length]; exact z, ?_⟩)
  have hf : H1 s1.heap.objs.size = none := I1.hok.fresh (Nat.le_refl _)
  refine ⟨.ref s1.heap.objs.size, upd H1 s1.heap.objs.size (.lst xs), I1.laid (t' := s1.toks) (fun b u e => Heap.get?_push_of_some _ e) (Nat.le_refl _) ?_, rfl, q _ hf⟩
  exact ⟨z, us, 0, r, Heap.get?_push_size _ rfl⟩
end
noncomputable abbrev Sp := List V → Hp → VK → XK → Prop
noncomputable abbrev CXT := List Env → Hp → Shared → XK → Value → Shared → Prop
structure Zq (P : Program) (w : World) (K : PySem.W.Frag) (mg : Str → Option Value) (base : Heap) (A : Around) (outer : List Env) (s : Shared) (H : Hp) : Prop where
  frames : A.frames = some outer
  mod : Mod K mg base
  bs : ∀ b o, base.get? b = some o → s.heap.get? b = some o ∧ H b = none
  bsz : base.objs.size ≤ s.heap.objs.size
  funs : s.heap.FunFrames base outer
  frf : ∀ b ∈ frs outer, H b = none
  hok : HOk P w H s.heap
  bare : AllBare s.gens
noncomputable def CE (outer : List Env) (P : Program) (w : World) (H : Hp) (s : Shared) (Q : VK) (u : Value) (s' : Shared) : Prop :=
  ∃ v H', s'.os = s.os ∧ AllBare s'.gens ∧ Un (frs outer) [] H H' s.heap s'.heap ∧ HOk P w H' s'.heap ∧ RelV v u ∧ Q v H'
noncomputable def CR (CX : CXT) (outer : List Env) (P : Program) (w : World) (H : Hp) (s : Shared) (Q : VK) (E : XK) (r : Result) (s' : Shared) : Prop :=
  match r with
  | .ok (.ret u) => CE outer P w H s Q u s'
  | .ok _ => False
  | .error e => CX outer H s E e s'
structure Kc (P : Program) (w : World) (K : PySem.W.Frag) (mg : Str → Option Value) (base : Heap) (CX : CXT) (k : Nat) (f : Addr) (fd : FuncData) (ps : List Str) (sp : Sp) : Prop where
  len : ∀ vs H Q E, sp vs H Q E → vs.length = ps.length
  run : ∀ (A : Around) (outer : List Env) (s : Shared) (H : Hp) (args : Args) (us : List Value) (vs : List V) (Q : VK) (E : XK), Gf k A → Zq P w K mg base A outer s H → BindsTo s fd args (ps.zip us) → Vals vs us → sp vs H Q E →
    codeAny (model P w) A (.call (.ref f) args) (CR CX outer P w H s Q E) s
section
variable {X : Cx} {pins : List (Addr × Obj)} {σ : St} {H : Hp} {s s' : Shared}
theorem Inv.env0 (I : Inv X pins σ H s) : Zq X.prog X.w X.K X.mg X.base X.A X.stack s H :=
  ⟨I.ok.frames, I.ok.mod, I.bs, Nat.le_trans I.ok.bsz I.sz, I.stack, I.stkFree, I.hok, I.bare⟩
theorem Inv.after {Q : VK} {u : Value} (I : Inv X pins σ H s) (h : CE X.stack X.prog X.w H s Q u s') : EP X pins σ Q u s' := by
  obtain ⟨v, H', os, bare, un, hok, r, q⟩ := h
  obtain ⟨hh, g, d, t, os'⟩ := s'
  obtain rfl : os' = s.os := os
  exact ⟨v, H', I.call (h' := hh) (g' := g) (d' := d) (t' := t) (ch := []) un hok bare (fun b z => absurd z (by simp)), r, q⟩
end
noncomputable def AcO (sp : Sp) (dvs : List V) (E : XK) (t : TA) : TE := fun σ H Q => t σ H fun vs H1 => sp (vs ++ dvs) H1 Q E
noncomputable def Binds (K : PySem.W.Frag) (fd : FuncData) (ps : List Str) (ds : List Value) : Prop :=
  ∀ (s : Shared) (us : List Value), K.In s.heap → (us ++ ds).length = ps.length → BindsTo s fd ⟨us, []⟩ (ps.zip (us ++ ds))
theorem Binds.all {K : PySem.W.Frag} {fd : FuncData} {ps : List Str} (h : ∀ us : List Value, us.length = ps.length → bindArgs fd ⟨us, []⟩ = pure (ps.zip us)) : Binds K fd ps [] := fun s us _ hl => by
  rw [List.append_nil] at hl ⊢
  exact .of_eq (h us hl)
noncomputable def Passes (CX : CXT) (X : Cx) (E : XK) : Prop := ∀ (pins : List (Addr × Obj)) (σ : St) (H : Hp) (s : Shared) (e : Value) (s' : Shared), Inv X pins σ H s → CX X.stack H s E e s' → X.xe e s'
section
variable {X : Cx} {CX : CXT} {k : Nat} {f C : Addr} {fd : FuncData} {ps : List Str} {sp : Sp} {dvs : List V} {ds : List Value} {E : XK} {x m : Str} {p pos apos : Pos} {e o : Expr} {es : List Expr} {ta : TE} {t : TA}
theorem Abv {pins : List (Addr × Obj)} {σ : St} {H : Hp} {s : Shared} {Q : VK} {us : List Value} {vs : List V} (F : Kc X.prog X.w X.K X.mg X.base CX k f fd ps sp) (hr : Gf k X.A) (hb : Binds X.K fd ps ds) (hd : Vals dvs ds) (hx : Passes CX X E)
    (I : Inv X pins σ H s) (r : Vals vs us) (h : sp (vs ++ dvs) H Q E) : wpAny (model X.prog X.w) X.A (call (.ref f) us) (EP X pins σ Q) X.xe s := by
  have r2 : Vals (vs ++ dvs) (us ++ ds) := r.append hd
  have hl : (us ++ ds).length = ps.length := by rw [← r2.length]; exact F.len _ _ _ _ h
  refine wpAny_call (codeAny_mono (F.run X.A X.stack s H ⟨us, []⟩ (us ++ ds) (vs ++ dvs) Q E hr I.env0 (hb s us I.kIn hl) r2 h) fun r s' hq => ?_)
  cases r with
  | error e => exact hx pins σ H s e s' I hq
  | ok fl =>
    cases fl with
    | ret u => exact I.after hq
    | next => exact False.elim hq
    | brk => exact False.elim hq
    | cont => exact False.elim hq
theorem Tf (F : Kc X.prog X.w X.K X.mg X.base CX k f fd ps sp) (hr : Gf k X.A) (hg : Gl X x) (hm : X.mg x = some (.ref f)) (hk : PySem.W.keepIn X.K (.ref f) = true) (hb : Binds X.K fd ps ds) (hd : Vals dvs ds) (hx : Passes CX X E)
    (ha : PA X (e :: es) t) (hdb : (x == ("__debug__" : Str)) = false := by decide) (he : starEach (e :: es) X.env = (false, eval e X.env) :: starEach es X.env := by rfl) (hpl : (backTo pos (starEach es X.env)).any (·.1) = false := by rfl) :
    PE X (.Call (.Name x p) (e :: es) [] pos) (AcO sp dvs E t) := by
  intro pins s σ H Q I h
  refine wpAny_Call_Name_kw (Uy I hg hm ?_ hdb)
  refine PySem.W.callWith_K (h₀ := X.base) I.ok.mod.kin hk (thn (ha pos pins s σ H _ I h) fun us s1 ⟨vs, H1, I1, r, q⟩ => ⟨I1.kIn, ?_⟩) he hpl
  exact Abv F hr hb hd hx I1 r q
end
section
variable {X : Cx} {CX : CXT} {k : Nat} {f C : Addr} {fd : FuncData} {ps ks : List Str} {sp : Sp} {E : XK} {x m : Str} {p pos apos kpos : Pos} {e o : Expr} {es : List Expr} {kws : List Keyword} {te ta : TE} {t tk : TA} {nm : Option Str}
variable {g : List Value → List Value → List Value} {gV : List V → List V → List V}
end
structure Al (N P : List Str) (sc : Scope) : Prop where
  kind : sc.kind = .function
  co : sc.isCoroutine = false
  gen : sc.isGenerator = false
  nd : N.Nodup
  pre : N.take P.length = P
  par : ∀ x ∈ P, sc.names.lookup x = some .local ∨ sc.names.lookup x = some .cell
  nofree : ∀ y ∈ sc.names, y.2 ≠ .free
theorem N6 {kindOf : Str → Option NameKind} {x : Str} : ∀ {binds : List (Str × Value)} {m : Str → Option Value}, (∀ v, (x, v) ∉ binds) → bindL kindOf binds m x = m x
  | [], _, _ => rfl
  | (n, v) :: r, m, h => by
    unfold bindL
    rw [N6 fun w hw => h w (List.mem_cons_of_mem _ hw)]
    split
    · have : x ≠ n := by rintro rfl; exact h v List.mem_cons_self
      simp [this]
    · rfl
theorem N8 {kindOf : Str → Option NameKind} {x : Str} : ∀ {binds : List (Str × Value)} {m : Str → Option Value}, (∀ v, (x, v) ∉ binds) → bindC kindOf binds m x = m x
  | [], _, _ => rfl
  | (n, v) :: r, m, h => by
    unfold bindC
    rw [N8 fun w hw => h w (List.mem_cons_of_mem _ hw)]
    split
    · rfl
    · have : x ≠ n := by rintro rfl; exact h v List.mem_cons_self
      simp [this]
theorem Oc {kindOf : Str → Option NameKind} {x : Str} {v : Value} : ∀ {P : List Str} {vs : List Value} {i : Nat} {m : Str → Option Value}, P.Nodup → P[i]? = some x → vs[i]? = some v → kindOf x = some .local →
    bindL kindOf (P.zip vs) m x = some v
  | [], _, _, _, _, h, _, _ => by simp at h
  | _ :: _, [], _, _, _, _, h, _ => by simp at h
  | p :: P, w :: vs, 0, m, nd, h1, h2, hk => by
    simp at h1 h2; subst h1; subst h2
    show bindL kindOf ((p, w) :: P.zip vs) m p = _
    unfold bindL
    rw [N6 fun v hv => (List.nodup_cons.mp nd).1 (List.of_mem_zip hv).1, if_pos hk]
    simp
  | p :: P, w :: vs, i + 1, m, nd, h1, h2, hk => by
    show bindL kindOf ((p, w) :: P.zip vs) m x = _
    unfold bindL
    exact Oc (i := i) (List.nodup_cons.mp nd).2 (by simpa using h1) (by simpa using h2) hk
theorem Ob {kindOf : Str → Option NameKind} {x : Str} {v : Value} : ∀ {P : List Str} {vs : List Value} {i : Nat} {m : Str → Option Value}, P.Nodup → P[i]? = some x → vs[i]? = some v → kindOf x ≠ some .local →
    bindC kindOf (P.zip vs) m x = some v
  | [], _, _, _, _, h, _, _ => by simp at h
  | _ :: _, [], _, _, _, _, h, _ => by simp at h
  | p :: P, w :: vs, 0, m, nd, h1, h2, hk => by
    simp at h1 h2; subst h1; subst h2
    show bindC kindOf ((p, w) :: P.zip vs) m p = _
    unfold bindC
    rw [N8 fun v hv => (List.nodup_cons.mp nd).1 (List.of_mem_zip hv).1, if_neg hk]
    simp
  | p :: P, w :: vs, i + 1, m, nd, h1, h2, hk => by
    show bindC kindOf ((p, w) :: P.zip vs) m x = _
    unfold bindC
    exact Ob (i := i) (List.nodup_cons.mp nd).2 (by simpa using h1) (by simpa using h2) hk
noncomputable def start (N : List Str) (vs : List V) : St := vs.map some ++ List.replicate (N.length - vs.length) none
noncomputable def Ss (CX : CXT) (P : Program) (w : World) (K : PySem.W.Frag) (mg : Str → Option Value) (base : Heap) (N : List Str) (qual : Str) (scope : Scope) (f : Addr) (cd : Value) (A : Around) (outer : List Env) (s : Shared) (H : Hp) (E : XK) : Cx where
  prog := P
  w := w
  K := K
  mg := mg
  base := base
  A := A.deeper (envOfC qual scope s.heap.objs.size f cd)
  N := N
  s₀ := s
  H₀ := H
  env := envOfC qual scope s.heap.objs.size f cd
  outer := outer
  stack := envOfC qual scope s.heap.objs.size f cd :: outer
  ex := []
  calm := true
  fn := fun _ => true
  pn := []
  xe := fun e s' => wpAny (model P w) (A.deeper (envOfC qual scope s.heap.objs.size f cd)) (leaving (envOfC qual scope s.heap.objs.size f cd) e) (fun _ s'' => CX outer H s E e s'') (fun e' s'' => CX outer H s E e' s'') s'
theorem Qo {sc : Scope} {n : Nat} {x : Str} (h : sc.names.lookup x = some .cell) : ∃ c, (cellsFrom n sc.names []).lookup x = some c := by
  have q := PySem.W.cellsFrom_some sc.names n [] (.inl h)
  exact Option.isSome_iff_exists.mp q
theorem U9 {CX : CXT} {P : Program} {w : World} {K : PySem.W.Frag} {mg : Str → Option Value} {base : Heap} {N ps : List Str} {qual : Str} {scope : Scope} {f : Addr} {cd : Value} {A : Around} {outer : List Env} {s s1 : Shared} {H : Hp} {E : XK} {us : List Value} {vs : List V}
    (S : Al N ps scope) (hd : A.handled = none) (e0 : Zq P w K mg base A outer s H) (hl : vs.length = ps.length) (r : Vals vs us)
    (x : InCallC s s.heap.objs.size (bindL (envOfC qual scope s.heap.objs.size f cd).kindOf (ps.zip us) fun _ => none) (cellsFrom (s.heap.objs.size + 1) scope.names []) (bindC (envOfC qual scope s.heap.objs.size f cd).kindOf (ps.zip us) fun _ => none) s1) :
    Inv (Ss CX P w K mg base N qual scope f cd A outer s H E) [] (start N vs) H s1 := by
  have hpl : ps.length ≤ N.length := by have := congrArg List.length S.pre; rw [List.length_take] at this; omega
  obtain ⟨h1, tk, rfl, hk⟩ := x.done
  have noA : ∀ b : Addr, b ∉ (Ss CX P w K mg base N qual scope f cd A outer s H E).ex := fun b z => absurd (show b ∈ ([] : List Addr) from z) (by simp)
  refine ⟨⟨e0.mod, S.kind, rfl, rfl, Nat.le_refl _, fun y z c h1 h2 => ?_, fun y hy => ?_, fun y c _ h => ?_, fun _ => hd, Around.frames_deeper e0.frames, .inr ⟨rfl, rfl⟩, fun b z => absurd z (noA b), e0.bs, e0.bsz, fun b _ _ => noA b, fun b z => absurd z (noA b), e0.funs, e0.frf⟩,
    rfl, e0.bare, Un.kept hk, ⟨_, x.toInCall.ns, fun i y v h1 h2 h3 => ?_⟩, fun y c h => ⟨_, x.cell y c h⟩, e0.hok.fresh (Nat.le_refl _), fun y c h => ?_, fun p hp => absurd (show p ∈ ([] : List (Addr × Obj)) from hp) (by simp), e0.hok.kept hk, ?_⟩
  · exact name_of_addr x.apart (PySem.mem_of_lookup h1) (PySem.mem_of_lookup h2)
  · have hy : scope.names.lookup y = some .cell ∨ scope.names.lookup y = some .free := hy
    rcases hy with hy | hy
    · exact Qo hy
    · exact absurd rfl (S.nofree _ (PySem.mem_of_lookup hy))
  · exact Nat.le_of_lt (x.above y c (PySem.mem_of_lookup h))
  · have hi : i < vs.length := by
      unfold start at h2
      by_cases hi : i < vs.length
      · exact hi
      · rw [List.getElem?_append_right (by simpa using hi)] at h2
        rw [List.getElem?_replicate] at h2
        split at h2 <;> cases h2
    have ha : vs[i]? = some v := by
      unfold start at h2
      rw [List.getElem?_append_left (by simpa using hi), List.getElem?_map] at h2
      cases e : vs[i]? with
      | none => rw [e] at h2; cases h2
      | some a => rw [e] at h2; cases h2; rfl
    obtain ⟨u, hu, rv⟩ := r.get ha
    have hp : ps[i]? = some y := by
      rw [← S.pre, List.getElem?_take_of_lt (by omega)]; exact h1
    have ndP : ps.Nodup := by rw [← S.pre]; exact S.nd.sublist (List.take_sublist _ _)
    refine ⟨u, rv, ?_⟩
    rcases S.par y (List.mem_of_getElem? hp) with k | k
    · exact .inl ⟨k, Oc ndP hp hu k⟩
    · obtain ⟨c, e⟩ := Qo (n := s.heap.objs.size + 1) k
      refine .inr ⟨.inl k, c, e, ?_⟩
      have q := x.cell y c e
      rw [Ob ndP hp hu (by show scope.names.lookup y ≠ _; rw [k]; decide)] at q
      exact q
  · exact e0.hok.fresh (Nat.le_of_lt (x.above y c (PySem.mem_of_lookup h)))
  · unfold start
    show _ = N.length
    rw [List.length_append, List.length_map, List.length_replicate]
    omega
theorem Ad7 {CX : CXT} {P : Program} {w : World} {K : PySem.W.Frag} {mg : Str → Option Value} {base : Heap} {k : Nat} {f : Addr} {name qual : Str} {params : Arguments} {body : List Stmt} {scope : Scope} {dV kV doc pm cdv ct oc : Value} {an od : Option Addr}
    {osl : Array (Option Value)} {N ps : List Str} {sp : Sp} (lk : K.lookup f = some ⟨oc, od, .func (PySem.W.fnOf name qual params body scope dV kV doc pm an cdv ct), osl⟩) (hcd : PySem.W.codeIn K cdv qual = true) (S : Al N ps scope)
    (len : ∀ vs H Q E, sp vs H Q E → vs.length = ps.length)
    (hbody : ∀ (A : Around) (outer : List Env) (s : Shared) (H : Hp) (vs : List V) (Q : VK) (E : XK), Gf k (A.deeper (envOfC qual scope s.heap.objs.size f cdv)) → sp vs H Q E →
      ∃ t, PSs (Ss CX P w K mg base N qual scope f cdv A outer s H E) body t ∧ t { nx := fun _ H' => Q .non H', rt := Q } (start N vs) H) :
    Kc P w K mg base CX (k + 1) f (PySem.W.fnOf name qual params body scope dV kV doc pm an cdv ct) ps sp := by
  refine ⟨len, fun A outer s H args us vs Q E hr e0 hb r hsp => ?_⟩
  have hl := len _ _ _ _ hsp
  have KX : K.In s.heap := e0.mod.kin.keeps fun b o e => (e0.bs b o e).1
  have lim : s.heap.NoLimit := e0.mod.nolimit.keeps fun b o e => (e0.bs b o e).1
  have hkind : ∀ y ∈ ps.zip us, scope.names.lookup y.1 = some .local ∨ (scope.names.lookup y.1 = some .cell ∧ ((cellsFrom (s.heap.objs.size + 1) scope.names []).lookup y.1).isSome = true) := fun ⟨n, v⟩ hy => by
    rcases S.par n (List.of_mem_zip hy).1 with q | q
    · exact .inl q
    · exact .inr ⟨q, PySem.W.cellsFrom_some _ _ _ (.inl q)⟩
  refine codeAny_call_function hr.depth (KX _ _ lk) rfl S.co S.gen rfl (PySem.W.codeRec_of KX hcd) (hb _ _ _ _ ?_)
  refine wpAny_newFunctionEnv_cells S.kind hkind fun env he s1 x => ?_
  subst he
  refine ⟨lim.keeps x.toInCall.keep, codeAny_func ?_⟩
  obtain ⟨t, ht, hq⟩ := hbody A outer s H vs Q E (hr.deeper _) hsp
  have I : Inv (Ss CX P w K mg base N qual scope f cdv A outer s H E) [] (start N vs) H s1 := U9 S hr.hd e0 hl r x
  refine wpAny_mono (ht [] s1 (start N vs) H _ I hq) (fun fl s' hs => ?_) fun e s' hs => hs
  have fin : ∀ {σ' : St} {H' : Hp} {v : V} {u : Value}, Inv (Ss CX P w K mg base N qual scope f cdv A outer s H E) [] σ' H' s' → RelV v u → Q v H' → CE outer P w H s Q u s' :=
    fun {σ' H' v u} J rv q => ⟨v, H', J.os, J.bare, J.base, J.hok, rv, q⟩
  cases fl with
  | ret u =>
    obtain ⟨v, σ', H', J, rv, q⟩ := hs
    exact fin J rv q
  | next =>
    obtain ⟨σ', H', J, q⟩ := hs
    exact fin (v := V.non) (u := Value.none) J rfl q
  | brk =>
    obtain ⟨_, _, _, q⟩ := hs
    exact False.elim q
  | cont =>
    obtain ⟨_, _, _, q⟩ := hs
    exact False.elim q
section
variable {X : Cx} {x : Str} {p pos : Pos} {e : Expr} {es : List Expr} {t : TA} {id T : String} {r : List V → Hp → VK → Prop}
noncomputable def tCB (r : List V → Hp → VK → Prop) (t : TA) : TE := fun σ H Q => t σ H fun vs H1 => r vs H1 Q
theorem PX (hc : Hz X (.builtin id) r) (hg : Gl X x) (hm : X.mg x = none) (hv : bootBuiltins x = some (.builtin id)) (ha : PA X (e :: es) t) (hn : x ≠ "__name__" := by decide) (hdb : (x == ("__debug__" : Str)) = false := by decide)
    (he : starEach (e :: es) X.env = (false, eval e X.env) :: starEach es X.env := by rfl) (hpl : (backTo pos (starEach es X.env)).any (·.1) = false := by rfl) : PE X (.Call (.Name x p) (e :: es) [] pos) (tCB r t) := by
  intro pins s σ H Q I h
  refine wpAny_Call_Name_kw (Oh I hg hm hv ?_ hn hdb)
  exact PyProof.Rows.callWith_builtin1 (thn (ha pos pins s σ H _ I h) fun us s1 ⟨vs, H1, I1, r1, q1⟩ => hc pins s1 σ H1 vs us Q I1 r1 q1) he hpl
theorem Vh (hc : Hz X (.type T) r) (hg : Gl X x) (hm : X.mg x = none) (hv : bootBuiltins x = some (.type T)) (ha : PA X (e :: es) t) (hn : x ≠ "__name__" := by decide) (hdb : (x == ("__debug__" : Str)) = false := by decide)
    (he : starEach (e :: es) X.env = (false, eval e X.env) :: starEach es X.env := by rfl) (hpl : (backTo pos (starEach es X.env)).any (·.1) = false := by rfl) : PE X (.Call (.Name x p) (e :: es) [] pos) (tCB r t) := by
  intro pins s σ H Q I h
  refine wpAny_Call_Name_kw (Oh I hg hm hv ?_ hn hdb)
  exact PyProof.Rows.callWith_type1 (thn (ha pos pins s σ H _ I h) fun us s1 ⟨vs, H1, I1, r1, q1⟩ => hc pins s1 σ H1 vs us Q I1 r1 q1) he hpl
end
end L2
namespace HT
open PySem PyProof.Rows
noncomputable def lexLt : List Int → List Int → Bool
  | [], [] => false
  | [], _ :: _ => true
  | _ :: _, [] => false
  | x :: xs, y :: ys => if x = y then lexLt xs ys else decide (x < y)
theorem Fz (x y : Int) (xs ys : List Int) : lexLt (x :: xs) (y :: ys) = if x = y then lexLt xs ys else decide (x < y) := rfl
theorem Io : lexLt [] [] = false := rfl
theorem Ms (y : Int) (ys : List Int) : lexLt [] (y :: ys) = true := rfl
theorem Le (x : Int) (xs : List Int) : lexLt (x :: xs) [] = false := rfl
theorem Xd (A : Around) (s : Shared) (a : Int) (t : Tok) (c : Int) (u : Tok) : ∃ e, SeqAt.EqAt A s (.int a t) (.int c u) e ∧ (e = true ↔ a = c) :=
  ⟨(a == c), SeqAt.EqAt.int_int a t c u, by simp⟩
theorem W3 (A : Around) (s : Shared) (a : Int) (t : Tok) (c : Int) (u : Tok) (prog : Program) (w : World) (E : Value → Shared → Prop) (Q : Value → Shared → Prop) (h : Q (.bool (decide (a < c))) s) :
    wpAny (model prog w) A (richCompare .Lt (.int a t) (.int c u)) Q E s :=
  (PyProof.Rows.lt_int h : wpAny (model prog w) A (compareOp .Lt (.int a t) (.int c u)) Q E s)
section
open PySem.SeqAt
open PySem.AutoSeq1 (wpAny_loadPart')
open PySem.MeetsSeq PySem.MeetsSeq2 PySem.MeetsSeq3
theorem M5 (l b : Addr) (items items2 : Array Value) (n n2 : Nat) (dd dd2 : Option Addr) (sl sl2 : Array (Option Value)) (ns ms : List Int) (hi : IntsAre items.toList ns) (hj : IntsAre items2.toList ms) :
    Meets (Builtin.«tuple.__lt__» ⟨[.ref l, .ref b], []⟩)
      (fun _ R s => s.heap.get? l = some { cls := .type "tuple", dict := dd, data := .seq items n, slots := sl } ∧ s.heap.get? b = some { cls := .type "tuple", dict := dd2, data := .seq items2 n2, slots := sl2 } ∧
        R (.ok (.ret (.bool (lexLt ns ms)))) s) :=
  .of_wp fun prog w A R s h => by
    obtain ⟨hp, g, d, tk, os⟩ := s; obtain ⟨hl, hb, h⟩ := h
    have f2 := AutoSeq1.sub_tuple_tuple
    have z1 : items.size = ns.length := by rw [← hi.length]; simp
    have z2 : items2.size = ms.length := by rw [← hj.length]; simp
    wp_walk using wpAny_loadPart' hl, wpAny_loadPart' hb, wpAny_forIn_list _ (fun rest b s' => b.1 = none ∧ s' = ⟨hp, g, d, tk, os⟩ ∧ ∃ (vs ws : List Value) (ns' ms' : List Int), rest = vs.zip ws ∧
      IntsAre vs ns' ∧ IntsAre ws ms' ∧ ns'.length + items2.size = ms'.length + items.size ∧ R (.ok (.ret (.bool (lexLt ns' ms')))) ⟨hp, g, d, tk, os⟩) _
    case turn =>
      rintro ⟨y, x⟩ rest b s' ⟨hb', rfl, vs, ws, ns', ms', hz, hvi, hwi, hlen, hR⟩
      cases hvi with
      | nil => rw [List.zip_nil_left] at hz; cases hz
      | cons a t hvi' =>
        cases hwi with
        | nil => rw [List.zip_nil_right] at hz; cases hz
        | cons c u hwi' =>
          rw [List.zip_cons_cons] at hz
          injection hz with hyx hrest
          injection hyx with hy hx
          subst hy hx
          rw [Fz] at hR
          simp only [List.length_cons] at hlen
          obtain ⟨e, he, hiff⟩ := Xd A.in1 ⟨hp, g, d, tk, os⟩ a t c u
          refine wpAny_bind (he prog w _ _ ?_)
          cases e with
          | true =>
            rw [if_pos (hiff.mp rfl)] at hR
            wp_walk
            exact ⟨rfl, rfl, _, _, _, _, hrest, hvi', hwi', by omega, hR⟩
          | false =>
            rw [if_neg (fun q => absurd (hiff.mpr q) Bool.false_ne_true)] at hR
            have hri := W3 A.in1 ⟨hp, g, d, tk, os⟩ a t c u prog w
            wp_walk using hri
            exact ⟨_, rfl, by simpa using hR⟩
    case fin =>
      rintro ⟨b1, b2⟩ s' ⟨hb', rfl, vs, ws, ns', ms', hz, hvi, hwi, hlen, hR⟩
      simp only at hb'
      subst hb'
      have hv : lexLt ns' ms' = decide (items.size < items2.size) := by
        cases hvi with
        | nil =>
          cases hwi with
          | nil =>
            simp only [List.length_nil] at hlen
            rw [Io]
            exact (decide_eq_false (by omega)).symm
          | cons c u hw =>
            simp only [List.length_nil, List.length_cons] at hlen
            rw [Ms]
            exact (decide_eq_true (by omega)).symm
        | cons a t hv =>
          cases hwi with
          | nil =>
            simp only [List.length_nil, List.length_cons] at hlen
            rw [Le]
            exact (decide_eq_false (by omega)).symm
          | cons c u hw =>
            rw [List.zip_cons_cons] at hz
            cases hz
      rw [hv] at hR
      wp_walk
      exact ⟨_, rfl, by simpa [Builtin.Tuple.tupleCompareSizes] using hR⟩
    case h =>
      exact ⟨rfl, rfl, items.toList, items2.toList, ns, ms, rfl, hi, hj, by omega, h⟩
end
section
variable {prog : Program} {w : World} {A : Around} {E : Value → Shared → Prop} {s : Shared}
theorem S8 {l b : Addr} {items items2 : Array Value} {ns ms : List Int} {Q : Value → Shared → Prop} (hl : IsTup s.heap l items) (hb : IsTup s.heap b items2) (hi : IntsAre items.toList ns) (hj : IntsAre items2.toList ms)
    (hu : A.units < cLine) (h : Q (.bool (lexLt ns ms)) s) : wpAny (model prog w) A (compareOp .Lt (.ref l) (.ref b)) Q E s := by
  obtain ⟨⟨cls, dd, data, sl⟩, ho, hc, n, hd⟩ := id hl
  obtain ⟨⟨cls2, dd2, data2, sl2⟩, ho2, hc2, n2, hd2⟩ := id hb
  simp only at hc hd hc2 hd2
  subst hc hd hc2 hd2
  exact richCompare_meets_room (op := .Lt) ⟨_, ho, rfl⟩ ⟨_, ho2, rfl⟩ PySem.F.slot_tuple_lt PySem.F.entry_tuple_lt (PySem.F.args_tuple_lt_2 _ _) (M5 l b items items2 n n2 dd dd2 sl sl2 ns ms hi hj)
    ⟨ho, ho2, show Value.bool (lexLt ns ms) ≠ Value.notImplemented ∧ Q (.bool (lexLt ns ms)) s from ⟨(fun x => nomatch x), h⟩⟩ hu
noncomputable def sIx (n d : Nat) : Option Int → Nat
  | none => d
  | some v => if v < 0 then (v + (n : Int)).toNat else min v.toNat n
theorem Qm (n d : Nat) : sIx n d none = d := rfl
theorem T8 (n d k : Nat) : sIx n d (some (k : Int)) = min k n := by
  show (if (k : Int) < 0 then ((k : Int) + (n : Int)).toNat else min (k : Int).toNat n) = min k n
  rw [if_neg (by omega), Int.toNat_natCast]
end
end HT
namespace L2
open PySem PySem.Spec PyProof.Rows
noncomputable abbrev TO := St → Hp → (Option Int → Hp → Prop) → Prop
noncomputable def PO (X : Cx) (e : Option Expr) (t : TO) : Prop :=
  ∀ (pins : List (Addr × Obj)) (s : Shared) (σ : St) (H : Hp) (Q : Option Int → Hp → Prop), Inv X pins σ H s → t σ H Q →
    wpAny (model X.prog X.w) X.A (evalPart e X.env) (fun u s' => ∃ o H', Inv X pins σ H' s' ∧ IsPart u o ∧ Q o H') X.xe s
noncomputable def Yn : TO := fun _ H Q => Q none H
noncomputable def Adj (t : TE) : TO := fun σ H Q => t σ H fun x H1 => ∃ i, x = .int i ∧ Q (some i) H1
theorem intsAre_of {ns : List Int} : ∀ {us : List Value}, Vals (ns.map V.int) us → IntsAre us ns := by
  induction ns with
  | nil => intro us r; rw [List.map_nil] at r; cases r; exact .nil
  | cons n ns ih =>
    intro us r
    rw [List.map_cons] at r
    cases r with
    | cons r1 r2 =>
      obtain ⟨t, e⟩ := r1
      subst e
      exact .cons n t (ih r2)
section
variable {X : Cx} {e : Expr} {te : TE} {lo hi : Option Expr} {tl th : TO} {pos p2 : Pos}
theorem Zt : PO X none Yn := by
  intro pins s σ H Q I h
  rw [evalPart_none]
  exact wpAny_pure ⟨none, H, I, .none, h⟩
theorem Zr (h : PE X e te) : PO X (some e) (Adj te) := by
  intro pins s σ H Q I hw
  rw [evalPart_some]
  refine thn (h pins s σ H _ I hw) fun u s1 ⟨x, H1, I1, r1, q1⟩ => ?_
  obtain ⟨i, rfl, q⟩ := q1
  obtain ⟨t, rfl⟩ := r1
  exact ⟨some i, H1, I1, .int i t, q⟩
noncomputable def SlR (X : Cx) (r : V → Option Int → Option Int → Hp → VK → Prop) : Prop :=
  ∀ (pins : List (Addr × Obj)) (s : Shared) (σ : St) (H : Hp) (x : V) (v vl vu : Value) (lo hi : Option Int) (sl : Addr) (Q : VK), Inv X pins σ H s → RelV x v → s.heap.IsSliceOf sl vl vu .none → IsPart vl lo → IsPart vu hi → r x lo hi H Q →
    ∃ T id, typeLookup (.type T) "__getitem__" = pure (some (.builtin id)) ∧ s.TypeIs v T ∧ wpAny (model X.prog X.w) X.A (getItem v (.ref sl)) (EP X pins σ Q) X.xe s
noncomputable def tSl (r : V → Option Int → Option Int → Hp → VK → Prop) (te : TE) (tl th : TO) : TE := fun σ H Q => te σ H fun x H1 => tl σ H1 fun l H2 => th σ H2 fun u H3 => r x l u H3 Q
theorem Qq {r : V → Option Int → Option Int → Hp → VK → Prop} (hr : SlR X r) (he : PE X e te) (hl : PO X lo tl) (hu : PO X hi th) : PE X (.Subscript e (.Slice lo hi none p2) pos) (tSl r te tl th) := by
  intro pins s σ H Q I h
  refine Subscript_ (thn (he pins s σ H _ I h) fun v s1 ⟨x, H1, I1, r1, q1⟩ => ?_)
  refine wpAny_Slice (thn (hl pins s1 σ H1 _ I1 q1) fun vl s2 ⟨l, H2, I2, pl, q2⟩ => thn (hu pins s2 σ H2 _ I2 q2) fun vu s3 ⟨u, H3, I3, pu, q3⟩ => ?_)
  rw [evalPart_none]
  refine wpAny_pure ?_
  have I4 : Inv X pins σ H3 { s3 with heap := s3.heap.push { cls := .type "slice", data := .fields #[vl, vu, .none] } } := I3.kept (t' := s3.toks) fun b ob q => Heap.get?_push_of_some _ q
  obtain ⟨T, id, hT, ht, hg⟩ := hr pins { s3 with heap := s3.heap.push { cls := .type "slice", data := .fields #[vl, vu, .none] } } σ H3 x v vl vu l u s3.heap.objs.size Q I4 r1 (Heap.IsSliceOf.new ..) pl pu q3
  show wpAny (model X.prog X.w) X.A (subscriptTail e (.Slice lo hi none p2) v (.ref s3.heap.objs.size)) (EP X pins σ Q) X.xe { s3 with heap := s3.heap.push { cls := .type "slice", data := .fields #[vl, vu, .none] } }
  exact tail_any (ops := [.ref s3.heap.objs.size, v]) ht hT hg (by with_unfolding_all rfl)
noncomputable def Vy (xs : List V) (lo hi : Option Int) : List V := (xs.drop (HT.sIx xs.length 0 lo)).take (HT.sIx xs.length xs.length hi - HT.sIx xs.length 0 lo)
theorem Rj (xs : List V) (lo hi : Option Int) : (Vy xs lo hi).length ≤ xs.length := by
  unfold Vy
  rw [List.length_take, List.length_drop]
  omega
end
noncomputable def ixN (n : Nat) (i : Int) : Option Nat := if 0 ≤ i then (if i < n then some i.toNat else none) else if -(n : Int) ≤ i then some (i + n).toNat else none
noncomputable def atI {α : Type} (xs : List α) (i : Int) : Option α := (ixN xs.length i).bind fun j => xs[j]?
theorem Zx {n : Nat} {i : Int} {j : Nat} (h : ixN n i = some j) : seqIndex? i n = some j ∧ j < n ∧ -(n : Int) ≤ i ∧ i < n := by
  unfold ixN at h
  by_cases h0 : 0 ≤ i
  · rw [if_pos h0] at h
    by_cases h1 : i < n
    · rw [if_pos h1] at h
      have e : i.toNat = j := Option.some.inj h
      exact ⟨by rw [seqIndex_of h0 h1, e], by omega, by omega, h1⟩
    · rw [if_neg h1] at h; cases h
  · rw [if_neg h0] at h
    by_cases h1 : -(n : Int) ≤ i
    · rw [if_pos h1] at h
      have e : (i + n).toNat = j := Option.some.inj h
      exact ⟨by rw [seqIndex_neg (by omega) h1, e], by omega, h1, by omega⟩
    · rw [if_neg h1] at h; cases h
theorem O5 {α : Type} {xs : List α} {i : Int} {v : α} (h : atI xs i = some v) : ∃ j, seqIndex? i xs.length = some j ∧ xs[j]? = some v ∧ j < xs.length ∧ -(xs.length : Int) ≤ i ∧ i < xs.length := by
  unfold atI at h
  cases e : ixN xs.length i with
  | none => rw [e] at h; cases h
  | some j =>
    rw [e] at h
    obtain ⟨h1, h2, h3, h4⟩ := Zx e
    exact ⟨j, h1, h, h2, h3, h4⟩
theorem Y4 {α : Type} {xs : List α} {j : Nat} {v : α} (h : xs[j]? = some v) : atI xs (j : Int) = some v := by
  have hj : j < xs.length := (List.getElem?_eq_some_iff.mp h).1
  have e : ixN xs.length (j : Int) = some j := by
    unfold ixN
    rw [if_pos (by omega), if_pos (by omega)]; simp
  unfold atI; rw [e]; exact h
noncomputable def PK (b : Expr) : Prop := ∀ o i, subscripted b false o i = operate [o, i] (getItem o i)
noncomputable def IxR (X : Cx) (r : R2) : Prop :=
  ∀ (value slice : Expr) (pins : List (Addr × Obj)) (s : Shared) (σ : St) (H : Hp) (x y : V) (v u : Value) (Q : VK), Inv X pins σ H s → RelV x v → RelV y u → r x y H Q →
    subscripted slice false v u = operate [v, u] (getItem v u) → wpAny (model X.prog X.w) X.A (subscriptTail value slice v u) (EP X pins σ Q) X.xe s
noncomputable def MtR (X : Cx) (id : String) (r : V → List V → Hp → VK → Prop) : Prop :=
  ∀ (pins : List (Addr × Obj)) (s : Shared) (σ : St) (H : Hp) (x : V) (xs : List V) (v : Value) (us : List Value) (Q : VK), Inv X pins σ H s → RelV x v → Vals xs us → r x xs H Q →
    wpAny (model X.prog X.w) X.A (call (.builtin id) (v :: us)) (EP X pins σ Q) X.xe s
section
variable {X : Cx} {a b : Expr} {ta tb : TE} {pos : Pos}
theorem IxR.or {r r' : R2} (h : IxR X r) (h' : IxR X r') : IxR X (fun x y H Q => r x y H Q ∨ r' x y H Q) := by
  intro value slice pins s σ H x y v u Q I rx ry q hs
  rcases q with q | q
  · exact h value slice pins s σ H x y v u Q I rx ry q hs
  · exact h' value slice pins s σ H x y v u Q I rx ry q hs
theorem AcS {r : R2} (hr : IxR X r) (ha : PE X a ta) (hb : PE X b tb) (hs : PK b) : PE X (.Subscript a b pos) (tOp r ta tb) := by
  intro pins s σ H Q I h
  exact Subscript_ (Ach ha hb I h fun v u s2 x y H2 I2 rx ry q => hr a b pins s2 σ H2 x y v u Q I2 rx ry q (hs _ _))
noncomputable def AcT (K : PySem.W.Frag) : R2 := fun x y H Q => ∃ p xs i v, x = .ref p ∧ y = .int i ∧ SqL K H p xs ∧ atI xs i = some v ∧ Q v H
noncomputable def AdG (K : PySem.W.Frag) : R2 := fun x y H Q => ∃ p xs i v, x = .ref p ∧ y = .int i ∧ SqT K H p xs ∧ atI xs i = some v ∧ Q v H
noncomputable def AcX : R2 := fun x y H Q => ∃ z i c, x = .str z ∧ y = .int i ∧ z.length ≤ sizeLine ∧ atI z.cps.toList i = some c ∧ Q (.str ⟨#[c]⟩) H
theorem YL : IxR X (AcT X.K) := by
  intro value slice pins s σ H x y v u Q I rx ry h hs
  obtain ⟨p, xs, i, z, rfl, rfl, hq, he, q⟩ := h
  cases rx
  obtain ⟨t, rfl⟩ := ry
  obtain ⟨its, r, pl, hz⟩ := I.list hq
  obtain ⟨j, h1, h2, h3, h4, h5⟩ := O5 he
  obtain ⟨w, ew, rw'⟩ := r.get h2
  have hl := r.length
  have hn := Pj
  have fin : EP X pins σ Q w s := ⟨z, H, I, rw', q⟩
  by_cases h0 : 0 ≤ i
  · have hj : i.toNat = j := by
      rw [seqIndex_of h0 h5] at h1
      exact Option.some.inj h1
    exact item_listR pl.isList h0 (by omega) (by rw [hj]; simpa using ew) fin hs
  · have hj : (i + (its.toArray.size : Int)).toNat = j := by
      rw [seqIndex_neg (by omega) h4] at h1
      rw [List.size_toArray, ← hl]
      exact Option.some.inj h1
    exact subscriptTail_builtinR (x := w) pl.isList.typeIs slot_list_getitem.lookup
      (wpAny_getItem_list_neg (Q := fun r s' => r = w ∧ EP X pins σ Q r s') pl.isList (by omega) (by rw [List.size_toArray] <;> omega) (by omega) (by rw [hj]; simpa using ew) ⟨rfl, fin⟩) hs
theorem AaP : IxR X (AdG X.K) := by
  intro value slice pins s σ H x y v u Q I rx ry h hs
  obtain ⟨p, xs, i, z, rfl, rfl, hq, he, q⟩ := h
  cases rx
  obtain ⟨t, rfl⟩ := ry
  obtain ⟨its, r, pl, hz⟩ := I.tuple hq
  obtain ⟨j, h1, h2, h3, h4, h5⟩ := O5 he
  obtain ⟨w, ew, rw'⟩ := r.get h2
  have hl := r.length
  have hn := Pj
  have fin : EP X pins σ Q w s := ⟨z, H, I, rw', q⟩
  exact subscriptTail_builtinR (x := w) pl.typeIs slot_tuple_getitem.lookup
    (getItem_tuple (j := j) (Q := fun r s' => r = w ∧ EP X pins σ Q r s') pl (by omega) (by omega) (by rw [List.size_toArray, ← hl]; exact h1) (by simpa using ew) ⟨rfl, fin⟩) hs
theorem Acy : IxR X AcX := by
  intro value slice pins s σ H x y v u Q I rx ry h hs
  obtain ⟨z, i, c, rfl, rfl, hz, he, q⟩ := h
  obtain ⟨t, rfl⟩ := rx
  obtain ⟨t', rfl⟩ := ry
  obtain ⟨j, h1, h2, h3, h4, h5⟩ := O5 he
  have hl : z.cps.toList.length = z.length := by simp [Str.length]
  rw [hl] at h1 h4 h5
  have hn := Pj
  exact tail_any (typeIs_str s z t) slot_str_getitem.lookup (getItem_str (c := c) (by
    have e1 : decide (i < -(2 ^ 63 : Int)) = false := decide_eq_false (by omega)
    have e2 : decide (i ≥ 2 ^ 63) = false := decide_eq_false (by omega)
    rw [e1, e2, Bool.or_false]) (by rw [h1]; simpa using h2) ⟨.str ⟨#[c]⟩, H, I.tok _, ⟨_, rfl⟩, q⟩) hs
noncomputable def rIx (K : PySem.W.Frag) : R2 := fun x y H Q => AcT K x y H Q ∨ AdG K x y H Q ∨ AcX x y H Q
theorem AaL : IxR X (rIx X.K) := YL.or (AaP.or Acy)
theorem O9 (lo hi : Option Int) (n : Nat) : (sliceBounds lo hi none n).1 = ((HT.sIx n 0 lo : Nat) : Int) ∧ (sliceBounds lo hi none n).2.1 = ((HT.sIx n n hi : Nat) : Int) ∧ (sliceBounds lo hi none n).2.2 = 1 := by
  refine ⟨?_, ?_, rfl⟩
  · cases lo with
    | none => simp [sliceBounds, HT.sIx]
    | some i =>
      simp only [sliceBounds, HT.sIx, Option.getD_none, show (1 : Int) > 0 by decide, if_true]
      by_cases h : i < 0
      · simp only [h, if_true] <;> omega
      · simp only [h, if_false] <;> omega
  · cases hi with
    | none => simp [sliceBounds, HT.sIx]
    | some i =>
      simp only [sliceBounds, HT.sIx, Option.getD_none, show (1 : Int) > 0 by decide, if_true]
      by_cases h : i < 0
      · simp only [h, if_true] <;> omega
      · simp only [h, if_false] <;> omega
theorem Nf (its : List Value) (lo hi : Option Int) : slicePick its.toArray lo hi none = ((its.drop (HT.sIx its.length 0 lo)).take (HT.sIx its.length its.length hi - HT.sIx its.length 0 lo)).toArray := by
  obtain ⟨h1, h2, h3⟩ := O9 lo hi its.toArray.size
  unfold slicePick
  rw [h1, h2, h3]
  simp only [sliceRange_one, pick_run, List.size_toArray] <;> rfl
noncomputable def AfF (K : PySem.W.Frag) : V → Option Int → Option Int → Hp → VK → Prop := fun x lo hi H Q => ∃ a xs, x = .ref a ∧ SqL K H a xs ∧ ∀ p, H p = none → Q (.ref p) (upd H p (.lst (Vy xs lo hi)))
theorem TF : SlR X (AfF X.K) := by
  intro pins s σ H x v vl vu lo hi sl Q I rx hs pl pu h
  obtain ⟨a, xs, rfl, hx, q⟩ := h
  cases rx
  obtain ⟨its, r, ht, hz⟩ := I.list hx
  have hlen := r.length
  refine ⟨"list", _, slot_list_getitem.lookup, ht.isList.typeIs, ?_⟩
  refine wpAny_getItem_list_slice ht.isList hs pl pu .none (by simp) ?_ (by rw [List.size_toArray] <;> omega)
  rw [Nf, ← hlen]
  refine ⟨.ref s.heap.objs.size, _, I.laid (t' := s.toks) (o := .lst (Vy xs lo hi)) (fun b ob q => Heap.get?_push_of_some _ q) (Nat.le_refl _) ?_, rfl, q _ (I.hok.fresh (Nat.le_refl _))⟩
  exact ⟨Nat.le_trans (Rj xs lo hi) hz, _, 0, (r.drop (HT.sIx xs.length 0 lo)).take (HT.sIx xs.length xs.length hi - HT.sIx xs.length 0 lo), Heap.get?_push_size _ rfl⟩
theorem O3 : Hz X (.builtin "len") (fun xs H Q => ∃ p ys, xs = [.ref p] ∧ (SqL X.K H p ys ∨ SqT X.K H p ys) ∧ Q (.int ys.length) H) := by
  intro pins s σ H xs us Q I r h
  obtain ⟨p, ys, rfl, hq, q⟩ := h
  obtain ⟨u, rfl, rx⟩ := vals1 r
  cases rx
  have hn := Pj
  rcases hq with hq | hq
  · obtain ⟨its, r', pl, hz⟩ := I.list hq
    have hlen := r'.length
    exact Calls.call_len_list pl.isList (by simp only [List.size_toArray] <;> omega) ⟨.int ys.length, H, I.tok _, ⟨s.toks + 1, by rw [List.size_toArray, hlen]⟩, q⟩
  · obtain ⟨its, r', pl, hz⟩ := I.tuple hq
    have hlen := r'.length
    exact len_tuple pl (by simp only [List.size_toArray] <;> omega) ⟨.int ys.length, H, I.tok _, ⟨s.toks + 1, by rw [List.size_toArray, hlen]⟩, q⟩
noncomputable def tyV (K : PySem.W.Frag) (T : String) (x : V) (H : Hp) : Prop := match x with
  | .str _ => T = "str"
  | .int _ => T = "int"
  | .ref p => (T = "list" ∧ ∃ xs, SqL K H p xs) ∨ (T = "tuple" ∧ ∃ o, K.lookup p = some o ∧ o.cls = .type "tuple" ∧ o.dict = none) ∨
      (T = "dict" ∧ ((∃ kvs, H p = some (.dK kvs)) ∨ ∃ kvs, H p = some (.dT kvs))) ∨ (T = "set" ∧ ∃ S n, H p = some (.set S n))
  | _ => False
theorem Xo {pins : List (Addr × Obj)} {σ : St} {H : Hp} {s : Shared} {T : String} {x : V} {v : Value} (I : Inv X pins σ H s) (r : RelV x v) (ty : tyV X.K T x H) :
    s.TypeIs v T ∧ ∀ a, v = .ref a → ∃ ob, s.heap.get? a = some ob ∧ ob.dict = none := by
  cases x with
  | str z =>
    obtain ⟨t, rfl⟩ := r
    cases (show T = "str" from ty)
    exact ⟨typeIs_str s z t, fun _ e => nomatch e⟩
  | int i =>
    obtain ⟨t, rfl⟩ := r
    cases (show T = "int" from ty)
    exact ⟨typeIs_int s i t, fun _ e => nomatch e⟩
  | ref p =>
    cases r
    rcases ty with ⟨rfl, xs, hq⟩ | ⟨rfl, o, hk, hc, hd⟩ | ⟨rfl, hk⟩ | ⟨rfl, S, n, hk⟩
    · obtain ⟨its, _, pl, _⟩ := I.list hq
      refine ⟨pl.isList.typeIs, fun a e => ?_⟩
      cases e
      obtain ⟨o, n, e, c, hd, _⟩ := pl
      exact ⟨o, e, hd⟩
    · refine ⟨⟨o, I.kIn p o hk, hc⟩, fun a e => ?_⟩
      cases e
      exact ⟨o, I.kIn _ o hk, hd⟩
    · have z : ∃ o, s.heap.get? p = some o ∧ o.ExactDict := by
        rcases hk with ⟨kvs, hk⟩ | ⟨kvs, hk⟩
        · obtain ⟨_, _, _, _, o, _, _, e, ex, _⟩ := I.hok p _ hk
          exact ⟨o, e, ex⟩
        · obtain ⟨_, _, _, _, o, _, _, e, ex, _⟩ := I.hok p _ hk
          exact ⟨o, e, ex⟩
      obtain ⟨o, e, ex⟩ := z
      refine ⟨⟨o, e, ex.1⟩, fun a e2 => ?_⟩
      cases e2
      exact ⟨o, e, ex.2.1⟩
    · obtain ⟨o, _, _, _, e, ex, _⟩ := I.hok p _ hk
      refine ⟨⟨o, e, ex.1⟩, fun a e2 => ?_⟩
      cases e2
      exact ⟨o, e, ex.2.1⟩
  | _ => exact False.elim ty
noncomputable def AgJ (K : PySem.W.Frag) (T : String) (r : V → List V → Hp → VK → Prop) (to : TE) : TE := fun σ H Q => to σ H fun x H1 => tyV K T x H1 ∧ r x [] H1 Q
noncomputable def tBM (K : PySem.W.Frag) (T : String) (r : V → List V → Hp → VK → Prop) (to : TE) (t : TA) : TE := fun σ H Q => to σ H fun x H1 => tyV K T x H1 ∧ t σ H1 fun xs H2 => r x xs H2 Q
variable {o e : Expr} {es : List Expr} {to : TE} {t : TA} {name : Str} {apos cpos : Pos} {T id : String} {r : V → List V → Hp → VK → Prop}
theorem Sw (pa : PlainAttrs T) (slot : Slot T name id) (hty : typeOf (.builtin id) = pure (.type "method_descriptor")) (hm : MtR X id r) (ho : PE X o to)
    (hbase : attributeBase o name X.env (eval o X.env) = eval o X.env := by rfl) (hline : (apos.endLine == cpos.line) = true := by rfl) : PE X (.Call (.Attribute o name apos) [] [] cpos) (AgJ X.K T r to) := by
  intro pins s σ H Q I h
  refine wpAny_Call_method0_late hbase hline (thn (ho pins s σ H _ I h) fun v s1 ⟨x, H1, I1, r1, ty, q1⟩ => ?_)
  obtain ⟨h1, h2⟩ := Xo I1 r1 ty
  exact ⟨T, id, pa, slot, hty, h1, h2, Calls.callWith_builtin rfl (PySem.evalArgs_none (hm pins s1 σ H1 x [] v [] Q I1 r1 .nil q1))⟩
theorem AaA (pa : PlainAttrs T) (slot : Slot T name id) (hty : typeOf (.builtin id) = pure (.type "method_descriptor")) (hm : MtR X id r) (ho : PE X o to) (ha : PA X (e :: es) t)
    (hbase : attributeBase o name X.env (eval o X.env) = eval o X.env := by rfl)
    (hfew : ((backTo cpos (starEach (e :: es) X.env)).all (fun x => !x.1) && (backToKw cpos (keywordEach [] X.env)).all (fun x => x.1.isSome)
      && decide ((e :: es).length + ([] : List Keyword).length + (if ([] : List Keyword).isEmpty then 0 else 1) < 30)) = true := by rfl)
    (hline : (apos.endLine == cpos.line) = true := by rfl) (hs : starEach (e :: es) X.env = (false, eval e X.env) :: starEach es X.env := by rfl) (hplain : (backTo cpos (starEach es X.env)).any (·.1) = false := by rfl) :
    PE X (.Call (.Attribute o name apos) (e :: es) [] cpos) (tBM X.K T r to t) := by
  intro pins s σ H Q I h
  refine wpAny_Call_method_late hbase hfew hline rfl (thn (ho pins s σ H _ I h) fun v s1 ⟨x, H1, I1, r1, ty, q1⟩ => ?_)
  obtain ⟨h1, h2⟩ := Xo I1 r1 ty
  refine ⟨T, id, pa, slot, hty, h1, h2, ?_⟩
  have hA := ha cpos pins s1 σ H1 _ I1 q1
  rw [hs] at hA ⊢
  refine Calls.callWith_builtin (by show (false || (backTo cpos (starEach es X.env)).any (·.1)) = false; rw [hplain] <;> rfl) (Calls.evalArgs_plain ?_)
  exact thn hA fun us s2 ⟨vs, H2, I2, r2, q2⟩ => hm pins s2 σ H2 x vs v us Q I2 r1 r2 q2
end
noncomputable def MtM (X : Cx) (id : String) (r : V → List V → Hp → VK → Prop) : Prop :=
  ∀ (pins : List (Addr × Obj)) (s : Shared) (σ : St) (H : Hp) (x : V) (xs : List V) (v : Value) (us : List Value) (Q : VK), Inv X pins σ H s → RelV x v → Vals xs us → r x xs H Q →
    wpAny (model X.prog X.w) X.A (call (.builtin id) (v :: us)) (EP X pins σ Q) X.xe s
theorem Vals.one : ∀ {x : V} {us : List Value}, Vals [x] us → ∃ u, us = [u] ∧ RelV x u
  | _, _, .cons r .nil => ⟨_, rfl, r⟩
theorem Vals.zero : ∀ {us : List Value}, Vals [] us → us = []
  | _, .nil => rfl
theorem Vals.dropLast {xs : List V} {us : List Value} (h : Vals xs us) : Vals xs.dropLast us.dropLast := by
  induction h with
  | nil => exact .nil
  | cons r t ih =>
    cases t with
    | nil => exact .nil
    | cons q t' => exact .cons r ih
theorem Rx {α : Type} (l : List α) : l.eraseIdx (l.length - 1) = l.dropLast := by
  induction l with
  | nil => rfl
  | cons a r ih =>
    cases r with
    | nil => rfl
    | cons b r =>
      have e : (a :: b :: r).length - 1 = ((b :: r).length - 1) + 1 := by
        have h1 : (a :: b :: r).length = r.length + 2 := rfl
        have h2 : (b :: r).length = r.length + 1 := rfl
        omega
      rw [e, List.eraseIdx_cons_succ, ih]
      all_goals rfl
section
variable {X : Cx} {pins : List (Addr × Obj)} {σ : St} {H : Hp} {s : Shared} {l b : Addr} {xs ys zs : List V}
theorem Inv.lset {its its' : List Value} {n : Nat} {f : Array Value → Array Value} {t' : Nat} (I : Inv X pins σ H s) (hH : H l = some (.lst xs))
    (e : s.heap.get? l = some { cls := .type "list", data := .seq its.toArray n }) (hf : f its.toArray = its'.toArray) (hv : Vals ys its') (hz : ys.length ≤ sizeLine) :
    Inv X pins σ (upd H l (.lst ys)) { s with heap := s.heap.update l (Obj.mapSeq f), toks := t' } := by
  have q := PySem.IsL.update e f
  rw [hf] at q
  refine I.write (x := l) (e := l) (by rw [hH]; exact trivial) (.inl rfl) (fun b' u hb hu => (Heap.get?_update_other s.heap (Obj.mapSeq f) (Ne.symm hb)).trans hu) ⟨_, q⟩ ?_
  exact ⟨hz, its', _, hv, q⟩
theorem Inv.lnew {its : List Value} {t' : Nat} (I : Inv X pins σ H s) (hv : Vals ys its) (hz : ys.length ≤ sizeLine) :
    Inv X pins σ (upd H s.heap.objs.size (.lst ys)) { s with heap := s.heap.push { cls := .type "list", data := .seq its.toArray }, toks := t' } :=
  I.laid (fun _ _ q => Heap.get?_push_of_some _ q) (Nat.le_refl _) ⟨hz, its, 0, hv, Heap.get?_push_size _ rfl⟩
theorem Inv.fresh (I : Inv X pins σ H s) : H s.heap.objs.size = none := I.hok.fresh (Nat.le_refl _)
theorem Inv.lstM (I : Inv X pins σ H s) (hH : H l = some (.lst xs)) : xs.length ≤ sizeLine ∧ ∃ (its : List Value) (n : Nat), Vals xs its ∧ xs.length = its.length ∧ s.heap.get? l = some { cls := .type "list", data := .seq its.toArray n } := by
  obtain ⟨z, its, n, r, e⟩ := I.hok l _ hH
  exact ⟨z, its, n, r, r.length, e⟩
theorem Xr {n : Nat} (h : n ≤ sizeLine) : Builtin.List.listTooLong n = false := by
  unfold Builtin.List.listTooLong
  exact decide_eq_false (by omega)
end
section
variable {X : Cx}
noncomputable def YZ : V → List V → Hp → VK → Prop := fun x vs H Q => ∃ l xs y, x = .ref l ∧ vs = [y] ∧ H l = some (.lst xs) ∧ xs.length < sizeLine ∧ Q .non (upd H l (.lst (xs ++ [y])))
theorem JV : MtM X "list.append" YZ := by
  intro pins s σ H x vs v us Q I rx rv h
  obtain ⟨l, xs, y, rfl, rfl, hH, hz, q⟩ := h
  cases rx
  obtain ⟨u, rfl, ru⟩ := rv.one
  obtain ⟨z, its, n, r, hl, e⟩ := I.lstM hH
  refine call_meets F.slot_list_append ⟨_, e, rfl⟩ F.entry_list_append (F.args_list_append_2 _ _) (PySem.list_append l its.toArray n u (by rw [List.size_toArray]; omega)) ⟨e, ?_⟩
  refine ⟨.non, _, I.lset (its' := its ++ [u]) hH e (by simp) (r.append (.cons ru .nil)) ?_, rfl, q⟩
  rw [List.length_append, List.length_singleton]
  omega
noncomputable def Ym : V → List V → Hp → VK → Prop := fun x vs H Q => ∃ l b xs zs, x = .ref l ∧ vs = [.ref b] ∧ H l = some (.lst xs) ∧ H b = some (.lst zs) ∧ xs.length + zs.length ≤ sizeLine ∧ Q .non (upd H l (.lst (xs ++ zs)))
theorem AcK : MtM X "list.extend" Ym := by
  intro pins s σ H x vs v us Q I rx rv h
  obtain ⟨l, b, xs, zs, rfl, rfl, hH, hB, hz, q⟩ := h
  cases rx
  obtain ⟨u, rfl, ru⟩ := rv.one
  cases ru
  obtain ⟨z, its, n, r, hl, e⟩ := I.lstM hH
  obtain ⟨z2, its2, n2, r2, hl2, e2⟩ := I.lstM hB
  have hsz : its.toArray.size + its2.toArray.size ≤ sizeLine := by rw [List.size_toArray, List.size_toArray]; omega
  have hlong : ¬ (!its.toArray.isEmpty && Builtin.List.listTooLong (its.toArray.size + its2.toArray.size)) = true := by
    rw [Xr hsz, Bool.and_false]
    exact Bool.false_ne_true
  refine call_meets F.slot_list_extend ⟨_, e, rfl⟩ F.entry_list_extend (F.args_list_extend_2 _ _)
    (AutoSeq1.list_extend_list_list_0 l its.toArray n b its2.toArray n2 hlong (by rw [List.size_toArray]; omega) (by omega)) ⟨e, e2, ?_⟩
  refine ⟨.non, _, I.lset (its' := its ++ its2) hH e (by simp) (r.append r2) ?_, rfl, q⟩
  rw [List.length_append]
  omega
noncomputable def Afk : V → List V → Hp → VK → Prop := fun x vs H Q => ∃ l xs y, x = .ref l ∧ vs = [] ∧ H l = some (.lst xs) ∧ xs[xs.length - 1]? = some y ∧ Q y (upd H l (.lst xs.dropLast))
theorem AeE : MtM X "list.pop" Afk := by
  intro pins s σ H x vs v us Q I rx rv h
  obtain ⟨l, xs, y, rfl, rfl, hH, hy, q⟩ := h
  cases rx
  have hus := rv.zero
  subst hus
  obtain ⟨z, its, n, r, hl, e⟩ := I.lstM hH
  obtain ⟨u, hu, ru⟩ := r.get hy
  have hy' : its.toArray[its.toArray.size - 1]? = some u := by
    show its.toArray[its.length - 1]? = some u
    rw [← Array.getElem?_toList, ← hl]
    exact hu
  refine call_meets F.slot_list_pop ⟨_, e, rfl⟩ F.entry_list_pop (F.args_list_pop_1 _) (MeetsSeq.list_pop_last l its.toArray n u hy' (by rw [List.size_toArray]; omega)) ⟨e, ?_⟩
  refine ⟨y, _, I.lset (its' := its.dropLast) hH e ?_ r.dropLast ?_, ru, q⟩
  · show its.toArray.eraseIdxIfInBounds (its.toArray.size - 1) = its.dropLast.toArray
    rw [List.size_toArray, List.eraseIdxIfInBounds_toArray, Rx]
  · rw [List.length_dropLast]
    omega
noncomputable def Ab0 : V → List V → Hp → VK → Prop := fun x vs H Q => ∃ l xs, x = .ref l ∧ vs = [] ∧ H l = some (.lst xs) ∧ Q .non (upd H l (.lst []))
theorem WQ : MtM X "list.clear" Ab0 := by
  intro pins s σ H x vs v us Q I rx rv h
  obtain ⟨l, xs, rfl, rfl, hH, q⟩ := h
  cases rx
  have hus := rv.zero
  subst hus
  obtain ⟨z, its, n, r, hl, e⟩ := I.lstM hH
  refine call_meets F.slot_list_clear ⟨_, e, rfl⟩ F.entry_list_clear (F.args_list_clear_1 _) (AutoSeq1.list_clear_list_0 l its.toArray n (by rw [List.size_toArray]; omega)) ⟨e, ?_⟩
  exact ⟨.non, _, I.lset (its' := []) (ys := []) hH e rfl .nil (Nat.zero_le _), rfl, q⟩
noncomputable def AgN : R2 := fun x y H Q => ∃ l b xs zs, x = .ref l ∧ y = .ref b ∧ H l = some (.lst xs) ∧ H b = some (.lst zs) ∧ xs.length + zs.length ≤ sizeLine ∧ ∀ p, H p = none → Q (.ref p) (upd H p (.lst (xs ++ zs)))
theorem AbH : OpR X (binaryOp .Add) AgN := by
  intro pins s σ H x y v u Q I rx ry h
  obtain ⟨l, b, xs, zs, rfl, rfl, hH, hB, hz, q⟩ := h
  cases rx
  cases ry
  obtain ⟨z, its, n, r, hl, e⟩ := I.lstM hH
  obtain ⟨z2, its2, n2, r2, hl2, e2⟩ := I.lstM hB
  refine PySem.P.add_list e e2 ?_ (by rw [List.size_toArray, List.size_toArray]; omega)
  have ea : its.toArray ++ its2.toArray = (its ++ its2).toArray := by simp
  rw [ea]
  exact ⟨.ref _, _, I.lnew (t' := s.toks) (r.append r2) (by rw [List.length_append]; omega), rfl, q _ I.fresh⟩
end
section
variable {prog : Program} {w : World} {A : Around} {E : Value → Shared → Prop} {s : Shared}
end
section
variable {X : Cx}
end
end L2
namespace Att
open PySem PySem.W PySem.Calls PyProof.Rows
theorem Ke {P : Params} {h : Heap} : ∀ (ns : List Int) (vs : List Value), WellAll P h vs (ns.map WData.int) → IntsAre vs ns := by
  intro ns
  induction ns with
  | nil =>
    intro vs w
    rw [List.map_nil] at w
    cases w
    exact .nil
  | cons n ns ih =>
    intro vs w
    rw [List.map_cons] at w
    cases w with
    | cons a b =>
      cases a
      exact .cons _ _ (ih _ b)
theorem VG {l : OpenLaw} {n : Nat} (hn : l.most = some n) {P : Params} {h : Heap} {args : List WData} {vals : List Value}
    (hpre : l.row.toRowW.claim.pre args = true) (hwl : WellAll P h vals args) :
    ∃ a vs ns, vals = [Value.ref a] ∧ args = [WData.list (ns.map WData.int)] ∧ h.get? a = some { cls := .type "list", data := .seq vs.toArray } ∧ IntsAre vs ns ∧ ns.length ≤ n := by
  have hsh : WShape.hasAll [] args [.list .int] = true := (pre_splitW hpre).1
  have hc : l.pre.holds [] { args := args } = true := (pre_splitW hpre).2
  obtain ⟨d, r, rfl, h1, h2⟩ := hasAllW_cons hsh
  obtain rfl := hasAllW_nil h2
  obtain ⟨xs, rfl, h3⟩ := hasW_list h1
  obtain ⟨ns, rfl⟩ := items_int h3
  have hlen : ns.length ≤ n := by
    unfold OpenLaw.pre at hc
    have h4 : (WTm.not (.lt (.lit (.int (n : Int))) (.len (.arg 0)))).holds [] { args := [.list (ns.map .int)] } = true := by
      have h4 := (holds_andW hc).1
      rw [hn] at h4
      exact h4
    have h5 := condW_of h4 (w_not (w_lt w_lit (w_len_list (w_arg rfl))))
    rw [List.length_map] at h5
    refine Nat.le_of_not_lt fun q => ?_
    have q' : (n : Int) < ((ns.length : Nat) : Int) := by omega
    first
      | (rw [decide_eq_true q'] at h5; exact absurd h5 (by decide))
      | (simp at h5; omega)
  cases hwl with
  | cons w1 w2 =>
    cases w2
    cases w1 with
    | list ho hall => exact ⟨_, _, ns, rfl, rfl, ho, Ke ns _ hall, hlen⟩
theorem Vo (l : OpenLaw) (args : List WData) : l.row.toRowW.claim.post args (.bool true) args = true :=
  postW_of (r := l.row.toRowW) (X := (true == true))
    (show WShape.has [] (.bool true) .bool = true by first | rfl | decide | simp [WShape.has, WShape.arms, WShape.armsAll])
    (show (WTm.eq .res (.lit (.bool true))).value [] { args := args, res := some (.bool true), after := args } = some (.bool (true == true)) from w_eq_bool (w_res rfl) w_lit) rfl
theorem Qd {l : OpenLaw} {n : Nat} {q : Program} {loose : List Str} {XP : (Str → Option Value) → Heap → Prop} {YP : World → Heap → Prop} {d : DefRec}
    (hn : l.most = some n) (hdf : d.params.defaults = [])
    (call : ∀ (w : World) (s₀ s₁ : Shared) (mg mb : Str → Option Value) (fa : Addr) (o : Obj) (pm cd doc : Value) (a : Addr) (vs : List Value) (ns : List Int),
      Ground q loose [] XP w s₀ mg mb s₁.heap → YP w s₁.heap →
      s₁.heap.get? fa = some o → o.data = .func (docDef d.name d.params d.body d.scope pm cd doc) → s₁.heap.CodeRec cd d.name → mg d.name = some (.ref fa) →
      s₁.heap.get? a = some { cls := .type "list", data := .seq vs.toArray } → IntsAre vs ns → ns.length ≤ n → s₁.gens = #[] →
      codeAny (model l.prog w) callerA (.call (.ref fa) ⟨[.ref a], []⟩) (fun r s' => r = .ok (.ret (.bool true)) ∧ OldK s₁.heap s'.heap ∧ s'.os = s₁.os ∧ AllBare s'.gens) s₁) :
    WalkO q loose XP YP l.row.toRowW d [] (fun f vs => PySem.call f vs) := by
  intro w s₀ s₁ mg mb G Y fa o pm cd doc dV kV ho hd hcd hD hmg hg args vals as hpre hlay hrd hwl hlo
  obtain rfl : dV = .none := Dflts.none hD hdf
  obtain rfl : kV = .none := Dflts.noKw hD
  obtain ⟨a, vs, ns, rfl, rfl, hobj, hints, hlen⟩ := VG hn hpre hwl
  refine enter_call (codeAny_mono (call w s₀ s₁ mg mb fa o pm cd doc a vs ns G Y ho (fd_plain hd) hcd hmg hobj hints hlen hg) fun r s' hq => ?_)
  obtain ⟨rfl, h2, h3, h4⟩ := hq
  exact ⟨.inl ⟨.bool true, .bool true, [], rfl, fun _ => rfl, .bool true, Vo l _, fun _ => ⟨List.Pairwise.nil, fun _ hm => (nomatch hm)⟩⟩, h2, h3, h4⟩
section
variable {prog : Program} {w : World} {A : Around} {E : Value → Shared → Prop} {s : Shared} {K : Frag}
noncomputable def ledger (h : Heap) (L d : Addr) : List (Addr × Obj) := (List.range h.objs.size).filterMap fun a => if a = L ∨ a = d then none else (h.get? a).map fun o => (a, o)
end
end Att
namespace L2
open PySem PySem.Spec PyProof.Rows
theorem Nm : ∀ {vs : List Value} {ns : List Int}, IntsAre vs ns → Vals (ns.map V.int) vs
  | _, _, .nil => .nil
  | _, _, .cons n t h => .cons ⟨t, rfl⟩ (Nm h)
noncomputable def Only (H : Hp) : Prop := ∀ b, H b = none ∨ ∃ o xs, H b = some (.frz o (.lst xs))
theorem Wx {P : Program} {w : World} {K : PySem.W.Frag} {mg mb : Str → Option Value} {CX : CXT} {k : Nat} {fa a : Addr} {fd : FuncData} {x : Str} {sp : Sp} {s₁ : Shared} {vs : List Value} {ns : List Int}
    (KX : K.In s₁.heap) (hns : s₁.heap.Ns mainGlobals mg) (hb : s₁.heap.Ns builtinsNs mb) (hbb : ∀ x : Str, x ≠ "__name__" → mb x = bootBuiltins x) (hlim : s₁.heap.NoLimit) (hg : s₁.gens = #[])
    (ha : s₁.heap.get? a = some { cls := .type "list", data := .seq vs.toArray }) (hi : IntsAre vs ns) (hl : ns.length ≤ sizeLine) (hr : Gf k callerA)
    (F : ∀ base : Heap, K.In base → base.Ns mainGlobals mg → Kc P w K mg base CX k fa fd [x] sp) (hbind : ∀ (s : Shared) (u : Value), BindsTo s fd ⟨[u], []⟩ [(x, u)])
    (hsp : ∀ H : Hp, Only H → SqL K H a (ns.map V.int) → sp [.ref a] H (fun v _ => v = .bl true) fun _ _ _ => False)
    (hCX : ∀ H e s', CX [] H s₁ (fun _ _ _ => False) e s' → False) :
    codeAny (model P w) callerA (.call (.ref fa) ⟨[.ref a], []⟩) (fun r s' => r = .ok (.ret (.bool true)) ∧ OldK s₁.heap s'.heap ∧ s'.os = s₁.os ∧ AllBare s'.gens) s₁ := by
  have rv := Nm hi
  have lenV := hi.length
  have core : ∀ H : Hp, Only H → SqL K H a (ns.map V.int) → HOk P w H s₁.heap → (∀ b, H b ≠ none → b = a) → (H a ≠ none → K.lookup a = none) →
      codeAny (model P w) callerA (.call (.ref fa) ⟨[.ref a], []⟩) (fun r s' => r = .ok (.ret (.bool true)) ∧ OldK s₁.heap s'.heap ∧ s'.os = s₁.os ∧ AllBare s'.gens) s₁ := by
    intro H hO hS hok hA hK
    have base_of : ∀ {b : Addr} {o : Obj}, s₁.heap.get? b = some o → H b = none → (Pg s₁.heap H).get? b = some o := fun e n => Yc e n
    have noA : ∀ {b : Addr} {o : Obj} {es : Array DictEntry} {ep : Nat}, s₁.heap.get? b = some o → o.data = .dict es ep → H b = none := fun {b o es ep} e d => by
      cases q : H b with
      | none => rfl
      | some u =>
        have e' : b = a := hA b (by rw [q]; simp)
        subst e'
        rw [ha] at e; cases e
        have d' : Data.seq vs.toArray _ = Data.dict es ep := d
        cases d'
    have nsK : ∀ {b : Addr} {m : Str → Option Value}, s₁.heap.Ns b m → (Pg s₁.heap H).Ns b m := fun {b m} ⟨o, es, ep, e, d, r⟩ => ⟨o, es, ep, base_of e (noA e d), d, r⟩
    have hKb : K.In (Pg s₁.heap H) := fun b o e => base_of (KX b o e) (by
      cases q : H b with
      | none => rfl
      | some u =>
        have e' : b = a := hA b (by rw [q]; simp)
        subst e'
        rw [hK (by rw [q]; simp)] at e; cases e)
    have hM : Mod K mg (Pg s₁.heap H) := ⟨hKb, nsK hns, ⟨mb, nsK hb, hbb⟩, let ⟨mc, h1, h2⟩ := hlim; ⟨mc, nsK h1, h2⟩⟩
    have e0 : Zq P w K mg (Pg s₁.heap H) callerA [] s₁ H := ⟨rfl, hM, fun b o e => YK e, Nat.le_of_eq (Vb _ _), trivial, fun b hb => absurd (show b ∈ ([] : List Addr) from hb) (by simp), hok, .of_eq hg⟩
    refine codeAny_mono ((F _ hKb (nsK hns)).run callerA [] s₁ H ⟨[.ref a], []⟩ [.ref a] [.ref a] _ _ hr e0 (hbind s₁ (.ref a)) (.cons rfl .nil) (hsp H hO hS)) fun r s' h => ?_
    cases r with
    | error e => exact (hCX H e s' h).elim
    | ok fl =>
      cases fl with
      | next => exact False.elim h
      | brk => exact False.elim h
      | cont => exact False.elim h
      | ret u =>
        obtain ⟨v, H', os, bare, un, hok', r', q⟩ := h
        have q' : v = .bl true := q
        subst q'
        obtain rfl : u = Value.bool true := r'
        refine ⟨rfl, OldK.of_keep fun b o e => ?_, os, bare⟩
        cases q : H b with
        | none => exact un.keep b o e q (by intro z; exact absurd (show b ∈ ([] : List Addr) from z) (by simp)) (by simp)
        | some u =>
          rcases hO b with z | ⟨ob, xs, z⟩
          · rw [q] at z; cases z
          · have z2 := un.frzs b ob _ z
            obtain ⟨e1, _⟩ := hok b _ z
            obtain ⟨e2, _⟩ := hok' b _ z2
            rw [e] at e1; cases e1
            exact e2
  cases hk : K.lookup a with
  | some o =>
    have e := KX a o hk
    rw [ha] at e
    cases e
    refine core (fun _ => none) (fun _ => .inl rfl) (.inr ⟨_, vs.toArray, _, hk, rfl, rfl, rfl, by rw [List.size_toArray, lenV]; exact hl, by simpa using rv⟩) (fun b u z => by have z' : (none : Option HO) = some u := z; cases z') (fun b z => absurd rfl z) fun z => absurd rfl z
  | none =>
    refine core (fun b => if b = a then some (.frz { cls := .type "list", data := .seq vs.toArray } (.lst (ns.map V.int))) else none) (fun b => ?_) (.inl (.inr ⟨{ cls := .type "list", data := .seq vs.toArray }, if_pos rfl⟩)) (fun b u z => ?_) (fun b z => ?_) fun _ => hk
    · by_cases hb : b = a
      · exact .inr ⟨_, _, if_pos hb⟩
      · exact .inl (if_neg hb)
    · by_cases hb : b = a
      · have z' := (if_pos hb).symm.trans z
        cases z'
        subst hb
        exact ⟨ha, by rw [List.length_map]; exact hl, vs, _, rv, ha⟩
      · have z' := (if_neg hb).symm.trans z
        cases z'
    · by_cases hb : b = a
      · exact hb
      · exact absurd (if_neg hb) z
noncomputable abbrev KOf {K : PySem.W.Frag} {h : Heap} (_ : K.In h) : PySem.W.Frag := K
theorem Yr {l : PySem.W.OpenLaw} {n k : Nat} {q : Program} {loose : List Str} {XP : (Str → Option Value) → Heap → Prop} {YP : World → Heap → Prop} {d : DefRec} {K : Params → PySem.W.Frag} {CX : World → CXT} {sp : World → Sp} {x : Str}
    (hn : l.most = some n) (hn2 : n ≤ sizeLine) (hdf : d.params.defaults = []) (hr : Gf k callerA)
    (hY : ∀ (w : World) (h : Heap), YP w h → (K w.params).In h)
    (F : ∀ (w : World) (mg : Str → Option Value) (fa : Addr) (h : Heap), (K w.params).In h → h.Ns mainGlobals mg → mg d.name = some (.ref fa) →
      ∃ fd : FuncData, (∀ (s : Shared) (u : Value), BindsTo s fd ⟨[u], []⟩ [(x, u)]) ∧
        ∀ base : Heap, (K w.params).In base → base.Ns mainGlobals mg → Kc l.prog w (K w.params) mg base (CX w) k fa fd [x] (sp w))
    (hsp : ∀ (w : World) (H : Hp) (a : Addr) (ns : List Int), ns.length ≤ n → Only H → SqL (K w.params) H a (ns.map V.int) → sp w [.ref a] H (fun v _ => v = .bl true) fun _ _ _ => False)
    (hCX : ∀ (w : World) (H : Hp) (s : Shared) (e : Value) (s' : Shared), CX w [] H s (fun _ _ _ => False) e s' → False) :
    PySem.W.WalkO q loose XP YP l.row.toRowW d [] (fun f vs => PySem.call f vs) := by
  refine Att.Qd hn hdf fun w s₀ s₁ mg mb fa o pm cd doc a vs ns G Y ho hd hcd hmg hobj hints hlen hg => ?_
  have KX := hY w _ Y
  obtain ⟨fd, hb, hF⟩ := F w mg fa _ KX G.T.g hmg
  exact Wx KX G.T.g G.T.b G.T.builtins G.T.nolimit hg hobj hints (Nat.le_trans hlen hn2) hr hF hb (fun H hO hS => hsp w H a ns hlen hO hS) fun H e s' => hCX w H s₁ e s'
noncomputable def Fe (s : Stmt) : Arguments := match s with
  | .FunctionDef _ a _ _ _ _ _ _ _ _ => a
  | _ => { posonlyargs := [], args := [], vararg := none, kwonlyargs := [], kw_defaults := [], kwarg := none, defaults := [] }
noncomputable def DR (s : Stmt) : List Stmt := match s with
  | .FunctionDef _ _ b _ _ _ _ _ _ _ => b
  | _ => []
noncomputable def Ai (s : Stmt) : Scope := match s with
  | .FunctionDef _ _ _ _ _ _ sc _ _ _ => sc
  | _ => { kind := .function, names := [], isGenerator := false, isCoroutine := false }
noncomputable abbrev CX0 : CXT := fun _ _ _ _ _ _ => False
noncomputable abbrev E0 : XK := fun _ _ _ => False
theorem Aad {X : Cx} : Passes CX0 X E0 := fun _ _ _ _ _ _ _ h => h.elim
structure Fun (K : PySem.W.Frag) (x qual : Str) (st : Stmt) (f : Addr) (fd : FuncData) : Prop where
  ex : ∃ (oc : Value) (od : Option Addr) (kV doc pm : Value) (an : Option Addr) (cdv ct : Value) (osl : Array (Option Value)),
    fd = PySem.W.fnOf x qual (Fe st) (DR st) (Ai st) .none kV doc pm an cdv ct ∧ K.lookup f = some ⟨oc, od, .func fd, osl⟩ ∧ PySem.W.codeIn K cdv qual = true
  kp : PySem.W.keepIn K (.ref f) = true
section
variable {P : Program} {w : World} {K : PySem.W.Frag} {mg : Str → Option Value} {base : Heap}
theorem Fun.ok {x qual : Str} {st : Stmt} {f : Addr} {fd : FuncData} {N ps : List Str} {k : Nat} {sp : Sp} (F : Fun K x qual st f fd) (S : Al N ps (Ai st)) (len : ∀ vs H Q E, sp vs H Q E → vs.length = ps.length)
    (hbody : ∀ (cdv : Value) (A : Around) (outer : List Env) (s : Shared) (H : Hp) (vs : List V) (Q : VK) (E : XK), Gf k (A.deeper (envOfC qual (Ai st) s.heap.objs.size f cdv)) → sp vs H Q E →
      ∃ t, PSs (Ss CX0 P w K mg base N qual (Ai st) f cdv A outer s H E).nox (DR st) t ∧ t { nx := fun _ H' => Q .non H', rt := Q } (start N vs) H) : Kc P w K mg base CX0 (k + 1) f fd ps sp := by
  obtain ⟨oc, od, kV, doc, pm, an, cdv, ct, osl, rfl, lk, hcd⟩ := F.ex
  refine Ad7 lk hcd S len fun A outer s H vs Q E hr hsp => ?_
  obtain ⟨t, h, q⟩ := hbody cdv A outer s H vs Q E hr hsp
  exact ⟨t, h.nox, q⟩
theorem Fun.binds {x qual : Str} {st : Stmt} {f : Addr} {fd : FuncData} {ps : List Str} (F : Fun K x qual st f fd)
    (h : ∀ (kV doc pm : Value) (an : Option Addr) (cdv ct : Value) (us : List Value), us.length = ps.length → bindArgs (PySem.W.fnOf x qual (Fe st) (DR st) (Ai st) .none kV doc pm an cdv ct) ⟨us, []⟩ = pure (ps.zip us)) : Binds K fd ps [] := by
  obtain ⟨oc, od, kV, doc, pm, an, cdv, ct, osl, rfl, lk, hcd⟩ := F.ex
  exact .all (h kV doc pm an cdv ct)
theorem Wf {x qual : Str} {st : Stmt} {f : Addr} {oc : Value} {od an : Option Addr} {osl : Array (Option Value)} {kV doc pm cdv ct : Value} (l : K.lookup f = some ⟨oc, od, .func (PySem.W.fnOf x qual (Fe st) (DR st) (Ai st) .none kV doc pm an cdv ct), osl⟩)
    (c : PySem.W.codeIn K cdv qual = true) (k : PySem.W.keepIn K (.ref f) = true) : Fun K x qual st f (PySem.W.fnOf x qual (Fe st) (DR st) (Ai st) .none kV doc pm an cdv ct) := ⟨⟨oc, od, kV, doc, pm, an, cdv, ct, osl, rfl, l, c⟩, k⟩
end
theorem U6 {n : Nat} (h : n ≤ 1000) : n < sizeLine := Nat.lt_of_le_of_lt h (by decide)
section
variable {X : Cx}
end
theorem Qu {c A B : Prop} [Decidable c] (h1 : c → A) (h2 : ¬ c → B) : if c then A else B := by
  by_cases h : c
  · rw [if_pos h]
    exact h1 h
  · rw [if_neg h]
    exact h2 h
noncomputable def Same (H H' : Hp) : Prop := ∀ b o, H b = some o → H' b = some o
theorem Same.refl (H : Hp) : Same H H := fun _ _ h => h
theorem Same.trans {H H1 H2 : Hp} (a : Same H H1) (b : Same H1 H2) : Same H H2 := fun c o h => b c o (a c o h)
theorem Same.seq {K : PySem.W.Frag} {H H' : Hp} {a : Addr} {xs : List V} (e : Same H H') (h : SqL K H a xs) : SqL K H' a xs := by
  rcases h with (h | ⟨o, h⟩) | h
  · exact .inl (.inl (e _ _ h))
  · exact .inl (.inr ⟨o, e _ _ h⟩)
  · exact .inr h
noncomputable def exO (a C dx : Addr) (h : Heap) : Prop := ∃ o vs, h.get? a = some o ∧ o.cls = .ref C ∧ o.dict = (if dx = a then none else some dx) ∧ o.data = .fields vs
section
variable {M : Model} {A : Around} {E : Value → Shared → Prop} {s : Shared} {base : Heap} {env : Env} {outer : List Env} {L e : Addr}
end
section
variable {P : Program} {w : World} {H : Hp} {h h' : Heap} {fs : List Addr} {e : Addr} {oe : Obj} {vs : Array Value} {old : Option Addr} {φ : Heap → Prop}
end
section
variable {X : Cx} {pins : List (Addr × Obj)} {σ : St} {H : Hp} {s : Shared} {a : Addr} {E : Value → Shared → Prop} {Q : Unit → Shared → Prop}
end
section
variable {X : Cx} {k : Nat} {f : Addr} {fd : FuncData} {ps : List Str} {sp : Sp} {x : Str} {p pos : Pos} {e : Expr} {es : List Expr} {t : TA}
end
noncomputable abbrev bmV : List Value := [.type "ValueError", .type "Exception", .type "BaseException", .type "object"]
noncomputable def Afm (es : Array DictEntry) : Bool := es.toList.all fun e => match e.key with | .str _ _ => true | _ => false
structure XC (K : PySem.W.Frag) (C F : Addr) : Prop where
  obj : ∃ nm q N bs sn sub ab col dd k0 k1 k2 k3 k5, K.lookup C = some (excClassObj nm q C N bs (.ref F :: bmV) true sn sub ab col dd k0 k1 k2 k3 k5 "ValueError.__new__")
  tail : ∃ c0 dd cd sl oc od es ep sl', K.lookup F = some ⟨c0, dd, .cls cd, sl⟩ ∧ K.lookup cd.ns = some ⟨oc, od, .dict es ep, sl'⟩ ∧ Afm es = true ∧ nsFind es "__init__" = none
  sa : PySem.W.findIn K (.ref C) "__setattr__" = some (some (.builtin "object.__setattr__"))
  ga : PySem.W.findIn K (.ref C) "__getattribute__" = some (some (.builtin "BaseException.__getattribute__"))
  gh : PySem.W.findIn K (.ref C) "__getattr__" = some none
  cl : PySem.W.findIn K (.ref C) "__class__" = some (some (.builtin "object.__class__"))
  gg : PySem.W.specialIn K (.builtin "object.__class__") "__get__" = some (some (.builtin "getset_descriptor.__get__"))
  gt : PySem.W.takesIn K (.builtin "object.__class__") = some true
section
variable {prog : Program} {w : World} {A : Around} {E : Value → Shared → Prop} {s : Shared} {K : PySem.W.Frag} {C U fI : Addr} {rest : List Value}
end
end L2
namespace L2
open PySem PySem.Spec PyProof.Rows PySem.W PySem.Builtin PySem.Builtin.ObjectAttr
section
variable {prog : Program} {w : World} {A : Around} {E : Value → Shared → Prop} {s : Shared} {K : PySem.W.Frag} {C U x : Addr} {name : Str} {v : Value}
end
end L2
namespace L2
open PySem PySem.Spec PyProof.Rows PySem.W PySem.Builtin PySem.Builtin.ObjectAttr
section
variable {prog : Program} {w : World} {A : Around} {E : Value → Shared → Prop} {s : Shared} {K : PySem.W.Frag} {C U x : Addr} {name : Str} {v : Value} {ox : Obj} {od : Option Obj}
end
end L2
namespace L2
open PySem PySem.Spec PyProof.Rows PySem.SeqAt
inductive Dt where
  | non | bl (b : Bool) | int (i : Int) | str (x : Str) | tup (ds : List Dt) | lst (ds : List Dt) | fn (a : Addr)
    | exc (c : Str) (ns : List Str) (ds : List Dt)
    | obj (c : Str) (ns : List Str) (ds : List Dt)
noncomputable def LsD (K : PySem.W.Frag) (H : Hp) (a : Addr) (xs : List V) : Prop := H a = some (.lst xs) ∨ (SqL K H a xs ∧ ∀ x ∈ xs, ∃ i : Int, x = .int i)
theorem LsD.sq {K : PySem.W.Frag} {H : Hp} {a : Addr} {xs : List V} (h : LsD K H a xs) : SqL K H a xs := by
  rcases h with h | ⟨h, _⟩
  · exact SqL.of h
  · exact h
theorem LsD.mono {K : PySem.W.Frag} {H H' : Hp} {a : Addr} {xs : List V} (s : Same H H') (h : LsD K H a xs) : LsD K H' a xs := by
  rcases h with h | ⟨h, q⟩
  · exact .inl (s _ _ h)
  · exact .inr ⟨s.seq h, q⟩
mutual
noncomputable def Rp (K : PySem.W.Frag) (H : Hp) : Dt → V → Prop
  | .non, v => v = .non
  | .bl b, v => v = .bl b
  | .int i, v => v = .int i
  | .str x, v => v = .str x
  | .fn a, v => v = .ref a
  | .exc c ns ds, v => ∃ a C U dx vs, v = .ref a ∧ PySem.W.nsIn K mainGlobals c = some (some (.ref C)) ∧ XC K C U ∧ H a = some (.ext (exO a C dx)) ∧ (H dx = some (.xd (ns.zip vs)) ∨ dx = a ∧ ns = []) ∧ ns.length = ds.length ∧ RpL K H ds vs
  | .obj c ns ds, v => ∃ a C dx vs, v = .ref a ∧ PySem.W.nsIn K mainGlobals c = some (some (.ref C)) ∧ Cls K C ∧ H a = some (.ins C dx (ns.zip vs)) ∧ ns.length = ds.length ∧ RpL K H ds vs
  | .tup ds, v => ∃ a xs, v = .ref a ∧ SqT K H a xs ∧ RpL K H ds xs
  | .lst ds, v => ∃ a xs, v = .ref a ∧ LsD K H a xs ∧ RpL K H ds xs
noncomputable def RpL (K : PySem.W.Frag) (H : Hp) : List Dt → List V → Prop
  | [], xs => xs = []
  | d :: ds, xs => ∃ v r, xs = v :: r ∧ Rp K H d v ∧ RpL K H ds r
end
theorem Same.seqT {K : PySem.W.Frag} {H H' : Hp} {a : Addr} {xs : List V} (e : Same H H') (h : SqT K H a xs) : SqT K H' a xs := by
  rcases h with (h | ⟨o, h⟩) | h
  · exact .inl (.inl (e _ _ h))
  · exact .inl (.inr ⟨o, e _ _ h⟩)
  · exact .inr h
mutual
theorem Rp.mono {K : PySem.W.Frag} {H H' : Hp} (s : Same H H') : ∀ {d : Dt} {v : V}, Rp K H d v → Rp K H' d v
  | .non, _, h => by unfold Rp at h ⊢; exact h
  | .bl _, _, h => by unfold Rp at h ⊢; exact h
  | .int _, _, h => by unfold Rp at h ⊢; exact h
  | .str _, _, h => by unfold Rp at h ⊢; exact h
  | .fn _, _, h => by unfold Rp at h ⊢; exact h
  | .exc _ _ _, _, h => by
    unfold Rp at h ⊢
    obtain ⟨a, C, U, dx, vs, e, q, x, h1, h2, l, r⟩ := h
    exact ⟨a, C, U, dx, vs, e, q, x, s _ _ h1, h2.imp (s _ _) id, l, RpL.mono s r⟩
  | .obj _ _ _, _, h => by
    unfold Rp at h ⊢
    obtain ⟨a, C, dx, vs, e, q, x, h1, l, r⟩ := h
    exact ⟨a, C, dx, vs, e, q, x, s _ _ h1, l, RpL.mono s r⟩
  | .tup ds, _, h => by
    unfold Rp at h ⊢
    obtain ⟨a, xs, e, q, r⟩ := h
    exact ⟨a, xs, e, s.seqT q, RpL.mono s r⟩
  | .lst ds, _, h => by
    unfold Rp at h ⊢
    obtain ⟨a, xs, e, q, r⟩ := h
    exact ⟨a, xs, e, q.mono s, RpL.mono s r⟩
theorem RpL.mono {K : PySem.W.Frag} {H H' : Hp} (s : Same H H') : ∀ {ds : List Dt} {vs : List V}, RpL K H ds vs → RpL K H' ds vs
  | [], _, h => by unfold RpL at h ⊢; exact h
  | d :: ds, _, h => by
    unfold RpL at h ⊢
    obtain ⟨v, r, e, q, p⟩ := h
    exact ⟨v, r, e, Rp.mono s q, RpL.mono s p⟩
end
section
variable {K : PySem.W.Frag} {H : Hp}
theorem Ot {v : V} : Rp K H .non v ↔ v = .non := by unfold Rp; exact Iff.rfl
theorem CG {b : Bool} {v : V} : Rp K H (.bl b) v ↔ v = .bl b := by unfold Rp; exact Iff.rfl
theorem Ba {i : Int} {v : V} : Rp K H (.int i) v ↔ v = .int i := by unfold Rp; exact Iff.rfl
theorem Oz {x : Str} {v : V} : Rp K H (.str x) v ↔ v = .str x := by unfold Rp; exact Iff.rfl
theorem Dm {ds : List Dt} {v : V} : Rp K H (.tup ds) v ↔ ∃ a xs, v = .ref a ∧ SqT K H a xs ∧ RpL K H ds xs := by rw [Rp]
theorem Kv {ds : List Dt} {v : V} : Rp K H (.lst ds) v ↔ ∃ a xs, v = .ref a ∧ LsD K H a xs ∧ RpL K H ds xs := by rw [Rp]
theorem HX {ds : List Dt} {v : V} (h : ∃ a xs, v = .ref a ∧ H a = some (.lst xs) ∧ RpL K H ds xs) : Rp K H (.lst ds) v := let ⟨a, xs, e, h1, h2⟩ := h; Kv.mpr ⟨a, xs, e, .inl h1, h2⟩
theorem Ds {ds : List Dt} {v : V} (h : Rp K H (.lst ds) v) : ∃ a xs, v = .ref a ∧ SqL K H a xs ∧ RpL K H ds xs := let ⟨a, xs, e, h1, h2⟩ := Kv.mp h; ⟨a, xs, e, h1.sq, h2⟩
theorem ZP {ns : List Int} {a : Addr} (h : SqL K H a (ns.map V.int)) (r : RpL K H (ns.map Dt.int) (ns.map V.int)) : Rp K H (.lst (ns.map Dt.int)) (.ref a) := Kv.mpr ⟨a, _, rfl, .inr ⟨h, fun x hx => by obtain ⟨i, _, rfl⟩ := List.mem_map.mp hx; exact ⟨i, rfl⟩⟩, r⟩
theorem Bs {vs : List V} : RpL K H [] vs ↔ vs = [] := by rw [RpL]
theorem Ax {d : Dt} {ds : List Dt} {vs : List V} : RpL K H (d :: ds) vs ↔ ∃ v r, vs = v :: r ∧ Rp K H d v ∧ RpL K H ds r := by rw [RpL]
theorem RpL.nil : RpL K H [] [] := Bs.mpr rfl
theorem RpL.cons {d : Dt} {ds : List Dt} {v : V} {vs : List V} (h : Rp K H d v) (r : RpL K H ds vs) : RpL K H (d :: ds) (v :: vs) := Ax.mpr ⟨v, vs, rfl, h, r⟩
theorem RpL.len : ∀ {ds : List Dt} {vs : List V}, RpL K H ds vs → vs.length = ds.length
  | [], _, h => by rw [Bs.mp h]; rfl
  | d :: ds, _, h => by
    obtain ⟨v, r, rfl, _, p⟩ := Ax.mp h
    simp [RpL.len p]
theorem RpL.get : ∀ {ds : List Dt} {vs : List V} {i : Nat} {d : Dt}, RpL K H ds vs → ds[i]? = some d → ∃ v, vs[i]? = some v ∧ Rp K H d v
  | [], _, _, _, _, e => by simp at e
  | d :: ds, _, 0, _, h, e => by
    obtain ⟨v, r, rfl, q, p⟩ := Ax.mp h
    simp at e; subst e
    exact ⟨v, rfl, q⟩
  | d :: ds, _, i + 1, _, h, e => by
    obtain ⟨v, r, rfl, q, p⟩ := Ax.mp h
    obtain ⟨u, e1, e2⟩ := RpL.get (i := i) p (by simpa using e)
    exact ⟨u, by simpa using e1, e2⟩
theorem RpL.append : ∀ {ds es : List Dt} {vs ws : List V}, RpL K H ds vs → RpL K H es ws → RpL K H (ds ++ es) (vs ++ ws)
  | [], _, _, _, h, q => by rw [Bs.mp h]; exact q
  | d :: ds, _, _, _, h, q => by
    obtain ⟨v, r, rfl, a, p⟩ := Ax.mp h
    exact .cons a (RpL.append p q)
theorem RpL.drop : ∀ {ds : List Dt} {vs : List V} (n : Nat), RpL K H ds vs → RpL K H (ds.drop n) (vs.drop n)
  | _, _, 0, h => by simpa using h
  | [], _, n + 1, h => by rw [Bs.mp h]; simpa using RpL.nil
  | d :: ds, _, n + 1, h => by
    obtain ⟨v, r, rfl, a, p⟩ := Ax.mp h
    simpa using RpL.drop n p
theorem RpL.take : ∀ {ds : List Dt} {vs : List V} (n : Nat), RpL K H ds vs → RpL K H (ds.take n) (vs.take n)
  | _, _, 0, h => by simpa using RpL.nil
  | [], _, n + 1, h => by rw [Bs.mp h]; simpa using RpL.nil
  | d :: ds, _, n + 1, h => by
    obtain ⟨v, r, rfl, a, p⟩ := Ax.mp h
    simpa using RpL.cons a (RpL.take n p)
theorem RpL.ints : ∀ (ns : List Int), RpL K H (ns.map Dt.int) (ns.map V.int)
  | [] => RpL.nil
  | _ :: ns => RpL.cons (Ba.mpr rfl) (RpL.ints ns)
end
noncomputable def mask (O : List Addr) (H : Hp) : Hp := fun a => if a ∈ O then none else H a
theorem CV {O : List Addr} {H : Hp} {a : Addr} (h : a ∈ O) : mask O H a = none := if_pos h
theorem Aq {O : List Addr} {H : Hp} {a : Addr} (h : a ∉ O) : mask O H a = H a := if_neg h
theorem Bw {O : List Addr} {H : Hp} {a : Addr} {o : HO} (h : mask O H a = some o) : a ∉ O ∧ H a = some o := by
  by_cases q : a ∈ O
  · rw [CV q] at h; cases h
  · rw [Aq q] at h; exact ⟨q, h⟩
theorem Ay {O : List Addr} {H : Hp} : Same (mask O H) H := fun _ _ h => (Bw h).2
theorem Same.mask {O : List Addr} {H H' : Hp} (s : Same H H') : Same (mask O H) (L2.mask O H') := fun a o h => by
  obtain ⟨q, e⟩ := Bw h
  rw [Aq q]; exact s a o e
theorem Dp {O O' : List Addr} {H : Hp} (h : ∀ a ∈ O', a ∈ O) : Same (mask O H) (mask O' H) := fun a o e => by
  obtain ⟨q, e⟩ := Bw e
  rw [Aq fun z => q (h a z)]; exact e
theorem Same.upd {H : Hp} {p : Addr} {o : HO} (h : H p = none) : Same H (L2.upd H p o) := fun a u e => by
  rw [Bc (Dw e h)]; exact e
noncomputable def tabAt (a : Addr) (xs : List (List Key × Addr × Value)) (h : Heap) : Prop := (a == sysModules) = false ∧ ∃ (P : Program) (w : World) (o : Obj) (es : Array DictEntry) (ep : Nat), h.get? a = some o ∧ o.ExactDict ∧ o.data = .dict es ep ∧ es.toList = xs.map (entryOfKey (tupleKind (EY P w))) ∧ (xs.map (·.1)).Nodup
noncomputable def Rh (K : PySem.W.Frag) (H : Hp) (ks : List (List Int)) (xs : List (List Key × Addr × Value)) : Prop := xs.map (·.1) = ks.map (·.map Sum.inl) ∧ ∀ x ∈ xs, SqT K H x.2.1 (x.1.map kV)
theorem Rh.mono {K : PySem.W.Frag} {H H' : Hp} {ks : List (List Int)} {xs : List (List Key × Addr × Value)} (s : Same H H') (h : Rh K H ks xs) : Rh K H' ks xs := ⟨h.1, fun x hx => s.seqT (h.2 x hx)⟩
inductive En where
  | is (d : Dt) | own (ds : List Dt) | tab (ks : List (List Int)) | raw (v : V)
noncomputable abbrev Bj := List (Option En)
noncomputable abbrev DTE := Bj → (Dt → Prop) → Prop
noncomputable abbrev DTT := Bj → (Bool → Prop) → Prop
noncomputable abbrev DTA := Bj → (List Dt → Prop) → Prop
structure DK where
  nx : Bj → Prop
  rt : Dt → Prop
  bk : Bj → Prop := fun _ => False
  ct : Bj → Prop := fun _ => False
noncomputable abbrev DTS := DK → Bj → Prop
structure Rep (K : PySem.W.Frag) (B : Hp) (F O : List Addr) (H : Hp) (σ : St) (ρ : Bj) : Prop where
  len : σ.length = ρ.length
  base : Same B H
  fr : ∀ a ∈ O, B a = none
  th : ∀ a ∈ F ++ O, H a ≠ none
  is : ∀ (i : Nat) (d : Dt), ρ[i]? = some (some (.is d)) → ∃ v, σ[i]? = some (some v) ∧ Rp K (mask (F ++ O) H) d v
  own : ∀ (i : Nat) (ds : List Dt), ρ[i]? = some (some (.own ds)) → ∃ a xs, σ[i]? = some (some (.ref a)) ∧ a ∈ O ∧ a ∉ F ∧ H a = some (.lst xs) ∧ RpL K (mask (F ++ O) H) ds xs
  inj : ∀ (i j : Nat) (ds es : List Dt) (a : Addr), ρ[i]? = some (some (.own ds)) → ρ[j]? = some (some (.own es)) → σ[i]? = some (some (.ref a)) → σ[j]? = some (some (.ref a)) → i = j
  tab : ∀ (i : Nat) (ks : List (List Int)), ρ[i]? = some (some (.tab ks)) → ∃ a xs, σ[i]? = some (some (.ref a)) ∧ a ∈ O ∧ a ∉ F ∧ H a = some (.ext (tabAt a xs)) ∧ Rh K (mask (F ++ O) H) ks xs
  tinj : ∀ (i j : Nat) (ks ls : List (List Int)) (a : Addr), ρ[i]? = some (some (.tab ks)) → ρ[j]? = some (some (.tab ls)) → σ[i]? = some (some (.ref a)) → σ[j]? = some (some (.ref a)) → i = j
  raw : ∀ (i : Nat) (v : V), ρ[i]? = some (some (.raw v)) → σ[i]? = some (some v)
theorem Ho {ρ : Bj} {i : Nat} {y : Option En} (hy : ∀ v, y ≠ some (.raw v)) {j : Nat} {v : V} (e : (ρ.set i y)[j]? = some (some (.raw v))) : j ≠ i ∧ ρ[j]? = some (some (.raw v)) := by
  by_cases hj : j = i
  · subst hj
    by_cases hk : j < ρ.length
    · rw [List.getElem?_set_self hk] at e; exact (hy v (Option.some.inj e)).elim
    · rw [List.getElem?_eq_none (by simpa using hk)] at e; cases e
  · rw [List.getElem?_set_ne (Ne.symm hj)] at e; exact ⟨hj, e⟩
theorem Rep.rawSet {K : PySem.W.Frag} {B : Hp} {F O : List Addr} {H : Hp} {σ : St} {ρ : Bj} (r : Rep K B F O H σ ρ) {i : Nat} {x : Option V} {y : Option En} (hy : ∀ v, y ≠ some (.raw v)) (j : Nat) (v : V) (e : (ρ.set i y)[j]? = some (some (.raw v))) : (σ.set i x)[j]? = some (some v) := by
  obtain ⟨hj, e⟩ := Ho hy e
  rw [List.getElem?_set_ne (Ne.symm hj)]
  exact r.raw j v e
section
variable {K : PySem.W.Frag} {B : Hp} {F O : List Addr} {H H' : Hp} {σ : St} {ρ : Bj}
theorem Rep.same (r : Rep K B F O H σ ρ) (s : Same H H') : Rep K B F O H' σ ρ where
  len := r.len
  base := r.base.trans s
  fr := r.fr
  th := fun a h e => by
    have := r.th a h
    cases q : H a with
    | none => exact this q
    | some o => rw [s a o q] at e; cases e
  is := fun i d e => let ⟨v, h1, h2⟩ := r.is i d e; ⟨v, h1, h2.mono s.mask⟩
  own := fun i ds e => let ⟨a, xs, h1, h2, h3, h4, h5⟩ := r.own i ds e; ⟨a, xs, h1, h2, h3, s _ _ h4, h5.mono s.mask⟩
  inj := r.inj
  tab := fun i ks e => let ⟨a, xs, h1, h2, h3, h4, h5⟩ := r.tab i ks e; ⟨a, xs, h1, h2, h3, s _ _ h4, h5.mono s.mask⟩
  tinj := r.tinj
  raw := r.raw
theorem Rep.below (r : Rep K B F O H σ ρ) : Same (mask F B) (mask (F ++ O) H) := fun a o e => by
  obtain ⟨q, e⟩ := Bw e
  rw [Aq]
  · exact r.base a o e
  · intro z
    rcases List.mem_append.mp z with z | z
    · exact q z
    · rw [r.fr a z] at e; cases e
theorem Rep.set (r : Rep K B F O H σ ρ) (i : Nat) {d : Dt} {v : V} (h : Rp K (mask (F ++ O) H) d v) : Rep K B F O H (σ.set i (some v)) (ρ.set i (some (.is d))) := by
  have hl := r.len
  have back : ∀ (j : Nat) (ds : En), (∀ z, ds ≠ .is z) → (ρ.set i (some (.is d)))[j]? = some (some ds) → j ≠ i ∧ ρ[j]? = some (some ds) := fun j ds nz e => by
    by_cases hj : j = i
    · subst hj
      by_cases hk : j < ρ.length
      · rw [List.getElem?_set_self hk] at e; cases e; exact (nz d rfl).elim
      · rw [List.getElem?_eq_none (by simpa using hk)] at e; cases e
    · rw [List.getElem?_set_ne (Ne.symm hj)] at e; exact ⟨hj, e⟩
  refine ⟨by simpa using hl, r.base, r.fr, r.th, fun j e q => ?_, fun j ds q => ?_, fun j k ds es a h1 h2 h3 h4 => ?_, fun j ks q => ?_, fun j k ds es a h1 h2 h3 h4 => ?_, fun j u q => ?_⟩
  · by_cases hj : j = i
    · subst hj
      by_cases hk : j < ρ.length
      · rw [List.getElem?_set_self hk] at q
        cases q
        exact ⟨v, List.getElem?_set_self (by omega), h⟩
      · rw [List.getElem?_eq_none (by simpa using hk)] at q; cases q
    · rw [List.getElem?_set_ne (Ne.symm hj)] at q ⊢
      exact r.is j e q
  · obtain ⟨hj, q⟩ := back j _ (fun _ z => by cases z) q
    rw [List.getElem?_set_ne (Ne.symm hj)]
    exact r.own j ds q
  · obtain ⟨hj, q1⟩ := back j _ (fun _ z => by cases z) h1
    obtain ⟨hk, q2⟩ := back k _ (fun _ z => by cases z) h2
    rw [List.getElem?_set_ne (Ne.symm hj)] at h3
    rw [List.getElem?_set_ne (Ne.symm hk)] at h4
    exact r.inj j k ds es a q1 q2 h3 h4
  · obtain ⟨hj, q⟩ := back j _ (fun _ z => by cases z) q
    rw [List.getElem?_set_ne (Ne.symm hj)]
    exact r.tab j ks q
  · obtain ⟨hj, q1⟩ := back j _ (fun _ z => by cases z) h1
    obtain ⟨hk, q2⟩ := back k _ (fun _ z => by cases z) h2
    rw [List.getElem?_set_ne (Ne.symm hj)] at h3
    rw [List.getElem?_set_ne (Ne.symm hk)] at h4
    exact r.tinj j k ds es a q1 q2 h3 h4
  · obtain ⟨hj, q⟩ := back j _ (fun _ z => by cases z) q
    rw [List.getElem?_set_ne (Ne.symm hj)]
    exact r.raw j u q
end
noncomputable def lE (K : PySem.W.Frag) (t : DTE) : TE := fun σ H Q => ∃ B F O ρ, Rep K B F O H σ ρ ∧ t ρ fun d => ∀ v H', Same H H' → Rp K (mask (F ++ O) H') d v → Q v H'
noncomputable def lT (K : PySem.W.Frag) (t : DTT) : TT := fun σ H Q => ∃ B F O ρ, Rep K B F O H σ ρ ∧ t ρ fun b => ∀ H', Same H H' → Q b H'
noncomputable def lA (K : PySem.W.Frag) (t : DTA) : TA := fun σ H Q => ∃ B F O ρ, Rep K B F O H σ ρ ∧ t ρ fun ds => ∀ vs H', Same H H' → RpL K (mask (F ++ O) H') ds vs → Q vs H'
noncomputable def lD (K : PySem.W.Frag) (B : Hp) (F : List Addr) (D : Ends) : DK where
  nx := fun ρ' => ∀ O' σ' H', Rep K B F O' H' σ' ρ' → D.nx σ' H'
  rt := fun d => ∀ v H', Same B H' → Rp K (mask F H') d v → D.rt v H'
  bk := fun ρ' => ∀ O' σ' H', Rep K B F O' H' σ' ρ' → D.bk σ' H'
  ct := fun ρ' => ∀ O' σ' H', Rep K B F O' H' σ' ρ' → D.ct σ' H'
noncomputable def lS (K : PySem.W.Frag) (t : DTS) : TS := fun D σ H => ∃ B F O ρ, Rep K B F O H σ ρ ∧ t (lD K B F D) ρ
structure DK.le (D D' : DK) : Prop where
  nx : ∀ ρ, D.nx ρ → D'.nx ρ
  rt : ∀ d, D.rt d → D'.rt d
  bk : ∀ ρ, D.bk ρ → D'.bk ρ
  ct : ∀ ρ, D.ct ρ → D'.ct ρ
structure DE (X : Cx) (e : Expr) (t : DTE) : Prop where
  mono : ∀ {ρ Q Q'}, (∀ d, Q d → Q' d) → t ρ Q → t ρ Q'
  pe : PE X e (lE X.K t)
structure DT (X : Cx) (e : Expr) (t : DTT) : Prop where
  mono : ∀ {ρ Q Q'}, (∀ d, Q d → Q' d) → t ρ Q → t ρ Q'
  pt : PT X e (lT X.K t)
structure DA (X : Cx) (es : List Expr) (t : DTA) : Prop where
  mono : ∀ {ρ Q Q'}, (∀ d, Q d → Q' d) → t ρ Q → t ρ Q'
  pa : PA X es (lA X.K t)
structure DS (X : Cx) (st : Stmt) (t : DTS) : Prop where
  mono : ∀ {ρ D D'}, DK.le D D' → t D ρ → t D' ρ
  ps : PS X st (lS X.K t)
structure DSs (X : Cx) (st : List Stmt) (t : DTS) : Prop where
  mono : ∀ {ρ D D'}, DK.le D D' → t D ρ → t D' ρ
  ps : PSs X st (lS X.K t)
theorem PE.imp {X : Cx} {e : Expr} {t t' : TE} (h : PE X e t) (i : ∀ σ H Q, t' σ H Q → t σ H Q) : PE X e t' := fun pins s σ H Q I q => h pins s σ H Q I (i _ _ _ q)
theorem PT.imp {X : Cx} {e : Expr} {t t' : TT} (h : PT X e t) (i : ∀ σ H Q, t' σ H Q → t σ H Q) : PT X e t' := fun pins s σ H Q I q => h pins s σ H Q I (i _ _ _ q)
theorem PA.imp {X : Cx} {e : List Expr} {t t' : TA} (h : PA X e t) (i : ∀ σ H Q, t' σ H Q → t σ H Q) : PA X e t' := fun pos pins s σ H Q I q => h pos pins s σ H Q I (i _ _ _ q)
theorem PS.imp {X : Cx} {e : Stmt} {t t' : TS} (h : PS X e t) (i : ∀ D σ H, t' D σ H → t D σ H) : PS X e t' := fun pins s σ H D I q => h pins s σ H D I (i _ _ _ q)
theorem PSs.imp {X : Cx} {e : List Stmt} {t t' : TS} (h : PSs X e t) (i : ∀ D σ H, t' D σ H → t D σ H) : PSs X e t' := fun pins s σ H D I q => h pins s σ H D I (i _ _ _ q)
section
variable {X : Cx} {a b c e : Expr} {es : List Expr} {ta tb tc te : DTE} {tA tB : DTT} {tl : DTA} {pos : Pos}
noncomputable def Xy (i : Nat) : DTE := fun ρ Q => match ρ[i]? with
  | some (some (.is d)) => Q d
  | _ => False
noncomputable def dC (d : Dt) : DTE := fun _ Q => Q d
theorem dv (i : Nat) {x : Str} {pos : Pos} (hN : X.N[i]? = some x := by rfl) (hv : Vis X.env.scope x := by first | exact Or.inl rfl | exact Or.inr (Or.inl rfl) | exact Or.inr (Or.inr rfl)) (hd : (x == ("__debug__" : Str)) = false := by decide)
    (hcd : (x == ("__classdict__" : Str)) = false := by decide) : DE X (.Name x pos) (Xy i) where
  mono := fun {ρ Q Q'} hq h => by
    unfold Xy at h ⊢
    split at h
    · exact hq _ h
    · exact h.elim
  pe := (GJ hN hv hd hcd).imp fun σ H Q ⟨B, F, O, ρ, r, h⟩ => by
    unfold Xy at h
    split at h
    · rename_i d e
      obtain ⟨v, h1, h2⟩ := r.is i d e
      exact ⟨v, h1, h v H (Same.refl H) h2⟩
    · exact h.elim
theorem AbP {v : V} {d : Dt} (h : PE X e (tC v)) (hr : ∀ K H, Rp K H d v) : DE X e (dC d) where
  mono := fun hq h => hq _ h
  pe := h.imp fun σ H Q ⟨B, F, O, ρ, r, h⟩ => h v H (Same.refl H) (hr _ _)
theorem Ab {i j pos} : DE X (.Constant (.int i) j pos) (dC (.int i)) := AbP Abk fun _ _ => Ba.mpr rfl
theorem Js {i j pos} : DE X (.Constant (.bool i) j pos) (dC (.bl i)) := AbP AdX fun _ _ => CG.mpr rfl
theorem Kz {x j pos} : DE X (.Constant (.str x) j pos) (dC (.str x)) := AbP Acw fun _ _ => Oz.mpr rfl
theorem Pb {x : Str} {v : V} {u : Value} {d : Dt} {pos : Pos} (hg : Gl X x) (hm : X.mg x = some u) (r : RelV v u) (hr : ∀ H, Rp X.K H d v) (hd : (x == ("__debug__" : Str)) = false := by decide) : DE X (.Name x pos) (dC d) where
  mono := fun hq h => hq _ h
  pe := (Ys hg hm r hd).imp fun σ H Q ⟨B, F, O, ρ, _, h⟩ => h v H (Same.refl H) (hr _)
noncomputable abbrev D2 := Dt → Dt → (Dt → Prop) → Prop
structure G7 (K : PySem.W.Frag) (r : R2) (t : D2) : Prop where
  mono : ∀ {a b Q Q'}, (∀ d, Q d → Q' d) → t a b Q → t a b Q'
  ok : ∀ (O : List Addr) (H : Hp) (a b : Dt) (x y : V) (Q : VK), (∀ p ∈ O, H p ≠ none) → Rp K (mask O H) a x → Rp K (mask O H) b y →
    t a b (fun d => ∀ v H', Same H H' → Rp K (mask O H') d v → Q v H') → r x y H Q
noncomputable def dOp (t : D2) (ta tb : DTE) : DTE := fun ρ Q => ta ρ fun a => tb ρ fun b => t a b Q
theorem Oe {K : PySem.W.Frag} {r : R2} {t : D2} (S : G7 K r t) {ta tb : DTE} (ma : ∀ {ρ Q Q'}, (∀ d, Q d → Q' d) → ta ρ Q → ta ρ Q') (mb : ∀ {ρ Q Q'}, (∀ d, Q d → Q' d) → tb ρ Q → tb ρ Q')
    (σ : St) (H : Hp) (Q : VK) (h : lE K (dOp t ta tb) σ H Q) : tOp r (lE K ta) (lE K tb) σ H Q := by
  obtain ⟨B, F, O, ρ, R, h⟩ := h
  refine ⟨B, F, O, ρ, R, ma (fun a h v H1 s1 r1 => ?_) h⟩
  refine ⟨B, F, O, ρ, R.same s1, mb (fun b h u H2 s2 r2 => ?_) h⟩
  exact S.ok _ H2 a b v u Q ((R.same s1).same s2).th (r1.mono s2.mask) r2 (S.mono (fun d q w H3 s3 r3 => q w H3 ((s1.trans s2).trans s3) r3) h)
theorem Ht {t : D2} (m : ∀ {a b Q Q'}, (∀ d, Q d → Q' d) → t a b Q → t a b Q') (ma : ∀ {ρ Q Q'}, (∀ d, Q d → Q' d) → ta ρ Q → ta ρ Q') (mb : ∀ {ρ Q Q'}, (∀ d, Q d → Q' d) → tb ρ Q → tb ρ Q') :
    ∀ {ρ Q Q'}, (∀ d, Q d → Q' d) → dOp t ta tb ρ Q → dOp t ta tb ρ Q' := fun hq h => ma (fun _ h => mb (fun _ h => m hq h) h) h
theorem NZ {op : Operator} {r : R2} {t : D2} (ho : OpR X (binaryOp op) r) (S : G7 X.K r t) (ha : DE X a ta) (hb : DE X b tb) : DE X (.BinOp a op b pos) (dOp t ta tb) where
  mono := Ht (t := t) (ta := ta) (tb := tb) S.mono ha.mono hb.mono
  pe := (W6 ho ha.pe hb.pe).imp (Oe (ta := ta) (tb := tb) S ha.mono hb.mono)
theorem RX {op : CmpOp} {r : R2} {t : D2} (ho : OpR X (compareOp op) r) (S : G7 X.K r t) (ha : DE X a ta) (hb : DE X b tb) (hm : behindInMarks op b = false) : DE X (.Compare a [op] [b] pos) (dOp t ta tb) where
  mono := Ht (t := t) (ta := ta) (tb := tb) S.mono ha.mono hb.mono
  pe := (Te ho ha.pe hb.pe hm).imp (Oe (ta := ta) (tb := tb) S ha.mono hb.mono)
theorem Adr {r : R2} {t : D2} (ho : IxR X r) (S : G7 X.K r t) (ha : DE X a ta) (hb : DE X b tb) (hs : PK b) : DE X (.Subscript a b pos) (dOp t ta tb) where
  mono := Ht (t := t) (ta := ta) (tb := tb) S.mono ha.mono hb.mono
  pe := (AcS ho ha.pe hb.pe hs).imp (Oe (ta := ta) (tb := tb) S ha.mono hb.mono)
noncomputable def dI (C : Int → Int → Prop) (g : Int → Int → Int) : D2 := fun a b Q => match a, b with
  | .int i, .int j => C i j ∧ Q (.int (g i j))
  | _, _ => False
noncomputable def dI0 (g : Int → Int → Int) : D2 := fun a b Q => match a, b with
  | .int i, .int j => Q (.int (g i j))
  | _, _ => False
noncomputable def dB0 (g : Int → Int → Bool) : D2 := fun a b Q => match a, b with
  | .int i, .int j => Q (.bl (g i j))
  | _, _ => False
theorem UL {K : PySem.W.Frag} {C : Int → Int → Prop} {g : Int → Int → Int} : G7 K (rI C fun i j => .int (g i j)) (dI C g) where
  mono := fun {a b Q Q'} hq h => by
    unfold dI at h ⊢
    split at h
    · exact ⟨h.1, hq _ h.2⟩
    · exact h.elim
  ok := fun O H a b x y Q _ ra rb h => by
    unfold dI at h
    split at h
    · exact ⟨_, _, Ba.mp ra, Ba.mp rb, h.1, h.2 _ H (Same.refl H) (Ba.mpr rfl)⟩
    · exact h.elim
theorem Xz {K : PySem.W.Frag} {g : Int → Int → Int} : G7 K (rI0 fun i j => .int (g i j)) (dI0 g) where
  mono := fun {a b Q Q'} hq h => by
    unfold dI0 at h ⊢
    split at h
    · exact hq _ h
    · exact h.elim
  ok := fun O H a b x y Q _ ra rb h => by
    unfold dI0 at h
    split at h
    · exact ⟨_, _, Ba.mp ra, Ba.mp rb, h _ H (Same.refl H) (Ba.mpr rfl)⟩
    · exact h.elim
theorem Fy {K : PySem.W.Frag} {g : Int → Int → Bool} : G7 K (rI0 fun i j => .bl (g i j)) (dB0 g) where
  mono := fun {a b Q Q'} hq h => by
    unfold dB0 at h ⊢
    split at h
    · exact hq _ h
    · exact h.elim
  ok := fun O H a b x y Q _ ra rb h => by
    unfold dB0 at h
    split at h
    · exact ⟨_, _, Ba.mp ra, Ba.mp rb, h _ H (Same.refl H) (CG.mpr rfl)⟩
    · exact h.elim
theorem Zk : OpR X (binaryOp .Mult) (rI IntMulOk fun i j => .int (i * j)) := opI fun _ _ _ _ _ _ _ hc q => mul_int q hc
noncomputable def CDv (_ j : Int) : Prop := j ≠ 0 ∧ j.natAbs < 2 ^ 9000
theorem log2_small {n : Nat} (h : n < 2 ^ 9000) : n.log2 < 9000 := by
  by_cases h0 : n = 0
  · subst h0; decide +kernel
  · exact (Nat.log2_lt h0).mpr h
theorem W7 : OpR X (binaryOp .FloorDiv) (rI CDv fun i j => .int (i.fdiv j)) := opI fun _ _ _ _ _ _ _ hc q => floordiv_int hc.1 q (.inl (PyProof.noPylong_of_log2 (log2_small hc.2)))
noncomputable def AdM : D2 := dI0 fun i j => i + j
noncomputable def AdI : D2 := dI0 fun i j => i - j
noncomputable def Aes : D2 := dI IntMulOk fun i j => i * j
noncomputable def Ad5 : D2 := dI (fun _ j => j ≠ 0) fun i j => i.fmod j
noncomputable def Ad3 : D2 := dI CDv fun i j => i.fdiv j
noncomputable def AeB : D2 := dI Yy fun i j => i ^ j.toNat
noncomputable def AdY : D2 := dI Yy fun i j => i * 2 ^ j.toNat
noncomputable def Afc : D2 := dI (fun _ j => 0 ≤ j) fun i j => i / 2 ^ j.toNat
theorem Br (ha : DE X a ta) (hb : DE X b tb) : DE X (.BinOp a .Add b pos) (dOp AdM ta tb) := NZ AbZ Xz ha hb
theorem Cq (ha : DE X a ta) (hb : DE X b tb) : DE X (.BinOp a .Sub b pos) (dOp AdI ta tb) := NZ AbV Xz ha hb
theorem Am (ha : DE X a ta) (hb : DE X b tb) : DE X (.BinOp a .Mult b pos) (dOp Aes ta tb) := NZ Zk UL ha hb
theorem Ey (ha : DE X a ta) (hb : DE X b tb) : DE X (.BinOp a .Mod b pos) (dOp Ad5 ta tb) := NZ YD UL ha hb
theorem Dd (ha : DE X a ta) (hb : DE X b tb) : DE X (.BinOp a .FloorDiv b pos) (dOp Ad3 ta tb) := NZ W7 UL ha hb
theorem Xf (ha : DE X a ta) (hb : DE X b tb) : DE X (.BinOp a .LShift b pos) (dOp AdY ta tb) := NZ AcF UL ha hb
noncomputable def dLt : D2 := dB0 fun i j => decide (i < j)
noncomputable def dLe : D2 := dB0 fun i j => decide (i ≤ j)
noncomputable def dGt : D2 := dB0 fun i j => decide (j < i)
noncomputable def dGe : D2 := dB0 fun i j => decide (j ≤ i)
theorem AdT (ha : DE X a ta) (hb : DE X b tb) : DE X (.Compare a [.GtE] [b] pos) (dOp dGe ta tb) := RX Aaf Fy ha hb (Hu _)
noncomputable def ixL : Int → List Dt → Option Dt
  | .ofNat n, ds => ds[n]?
  | .negSucc m, ds => if m < ds.length then ds[ds.length - 1 - m]? else none
noncomputable def ixD (i : Int) : Dt → Option Dt
  | .tup ds => ixL i ds
  | .lst ds => ixL i ds
  | _ => none
theorem Yb {i : Int} {ds : List Dt} {d : Dt} (h : ixL i ds = some d) : atI ds i = some d := by
  cases i with
  | ofNat n => exact Y4 h
  | negSucc m =>
    have h' : (if m < ds.length then ds[ds.length - 1 - m]? else none) = some d := h
    by_cases hm : m < ds.length
    · rw [if_pos hm] at h'
      unfold atI ixN
      have h1 : ¬ (0 : Int) ≤ Int.negSucc m := by omega
      have h2 : -(ds.length : Int) ≤ Int.negSucc m := by omega
      have h3 : (Int.negSucc m + (ds.length : Int)).toNat = ds.length - 1 - m := by omega
      rw [if_neg h1, if_pos h2, Option.bind_some, h3]
      exact h'
    · rw [if_neg hm] at h'; cases h'
noncomputable def dIx : D2 := fun a b Q => match b with
  | .int i => match ixD i a with
    | some d => Q d
    | none => False
  | _ => False
theorem Xq {K : PySem.W.Frag} {H : Hp} {ds : List Dt} {xs : List V} {i : Int} {d : Dt} (r : RpL K H ds xs) (h : atI ds i = some d) : ∃ v, atI xs i = some v ∧ Rp K H d v := by
  unfold atI at h ⊢
  rw [r.len]
  cases e : ixN ds.length i with
  | none => rw [e] at h; cases h
  | some j =>
    rw [e] at h
    exact r.get h
theorem AaZ {K : PySem.W.Frag} : G7 K (rIx K) dIx where
  mono := fun {a b Q Q'} hq h => by
    unfold dIx at h ⊢
    split at h
    · split at h
      · rename_i e; exact hq _ h
      · exact h.elim
    · exact h.elim
  ok := fun O H a b x y Q _ ra rb h => by
    unfold dIx at h
    split at h
    · split at h
      · rename_i i _ d e
        have eb := Ba.mp rb
        subst eb
        cases a with
        | tup ds =>
          obtain ⟨p, xs, rfl, hs, hl⟩ := Dm.mp ra
          obtain ⟨v, e1, e2⟩ := Xq hl (Yb e)
          exact .inr (.inl ⟨p, xs, i, v, rfl, rfl, Ay.seqT hs, e1, h v H (Same.refl H) e2⟩)
        | lst ds =>
          obtain ⟨p, xs, rfl, hs, hl⟩ := Ds ra
          obtain ⟨v, e1, e2⟩ := Xq hl (Yb e)
          exact .inl ⟨p, xs, i, v, rfl, rfl, Ay.seq hs, e1, h v H (Same.refl H) e2⟩
        | _ => cases e
      · exact h.elim
    · exact h.elim
theorem Ad (ha : DE X a ta) (hb : DE X b tb) (hs : PK b := by exact fun _ _ => rfl) : DE X (.Subscript a b pos) (dOp dIx ta tb) := Adr AaL AaZ ha hb hs
noncomputable def Vz : Dt → (Dt → Prop) → Prop := fun a Q => match a with
  | .int i => Q (.int (-i))
  | _ => False
noncomputable def dUn (t : Dt → (Dt → Prop) → Prop) (ta : DTE) : DTE := fun ρ Q => ta ρ fun a => t a Q
theorem FQ (ha : DE X a ta) : DE X (.UnaryOp .USub a pos) (dUn Vz ta) where
  mono := fun hq h => ha.mono (fun d h => by
    unfold Vz at h ⊢
    split at h
    · exact hq _ h
    · exact h.elim) h
  pe := (Adv Abo ha.pe).imp fun σ H Q ⟨B, F, O, ρ, R, h⟩ => ⟨B, F, O, ρ, R, ha.mono (fun d h v H1 s1 r1 => by
    unfold Vz at h
    split at h
    · exact ⟨_, Ba.mp r1, h _ H1 s1 (Ba.mpr rfl)⟩
    · exact h.elim) h⟩
noncomputable def AcZ (ta : DTE) : DTE := fun ρ Q => ta ρ fun a => match a with
  | .bl k => Q (.bl (!k))
  | _ => False
noncomputable def Adq (ta tb : DTE) : DTE := fun ρ Q => ta ρ fun a => match a with
  | .bl k => if k = true then tb ρ Q else Q (.bl false)
  | _ => False
noncomputable def dOr (ta tb : DTE) : DTE := fun ρ Q => ta ρ fun a => match a with
  | .bl k => if k = true then Q (.bl true) else tb ρ Q
  | _ => False
theorem AbR (ha : DE X a ta) : DE X (.UnaryOp .Not a pos) (AcZ ta) where
  mono := fun hq h => ha.mono (fun d h => by
    split at h
    · exact hq _ h
    · exact h.elim) h
  pe := (AcG ha.pe).imp fun σ H Q ⟨B, F, O, ρ, R, h⟩ => ⟨B, F, O, ρ, R, ha.mono (fun d h v H1 s1 r1 => by
    split at h
    · exact ⟨_, CG.mp r1, h _ H1 s1 (CG.mpr rfl)⟩
    · exact h.elim) h⟩
theorem Om {op} (h : DE X a ta) : DE X (.BoolOp op [a] pos) ta := ⟨h.mono, Aca h.pe⟩
theorem R7 {rest : List Expr} (ha : DE X a ta) (hb : DE X (.BoolOp .And (b :: rest) pos) tb) : DE X (.BoolOp .And (a :: b :: rest) pos) (Adq ta tb) where
  mono := fun hq h => ha.mono (fun d h => by
    split at h
    · split at h
      · rename_i e; simp only [e, if_true]; exact hb.mono hq h
      · rename_i e; simp only [e]; exact hq _ h
    · exact h.elim) h
  pe := (Ack ha.pe hb.pe).imp fun σ H Q ⟨B, F, O, ρ, R, h⟩ => ⟨B, F, O, ρ, R, ha.mono (fun d h v H1 s1 r1 => by
    split at h
    · rename_i k
      refine ⟨k, CG.mp r1, ?_⟩
      cases k with
      | true => exact ⟨B, F, O, ρ, R.same s1, hb.mono (fun d q v H2 s2 r2 => q v H2 (s1.trans s2) r2) h⟩
      | false => exact h _ H1 s1 (CG.mpr rfl)
    · exact h.elim) h⟩
theorem Adw {rest : List Expr} (ha : DE X a ta) (hb : DE X (.BoolOp .Or (b :: rest) pos) tb) : DE X (.BoolOp .Or (a :: b :: rest) pos) (dOr ta tb) where
  mono := fun hq h => ha.mono (fun d h => by
    split at h
    · split at h
      · rename_i e; simp only [e, if_true]; exact hq _ h
      · rename_i e; simp only [e]; exact hb.mono hq h
    · exact h.elim) h
  pe := (Aeq ha.pe hb.pe).imp fun σ H Q ⟨B, F, O, ρ, R, h⟩ => ⟨B, F, O, ρ, R, ha.mono (fun d h v H1 s1 r1 => by
    split at h
    · rename_i k
      refine ⟨k, CG.mp r1, ?_⟩
      cases k with
      | false => exact ⟨B, F, O, ρ, R.same s1, hb.mono (fun d q v H2 s2 r2 => q v H2 (s1.trans s2) r2) h⟩
      | true => exact h _ H1 s1 (CG.mpr rfl)
    · exact h.elim) h⟩
noncomputable def Kh (t : DTE) : DTT := fun ρ Q => t ρ fun a => match a with
  | .bl k => Q k
  | _ => False
theorem JZ {t : DTE} (m : ∀ {ρ Q Q'}, (∀ d, Q d → Q' d) → t ρ Q → t ρ Q') : ∀ {ρ Q Q'}, (∀ d, Q d → Q' d) → Kh t ρ Q → Kh t ρ Q' := fun hq h => m (fun d h => by
    split at h
    · exact hq _ h
    · exact h.elim) h
theorem Et (h : DE X e te) (he : ∀ whole, isTrue e X.env whole = (do let v ← whole; standAt e.pos; holding [v] (truthy v)) := by intro _; rfl) : DT X e (Kh te) where
  mono := JZ (t := te) h.mono
  pt := (Acg h.pe he).imp fun σ H Q ⟨B, F, O, ρ, R, q⟩ => ⟨B, F, O, ρ, R, h.mono (fun d q v H1 s1 r1 => by
    split at q
    · exact ⟨_, CG.mp r1, q H1 s1⟩
    · exact q.elim) q⟩
theorem Lk {op : CmpOp} {r : R2} {t : D2} (ho : OpR X (compareOp op) r) (S : G7 X.K r t) (ha : DE X a ta) (hb : DE X b tb) (hm : behindInMarks op b = false) : DT X (.Compare a [op] [b] pos) (Kh (dOp t ta tb)) where
  mono := JZ (t := dOp t ta tb) (Ht (t := t) (ta := ta) (tb := tb) S.mono ha.mono hb.mono)
  pt := (Ul ho ha.pe hb.pe hm).imp fun σ H Q ⟨B, F, O, ρ, R, q⟩ => Oe (ta := ta) (tb := tb) S ha.mono hb.mono σ H _ ⟨B, F, O, ρ, R, Ht (t := t) (ta := ta) (tb := tb) S.mono ha.mono hb.mono (fun d q v H1 s1 r1 => by
    split at q
    · exact ⟨_, CG.mp r1, q H1 s1⟩
    · exact q.elim) q⟩
theorem Lz (ha : DE X a ta) (hb : DE X b tb) : DT X (.Compare a [.Lt] [b] pos) (Kh (dOp dLt ta tb)) := Lk V1 Fy ha hb (Hu _)
theorem LR (ha : DE X a ta) (hb : DE X b tb) : DT X (.Compare a [.Gt] [b] pos) (Kh (dOp dGt ta tb)) := Lk AdL Fy ha hb (Hu _)
theorem Aae (ha : DE X a ta) (hb : DE X b tb) : DT X (.Compare a [.GtE] [b] pos) (Kh (dOp dGe ta tb)) := Lk Aaf Fy ha hb (Hu _)
noncomputable def Aar (t : DTT) : DTT := fun ρ Q => t ρ fun k => Q (!k)
noncomputable def Aag (t u : DTT) : DTT := fun ρ Q => t ρ fun k => if k = true then u ρ Q else Q false
noncomputable def Aem (t u : DTT) : DTT := fun ρ Q => t ρ fun k => if k = true then Q true else u ρ Q
theorem Hr (ha : DT X a tA) : DT X (.UnaryOp .Not a pos) (Aar tA) where
  mono := fun hq h => ha.mono (fun _ h => hq _ h) h
  pt := (AaV ha.pt).imp fun σ H Q ⟨B, F, O, ρ, R, q⟩ => ⟨B, F, O, ρ, R, q⟩
structure DW (X : Cx) (e : Expr) (t : DTT) : Prop where
  mono : ∀ {ρ Q Q'}, (∀ d, Q d → Q' d) → t ρ Q → t ρ Q'
  pw : PW X e (lT X.K t)
theorem DW.dt {t : DTT} (h : DW X e t) : DT X e t := ⟨h.mono, h.pw.pt⟩
theorem Jj (ha : DT X a tA) : DW X (.BoolOp .And [a] pos) tA := ⟨ha.mono, Y9 ha.pt⟩
theorem HD (ha : DT X a tA) : DW X (.BoolOp .Or [a] pos) tA := ⟨ha.mono, AbL ha.pt⟩
theorem PW.imp {t t' : TT} (h : PW X e t) (i : ∀ σ H Q, t' σ H Q → t σ H Q) : PW X e t' := fun wh pins s σ H Q I q => h wh pins s σ H Q I (i _ _ _ q)
theorem K3 {rest : List Expr} (ha : DT X a tA) (hb : DW X (.BoolOp .And (b :: rest) pos) tB) : DW X (.BoolOp .And (a :: b :: rest) pos) (Aag tA tB) where
  mono := fun hq h => ha.mono (fun k h => by
    cases k with
    | true => exact hb.mono hq h
    | false => exact hq _ h) h
  pw := (Acd ha.pt hb.pw).imp fun σ H Q ⟨B, F, O, ρ, R, q⟩ => ⟨B, F, O, ρ, R, ha.mono (fun k h H1 s1 => by
    cases k with
    | true => exact ⟨B, F, O, ρ, R.same s1, hb.mono (fun k q H2 s2 => q H2 (s1.trans s2)) h⟩
    | false => exact h H1 s1) q⟩
theorem J6 {rest : List Expr} (ha : DT X a tA) (hb : DW X (.BoolOp .Or (b :: rest) pos) tB) : DW X (.BoolOp .Or (a :: b :: rest) pos) (Aem tA tB) where
  mono := fun hq h => ha.mono (fun k h => by
    cases k with
    | true => exact hq _ h
    | false => exact hb.mono hq h) h
  pw := (Aeu ha.pt hb.pw).imp fun σ H Q ⟨B, F, O, ρ, R, q⟩ => ⟨B, F, O, ρ, R, ha.mono (fun k h H1 s1 => by
    cases k with
    | false => exact ⟨B, F, O, ρ, R.same s1, hb.mono (fun k q H2 s2 => q H2 (s1.trans s2)) h⟩
    | true => exact h H1 s1) q⟩
noncomputable def AeM (t : DTT) (ta tb : DTE) : DTE := fun ρ Q => t ρ fun k => if k = true then ta ρ Q else tb ρ Q
noncomputable def VP : DTA := fun _ Q => Q []
noncomputable def Ni (te : DTE) (tl : DTA) : DTA := fun ρ Q => te ρ fun d => tl ρ fun ds => Q (d :: ds)
theorem Af : DA X [] VP := ⟨fun hq h => hq _ h, PL.imp fun σ H Q ⟨B, F, O, ρ, R, q⟩ => q [] H (Same.refl H) RpL.nil⟩
theorem Aa (ha : DE X e te) (hr : DA X es tl) (hs : starEach (e :: es) X.env = (false, eval e X.env) :: starEach es X.env := by rfl) : DA X (e :: es) (Ni te tl) where
  mono := fun hq h => ha.mono (fun d h => hr.mono (fun ds h => hq _ h) h) h
  pa := (Jy ha.pe hr.pa hs).imp fun σ H Q ⟨B, F, O, ρ, R, q⟩ => ⟨B, F, O, ρ, R, ha.mono (fun d h v H1 s1 r1 => ⟨B, F, O, ρ, R.same s1, hr.mono (fun ds h vs H2 s2 r2 =>
    h (v :: vs) H2 (s1.trans s2) (RpL.cons (r1.mono s2.mask) r2)) h⟩) q⟩
noncomputable def dTup (tl : DTA) : DTE := fun ρ Q => tl ρ fun ds => ds.length ≤ sizeLine ∧ Q (.tup ds)
noncomputable def Yu (tl : DTA) : DTE := fun ρ Q => tl ρ fun ds => ds.length ≤ sizeLine ∧ Q (.lst ds)
theorem Je {O : List Addr} {H : Hp} {p : Addr} {o : HO} (hp : p ∉ O) : mask O (upd H p o) p = some o := by rw [Aq hp, Bp]
theorem Es {k} (h : DA X es tl) : DE X (.Tuple es k pos) (dTup tl) where
  mono := fun hq z => h.mono (fun ds q => ⟨q.1, hq _ q.2⟩) z
  pe := (Aco h.pa).imp fun σ H Q ⟨B, F, O, ρ, R, q⟩ => ⟨B, F, O, ρ, R, h.mono (fun ds z vs H1 s1 r1 => ⟨by rw [r1.len]; exact z.1, fun p hp => by
    have np : p ∉ F ++ O := fun m => (R.same s1).th p m hp
    exact z.2 (.ref p) _ (s1.trans (Same.upd hp)) (Dm.mpr ⟨p, vs, rfl, SqT.of (Je np), r1.mono (Same.upd hp).mask⟩)⟩) q⟩
theorem Ky (h : DA X es tl) : DE X (.List es pos) (Yu tl) where
  mono := fun hq z => h.mono (fun ds q => ⟨q.1, hq _ q.2⟩) z
  pe := (Sx h.pa).imp fun σ H Q ⟨B, F, O, ρ, R, q⟩ => ⟨B, F, O, ρ, R, h.mono (fun ds z vs H1 s1 r1 => ⟨by rw [r1.len]; exact z.1, fun p hp => by
    have np : p ∉ F ++ O := fun m => (R.same s1).th p m hp
    exact z.2 (.ref p) _ (s1.trans (Same.upd hp)) (HX ⟨p, vs, rfl, (Je np), r1.mono (Same.upd hp).mask⟩)⟩) q⟩
noncomputable abbrev DSp := List Dt → (Dt → Prop) → Prop
noncomputable def lSp (K : PySem.W.Frag) (sp : DSp) : Sp := fun vs H Q _ => ∃ F ds, (∀ a ∈ F, H a ≠ none) ∧ RpL K (mask F H) ds vs ∧ sp ds fun d => ∀ v H', Same H H' → Rp K (mask F H') d v → Q v H'
noncomputable def KJ (sp : DSp) : Prop := ∀ ds Q Q', (∀ d, Q d → Q' d) → sp ds Q → sp ds Q'
noncomputable def dCall (sp : DSp) (tl : DTA) : DTE := fun ρ Q => tl ρ fun ds => sp ds Q
theorem Yp {CX : CXT} {k : Nat} {f : Addr} {fd : FuncData} {ps : List Str} {sp : DSp} {x : Str} {p : Pos} (m : KJ sp) (G : Kc X.prog X.w X.K X.mg X.base CX0 k f fd ps (lSp X.K sp)) (hr : Gf k X.A) (hg : Gl X x) (hm : X.mg x = some (.ref f))
    (hk : PySem.W.keepIn X.K (.ref f) = true) (hb : Binds X.K fd ps []) (ha : DA X (e :: es) tl) (hdb : (x == ("__debug__" : Str)) = false := by decide)
    (he : starEach (e :: es) X.env = (false, eval e X.env) :: starEach es X.env := by rfl) (hpl : (backTo pos (starEach es X.env)).any (·.1) = false := by rfl) : DE X (.Call (.Name x p) (e :: es) [] pos) (dCall sp tl) where
  mono := fun hq z => ha.mono (fun ds q => m _ _ _ hq q) z
  pe := (Tf G hr hg hm hk hb .nil Aad ha.pa hdb he hpl).imp fun σ H Q ⟨B, F, O, ρ, R, q⟩ => ⟨B, F, O, ρ, R, ha.mono (fun ds z vs H1 s1 r1 => by
    show lSp X.K sp (vs ++ []) H1 Q E0
    rw [List.append_nil]
    exact ⟨F ++ O, ds, (R.same s1).th, r1, m _ _ _ (fun d q v H2 s2 r2 => q v H2 (s1.trans s2) r2) z⟩) q⟩
variable {st : Stmt} {sts : List Stmt} {t u : DTS}
noncomputable def Aay : DTS := fun D ρ => D.nx ρ
noncomputable def XH (t u : DTS) : DTS := fun D ρ => t { D with nx := u D } ρ
theorem Ad1 {D D' : DK} {P P' : Bj → Prop} (h : DK.le D D') (hp : ∀ ρ, P ρ → P' ρ) : DK.le { D with nx := P } { D' with nx := P' } := ⟨hp, h.rt, h.bk, h.ct⟩
theorem le_refl {D : DK} : DK.le D D := ⟨fun _ h => h, fun _ h => h, fun _ h => h, fun _ h => h⟩
theorem Bg : DSs X [] Aay := ⟨fun hd h => hd.nx _ h, Zg.imp fun D σ H ⟨B, F, O, ρ, R, h⟩ => h O σ H R⟩
theorem Ac (h1 : DS X st t) (h2 : DSs X sts u) : DSs X (st :: sts) (XH t u) where
  mono := fun hd h => h1.mono (Ad1 hd fun ρ q => h2.mono hd q) h
  ps := (WY h1.ps h2.ps).imp fun D σ H ⟨B, F, O, ρ, R, h⟩ => ⟨B, F, O, ρ, R, h1.mono (D := { lD X.K B F D with nx := u (lD X.K B F D) }) ⟨fun ρ' q O' σ' H' R' => ⟨B, F, O', ρ', R', q⟩, fun _ q => q, fun _ q => q, fun _ q => q⟩ h⟩
theorem Ag (h1 : DS X st t) : DSs X [st] t := ⟨h1.mono, Zv h1.ps⟩
noncomputable def X7 : DTS := fun _ _ => False
theorem Gh : DS X st X7 := ⟨fun _ h => h.elim, Wi.imp fun D σ H ⟨B, F, O, ρ, R, h⟩ => h.elim⟩
noncomputable def AaB (te : DTE) : DTS := fun D ρ => te ρ fun _ => D.nx ρ
theorem Ii (he : DE X e te) (hs : swapsWith e none pos.line X.env = pure false := by rfl) : DS X (.Expr e pos) (AaB te) where
  mono := fun hd h => he.mono (fun _ h => hd.nx _ h) h
  ps := (Kr he.pe hs).imp fun D σ H ⟨B, F, O, ρ, R, h⟩ => ⟨B, F, O, ρ, R, he.mono (fun d q v H1 s1 _ => q O σ H1 (R.same s1)) h⟩
noncomputable def Ady (te : DTE) : DTS := fun D ρ => te ρ D.rt
theorem XQ {F O : List Addr} {H : Hp} : Same (mask (F ++ O) H) (mask F H) := Dp fun _ h => List.mem_append_left _ h
theorem Ar (he : DE X e te) : DS X (.Return (some e) pos) (Ady te) where
  mono := fun hd h => he.mono (fun _ h => hd.rt _ h) h
  ps := (Aa1 he.pe).imp fun D σ H ⟨B, F, O, ρ, R, h⟩ => ⟨B, F, O, ρ, R, he.mono (fun d q v H1 s1 r1 => q v H1 (R.base.trans s1) (r1.mono XQ)) h⟩
noncomputable def Aea : DTS := fun D _ => D.rt .non
noncomputable def dIf (c : DTT) (t u : DTS) : DTS := fun D ρ => c ρ fun k => if k = true then t D ρ else u D ρ
theorem Cg {sa sb : List Stmt} (hc : DT X c tA) (ha : DSs X sa t) (hb : DSs X sb u) : DS X (.If c sa sb pos) (dIf tA t u) where
  mono := fun hd h => hc.mono (fun k h => by
    cases k with
    | true => exact ha.mono hd h
    | false => exact hb.mono hd h) h
  ps := (Ada hc.pt ha.ps hb.ps).imp fun D σ H ⟨B, F, O, ρ, R, h⟩ => ⟨B, F, O, ρ, R, hc.mono (fun k h H1 s1 => by
    cases k with
    | true => exact ⟨B, F, O, ρ, R.same s1, h⟩
    | false => exact ⟨B, F, O, ρ, R.same s1, h⟩) h⟩
noncomputable abbrev DTG := Dt → Bj → (Bj → Prop) → Prop
noncomputable abbrev Oo := List Dt → Bj → (Bj → Prop) → Prop
noncomputable def lG (K : PySem.W.Frag) (g : DTG) : TG := fun v σ H Q => ∃ B F O ρ d, Rep K B F O H σ ρ ∧ Rp K (mask (F ++ O) H) d v ∧ g d ρ fun ρ' => ∀ σ', Rep K B F O H σ' ρ' → Q σ' H
noncomputable def lGs (K : PySem.W.Frag) (g : Oo) : TGs := fun vs σ H Q => ∃ B F O ρ ds, Rep K B F O H σ ρ ∧ RpL K (mask (F ++ O) H) ds vs ∧ g ds ρ fun ρ' => ∀ σ', Rep K B F O H σ' ρ' → Q σ' H
structure DG (X : Cx) (tg : Expr) (g : DTG) : Prop where
  mono : ∀ {d ρ Q Q'}, (∀ ρ', Q ρ' → Q' ρ') → g d ρ Q → g d ρ Q'
  pg : PG X tg (lG X.K g)
structure DGs (X : Cx) (tgs : List Expr) (g : Oo) : Prop where
  mono : ∀ {d ρ Q Q'}, (∀ ρ', Q ρ' → Q' ρ') → g d ρ Q → g d ρ Q'
  pg : PGs X tgs (lGs X.K g)
theorem PG.imp {e : Expr} {t t' : TG} (h : PG X e t) (i : ∀ v σ H Q, t' v σ H Q → t v σ H Q) : PG X e t' := fun pins s σ H v u Q I r q => h pins s σ H v u Q I r (i _ _ _ _ q)
theorem PGs.imp {e : List Expr} {t t' : TGs} (h : PGs X e t) (i : ∀ v σ H Q, t' v σ H Q → t v σ H Q) : PGs X e t' := fun pins s σ H v u Q I r q => h pins s σ H v u Q I r (i _ _ _ _ q)
noncomputable def Sy (i : Nat) : DTG := fun d ρ Q => Q (ρ.set i (some (.is d)))
theorem CT (i : Nat) {x : Str} (hN : X.N.Nodup) (hi : X.N[i]? = some x := by rfl) (hx : Loc X.env.scope x := by first | exact Or.inl rfl | exact Or.inr rfl)
    (hf : X.fn x = true ∨ X.env.scope.names.lookup x = some .local := by first | exact .inl rfl | exact .inr rfl | assumption) : DG X (.Name x pos) (Sy i) where
  mono := fun hq h => hq _ h
  pg := (Px hN hi hx hf).imp fun v σ H Q ⟨B, F, O, ρ, d, R, r, h⟩ => h _ (R.set i r)
noncomputable def Uq : Oo := fun ds ρ Q => match ds with
  | [] => Q ρ
  | _ => False
noncomputable def Oj (g : DTG) (gs : Oo) : Oo := fun ds ρ Q => match ds with
  | d :: r => g d ρ fun ρ' => gs r ρ' Q
  | [] => False
theorem Zz : DGs X [] Uq where
  mono := fun hq h => by
    unfold Uq at h ⊢
    split at h
    · exact hq _ h
    · exact h.elim
  pg := Y8.imp fun vs σ H Q ⟨B, F, O, ρ, ds, R, r, h⟩ => by
    unfold Uq at h
    split at h
    · exact ⟨Bs.mp r, h σ R⟩
    · exact h.elim
theorem K5 {g : DTG} {gs : Oo} (h1 : DG X e g) (h2 : DGs X es gs) (hs : (assignEach (e :: es) X.env).map (·.2) = assign e X.env :: (assignEach es X.env).map (·.2) := by rfl) : DGs X (e :: es) (Oj g gs) where
  mono := fun hq h => by
    unfold Oj at h ⊢
    split at h
    · exact h1.mono (fun ρ' q => h2.mono hq q) h
    · exact h.elim
  pg := (Xh h1.pg h2.pg hs).imp fun vs σ H Q ⟨B, F, O, ρ, ds, R, r, h⟩ => by
    unfold Oj at h
    split at h
    · obtain ⟨v, vr, rfl, r1, r2⟩ := Ax.mp r
      exact ⟨v, vr, rfl, B, F, O, ρ, _, R, r1, h1.mono (fun ρ' q σ' R' => ⟨B, F, O, ρ', _, R', r2, q⟩) h⟩
    · exact h.elim
noncomputable def Uz (n : Nat) (gs : Oo) : DTG := fun d ρ Q => match d with
  | .tup ds => ds.length = n ∧ gs ds ρ Q
  | _ => False
theorem Aba {k : Nat} {gs : Oo} {n : Nat} (hc : X.calm = true) (h : DGs X es gs) (hn : (assignEach es X.env).length = n := by rfl) (hst : (assignEach es X.env).findIdx? (·.1) = none := by rfl) : DG X (.Tuple es k pos) (Uz n gs) where
  mono := fun hq z => by
    unfold Uz at z ⊢
    split at z
    · exact ⟨z.1, h.mono hq z.2⟩
    · exact z.elim
  pg := (Abz hc h.pg hn hst).imp fun v σ H Q ⟨B, F, O, ρ, d, R, r, z⟩ => by
    unfold Uz at z
    split at z
    · obtain ⟨a, xs, rfl, hs, hl⟩ := Dm.mp r
      exact ⟨a, xs, rfl, Ay.seqT hs, by rw [hl.len]; exact z.1, B, F, O, ρ, _, R, hl, z.2⟩
    · exact z.elim
noncomputable def Abp (te : DTE) (g : DTG) : DTS := fun D ρ => te ρ fun d => g d ρ D.nx
theorem Aa8 {tg : Expr} {g : DTG} (he : DE X e te) (hg : DG X tg g) (hs : swapsWithSole [tg] e pos.line X.env = pure false := by rfl) (hw : swappedStores [tg] e X.env = pure none := by rfl)
    (h1 : (assignEach [tg] X.env).map (·.2) = [assign tg X.env] := by rfl) : DS X (.Assign [tg] e pos) (Abp te g) where
  mono := fun hd h => he.mono (fun _ h => hg.mono (fun _ h => hd.nx _ h) h) h
  ps := (WR he.pe hg.pg hs hw h1).imp fun D σ H ⟨B, F, O, ρ, R, h⟩ => ⟨B, F, O, ρ, R, he.mono (fun d q v H1 s1 r1 => ⟨B, F, O, ρ, d, R.same s1, r1, hg.mono (fun ρ' q σ' R' => q O σ' H1 R') q⟩) h⟩
noncomputable def Ws (c : DTT) (tb : DTS) : DTS := fun D ρ => ∃ W : Nat → Bj → Prop, (∃ m, W m ρ) ∧ ∀ m ρ, W m ρ →
  c ρ fun k => if k = true then tb { D with nx := fun ρ' => ∃ m', m' < m ∧ W m' ρ', ct := fun ρ' => ∃ m', m' < m ∧ W m' ρ', bk := D.nx } ρ else D.nx ρ
theorem Er {body : List Stmt} (hp : PassesOwn (model X.prog X.w) X.A X.env X.xe) (hc : DT X c tA) (hb : DSs X body t) : DS X (.While c body [] pos) (Ws tA t) where
  mono := fun {ρ D D'} hd ⟨W, h0, h⟩ => ⟨W, h0, fun m ρ w => hc.mono (fun k h => by
    cases k with
    | true => exact hb.mono (D := { D with nx := fun ρ' => ∃ m', m' < m ∧ W m' ρ', ct := fun ρ' => ∃ m', m' < m ∧ W m' ρ', bk := D.nx }) ⟨fun _ q => q, hd.rt, hd.nx, fun _ q => q⟩ h
    | false => exact hd.nx _ h) (h m ρ w)⟩
  ps := (Xe hp hc.pt hb.ps).imp fun D σ H ⟨B, F, O, ρ, R, W, ⟨m0, w0⟩, h⟩ => by
    refine ⟨fun m σ H => ∃ O ρ, Rep X.K B F O H σ ρ ∧ W m ρ, ⟨m0, O, ρ, R, w0⟩, ?_⟩
    rintro m σ H ⟨O, ρ, R, w⟩
    refine ⟨B, F, O, ρ, R, hc.mono (fun k h H1 s1 => ?_) (h m ρ w)⟩
    cases k with
    | true =>
      refine ⟨fun σ' H' => ∃ m', m' < m ∧ ∃ O ρ, Rep X.K B F O H' σ' ρ ∧ W m' ρ, fun σ' H' ⟨m', l, q⟩ => ⟨m', l, q⟩, B, F, O, ρ, R.same s1, hb.mono (D := { lD X.K B F D with nx := fun ρ' => ∃ m', m' < m ∧ W m' ρ', ct := fun ρ' => ∃ m', m' < m ∧ W m' ρ', bk := (lD X.K B F D).nx }) ⟨?_, fun _ q => q, fun _ q => q, ?_⟩ h⟩
      · rintro ρ' ⟨m', l, w'⟩ O' σ' H' R'
        exact ⟨m', l, O', ρ', R', w'⟩
      · rintro ρ' ⟨m', l, w'⟩ O' σ' H' R'
        exact ⟨m', l, O', ρ', R', w'⟩
    | false => exact h O σ H1 (R.same s1)
noncomputable def ItD (K : PySem.W.Frag) (M : Hp) (J : It) (items : List Dt) : Prop := ∀ H, Same M H →
  (∀ (k : Nat) d, items[k]? = some d → J.go k H ∧ ∀ x H', J.yld k H x H' → H' = H ∧ Rp K M d x) ∧ J.stop items.length H
noncomputable abbrev DTI := Bj → (List Dt → Prop) → Prop
noncomputable def lI (K : PySem.W.Frag) (ti : DTI) : TI := fun σ H R => ∃ B F O ρ, Rep K B F O H σ ρ ∧ ti ρ fun items => ∀ J H', Same H H' → ItD K (mask (F ++ O) H') J items → R J H'
structure DI (X : Cx) (tg iter : Expr) (ti : DTI) : Prop where
  mono : ∀ {ρ Q Q'}, (∀ d, Q d → Q' d) → ti ρ Q → ti ρ Q'
  pi : PI X tg iter (lI X.K ti)
theorem PI.imp {tg e : Expr} {t t' : TI} (h : PI X tg e t) (i : ∀ σ H Q, t' σ H Q → t σ H Q) : PI X tg e t' := fun pins s σ H R I q => h pins s σ H R I (i _ _ _ q)
noncomputable def ZF (ti : DTI) (g : DTG) (tb : DTS) : DTS := fun D ρ => ti ρ fun items => ∃ W : Nat → Bj → Prop, W 0 ρ ∧
  (∀ (k : Nat) d ρ', items[k]? = some d → W k ρ' → g d ρ' fun ρ2 => tb { D with nx := W (k + 1), ct := W (k + 1), bk := D.nx } ρ2) ∧ ∀ ρ', W items.length ρ' → D.nx ρ'
theorem Rep.rebase {K : PySem.W.Frag} {B : Hp} {F O : List Addr} {H : Hp} {σ : St} {ρ : Bj} (r : Rep K B F O H σ ρ) : Rep K (mask O H) F O H σ ρ :=
  ⟨r.len, Ay, fun _ h => CV h, r.th, r.is, r.own, r.inj, r.tab, r.tinj, r.raw⟩
theorem Rep.unbase {K : PySem.W.Frag} {B B' : Hp} {F O O' : List Addr} {H H' : Hp} {σ σ' : St} {ρ ρ' : Bj} (r : Rep K B F O H σ ρ) (r' : Rep K (mask O H) F O' H' σ' ρ') : Rep K B F O' H' σ' ρ' := by
  have s : Same B (mask O H) := fun a o e => by
    rw [Aq]
    · exact r.base a o e
    · intro z; rw [r.fr a z] at e; cases e
  refine ⟨r'.len, s.trans r'.base, fun a h => ?_, r'.th, r'.is, r'.own, r'.inj, r'.tab, r'.tinj, r'.raw⟩
  cases q : B a with
  | none => rfl
  | some o => have := s a o q; rw [r'.fr a h] at this; cases this
theorem Rep.sub {K : PySem.W.Frag} {B : Hp} {F O : List Addr} {H : Hp} {σ : St} {ρ : Bj} (r : Rep K B F O H σ ρ) : Same B (mask O H) := fun a o e => by
  rw [Aq]
  · exact r.base a o e
  · intro z; rw [r.fr a z] at e; cases e
theorem Ve {F O : List Addr} {H : Hp} : mask F (mask O H) = mask (F ++ O) H := by
  funext a
  by_cases h1 : a ∈ F
  · rw [CV h1, CV (List.mem_append_left _ h1)]
  · rw [Aq h1]
    by_cases h2 : a ∈ O
    · rw [CV h2, CV (List.mem_append_right _ h2)]
    · rw [Aq h2, Aq fun z => (List.mem_append.mp z).elim h1 h2]
theorem FW {tg iter : Expr} {body : List Stmt} {ti : DTI} {g : DTG} (hp : PassesOwn (model X.prog X.w) X.A X.env X.xe) (hc : X.calm = true) (hi : DI X tg iter ti) (hg : DG X tg g) (hb : DSs X body t)
    (hs : ∀ x, foldedSetIterable iter X.env x = pure x := by intro _; rfl) : DS X (.For tg iter body [] pos) (ZF ti g t) where
  mono := fun {ρ D D'} hd h => hi.mono (fun items ⟨W, h0, h, he⟩ => ⟨W, h0, fun k d ρ' e w => hg.mono (fun ρ2 q => hb.mono (D := { D with nx := W (k + 1), ct := W (k + 1), bk := D.nx }) ⟨fun _ q => q, hd.rt, hd.nx, fun _ q => q⟩ q) (h k d ρ' e w), fun ρ' w => hd.nx _ (he ρ' w)⟩) h
  ps := (Xm hp hc hi.pi hg.pg hb.ps hs).imp fun D σ H ⟨B, F, O, ρ, R, h⟩ => by
    refine ⟨B, F, O, ρ, R, hi.mono (fun items z J H1 s1 it => ?_) h⟩
    obtain ⟨W, h0, h, he⟩ := z
    have R1 := R.same s1
    refine ⟨fun i m σ H => m + i = items.length ∧ ∃ O' ρ', Rep X.K (mask O H1) F O' H σ ρ' ∧ W i ρ', ⟨items.length, by omega, O, ρ, R1.rebase, h0⟩, ?_⟩
    rintro i m σ2 H2 ⟨hm, O', ρ', R2, w⟩
    have sb : Same (mask (F ++ O) H1) H2 := fun a o e => R2.base a o (by
      obtain ⟨q, e⟩ := Bw e
      rw [Aq fun z => q (List.mem_append_right _ z)]; exact e)
    obtain ⟨go, stop⟩ := it H2 sb
    by_cases hlt : i < items.length
    · refine .inr ⟨(go i items[i] (by simp [hlt])).1, fun σ' H' => ∃ O' ρ', Rep X.K (mask O H1) F O' H' σ' ρ' ∧ W (i + 1) ρ', fun σ' H' q => ⟨m - 1, by omega, by omega, q⟩, fun x H3 y => ?_⟩
      obtain ⟨e, r⟩ := (go i items[i] (by simp [hlt])).2 x H3 y
      subst e
      have r' : Rp X.K (mask (F ++ O') H3) items[i] x := r.mono (by rw [← Ve]; exact R2.below)
      refine ⟨_, F, O', ρ', _, R2, r', hg.mono (fun ρ2 q σ3 R3 => ⟨_, F, O', ρ2, R3, hb.mono (D := { lD X.K B F D with nx := W (i + 1), ct := W (i + 1), bk := (lD X.K B F D).nx }) ⟨?_, ?_, ?_, ?_⟩ q⟩) (h i _ ρ' (by simp [hlt]) w)⟩
      · exact fun ρ4 w4 O4 σ4 H4 R4 => ⟨O4, ρ4, R4, w4⟩
      · exact fun d q v H4 s4 r4 => q v H4 (R1.sub.trans s4) r4
      · exact fun ρ4 q O4 σ4 H4 R4 => q O4 σ4 H4 (R1.unbase (B' := B) R4)
      · exact fun ρ4 w4 O4 σ4 H4 R4 => ⟨O4, ρ4, R4, w4⟩
    · have e : i = items.length := by omega
      subst e
      exact .inl ⟨stop, he ρ' w O' σ2 H2 (R1.unbase (B' := B) R2)⟩
noncomputable def Aax (te : DTE) : DTI := fun ρ Q => te ρ fun d => match d with
  | .lst ds => Q ds
  | _ => False
noncomputable def Aaj (te : DTE) : DTI := fun ρ Q => te ρ fun d => match d with
  | .tup ds => Q ds
  | _ => False
theorem Iw {tg : Expr} (h : DE X e te) : DI X tg e (Aax te) where
  mono := fun hq z => h.mono (fun d z => by
    split at z
    · exact hq _ z
    · exact z.elim) z
  pi := (Ux h.pe).imp fun σ H Q ⟨B, F, O, ρ, R, z⟩ => ⟨B, F, O, ρ, R, h.mono (fun d z v H1 s1 r1 => by
    split at z
    · obtain ⟨a, xs, rfl, hs, hl⟩ := Ds r1
      refine ⟨a, rfl, ⟨xs, Ay.seq hs⟩, z _ H1 s1 fun H2 s2 => ⟨fun k d e => ?_, xs, s2.seq hs, by rw [hl.len]; exact Nat.le_refl _⟩⟩
      obtain ⟨x, e1, e2⟩ := hl.get e
      refine ⟨⟨xs, x, s2.seq hs, e1⟩, fun y H3 ⟨e3, e4⟩ => ⟨e3, ?_⟩⟩
      have e5 := e4 xs (s2.seq hs)
      rw [e1] at e5; cases e5; exact e2
    · exact z.elim) z⟩
theorem Abh {tg : Expr} (h : DE X e te) : DI X tg e (Aaj te) where
  mono := fun hq z => h.mono (fun d z => by
    split at z
    · exact hq _ z
    · exact z.elim) z
  pi := (Abs h.pe).imp fun σ H Q ⟨B, F, O, ρ, R, z⟩ => ⟨B, F, O, ρ, R, h.mono (fun d z v H1 s1 r1 => by
    split at z
    · obtain ⟨a, xs, rfl, hs, hl⟩ := Dm.mp r1
      refine ⟨a, rfl, ⟨xs, Ay.seqT hs⟩, z _ H1 s1 fun H2 s2 => ⟨fun k d e => ?_, xs, s2.seqT hs, by rw [hl.len]; exact Nat.le_refl _⟩⟩
      obtain ⟨x, e1, e2⟩ := hl.get e
      refine ⟨⟨xs, x, s2.seqT hs, e1⟩, fun y H3 ⟨e3, e4⟩ => ⟨e3, ?_⟩⟩
      have e5 := e4 xs (s2.seqT hs)
      rw [e1] at e5; cases e5; exact e2
    · exact z.elim) z⟩
noncomputable def ups (lo : Int) (n : Nat) : List Dt := (List.range n).map fun i => .int (lo + (i : Nat))
theorem Gw {lo : Int} {n : Nat} : (ups lo n).length = n := by simp [ups]
theorem GF {lo : Int} {n k : Nat} {d : Dt} (h : (ups lo n)[k]? = some d) : k < n ∧ d = .int (lo + (k : Nat)) := by
  unfold ups at h
  rw [List.getElem?_map] at h
  by_cases hk : k < n
  · rw [List.getElem?_range hk] at h
    exact ⟨hk, (Option.some.inj h).symm⟩
  · rw [List.getElem?_eq_none (by simpa using hk)] at h; cases h
theorem U7 {K : PySem.W.Frag} {M : Hp} {lo : Int} {n : Nat} : ItD K M (Itr lo n) (ups lo n) := fun H _ => by
  refine ⟨fun k d e => ?_, ?_⟩
  · obtain ⟨hk, rfl⟩ := GF e
    exact ⟨hk, fun x H' y => ⟨y.1, Ba.mpr y.2⟩⟩
  · rw [Gw]; exact Nat.le_refl n
noncomputable def AbW (tl : DTA) : DTI := fun ρ Q => tl ρ fun ds => match ds with
  | [.int j] => (-(2 ^ 62) ≤ j ∧ j < 2 ^ 62) ∧ Q (ups 0 j.toNat)
  | _ => False
noncomputable def Wl (tl : DTA) : DTI := fun ρ Q => tl ρ fun ds => match ds with
  | [.int i, .int j] => (-(2 ^ 62) ≤ i ∧ i < 2 ^ 62 ∧ -(2 ^ 62) ≤ j ∧ j < 2 ^ 62) ∧ Q (ups i (j - i).toNat)
  | _ => False
theorem HJ {tg : Expr} {p : Pos} (hg : Gl X "range") (hm : X.mg "range" = none) (ha : DA X [a, b] tl) (hs : starEach [a, b] X.env = [(false, eval a X.env), (false, eval b X.env)] := by rfl) (hs2 : starEach [b] X.env = [(false, eval b X.env)] := by rfl) :
    DI X tg (.Call (.Name "range" p) [a, b] [] pos) (Wl tl) where
  mono := fun hq z => ha.mono (fun d z => by
    split at z
    · exact ⟨z.1, hq _ z.2⟩
    · exact z.elim) z
  pi := (VN hg hm ha.pa hs hs2).imp fun σ H Q ⟨B, F, O, ρ, R, z⟩ => ⟨B, F, O, ρ, R, ha.mono (fun d z vs H1 s1 r1 => by
    split at z
    · obtain ⟨v, r, rfl, r2, r3⟩ := Ax.mp r1
      obtain ⟨v', r', rfl, r4, r5⟩ := Ax.mp r3
      rw [Bs.mp r5, Ba.mp r2, Ba.mp r4]
      exact ⟨_, _, rfl, z.1, z.2 _ H1 s1 U7⟩
    · exact z.elim) z⟩
end
noncomputable def DQ (N : List Str) (ds : List Dt) : Bj := ds.map (fun d => some (.is d)) ++ List.replicate (N.length - ds.length) none
theorem Vl {K : PySem.W.Frag} {F : List Addr} {H : Hp} {N : List Str} {ds : List Dt} {vs : List V} (hF : ∀ a ∈ F, H a ≠ none) (r : RpL K (mask F H) ds vs) : Rep K H F [] H (start N vs) (DQ N ds) := by
  have hl := r.len
  have noown : ∀ (i : Nat) (es : En), (∀ z, es ≠ .is z) → (DQ N ds)[i]? = some (some es) → False := fun i es nz e => by
    unfold DQ at e
    by_cases hi : i < ds.length
    · rw [List.getElem?_append_left (by simpa using hi), List.getElem?_map] at e
      cases q : ds[i]? with
      | none => rw [q] at e; cases e
      | some d => rw [q] at e; cases e; exact nz d rfl
    · rw [List.getElem?_append_right (by simpa using hi), List.getElem?_replicate] at e
      split at e <;> cases e
  refine ⟨?_, Same.refl H, fun a h => (nomatch h), fun a h => hF a (by simpa using h), fun i d e => ?_, fun i es e => (noown i _ (fun _ z => by cases z) e).elim, fun i j es es' a h1 => (noown i _ (fun _ z => by cases z) h1).elim, fun i es e => (noown i _ (fun _ z => by cases z) e).elim, fun i j es es' a h1 => (noown i _ (fun _ z => by cases z) h1).elim, fun i v e => (noown i _ (fun _ z => by cases z) e).elim⟩
  · unfold start DQ; simp [hl]
  · unfold DQ at e
    by_cases hi : i < ds.length
    · rw [List.getElem?_append_left (by simpa using hi), List.getElem?_map] at e
      cases q : ds[i]? with
      | none => rw [q] at e; cases e
      | some d' =>
        rw [q] at e; cases e
        obtain ⟨v, e1, e2⟩ := r.get q
        refine ⟨v, ?_, by rw [List.append_nil]; exact e2⟩
        unfold start
        rw [List.getElem?_append_left (by simp; omega), List.getElem?_map, e1]; rfl
    · rw [List.getElem?_append_right (by simpa using hi), List.getElem?_replicate] at e
      split at e <;> cases e
section
variable {P : Program} {w : World} {K : PySem.W.Frag} {mg : Str → Option Value} {base : Heap}
theorem Fun.okD {x qual : Str} {st : Stmt} {f : Addr} {fd : FuncData} {N ps : List Str} {k : Nat} {sp : DSp} (F : Fun K x qual st f fd) (S : Al N ps (Ai st)) (len : ∀ ds Q, sp ds Q → ds.length = ps.length)
    (hbody : ∀ (cdv : Value) (A : Around) (outer : List Env) (s : Shared) (H : Hp) (E : XK), Gf k (A.deeper (envOfC qual (Ai st) s.heap.objs.size f cdv)) →
      ∃ t, DSs (Ss CX0 P w K mg base N qual (Ai st) f cdv A outer s H E).nox (DR st) t ∧ ∀ ds Q, sp ds Q → t { nx := fun _ => Q .non, rt := Q } (DQ N ds)) : Kc P w K mg base CX0 (k + 1) f fd ps (lSp K sp) := by
  refine F.ok S (fun vs H Q E ⟨F, ds, _, r, h⟩ => by rw [r.len]; exact len _ _ h) fun cdv A outer s H vs Q E hr ⟨F', ds, hF, r, h⟩ => ?_
  obtain ⟨t, T, q⟩ := hbody cdv A outer s H E hr
  refine ⟨_, T.ps, H, F', [], DQ N ds, Vl hF r, T.mono (D := { nx := fun _ => ∀ v H', Same H H' → Rp K (mask F' H') .non v → Q v H', rt := fun d => ∀ v H', Same H H' → Rp K (mask F' H') d v → Q v H' }) ⟨?_, ?_, fun _ z => False.elim z, fun _ z => False.elim z⟩ (q ds _ h)⟩
  · exact fun ρ z O' σ' H' R' => z .non H' R'.base (Ot.mpr rfl)
  · exact fun d z v H' s' r' => z v H' s' r'
end
end L2
namespace L2
open PySem PySem.Spec PyProof.Rows PySem.SeqAt
structure FnT (K : PySem.W.Frag) (mg : Str → Option Value) (x : Str) (st : Stmt) (ps : List Str) (f : Addr) (fd : FuncData) : Prop where
  fn : Fun K x x st f fd
  mg : mg x = some (.ref f)
  bd : Binds K fd ps []
noncomputable def Pm (P : Program) (w : World) (K : PySem.W.Frag) (mg : Str → Option Value) (base : Heap) (k : Nat) (x : Str) (st : Stmt) (ps : List Str) (sp : DSp) : Prop :=
  ∃ f fd, FnT K mg x st ps f fd ∧ Kc P w K mg base CX0 k f fd ps (lSp K sp)
theorem Fun.uniq {K : PySem.W.Frag} {x q : Str} {st : Stmt} {f : Addr} {fd fd' : FuncData} (a : Fun K x q st f fd) (b : Fun K x q st f fd') : fd = fd' := by
  obtain ⟨oc, od, kV, doc, pm, an, cdv, ct, osl, _, h1, _⟩ := a.ex
  obtain ⟨oc', od', kV', doc', pm', an', cdv', ct', osl', _, h2, _⟩ := b.ex
  rw [h1] at h2
  injection h2 with h2
  injection h2 with _ _ h2 _
  injection h2
noncomputable def spec {τ : Type} (args : τ → List Dt) (pre : τ → Prop) (post : τ → Dt → Prop) : DSp := fun ds Q => ∃ p, ds = args p ∧ pre p ∧ ∀ d, post p d → Q d
theorem Ae {τ : Type} {args : τ → List Dt} {pre : τ → Prop} {post : τ → Dt → Prop} : KJ (spec args pre post) := fun _ _ _ hq ⟨p, e, h, q⟩ => ⟨p, e, h, fun d z => hq _ (q d z)⟩
noncomputable abbrev CW {τ : Type} (args : τ → List Dt) (pre : τ → Prop) (val : τ → Dt) : DSp := spec args pre fun p d => d = val p
noncomputable abbrev T2 (a b : Int) : Dt := .tup [.int a, .int b]
noncomputable abbrev T3 (a b c : Int) : Dt := .tup [.int a, .int b, .int c]
noncomputable abbrev T4 (a b c d : Int) : Dt := .tup [.int a, .int b, .int c, .int d]
noncomputable def Aan : DSp := spec (fun ns : List Int => [.lst (ns.map Dt.int)]) (fun ns => ns.length ≤ 63) fun _ d => d = .bl true
theorem WT {H : Hp} : mask [] H = H := by funext a; exact Aq (by simp)
theorem U4 {K : PySem.W.Frag} {H : Hp} {a : Addr} {ns : List Int} {E : XK} (hl : ns.length ≤ 63) (hS : SqL K H a (ns.map V.int)) : lSp K Aan [.ref a] H (fun v _ => v = .bl true) E :=
  ⟨[], [.lst (ns.map Dt.int)], fun _ h => (nomatch h), RpL.cons (ZP (by rw [WT]; exact hS) (RpL.ints ns)) RpL.nil, ns, rfl, hl, fun d e v H' s r => by subst e; exact CG.mp r⟩
section
variable {X : Cx} {a b c e : Expr} {es : List Expr} {ta tb tc te : DTE} {tA tB : DTT} {tl : DTA} {pos : Pos}
theorem Ah {k : Nat} {ps : List Str} {sp : DSp} {x : Str} {stx : Stmt} {p : Pos} (m : KJ sp) (G : Pm X.prog X.w X.K X.mg X.base k x stx ps sp) (hr : Gf k X.A) (hg : Gl X x)
    (ha : DA X (e :: es) tl) (hdb : (x == ("__debug__" : Str)) = false := by decide)
    (he : starEach (e :: es) X.env = (false, eval e X.env) :: starEach es X.env := by rfl) (hpl : (backTo pos (starEach es X.env)).any (·.1) = false := by rfl) : DE X (.Call (.Name x p) (e :: es) [] pos) (dCall sp tl) := by
  obtain ⟨f, fd, F, G⟩ := G
  exact Yp (CX := CX0) m G hr hg F.mg F.fn.kp F.bd ha hdb he hpl
theorem Av (i : Nat) {x : Str} {pos' : Pos} (hN : X.N.Nodup) (he : DE X e te) (hi : X.N[i]? = some x := by rfl) (hx : Loc X.env.scope x := by first | exact Or.inl rfl | exact Or.inr rfl) (hs : swapsWith e (some (.Name x pos')) pos.line X.env = pure false := by rfl)
    (hf : X.fn x = true ∨ X.env.scope.names.lookup x = some .local := by first | exact .inl rfl | exact .inr rfl | assumption) : DS X (.Assign [.Name x pos'] e pos) (Abp te (Sy i)) where
  mono := fun hd h => he.mono (fun _ h => hd.nx _ h) h
  ps := (Ou hN hi hx he.pe hs hf).imp fun D σ H ⟨B, F, O, ρ, R, h⟩ => ⟨B, F, O, ρ, R, he.mono (fun d q v H1 s1 r1 => q O _ H1 ((R.same s1).set i r1)) h⟩
noncomputable def Z5 (i j : Nat) (tl : DTA) : DTS := fun D ρ => tl ρ fun ds => match ds with
  | [d, e] => D.nx ((ρ.set i (some (.is d))).set j (some (.is e)))
  | _ => False
theorem YJ {x y : Str} {px py pt : Pos} {kt k2 pt2} (hc : X.calm = true) (hN : X.N.Nodup) (i j : Nat) (ha : DA X [a, b] tl) (hi : X.N[i]? = some x := by rfl) (hj : X.N[j]? = some y := by rfl) (hij : i ≠ j := by decide)
    (hx : X.env.scope.names.lookup x = some .local := by rfl) (hy : X.env.scope.names.lookup y = some .local := by rfl)
    (hw : swappedStores [.Tuple [.Name x px, .Name y py] kt pt] (.Tuple [a, b] k2 pt2) X.env = pure (some [x, y]) := by rfl)
    (hs : swapsWithSole [.Tuple [.Name x px, .Name y py] kt pt] (.Tuple [a, b] k2 pt2) pos.line X.env = pure false := by rfl) :
    DS X (.Assign [.Tuple [.Name x px, .Name y py] kt pt] (.Tuple [a, b] k2 pt2) pos) (Z5 i j tl) where
  mono := fun hd h => ha.mono (fun ds h => by
    split at h
    · exact hd.nx _ h
    · exact h.elim) h
  ps := (Aa0 hc hN hi hj hij hx hy ha.pa hw hs).imp fun D σ H ⟨B, F, O, ρ, R, h⟩ => ⟨B, F, O, ρ, R, ha.mono (fun ds q vs H1 s1 r1 => by
    split at q
    · obtain ⟨v, r, rfl, r2, r3⟩ := Ax.mp r1
      obtain ⟨v', r', rfl, r4, r5⟩ := Ax.mp r3
      obtain rfl := Bs.mp r5
      exact ⟨v, v', rfl, q O _ H1 (((R.same s1).set i r2).set j r4)⟩
    · exact q.elim) h⟩
mutual
noncomputable def Dt.py : Dt → PyData
  | .non => .none
  | .bl b => .bool b
  | .int i => .int i
  | .str x => .str x
  | .tup ds => .tuple (Dt.pys ds)
  | .lst ds => .list (Dt.pys ds)
  | .fn _ => .dict []
  | .exc _ _ _ => .dict []
  | .obj _ _ _ => .dict []
noncomputable def Dt.pys : List Dt → List PyData
  | [] => []
  | d :: ds => d.py :: Dt.pys ds
end
mutual
theorem Ft {X : Cx} {pins : List (Addr × Obj)} {σ : St} {H : Hp} {s : Shared} (I : Inv X pins σ H s) : ∀ {d : Dt} {v : V} {u : Value}, d.py.canLay0 = true → Rp X.K H d v → RelV v u → ∃ as, Reads s.heap u d.py as
  | .non, v, u, _, h, r => by rw [Ot.mp h] at r; cases (show u = .none from r); exact ⟨_, by rw [Dt.py]; exact .none⟩
  | .bl b, v, u, _, h, r => by rw [CG.mp h] at r; cases (show u = .bool b from r); exact ⟨_, by rw [Dt.py]; exact .bool b⟩
  | .int i, v, u, _, h, r => by rw [Ba.mp h] at r; obtain ⟨t, rfl⟩ := r; exact ⟨_, by rw [Dt.py]; exact .int i t⟩
  | .str x, v, u, _, h, r => by rw [Oz.mp h] at r; obtain ⟨t, rfl⟩ := r; exact ⟨_, by rw [Dt.py]; exact .str x t⟩
  | .fn a, v, u, c, h, r => by rw [Dt.py] at c; exact (nomatch c)
  | .exc _ _ _, v, u, c, h, r => by rw [Dt.py] at c; exact (nomatch c)
  | .obj _ _ _, v, u, c, h, r => by rw [Dt.py] at c; exact (nomatch c)
  | .tup ds, v, u, c, h, r => by
    obtain ⟨a, xs, rfl, hs, hl⟩ := Dm.mp h
    cases (show u = .ref a from r)
    obtain ⟨its, rv, ⟨o, h1, h2, n, h3⟩, _⟩ := I.tuple hs
    rw [Dt.py] at c
    obtain ⟨as, ra⟩ := JG I (ds := ds) (by simpa [PyData.canLay0] using c) hl rv
    exact ⟨_, by rw [Dt.py]; exact .tuple h1 h2 h3 (by simpa using ra)⟩
  | .lst ds, v, u, c, h, r => by
    obtain ⟨a, xs, rfl, hs, hl⟩ := Ds h
    cases (show u = .ref a from r)
    obtain ⟨its, rv, ⟨o, n, h1, h2, _, h3⟩, _⟩ := I.list hs
    rw [Dt.py] at c
    obtain ⟨as, ra⟩ := JG I (ds := ds) (by simpa [PyData.canLay0] using c) hl rv
    exact ⟨_, by rw [Dt.py]; exact .list h1 h2 h3 (by simpa using ra)⟩
theorem JG {X : Cx} {pins : List (Addr × Obj)} {σ : St} {H : Hp} {s : Shared} (I : Inv X pins σ H s) : ∀ {ds : List Dt} {vs : List V} {us : List Value}, PyData.canLayAll0 (Dt.pys ds) = true → RpL X.K H ds vs → Vals vs us → ∃ as, ReadsAll s.heap us (Dt.pys ds) as
  | [], vs, us, _, h, r => by rw [Bs.mp h] at r; cases r; exact ⟨_, by rw [Dt.pys]; exact .nil⟩
  | d :: ds, vs, us, c, h, r => by
    obtain ⟨v, vr, rfl, h1, h2⟩ := Ax.mp h
    rw [Dt.pys] at c
    have c' : d.py.canLay0 = true ∧ PyData.canLayAll0 (Dt.pys ds) = true := by simpa [PyData.canLayAll0] using c
    cases r with
    | cons r1 r2 =>
      obtain ⟨as, ra⟩ := Ft I c'.1 h1 r1
      obtain ⟨bs, rb⟩ := JG I c'.2 h2 r2
      exact ⟨_, by rw [Dt.pys]; exact .cons ra rb⟩
end
mutual
noncomputable def Dt.eq : Dt → Dt → Bool
  | .non, .non => true
  | .bl a, .bl b => a == b
  | .bl a, .int j => (if a then 1 else 0) == j
  | .int i, .bl b => i == (if b then 1 else 0)
  | .int i, .int j => decide (i = j)
  | .str x, .str y => x == y
  | .tup xs, .tup ys => Dt.eqs xs ys
  | .lst xs, .lst ys => Dt.eqs xs ys
  | _, _ => false
noncomputable def Dt.eqs : List Dt → List Dt → Bool
  | [], [] => true
  | x :: xs, y :: ys => Dt.eq x y && Dt.eqs xs ys
  | _, _ => false
end
mutual
noncomputable def Dt.flat : Nat → Dt → Bool
  | _, .fn _ => false
  | _, .exc _ _ _ => false
  | _, .obj _ _ _ => false
  | _, .str x => (PyData.str x).canLay0
  | 0, .tup _ => false
  | 0, .lst _ => false
  | n + 1, .tup ds => Dt.flats n ds
  | n + 1, .lst ds => Dt.flats n ds
  | _, _ => true
noncomputable def Dt.flats : Nat → List Dt → Bool
  | _, [] => true
  | n, d :: ds => Dt.flat n d && Dt.flats n ds
end
mutual
theorem Fv : ∀ (d : Dt) (n : Nat), d.flat n = true → d.py.canLay0 = true ∧ d.py.depth ≤ n
  | .non, n, h => by rw [Dt.py]; exact ⟨rfl, Nat.zero_le _⟩
  | .bl _, n, h => by rw [Dt.py]; exact ⟨rfl, Nat.zero_le _⟩
  | .int _, n, h => by rw [Dt.py]; exact ⟨rfl, Nat.zero_le _⟩
  | .str _, n, h => by rw [Dt.py]; exact ⟨by simpa [Dt.flat] using h, Nat.zero_le _⟩
  | .fn _, n, h => by simp [Dt.flat] at h
  | .exc _ _ _, n, h => by simp [Dt.flat] at h
  | .obj _ _ _, n, h => by simp [Dt.flat] at h
  | .tup ds, 0, h => by simp [Dt.flat] at h
  | .lst ds, 0, h => by simp [Dt.flat] at h
  | .tup ds, n + 1, h => by
    have := JF ds n (by simpa [Dt.flat] using h)
    rw [Dt.py]
    exact ⟨by simpa [PyData.canLay0] using this.1, by simpa [PyData.depth] using this.2⟩
  | .lst ds, n + 1, h => by
    have := JF ds n (by simpa [Dt.flat] using h)
    rw [Dt.py]
    exact ⟨by simpa [PyData.canLay0] using this.1, by simpa [PyData.depth] using this.2⟩
theorem JF : ∀ (ds : List Dt) (n : Nat), Dt.flats n ds = true → PyData.canLayAll0 (Dt.pys ds) = true ∧ PyData.depthAll (Dt.pys ds) ≤ n
  | [], n, h => by rw [Dt.pys]; exact ⟨rfl, Nat.zero_le _⟩
  | d :: ds, n, h => by
    have h' : d.flat n = true ∧ Dt.flats n ds = true := by simpa [Dt.flats] using h
    have h1 := Fv d n h'.1
    have h2 := JF ds n h'.2
    rw [Dt.pys]
    exact ⟨by simp [PyData.canLayAll0, h1.1, h2.1], by simp only [PyData.depthAll]; omega⟩
end
mutual
theorem PB : ∀ (a b : Dt), a.py.canLay0 = true → b.py.canLay0 = true → PyData.eqv a.py b.py = a.eq b
  | .fn _, b, h, _ => by rw [Dt.py] at h; exact (nomatch h)
  | .exc _ _ _, b, h, _ => by rw [Dt.py] at h; exact (nomatch h)
  | .obj _ _ _, b, h, _ => by rw [Dt.py] at h; exact (nomatch h)
  | a, .fn _, _, h => by rw [Dt.py] at h; exact (nomatch h)
  | a, .exc _ _ _, _, h => by rw [Dt.py] at h; exact (nomatch h)
  | a, .obj _ _ _, _, h => by rw [Dt.py] at h; exact (nomatch h)
  | .non, .non, _, _ => by simp [Dt.py, Dt.eq, PyData.eqv]
  | .non, .bl _, _, _ => by simp [Dt.py, Dt.eq, PyData.eqv]
  | .non, .int _, _, _ => by simp [Dt.py, Dt.eq, PyData.eqv]
  | .non, .str _, _, _ => by simp [Dt.py, Dt.eq, PyData.eqv]
  | .non, .tup _, _, _ => by simp [Dt.py, Dt.eq, PyData.eqv]
  | .non, .lst _, _, _ => by simp [Dt.py, Dt.eq, PyData.eqv]
  | .bl _, .non, _, _ => by simp [Dt.py, Dt.eq, PyData.eqv]
  | .bl _, .bl _, _, _ => by simp [Dt.py, Dt.eq, PyData.eqv]
  | .bl _, .int _, _, _ => by simp [Dt.py, Dt.eq, PyData.eqv]
  | .bl _, .str _, _, _ => by simp [Dt.py, Dt.eq, PyData.eqv]
  | .bl _, .tup _, _, _ => by simp [Dt.py, Dt.eq, PyData.eqv]
  | .bl _, .lst _, _, _ => by simp [Dt.py, Dt.eq, PyData.eqv]
  | .int _, .non, _, _ => by simp [Dt.py, Dt.eq, PyData.eqv]
  | .int _, .bl _, _, _ => by simp [Dt.py, Dt.eq, PyData.eqv]
  | .int i, .int j, _, _ => by
    simp only [Dt.py, Dt.eq, PyData.eqv]
    exact Bool.beq_eq_decide_eq i j
  | .int _, .str _, _, _ => by simp [Dt.py, Dt.eq, PyData.eqv]
  | .int _, .tup _, _, _ => by simp [Dt.py, Dt.eq, PyData.eqv]
  | .int _, .lst _, _, _ => by simp [Dt.py, Dt.eq, PyData.eqv]
  | .str _, .non, _, _ => by simp [Dt.py, Dt.eq, PyData.eqv]
  | .str _, .bl _, _, _ => by simp [Dt.py, Dt.eq, PyData.eqv]
  | .str _, .int _, _, _ => by simp [Dt.py, Dt.eq, PyData.eqv]
  | .str _, .str _, _, _ => by simp [Dt.py, Dt.eq, PyData.eqv]
  | .str _, .tup _, _, _ => by simp [Dt.py, Dt.eq, PyData.eqv]
  | .str _, .lst _, _, _ => by simp [Dt.py, Dt.eq, PyData.eqv]
  | .tup _, .non, _, _ => by simp [Dt.py, Dt.eq, PyData.eqv]
  | .tup _, .bl _, _, _ => by simp [Dt.py, Dt.eq, PyData.eqv]
  | .tup _, .int _, _, _ => by simp [Dt.py, Dt.eq, PyData.eqv]
  | .tup _, .str _, _, _ => by simp [Dt.py, Dt.eq, PyData.eqv]
  | .tup xs, .tup ys, h1, h2 => by
    rw [Dt.py] at h1 h2
    rw [Dt.py, Dt.py, Dt.eq, PyData.eqv]
    exact Og xs ys (by simpa [PyData.canLay0] using h1) (by simpa [PyData.canLay0] using h2)
  | .tup _, .lst _, _, _ => by simp [Dt.py, Dt.eq, PyData.eqv]
  | .lst _, .non, _, _ => by simp [Dt.py, Dt.eq, PyData.eqv]
  | .lst _, .bl _, _, _ => by simp [Dt.py, Dt.eq, PyData.eqv]
  | .lst _, .int _, _, _ => by simp [Dt.py, Dt.eq, PyData.eqv]
  | .lst _, .str _, _, _ => by simp [Dt.py, Dt.eq, PyData.eqv]
  | .lst _, .tup _, _, _ => by simp [Dt.py, Dt.eq, PyData.eqv]
  | .lst xs, .lst ys, h1, h2 => by
    rw [Dt.py] at h1 h2
    rw [Dt.py, Dt.py, Dt.eq, PyData.eqv]
    exact Og xs ys (by simpa [PyData.canLay0] using h1) (by simpa [PyData.canLay0] using h2)
theorem Og : ∀ (xs ys : List Dt), PyData.canLayAll0 (Dt.pys xs) = true → PyData.canLayAll0 (Dt.pys ys) = true → PyData.eqvAll (Dt.pys xs) (Dt.pys ys) = Dt.eqs xs ys
  | [], [], _, _ => by simp [Dt.pys, Dt.eqs, PyData.eqvAll]
  | [], _ :: _, _, _ => by simp [Dt.pys, Dt.eqs, PyData.eqvAll]
  | _ :: _, [], _, _ => by simp [Dt.pys, Dt.eqs, PyData.eqvAll]
  | x :: xs, y :: ys, h1, h2 => by
    rw [Dt.pys] at h1 h2
    have h1' : x.py.canLay0 = true ∧ PyData.canLayAll0 (Dt.pys xs) = true := by simpa [PyData.canLayAll0] using h1
    have h2' : y.py.canLay0 = true ∧ PyData.canLayAll0 (Dt.pys ys) = true := by simpa [PyData.canLayAll0] using h2
    rw [Dt.pys, Dt.pys, Dt.eqs, PyData.eqvAll, PB x y h1'.1 h2'.1, Og xs ys h1'.2 h2'.2]
end
noncomputable def Yt (K : PySem.W.Frag) (neg : Bool) : R2 := fun x y H Q => ∃ a b, Rp K H a x ∧ Rp K H b y ∧ a.flat 8 = true ∧ b.flat 8 = true ∧ Q (.bl (if neg then !a.eq b else a.eq b)) H
theorem Wg (hu : X.A.units + 64 < cLine) : OpR X (compareOp .Eq) (Yt X.K false) := by
  intro pins s σ H x y v u Q I rx ry ⟨a, b, ra, rb, fa, fb, q⟩
  obtain ⟨ca, da⟩ := Fv a 8 fa
  obtain ⟨cb, db⟩ := Fv b 8 fb
  obtain ⟨as, r1⟩ := Ft I ca ra rx
  obtain ⟨bs, r2⟩ := Ft I cb rb ry
  refine rcAt_reads r1 r2 ca cb (by omega) _ _ _ _ ?_
  rw [PB a b ca cb]
  exact ⟨.bl _, H, I, rfl, q⟩
theorem V7 (hu : X.A.units + 64 < cLine) : OpR X (compareOp .NotEq) (Yt X.K true) := by
  intro pins s σ H x y v u Q I rx ry ⟨a, b, ra, rb, fa, fb, q⟩
  obtain ⟨ca, da⟩ := Fv a 8 fa
  obtain ⟨cb, db⟩ := Fv b 8 fb
  obtain ⟨as, r1⟩ := Ft I ca ra rx
  obtain ⟨bs, r2⟩ := Ft I cb rb ry
  refine compareNe_reads r1 r2 ca cb (by omega) ?_
  rw [PB a b ca cb]
  exact ⟨.bl _, H, I, rfl, q⟩
noncomputable def dEq : D2 := fun a b Q => (a.flat 8 = true ∧ b.flat 8 = true) ∧ Q (.bl (a.eq b))
noncomputable def dNe : D2 := fun a b Q => (a.flat 8 = true ∧ b.flat 8 = true) ∧ Q (.bl (!a.eq b))
theorem V4 {K : PySem.W.Frag} : G7 K (Yt K false) dEq := ⟨fun hq h => ⟨h.1, hq _ h.2⟩, fun O H a b x y Q _ ra rb h => ⟨a, b, ra.mono Ay, rb.mono Ay, h.1.1, h.1.2, h.2 _ H (Same.refl H) (CG.mpr rfl)⟩⟩
theorem Xk {K : PySem.W.Frag} : G7 K (Yt K true) dNe := ⟨fun hq h => ⟨h.1, hq _ h.2⟩, fun O H a b x y Q _ ra rb h => ⟨a, b, ra.mono Ay, rb.mono Ay, h.1.1, h.1.2, h.2 _ H (Same.refl H) (CG.mpr rfl)⟩⟩
theorem N7 (hu : X.A.units + 64 < cLine) (ha : DE X a ta) (hb : DE X b tb) : DE X (.Compare a [.Eq] [b] pos) (dOp dEq ta tb) := RX (Wg hu) V4 ha hb (Hu _)
theorem Aaa (hu : X.A.units + 64 < cLine) (ha : DE X a ta) (hb : DE X b tb) : DE X (.Compare a [.NotEq] [b] pos) (dOp dNe ta tb) := RX (V7 hu) Xk ha hb (Hu _)
theorem G3 (hu : X.A.units + 64 < cLine) (ha : DE X a ta) (hb : DE X b tb) : DT X (.Compare a [.Eq] [b] pos) (Kh (dOp dEq ta tb)) := Lk (Wg hu) V4 ha hb (Hu _)
theorem Ip (hu : X.A.units + 64 < cLine) (ha : DE X a ta) (hb : DE X b tb) : DT X (.Compare a [.NotEq] [b] pos) (Kh (dOp dNe ta tb)) := Lk (V7 hu) Xk ha hb (Hu _)
noncomputable def isB (k : Bool) : Dt → Bool
  | .bl b => b == k
  | _ => false
noncomputable def isN : Dt → Bool
  | .non => true
  | _ => false
noncomputable def dIs (neg : Bool) : D2 := fun a b Q => match b with
  | .bl k => Q (.bl (if neg then !isB k a else isB k a))
  | .non => Q (.bl (if neg then !isN a else isN a))
  | _ => False
noncomputable def KR (t t' : D2) (ta tb tc : DTE) : DTE := fun ρ Q => ta ρ fun a => tb ρ fun b => t a b fun z => match z with
  | .bl k => if k = true then tc ρ fun c => t' b c Q else Q (.bl false)
  | _ => False
theorem S6 {t t' : D2} {ta tb tc : DTE} (m : ∀ {a b Q Q'}, (∀ d, Q d → Q' d) → t a b Q → t a b Q') (m' : ∀ {a b Q Q'}, (∀ d, Q d → Q' d) → t' a b Q → t' a b Q')
    (ma : ∀ {ρ Q Q'}, (∀ d, Q d → Q' d) → ta ρ Q → ta ρ Q') (mb : ∀ {ρ Q Q'}, (∀ d, Q d → Q' d) → tb ρ Q → tb ρ Q') (mc : ∀ {ρ Q Q'}, (∀ d, Q d → Q' d) → tc ρ Q → tc ρ Q') :
    ∀ {ρ Q Q'}, (∀ d, Q d → Q' d) → KR t t' ta tb tc ρ Q → KR t t' ta tb tc ρ Q' := fun hq h => ma (fun _ h => mb (fun _ h => m (fun z h => by
      split at h
      · rename_i k
        cases k with
        | true => exact mc (fun _ h => m' hq h) h
        | false => exact hq _ h
      · exact h.elim) h) h) h
theorem Vw {K : PySem.W.Frag} {r r' : R2} {t t' : D2} (S : G7 K r t) (S' : G7 K r' t') {ta tb tc : DTE} (ma : ∀ {ρ Q Q'}, (∀ d, Q d → Q' d) → ta ρ Q → ta ρ Q') (mb : ∀ {ρ Q Q'}, (∀ d, Q d → Q' d) → tb ρ Q → tb ρ Q') (mc : ∀ {ρ Q Q'}, (∀ d, Q d → Q' d) → tc ρ Q → tc ρ Q')
    (σ : St) (H : Hp) (Q : VK) (h : lE K (KR t t' ta tb tc) σ H Q) : V8 r r' (lE K ta) (lE K tb) (lE K tc) σ H Q := by
  obtain ⟨B, F, O, ρ, R, h⟩ := h
  refine ⟨B, F, O, ρ, R, ma (fun a h v H1 s1 r1 => ⟨B, F, O, ρ, R.same s1, mb (fun b h u H2 s2 r2 => ?_) h⟩) h⟩
  refine S.ok _ H2 a b v u _ ((R.same s1).same s2).th (r1.mono s2.mask) r2 (S.mono (fun z h w H3 s3 r3 => ?_) h)
  split at h
  · rename_i k
    refine ⟨k, CG.mp r3, ?_⟩
    have s123 := (s1.trans s2).trans s3
    cases k with
    | true => exact ⟨B, F, O, ρ, R.same s123, mc (fun c h y H4 s4 r4 => S'.ok _ H4 b c u y Q ((R.same s123).same s4).th ((r2.mono s3.mask).mono s4.mask) r4 (S'.mono (fun d q w' H5 s5 r5 => q w' H5 ((s123.trans s4).trans s5) r5) h)) h⟩
    | false => exact h _ H3 s123 (CG.mpr rfl)
  · exact h.elim
theorem QV {op op' : CmpOp} {r r' : R2} {t t' : D2} (ho : OpR X (compareOp op) r) (ho' : OpR X (compareOp op') r') (S : G7 X.K r t) (S' : G7 X.K r' t') (ha : DE X a ta) (hb : DE X b tb) (hc : DE X c tc)
    (hm : lastMarks [op, op'] [b, c] = false := by with_unfolding_all rfl) : DE X (.Compare a [op, op'] [b, c] pos) (KR t t' ta tb tc) where
  mono := S6 (t := t) (t' := t') (ta := ta) (tb := tb) (tc := tc) S.mono S'.mono ha.mono hb.mono hc.mono
  pe := (W2 ho ho' ha.pe hb.pe hc.pe hm).imp (Vw (ta := ta) (tb := tb) (tc := tc) S S' ha.mono hb.mono hc.mono)
noncomputable abbrev DL := List Dt → (Dt → Prop) → Prop
structure O6 (K : PySem.W.Frag) (r : List V → Hp → VK → Prop) (t : DL) : Prop where
  mono : ∀ {ds Q Q'}, (∀ d, Q d → Q' d) → t ds Q → t ds Q'
  ok : ∀ (O : List Addr) (H : Hp) (ds : List Dt) (xs : List V) (Q : VK), (∀ p ∈ O, H p ≠ none) → RpL K (mask O H) ds xs →
    t ds (fun d => ∀ v H', Same H H' → Rp K (mask O H') d v → Q v H') → r xs H Q
noncomputable def dCB (t : DL) (tl : DTA) : DTE := fun ρ Q => tl ρ fun ds => t ds Q
theorem XJ {K : PySem.W.Frag} {r : List V → Hp → VK → Prop} {t : DL} (S : O6 K r t) {tl : DTA} (m : ∀ {ρ Q Q'}, (∀ d, Q d → Q' d) → tl ρ Q → tl ρ Q') (σ : St) (H : Hp) (Q : VK) (h : lE K (dCB t tl) σ H Q) : tCB r (lA K tl) σ H Q := by
  obtain ⟨B, F, O, ρ, R, h⟩ := h
  exact ⟨B, F, O, ρ, R, m (fun ds h vs H1 s1 r1 => S.ok _ H1 ds vs Q (R.same s1).th r1 (S.mono (fun d q v H2 s2 r2 => q v H2 (s1.trans s2) r2) h)) h⟩
theorem QC {id : String} {x : Str} {p : Pos} {r : List V → Hp → VK → Prop} {t : DL} (hc : Hz X (.builtin id) r) (S : O6 X.K r t) (hg : Gl X x) (hm : X.mg x = none) (hv : bootBuiltins x = some (.builtin id)) (ha : DA X (e :: es) tl) (hn : x ≠ "__name__" := by decide)
    (hdb : (x == ("__debug__" : Str)) = false := by decide) (he : starEach (e :: es) X.env = (false, eval e X.env) :: starEach es X.env := by rfl) (hpl : (backTo pos (starEach es X.env)).any (·.1) = false := by rfl) : DE X (.Call (.Name x p) (e :: es) [] pos) (dCB t tl) where
  mono := fun hq h => ha.mono (fun _ h => S.mono hq h) h
  pe := (PX hc hg hm hv ha.pa hn hdb he hpl).imp (XJ (tl := tl) S ha.mono)
theorem Aed {id : String} {x : Str} {p : Pos} {r : List V → Hp → VK → Prop} {t : DL} (hc : Hz X (.type id) r) (S : O6 X.K r t) (hg : Gl X x) (hm : X.mg x = none) (hv : bootBuiltins x = some (.type id)) (ha : DA X (e :: es) tl) (hn : x ≠ "__name__" := by decide)
    (hdb : (x == ("__debug__" : Str)) = false := by decide) (he : starEach (e :: es) X.env = (false, eval e X.env) :: starEach es X.env := by rfl) (hpl : (backTo pos (starEach es X.env)).any (·.1) = false := by rfl) : DE X (.Call (.Name x p) (e :: es) [] pos) (dCB t tl) where
  mono := fun hq h => ha.mono (fun _ h => S.mono hq h) h
  pe := (Vh hc hg hm hv ha.pa hn hdb he hpl).imp (XJ (tl := tl) S ha.mono)
noncomputable def Ww : DL := fun ds Q => match ds with
  | [.lst xs] => Q (.int xs.length)
  | [.tup xs] => Q (.int xs.length)
  | _ => False
noncomputable def V0 : DL := fun ds Q => match ds with
  | [.int i] => Q (.int (if i < 0 then -i else i))
  | _ => False
noncomputable def V9 : DL := fun ds Q => match ds with
  | [.int i, .int j] => Q (.int (if j > i then j else i))
  | _ => False
noncomputable def AgQ : DL := fun ds Q => match ds with
  | [.int i, .int j] => Q (.int (if j < i then j else i))
  | _ => False
noncomputable def Oa : DL := fun ds Q => match ds with
  | [.int i] => Q (.int i)
  | [.bl k] => Q (.int (if k then 1 else 0))
  | _ => False
theorem ZL {K : PySem.W.Frag} : O6 K (fun xs H Q => ∃ p ys, xs = [.ref p] ∧ (SqL K H p ys ∨ SqT K H p ys) ∧ Q (.int ys.length) H) Ww where
  mono := fun hq h => by
    unfold Ww at h ⊢
    split at h
    · exact hq _ h
    · exact hq _ h
    · exact h.elim
  ok := fun O H ds xs Q _ r h => by
    unfold Ww at h
    split at h
    · obtain ⟨v, r', rfl, r2, r3⟩ := Ax.mp r
      obtain rfl := Bs.mp r3
      obtain ⟨a, ys, rfl, hs, hl⟩ := Ds r2
      exact ⟨a, ys, rfl, .inl (Ay.seq hs), by rw [hl.len]; exact h _ H (Same.refl H) (Ba.mpr rfl)⟩
    · obtain ⟨v, r', rfl, r2, r3⟩ := Ax.mp r
      obtain rfl := Bs.mp r3
      obtain ⟨a, ys, rfl, hs, hl⟩ := Dm.mp r2
      exact ⟨a, ys, rfl, .inr (Ay.seqT hs), by rw [hl.len]; exact h _ H (Same.refl H) (Ba.mpr rfl)⟩
    · exact h.elim
theorem Acj {K : PySem.W.Frag} {H : Hp} {i : Int} {xs : List V} (h : RpL K H [.int i] xs) : xs = [.int i] := by
  obtain ⟨v, r, rfl, r2, r3⟩ := Ax.mp h
  rw [Bs.mp r3, Ba.mp r2]
theorem Agq {K : PySem.W.Frag} {H : Hp} {i j : Int} {xs : List V} (h : RpL K H [.int i, .int j] xs) : xs = [.int i, .int j] := by
  obtain ⟨v, r, rfl, r2, r3⟩ := Ax.mp h
  rw [Acj r3, Ba.mp r2]
theorem Zw {K : PySem.W.Frag} : O6 K (fun xs H Q => ∃ i, xs = [.int i] ∧ Q (.int (if i < 0 then -i else i)) H) V0 where
  mono := fun hq h => by
    unfold V0 at h ⊢
    split at h
    · exact hq _ h
    · exact h.elim
  ok := fun O H ds xs Q _ r h => by
    unfold V0 at h
    split at h
    · exact ⟨_, Acj r, h _ H (Same.refl H) (Ba.mpr rfl)⟩
    · exact h.elim
theorem YT {K : PySem.W.Frag} : O6 K (fun xs H Q => ∃ i j, xs = [.int i, .int j] ∧ Q (.int (if j > i then j else i)) H) V9 where
  mono := fun hq h => by
    unfold V9 at h ⊢
    split at h
    · exact hq _ h
    · exact h.elim
  ok := fun O H ds xs Q _ r h => by
    unfold V9 at h
    split at h
    · exact ⟨_, _, Agq r, h _ H (Same.refl H) (Ba.mpr rfl)⟩
    · exact h.elim
theorem WM {K : PySem.W.Frag} : O6 K (fun xs H Q => (∃ i, xs = [.int i] ∧ Q (.int i) H) ∨ ∃ k : Bool, xs = [.bl k] ∧ Q (.int (if k then 1 else 0)) H) Oa where
  mono := fun hq h => by
    unfold Oa at h ⊢
    split at h
    · exact hq _ h
    · exact hq _ h
    · exact h.elim
  ok := fun O H ds xs Q _ r h => by
    unfold Oa at h
    split at h
    · exact .inl ⟨_, Acj r, h _ H (Same.refl H) (Ba.mpr rfl)⟩
    · obtain ⟨v, r', rfl, r2, r3⟩ := Ax.mp r
      exact .inr ⟨_, by rw [Bs.mp r3, CG.mp r2], h _ H (Same.refl H) (Ba.mpr rfl)⟩
    · exact h.elim
theorem RK {p : Pos} (hm : X.mg "len" = none) (ha : DA X [a] tl) (hg : Gl X "len" := by rfl) (he : starEach [a] X.env = (false, eval a X.env) :: starEach [] X.env := by rfl) (hpl : (backTo pos (starEach [] X.env)).any (·.1) = false := by rfl) :
    DE X (.Call (.Name "len" p) [a] [] pos) (dCB Ww tl) := QC O3 ZL hg hm PySem.boot_len ha (he := he) (hpl := hpl)
theorem IK {p : Pos} (hm : X.mg "abs" = none) (ha : DA X [a] tl) (hg : Gl X "abs" := by rfl) (hv : bootBuiltins "abs" = some (.builtin "abs") := by rfl) (he : starEach [a] X.env = (false, eval a X.env) :: starEach [] X.env := by rfl) (hpl : (backTo pos (starEach [] X.env)).any (·.1) = false := by rfl) :
    DE X (.Call (.Name "abs" p) [a] [] pos) (dCB V0 tl) := QC Xb Zw hg hm hv ha (he := he) (hpl := hpl)
theorem AbM {p : Pos} (hm : X.mg "max" = none) (ha : DA X [a, b] tl) (hc : X.calm = true := by rfl) (hg : Gl X "max" := by rfl) (hv : bootBuiltins "max" = some (.builtin "max") := by rfl) (he : starEach [a, b] X.env = (false, eval a X.env) :: starEach [b] X.env := by rfl)
    (hpl : (backTo pos (starEach [b] X.env)).any (·.1) = false := by rfl) : DE X (.Call (.Name "max" p) [a, b] [] pos) (dCB V9 tl) := QC (Vm hc) YT hg hm hv ha (he := he) (hpl := hpl)
theorem Ua {p : Pos} (hm : X.mg "int" = none) (ha : DA X [a] tl) (hg : Gl X "int" := by rfl) (hv : bootBuiltins "int" = some (.type "int") := by rfl) (he : starEach [a] X.env = (false, eval a X.env) :: starEach [] X.env := by rfl) (hpl : (backTo pos (starEach [] X.env)).any (·.1) = false := by rfl) :
    DE X (.Call (.Name "int" p) [a] [] pos) (dCB Oa tl) := Aed Vr WM hg hm hv ha (he := he) (hpl := hpl)
noncomputable def tyOf : Dt → String
  | .non => "NoneType"
  | .bl _ => "bool"
  | .int _ => "int"
  | .str _ => "str"
  | .tup _ => "tuple"
  | .lst _ => "list"
  | .fn _ => "function"
  | .exc _ _ _ => "exception"
  | .obj _ _ _ => "instance"
noncomputable def noFn : Dt → Bool
  | .fn _ => false
  | .exc _ _ _ => false
  | .obj _ _ _ => false
  | _ => true
noncomputable def isT (T : String) (d : Dt) : Bool := tyOf d == T || (T == "int" && tyOf d == "bool")
noncomputable def Nk (T : String) : Prop := ∀ (K : PySem.W.Frag) (d : Dt), noFn d = true → PySem.W.kitOne K (.type (tyOf d)) (.type T) = some (isT T d)
theorem XR {T : String} (hT : Nk T) : Hz X (.builtin "isinstance") (fun xs H Q => ∃ d x, xs = [x, .ty T] ∧ Rp X.K H d x ∧ noFn d = true ∧ Q (.bl (isT T d)) H) := by
  intro pins s σ H xs us Q I r ⟨d, x, e, rp, nf, q⟩
  subst e
  obtain ⟨u, u2, rfl, r1, r2⟩ := vals2 r
  cases (show u2 = .type T from r2)
  have hk := hT X.K d nf
  have fin : ∀ tk, EP X pins σ Q (.bool (isT T d)) { s with toks := tk } := fun tk => ⟨.bl _, H, I.tok tk, rfl, q⟩
  cases d with
  | non => rw [Ot.mp rp] at r1; cases (show u = Value.none from r1); exact PySem.W.kia_one PySem.W.kitx_none I.kIn True.intro hk (fun z => nomatch z) fin
  | bl y => rw [CG.mp rp] at r1; cases (show u = Value.bool y from r1); exact PySem.W.kia_one PySem.W.kitx_bool I.kIn True.intro hk (fun z => nomatch z) fin
  | int i => rw [Ba.mp rp] at r1; obtain ⟨t, q⟩ := (show ∃ t, u = Value.int i t from r1); cases q; exact PySem.W.kia_one PySem.W.kitx_int I.kIn True.intro hk (fun z => nomatch z) fin
  | str y => rw [Oz.mp rp] at r1; obtain ⟨t, q⟩ := (show ∃ t, u = Value.str y t from r1); cases q; exact PySem.W.kia_one PySem.W.kitx_str I.kIn True.intro hk (fun z => nomatch z) fin
  | fn a => cases nf
  | exc _ _ _ => cases nf
  | obj _ _ _ => cases nf
  | tup ds =>
    obtain ⟨a, ys, rfl, hs, _⟩ := Dm.mp rp
    cases (show u = Value.ref a from r1)
    obtain ⟨_, _, ⟨o, h1, h2, _⟩, _⟩ := I.tuple hs
    exact PySem.W.kia_one PySem.W.kitx_tuple I.kIn ⟨o, h1, h2⟩ hk (fun z => nomatch z) fin
  | lst ds =>
    obtain ⟨a, ys, rfl, hs, _⟩ := Ds rp
    cases (show u = Value.ref a from r1)
    obtain ⟨_, _, ⟨o, n, h1, h2, _⟩, _⟩ := I.list hs
    exact PySem.W.kia_one PySem.W.kitx_list I.kIn ⟨o, h1, h2⟩ hk (fun z => nomatch z) fin
noncomputable def Adi (T : String) (ta : DTE) : DTE := fun ρ Q => ta ρ fun d => noFn d = true ∧ Q (.bl (isT T d))
theorem Ly {T : String} {Ts : Str} {p p2 : Pos} (hm : X.mg "isinstance" = none) (hmT : X.mg Ts = none) (hT : Nk T) (ha : DE X a ta) (hg : Gl X "isinstance" := by rfl) (hgT : Gl X Ts := by rfl) (hv : bootBuiltins "isinstance" = some (.builtin "isinstance") := by rfl)
    (hvT : bootBuiltins Ts = some (.type T) := by rfl) (hn : Ts ≠ "__name__" := by decide) (hd : (Ts == ("__debug__" : Str)) = false := by decide)
    (hs1 : starEach [a, .Name Ts p2] X.env = (false, eval a X.env) :: starEach [.Name Ts p2] X.env := by rfl) (hs2 : starEach [.Name Ts p2] X.env = (false, eval (.Name Ts p2) X.env) :: starEach [] X.env := by rfl)
    (hpl : (backTo pos (starEach [.Name Ts p2] X.env)).any (·.1) = false := by rfl) : DE X (.Call (.Name "isinstance" p) [a, .Name Ts p2] [] pos) (Adi T ta) where
  mono := fun hq h => ha.mono (fun _ h => ⟨h.1, hq _ h.2⟩) h
  pe := (PX (XR hT) hg hm hv (Jy ha.pe (Jy (ZJ (v := .ty T) hgT hmT hvT rfl hn hd) PL hs2) hs1) (he := hs1) (hpl := hpl)).imp fun σ H Q ⟨B, F, O, ρ, R, h⟩ =>
    ⟨B, F, O, ρ, R, ha.mono (fun d h v H1 s1 r1 => ⟨d, v, rfl, r1.mono Ay, h.1, h.2 _ H1 s1 (CG.mpr rfl)⟩) h⟩
noncomputable abbrev DTO := Bj → (Option Int → Prop) → Prop
noncomputable def lO (K : PySem.W.Frag) (t : DTO) : TO := fun σ H Q => ∃ B F O ρ, Rep K B F O H σ ρ ∧ t ρ fun o => ∀ H', Same H H' → Q o H'
structure DO (X : Cx) (e : Option Expr) (t : DTO) : Prop where
  mono : ∀ {ρ Q Q'}, (∀ d, Q d → Q' d) → t ρ Q → t ρ Q'
  po : PO X e (lO X.K t)
noncomputable def Ud : DTO := fun _ Q => Q none
noncomputable def AaD (te : DTE) : DTO := fun ρ Q => te ρ fun d => match d with
  | .int i => Q (some i)
  | _ => False
theorem PO.imp {e : Option Expr} {t t' : TO} (h : PO X e t) (i : ∀ σ H Q, t' σ H Q → t σ H Q) : PO X e t' := fun pins s σ H Q I q => h pins s σ H Q I (i _ _ _ q)
theorem Ow : DO X none Ud := ⟨fun hq h => hq _ h, Zt.imp fun σ H Q ⟨B, F, O, ρ, R, h⟩ => h H (Same.refl H)⟩
theorem OD (h : DE X e te) : DO X (some e) (AaD te) where
  mono := fun hq z => h.mono (fun d z => by
    split at z
    · exact hq _ z
    · exact z.elim) z
  po := (Zr h.pe).imp fun σ H Q ⟨B, F, O, ρ, R, z⟩ => ⟨B, F, O, ρ, R, h.mono (fun d z v H1 s1 r1 => by
    split at z
    · exact ⟨_, Ba.mp r1, z H1 s1⟩
    · exact z.elim) z⟩
noncomputable def cutD (xs : List Dt) (lo hi : Option Int) : List Dt := (xs.drop (HT.sIx xs.length 0 lo)).take (HT.sIx xs.length xs.length hi - HT.sIx xs.length 0 lo)
theorem RpL.cut {K : PySem.W.Frag} {H : Hp} {ds : List Dt} {xs : List V} {lo hi : Option Int} (h : RpL K H ds xs) : RpL K H (cutD ds lo hi) (Vy xs lo hi) := by
  unfold cutD Vy
  rw [h.len]
  exact (h.drop _).take _
noncomputable def Xx (te : DTE) (tl th : DTO) : DTE := fun ρ Q => te ρ fun d => tl ρ fun lo => th ρ fun hi => match d with
  | .lst ds => Q (.lst (cutD ds lo hi))
  | _ => False
theorem Wn {lo hi : Option Expr} {t1 t2 : DTO} {p2 : Pos} (he : DE X e te) (hl : DO X lo t1) (hh : DO X hi t2) : DE X (.Subscript e (.Slice lo hi none p2) pos) (Xx te t1 t2) where
  mono := fun hq z => he.mono (fun d z => hl.mono (fun l z => hh.mono (fun h z => by
    split at z
    · exact hq _ z
    · exact z.elim) z) z) z
  pe := (Qq TF he.pe hl.po hh.po).imp fun σ H Q ⟨B, F, O, ρ, R, z⟩ => ⟨B, F, O, ρ, R, he.mono (fun d z v H1 s1 r1 => ⟨B, F, O, ρ, R.same s1, hl.mono (fun l z H2 s2 => ⟨B, F, O, ρ, (R.same s1).same s2, hh.mono (fun h z H3 s3 => by
    split at z
    · obtain ⟨a, xs, rfl, hs, hr⟩ := Ds ((r1.mono s2.mask).mono s3.mask)
      refine ⟨a, xs, rfl, Ay.seq hs, fun p hp => ?_⟩
      have R3 := ((R.same s1).same s2).same s3
      have np : p ∉ F ++ O := fun m => R3.th p m hp
      refine z (.ref p) _ (((s1.trans s2).trans s3).trans (Same.upd hp)) (HX ⟨p, _, rfl, (Je np), ?_⟩)
      exact hr.cut.mono (Same.upd hp).mask
    · exact z.elim) z⟩) z⟩) z⟩
end
theorem Zf : Nk "int" := fun K d h => by cases d <;> first | rfl | cases h
theorem Wc : Nk "bool" := fun K d h => by cases d <;> first | rfl | cases h
theorem U8 : Nk "tuple" := fun K d h => by cases d <;> first | rfl | cases h
theorem QZ : Nk "list" := fun K d h => by cases d <;> first | rfl | cases h
end L2
namespace L2
open PySem PySem.Spec PyProof.Rows PySem.SeqAt
theorem Jd (env : Env) : ∀ (names : List (Str × NameKind)) (cs : List (Str × Addr)), (∀ y ∈ names, y.2 = .free → ∃ c, env.cells.lookup y.1 = some c) → (∀ n c, cs.lookup n = some c → env.cells.lookup n = some c) →
    ∃ cl, (forIn names cs fun (x : Str × NameKind) (r : List (Str × Addr)) => (if (x.2 == NameKind.free) = true then (do let c ← cellOf env x.1; pure (ForInStep.yield ((x.1, c) :: r))) else pure (ForInStep.yield r) : Sem (ForInStep (List (Str × Addr))))) = pure cl ∧
      (∀ n c, cl.lookup n = some c → env.cells.lookup n = some c) ∧ (∀ n, (cs.lookup n).isSome = true → (cl.lookup n).isSome = true) ∧ ∀ n, (n, NameKind.free) ∈ names → (cl.lookup n).isSome = true
  | [], cs, _, h2 => ⟨cs, rfl, h2, fun _ h => h, fun n h => (nomatch h)⟩
  | (x, k) :: names, cs, h1, h2 => by
    rw [List.forIn_cons]
    by_cases hk : k = .free
    · subst hk
      obtain ⟨c, hc⟩ := h1 (x, .free) List.mem_cons_self rfl
      have e : cellOf env x = pure c := by unfold cellOf; rw [hc]
      have h3 : ∀ n c', ((x, c) :: cs).lookup n = some c' → env.cells.lookup n = some c' := fun n c' q => by
        rw [List.lookup_cons] at q
        split at q
        · rename_i b; cases q; rw [eq_of_beq b]; exact hc
        · exact h2 n c' q
      obtain ⟨cl, g1, g2, g3, g4⟩ := Jd env names ((x, c) :: cs) (fun y hy => h1 y (List.mem_cons_of_mem _ hy)) h3
      refine ⟨cl, ?_, g2, fun n q => g3 n ?_, fun n hn => ?_⟩
      · simp only [beq_self_eq_true, if_true, e, pure_bind]
        exact g1
      · rw [List.lookup_cons]; split
        · rfl
        · exact q
      · rcases List.mem_cons.mp hn with q | q
        · cases q
          exact g3 x (by rw [List.lookup_cons]; simp)
        · exact g4 n q
    · have hb : (k == NameKind.free) = false := by simpa using hk
      obtain ⟨cl, g1, g2, g3, g4⟩ := Jd env names cs (fun y hy => h1 y (List.mem_cons_of_mem _ hy)) h2
      refine ⟨cl, ?_, g2, g3, fun n hn => ?_⟩
      · simp only [hb, Bool.false_eq_true, if_false, pure_bind]
        exact g1
      · rcases List.mem_cons.mp hn with q | q
        · cases q; exact absurd rfl hk
        · exact g4 n q
theorem Mw {env : Env} {scope : Scope} (h : ∀ y ∈ scope.names, y.2 = .free → ∃ c, env.cells.lookup y.1 = some c) :
    ∃ cl, closureFor scope env = pure cl ∧ (∀ n c, cl.lookup n = some c → env.cells.lookup n = some c) ∧ ∀ n, (n, NameKind.free) ∈ scope.names → ∃ c, cl.lookup n = some c := by
  obtain ⟨cl, g1, g2, _, g4⟩ := Jd env scope.names [] h (fun n c q => by simp at q)
  refine ⟨cl, ?_, g2, fun n q => Option.isSome_iff_exists.mp (g4 n q)⟩
  unfold closureFor
  simp only [bind_pure]
  exact g1
noncomputable def Bd (X : Cx) (scope : Scope) (N : List Str) (cl : List (Str × Addr)) (C : Addr) (s₀ : Shared) (H₀ : Hp) (ex : List Addr) : Cx where
  prog := X.prog
  w := X.w
  K := X.K
  mg := X.mg
  base := X.base
  A := X.A
  N := N
  s₀ := s₀
  H₀ := H₀
  env := compEnvC scope cl C X.env
  outer := X.stack
  stack := X.stack
  ex := ex
  fn := fun _ => false
  calm := X.calm
  pn := []
  xe := fun _ _ => False
noncomputable def PTs (X : Cx) (ifs : List Expr) (t : TT) : Prop :=
  ∀ (pins : List (Addr × Obj)) (s : Shared) (σ : St) (H : Hp) (Q : Bool → Hp → Prop), Inv X pins σ H s → t σ H Q →
    wpAny (model X.prog X.w) X.A (forIn ifs true fun c r => if r = true then do let ok ← isTrue c X.env (eval c X.env); pure (ForInStep.yield ok) else pure (ForInStep.yield r)) (TP X pins σ Q) X.xe s
theorem Yh {X : Cx} : PTs X [] (fun _ H Q => Q true H) := fun pins s σ H Q I h => wpAny_tests_nil ⟨H, I, h⟩
theorem Y5 {X : Cx} {c : Expr} {t : TT} (h : PT X c t) : PTs X [c] t := fun pins s σ H Q I q => wpAny_tests_one (h pins s σ H Q I q)
noncomputable def Xp (sl : List Nat) (wi : TI) (tt : TT) (te : TE) : TE := fun σ H Q => wi σ H fun J H1 => ∃ vs : List V, sl.map (fun j => σ[j]?) = vs.map (fun v => some (some v)) ∧ ∀ D, H1 D = none →
  ∃ W : Nat → Nat → List V → Hp → Prop, (∃ m, W 0 m [] (upd H1 D (.lst []))) ∧ ∀ i m acc H, W i m acc H →
    (J.stop i H ∧ Q (.ref D) H) ∨
    (J.go i H ∧ ∀ x H', J.yld i H x H' → tt (some x :: vs.map some) H' fun b H2 =>
      if b = true then te (some x :: vs.map some) H2 fun y H3 => H3 D = some (.lst acc) ∧ acc.length < sizeLine ∧ ∃ m', m' < m ∧ W (i + 1) m' (acc ++ [y]) (upd H3 D (.lst (acc ++ [y])))
      else ∃ m', m' < m ∧ W (i + 1) m' acc H2)
theorem Ez {env : Env} : ∀ {names : List (Str × NameKind)} {x : Str}, names.lookup x = some .free → env.scope.kind = .function → env.kindOf x = some .cell →
    (names.map fun (n, k) => if (k == NameKind.free && env.scope.kind == .function && env.kindOf n == some .cell) then (n, NameKind.cell) else (n, k)).lookup x = some .cell
  | [], _, h, _, _ => by simp at h
  | (n, k) :: r, x, h, hk, he => by
    have ih := @Ez env r x
    show List.lookup x ((if (k == NameKind.free && env.scope.kind == .function && env.kindOf n == some .cell) = true then (n, NameKind.cell) else (n, k)) :: _) = _
    cases hx : x == n with
    | true =>
      simp only [List.lookup_cons, hx] at h
      cases h
      have e := eq_of_beq hx
      subst e
      simp [List.lookup_cons, hk, he]
    | false =>
      simp only [List.lookup_cons, hx] at h
      by_cases hc : (k == NameKind.free && env.scope.kind == .function && env.kindOf n == some .cell) = true
      · rw [if_pos hc]; simp only [List.lookup_cons, hx]; exact ih h hk he
      · rw [if_neg hc]; simp only [List.lookup_cons, hx]; exact ih h hk he
theorem Jr {env : Env} : ∀ {names : List (Str × NameKind)} {x : Str}, (∀ y ∈ names, y.2 ≠ .cell) →
    ((names.map fun (n, k) => if (k == NameKind.free && env.scope.kind == .function && env.kindOf n == some .cell) then (n, NameKind.cell) else (n, k)).lookup x = some .cell ∨
     (names.map fun (n, k) => if (k == NameKind.free && env.scope.kind == .function && env.kindOf n == some .cell) then (n, NameKind.cell) else (n, k)).lookup x = some .free) → (x, NameKind.free) ∈ names
  | [], _, _, h => by simp at h
  | (n, k) :: r, x, hn, h => by
    have ih := @Jr env r x fun y hy => hn y (List.mem_cons_of_mem _ hy)
    have nk : k ≠ .cell := hn (n, k) List.mem_cons_self
    rw [List.map_cons] at h
    by_cases hc : (k == NameKind.free && env.scope.kind == .function && env.kindOf n == some .cell) = true
    · simp only [hc, if_true, List.lookup_cons] at h
      have kf : k = .free := by simp at hc; exact hc.1.1
      subst kf
      cases hx : x == n with
      | true => rw [eq_of_beq hx]; exact List.mem_cons_self
      | false => simp only [hx] at h; exact List.mem_cons_of_mem _ (ih h)
    · have hc' : (k == NameKind.free && env.scope.kind == .function && env.kindOf n == some .cell) = false := by simpa using hc
      simp only [hc', Bool.false_eq_true, if_false, List.lookup_cons] at h
      cases hx : x == n with
      | true =>
        simp only [hx] at h
        have kf : k = .free := by
          rcases h with h | h
          · exact absurd (Option.some.inj h) nk
          · exact Option.some.inj h
        subst kf
        rw [eq_of_beq hx]; exact List.mem_cons_self
      | false => simp only [hx] at h; exact List.mem_cons_of_mem _ (ih h)
section
variable {X : Cx} {elt iter : Expr} {x : Str} {px : Pos} {ifs : List Expr} {scope : Scope} {pos : Pos} {N : List Str} {sl : List Nat} {wi : TI} {tt : TT} {te : TE}
structure Ed (X : Cx) (scope : Scope) (x : Str) (N : List Str) (sl : List Nat) : Prop where
  hx : scope.names.lookup x = some .local
  kind : scope.kind = .function
  cell : ∀ y ∈ scope.names, y.2 ≠ .cell
  names : ∀ y ∈ scope.names, y.2 = .local → scope.names.lookup y.1 = some .local
  free : ∀ y ∈ scope.names, y.2 = .free → X.env.kindOf y.1 = some .cell
  nd : (x :: N).Nodup
  sl : N.map some = sl.map (fun j => X.N[j]?)
  frN : ∀ n ∈ N, scope.names.lookup n = some .free
theorem Rk (S : Ed X scope x N sl) {pins : List (Addr × Obj)} {σ : St} {H : Hp} {s : Shared} {h₁ : Heap} {tk : Nat} {fp : List Addr} {cl : List (Str × Addr)} {vs : List V} {o : Obj} (I : Inv X pins σ H s)
    (hfp : ∀ b ∈ fp, Kp X pins H b) (hob : ∀ b ∈ fp, ∃ o, s.heap.get? b = some o) (hns : h₁.Ns s.heap.objs.size (fun _ => none)) (hsb : Heap.SameBut s.heap.objs.size (s.heap.push o) h₁)
    (hcl : ∀ n c, cl.lookup n = some c → X.env.cells.lookup n = some c) (hcl2 : ∀ n, (n, NameKind.free) ∈ scope.names → ∃ c, cl.lookup n = some c)
    (hvs : sl.map (fun j => σ[j]?) = vs.map (fun v => some (some v))) :
    Inv (Bd X scope (x :: N) cl s.heap.objs.size s H fp) [] (none :: vs.map some) H { s with heap := h₁, toks := tk } := by
  have hL := I.lt
  have keep : ∀ b o, s.heap.get? b = some o → h₁.get? b = some o := fun b o e => (hsb.2 b (Nat.ne_of_lt (Heap.lt_size e))).trans (Heap.get?_push_of_some _ e)
  have kf : X.env.scope.kind = .function := I.ok.kind
  refine ⟨⟨I.ok.mod, ?_, I.ok.glob, I.ok.blt, Nat.le_refl _, fun y z c h1 h2 => I.ok.inj y z c (hcl y c h1) (hcl z c h2), fun y hy => ?_, fun y c h => (by cases h), I.ok.hd, I.ok.frames, .inl rfl, fun b hb => ⟨?_, fun y c e => ?_⟩, fun b o e => I.bs b o e,
    Nat.le_trans I.ok.bsz I.sz, fun b o e hb => ?_, fun b hb hz => ?_, I.stack, I.stkFree⟩, rfl, I.bare, Un.kept keep, ⟨_, hns, fun i y v e1 e2 e3 => ?_⟩, fun y c e => ?_, I.hok.fresh (Nat.le_refl _), fun y c e => I.freeC y c (hcl y c e),
    fun p hp => absurd (show p ∈ ([] : List (Addr × Obj)) from hp) (by simp), I.hok.kept keep, ?_⟩
  · exact S.kind
  · exact hcl2 y (Jr (env := X.env) (fun z hz => S.cell z hz) hy)
  · obtain ⟨o', e⟩ := hob b hb
    exact Nat.ne_of_lt (Heap.lt_size e)
  · exact (hfp b hb).2.2.2.2.1 y c (hcl y c e)
  · rcases (hfp b hb).2.2.2.1 with z | z
    · exact I.ok.noex b o e z
    · exact absurd (Nat.lt_of_lt_of_le (Heap.lt_size e) (Nat.le_trans I.ok.bsz z)) (Nat.lt_irrefl _)
  · rcases List.mem_cons.mp (I.stkSub b hz) with q | q
    · exact (hfp b hb).2.1 q
    · exact (hfp b hb).2.2.1 q
  · cases i with
    | zero => simp at e2
    | succ j =>
      have e1' : N[j]? = some y := by simpa [Bd] using e1
      have e2' : vs[j]? = some v := by
        rw [List.getElem?_cons_succ, List.getElem?_map] at e2
        cases q : vs[j]? with
        | none => rw [q] at e2; cases e2
        | some v' => rw [q] at e2; cases e2; rfl
      have q1 := congrArg (fun l => l[j]?) S.sl
      have q2 := congrArg (fun l => l[j]?) hvs
      simp only [List.getElem?_map, e1', e2', Option.map_some] at q1 q2
      cases hk : sl[j]? with
      | none => rw [hk] at q1; cases q1
      | some k =>
        rw [hk] at q1 q2
        have n1 : X.N[k]? = some y := (Option.some.inj q1).symm
        have n2 : σ[k]? = some (some v) := Option.some.inj q2
        have hfr := S.frN y (List.mem_of_getElem? e1')
        have hm := PySem.mem_of_lookup hfr
        have hc := S.free _ hm rfl
        obtain ⟨m, hn, hl⟩ := I.loc
        obtain ⟨u, r, lk⟩ := hl k y v n1 n2 (.inr (.inl hc))
        refine ⟨u, r, .inr ⟨.inl (Ez hfr kf hc), ?_⟩⟩
        rcases lk with ⟨kl, _⟩ | ⟨_, c, ec, ⟨o', ho, hd⟩⟩
        · rw [hc] at kl; cases kl
        · obtain ⟨c', ec'⟩ := hcl2 y hm
          have := hcl y c' ec'
          rw [ec] at this; cases this
          exact ⟨c, ec', o', keep _ _ ho, hd⟩
  · obtain ⟨v, o', ho, hd⟩ := I.cell y c (hcl y c e)
    exact ⟨v, o', keep _ _ ho, hd⟩
  · have l1 := congrArg List.length S.sl
    have l2 := congrArg List.length hvs
    simp only [List.length_map] at l1 l2
    simp [Bd]; omega
theorem Y0 (S : Ed X scope x N sl) (hc : X.calm = true) (hi : PI X (.Name x px) iter wi) (ht : ∀ cl C s₀ H₀ ex, PTs (Bd X scope (x :: N) cl C s₀ H₀ ex) ifs tt) (he : ∀ cl C s₀ H₀ ex, PE (Bd X scope (x :: N) cl C s₀ H₀ ex) elt te)
    (hs : ∀ x, foldedSetIterable iter X.env x = pure x := by intro _; rfl) : PE X (.ListComp elt [⟨.Name x px, iter, ifs, 0⟩] scope pos) (Xp sl wi tt te) := by
  intro pins s σ H Q I h
  obtain ⟨cl, hclos, hcl, hcl2⟩ := Mw (env := X.env) (scope := scope) fun y hy hf => I.ok.has y.1 (.inl (S.free y hy hf))
  rw [eval_ListComp]
  refine wpAny_comprehension_free (use := none) rfl hs hclos S.kind S.names (thn (hi pins s σ H _ I h) fun v s1 h1 => thn h1 fun itv s2 h2 => ?_)
  obtain ⟨it, fp, tn, J, H2, e, I2, T, st2, f2, vs, hvs, hW⟩ := h2
  subst e
  refine wpAny_newObj_type (wpAny_newFunctionEnv S.cell (by intro y hy; simp at hy) (fun h₁ hns₁ hsb₁ => ?_) S.kind)
  have hD : H2 s2.heap.objs.size = none := I2.fresh
  have I3 : Inv X pins σ (upd H2 s2.heap.objs.size (.lst [])) { s2 with heap := s2.heap.push { cls := .type "list", data := .seq ([] : List Value).toArray }, toks := s2.toks } := I2.lnew (its := []) (ys := []) .nil (Nat.zero_le _)
  have hbD : ∀ b ∈ fp, b ≠ s2.heap.objs.size := fun b hb z => by
    obtain ⟨o', e', _⟩ := T.obj _ _ st2 b hb
    exact absurd (Heap.lt_size e') (by rw [z]; exact Nat.lt_irrefl _)
  have f3 : ∀ b ∈ fp, Kp X pins (upd H2 s2.heap.objs.size (.lst [])) b := fun b hb => ⟨by rw [Bc (hbD b hb)]; exact (f2 b hb).1, (f2 b hb).2⟩
  have ob3 : ∀ b ∈ fp, ∃ o, (s2.heap.push { cls := .type "list", data := .seq ([] : List Value).toArray }).get? b = some o := fun b hb => by
    obtain ⟨o', e', _⟩ := T.obj _ _ st2 b hb
    exact ⟨o', Heap.get?_push_of_some _ e'⟩
  have IC := Rk (tk := s2.toks + ([] : List (Str × Value)).length) S I3 f3 ob3 hns₁ hsb₁ hcl hcl2 hvs
  dsimp only at hsb₁ IC ⊢
  generalize hCC : (s2.heap.push { cls := .type "list", data := .seq ([] : List Value).toArray }).objs.size = C at hns₁ hsb₁ IC ⊢
  have old : ∀ b o, s2.heap.get? b = some o → h₁.get? b = some o := fun b o e => by
    have e1 : (s2.heap.push { cls := .type "list", data := .seq ([] : List Value).toArray }).get? b = some o := Heap.get?_push_of_some _ e
    exact (hsb₁.2 b (by rw [← hCC]; exact Nat.ne_of_lt (Heap.lt_size e1))).trans (Heap.get?_push_of_some _ e1)
  have st₁ : tn 0 h₁ := T.keep _ _ _ st2 fun b hb o e => old b o e
  obtain ⟨W, ⟨m0, w0⟩, turn⟩ := hW s2.heap.objs.size hD
  have fpC : ∀ {H' : Hp} {pl : List (Addr × Obj)}, (∀ b ∈ fp, H' b = none) → (∀ p ∈ pl, p.1 ∉ fp) → ∀ b ∈ fp, Kp (Bd X scope (x :: N) cl C { s2 with heap := s2.heap.push { cls := .type "list", data := .seq ([] : List Value).toArray }, toks := s2.toks } (upd H2 s2.heap.objs.size (.lst [])) fp) pl H' b := fun {H' pl} hn hp b hb => by
    refine ⟨hn b hb, (IC.ok.exf b hb).1, IC.ok.exfs b hb, .inl hb, (IC.ok.exf b hb).2, fun p hq z => ?_⟩
    have hq' : p ∈ pl := by simpa [Bd] using hq
    exact hp p hq' (by rw [z]; exact hb)
  have done : ∀ {σ' : St} {H' : Hp} {s' : Shared}, Inv (Bd X scope (x :: N) cl C { s2 with heap := s2.heap.push { cls := .type "list", data := .seq ([] : List Value).toArray }, toks := s2.toks } (upd H2 s2.heap.objs.size (.lst [])) fp) [] σ' H' s' → Q (.ref s2.heap.objs.size) H' →
      ∃ m, s'.heap.Ns C m ∧ ∀ h', Heap.SameBut C s'.heap h' → EP X pins σ Q (.ref s2.heap.objs.size) { s' with heap := h' } := fun {σ' H' s'} J q => by
    obtain ⟨m, hn, _⟩ := id J.loc
    refine ⟨m, hn, fun h' hs' => ⟨.ref s2.heap.objs.size, H', ?_, rfl, q⟩⟩
    have u : Un (frs X.stack) fp H2 H' s2.heap s'.heap := (Un.laid (fun b u e => Heap.get?_push_of_some _ e) (Nat.le_refl _) hD).trans J.base
    have nC : ∀ b o, s2.heap.get? b = some o → b ≠ C := fun b o e => by
      have e1 : (s2.heap.push { cls := .type "list", data := .seq ([] : List Value).toArray }).get? b = some o := Heap.get?_push_of_some _ e
      rw [← hCC]; exact Nat.ne_of_lt (Heap.lt_size e1)
    have u' : Un (frs X.stack) fp H2 H' s2.heap h' :=
      ⟨fun b o e n hb hx => (hs'.2 b (nC b o e)).trans (u.keep b o e n hb hx), fun b o e n hb hx => let ⟨sl, q⟩ := u.slot b o e n hb hx; ⟨sl, (hs'.2 b (nC b o e)).trans q⟩, u.free, fun b o e hx => let ⟨o', q⟩ := u.there b o e hx; ⟨o', (hs'.2 b (nC b o e)).trans q⟩, u.tups, u.frzs, u.tbls⟩
    have hok : HOk X.prog X.w H' h' := fun b ob e => (J.hok b ob e).stay (fun c w' hc q => (hs'.2 c (by
      rintro rfl
      have hf : H' c = none := J.free
      rcases hc with rfl | hc
      · rw [hf] at e; cases e
      · rw [hf] at hc; cases hc)).trans q) (fun _ q => q) fun _ _ q => q
    have hos : s'.os = s2.os := J.os
    exact I2.call' (s' := { s' with heap := h' }) (ch := fp) hos u' hok J.bare fun b hb => ⟨(f2 b hb).2.2.2.1, (f2 b hb).2.1, (f2 b hb).2.2.2.2.1, (f2 b hb).2.2.2.2.2⟩
  have loop : codeAny (model X.prog X.w) X.A (.compLoop (.ListComp elt [⟨.Name x px, iter, ifs, 0⟩] scope pos) 0 (.ref it) (.ref s2.heap.objs.size) (compEnvC scope cl C X.env)) (compPost (model X.prog X.w) X.A X.xe none (EP X pins σ Q) (.ref s2.heap.objs.size) C)
      { s2 with heap := h₁, toks := s2.toks + ([] : List (Str × Value)).length } := by
    refine codeAny_compLoop_tests (fun n s' => ∃ i acc σ' H', Inv (Bd X scope (x :: N) cl C { s2 with heap := s2.heap.push { cls := .type "list", data := .seq ([] : List Value).toArray }, toks := s2.toks } (upd H2 s2.heap.objs.size (.lst [])) fp) [] σ' H' s' ∧ (∃ y, σ' = y :: vs.map some) ∧
      tn i s'.heap ∧ (∀ b ∈ fp, H' b = none) ∧ W i n acc H') ?_ m0 ⟨0, [], _, _, IC, ⟨none, rfl⟩, st₁, fun b hb => (f3 b hb).1, w0⟩
    rintro n s3 ⟨i, acc, σ3, H3, I4, ⟨y, rfl⟩, st3, fr3, w3⟩
    rcases turn i n acc H3 w3 with ⟨stop, qn⟩ | ⟨go, step⟩
    · refine wpAny_mono (T.done (Bd X scope (x :: N) cl C { s2 with heap := s2.heap.push { cls := .type "list", data := .seq ([] : List Value).toArray }, toks := s2.toks } (upd H2 s2.heap.objs.size (.lst [])) fp) rfl rfl rfl hc i [] s3 _ H3 (fun _ _ => False) I4 (fpC fr3 (by simp)) st3 stop) (fun r s4 ⟨hr, I5⟩ => ?_) fun _ _ z => False.elim z
      subst hr
      exact done I5 qn
    · refine wpAny_mono (T.item (Bd X scope (x :: N) cl C { s2 with heap := s2.heap.push { cls := .type "list", data := .seq ([] : List Value).toArray }, toks := s2.toks } (upd H2 s2.heap.objs.size (.lst [])) fp) rfl rfl rfl hc i [] s3 _ H3 (fun _ _ => False) I4 (fpC fr3 (by simp)) st3 go) (fun r s4 ⟨u, hr, h4⟩ => ?_) fun _ _ z => False.elim z
      subst hr
      have e0 : ∀ (k : Unit → Sem Unit), (letOwnedTupleGo (.Name x px) (.ref it) u >>= k) = k () := fun k => rfl
      have hg : PG (Bd X scope (x :: N) cl C { s2 with heap := s2.heap.push { cls := .type "list", data := .seq ([] : List Value).toArray }, toks := s2.toks } (upd H2 s2.heap.objs.size (.lst [])) fp) (.Name x px) (Um 0) := Px S.nd rfl (.inl (lookup_relabel_local S.hx)) (.inr (lookup_relabel_local S.hx))
      show wpAny (model X.prog X.w) X.A (assign (.Name x px) (compEnvC scope cl C X.env) u) _ _ s4
      rw [← e0 fun _ => assign (.Name x px) (compEnvC scope cl C X.env) u]
      refine wpAny_bind (wpAny_mono h4 (fun _ s5 ⟨z, H5, I5, r5, y5, st5, fr5⟩ => ?_) fun _ _ z => False.elim z)
      have I5' := I5.pinned (fpC fr5 (by simp)) (T.obj _ _ st5)
      have W5 := hg _ s5 _ H5 z u (fun σ' H' => σ' = some z :: vs.map some ∧ H' = H5) I5' r5 ⟨rfl, rfl⟩
      refine wpAny_mono W5 (fun _ s6 ⟨σ6, H6, I6, e6, e7⟩ => ?_) fun _ _ z => False.elim z
      subst e6 e7
      refine wpAny_mono (ht _ _ _ _ _ _ s6 _ H6 _ I6 (step z H6 y5)) (fun b s7 ⟨H7, I7, q7⟩ => ?_) fun _ _ z => False.elim z
      have again : ∀ {H8 : Hp} {s8 : Shared} {acc' : List V}, Inv (Bd X scope (x :: N) cl C { s2 with heap := s2.heap.push { cls := .type "list", data := .seq ([] : List Value).toArray }, toks := s2.toks } (upd H2 s2.heap.objs.size (.lst [])) fp) ([] ++ J1 fp s5.heap) (some z :: vs.map some) H8 s8 → (∃ m', m' < n ∧ W (i + 1) m' acc' H8) → ∃ m, m < n ∧ ∃ i acc σ' H', Inv (Bd X scope (x :: N) cl C { s2 with heap := s2.heap.push { cls := .type "list", data := .seq ([] : List Value).toArray }, toks := s2.toks } (upd H2 s2.heap.objs.size (.lst [])) fp) [] σ' H' s8 ∧ (∃ y, σ' = y :: vs.map some) ∧ tn i s8.heap ∧ (∀ b ∈ fp, H' b = none) ∧ W i m acc H' := fun {H8 s8 acc'} I8 ⟨m', hm, w8⟩ => by
        refine ⟨m', hm, i + 1, acc', _, H8, I8.unpinned, ⟨_, rfl⟩, T.keep _ _ _ st5 fun b hb o e => (I8.pin (b, o) (List.mem_append_right _ (List.mem_append_right _ (Eh hb e)))).1, fun b hb => ?_, w8⟩
        obtain ⟨o, e, d⟩ := T.obj _ _ st5 b hb
        exact (I8.pin (b, o) (List.mem_append_right _ (List.mem_append_right _ (Eh hb e)))).2.1
      cases b with
      | false => exact again I7 q7
      | true =>
        rw [if_pos rfl]
        refine wpAny_mono (he _ _ _ _ _ _ s7 _ H7 _ I7 q7) (fun v8 s8 ⟨x8, H8, I8, r8, hD8, hz8, q8⟩ => ?_) fun _ _ z => False.elim z
        refine wpAny_mono (JV (X := (Bd X scope (x :: N) cl C { s2 with heap := s2.heap.push { cls := .type "list", data := .seq ([] : List Value).toArray }, toks := s2.toks } (upd H2 s2.heap.objs.size (.lst [])) fp)) _ s8 _ H8 (.ref s2.heap.objs.size) [x8] (.ref s2.heap.objs.size) [v8] (fun _ H9 => H9 = upd H8 s2.heap.objs.size (.lst (acc ++ [x8]))) I8 rfl (.cons r8 .nil) ⟨_, acc, x8, rfl, rfl, hD8, hz8, rfl⟩) (fun _ s9 ⟨_, H9, I9, _, e9⟩ => ?_) fun _ _ z => False.elim z
        subst e9
        exact again I9 q8
  exact codeAny_compStart_list loop (T.self _ 0 _ _ _ st₁ loop)
noncomputable def inner (sl : List Nat) (ρ : Bj) (d : Dt) : Bj := some (.is d) :: sl.map fun j => (ρ[j]?).join
structure DTs (X : Cx) (ifs : List Expr) (t : DTT) : Prop where
  mono : ∀ {ρ Q Q'}, (∀ d, Q d → Q' d) → t ρ Q → t ρ Q'
  pts : PTs X ifs (lT X.K t)
noncomputable def Qy : DTT := fun _ Q => Q true
theorem Zh : DTs X [] Qy := ⟨fun hq h => hq _ h, fun pins s σ H Q I ⟨B, F, O, ρ, R, h⟩ => Yh pins s σ H Q I (h H (Same.refl H))⟩
theorem Yq {c : Expr} {t : DTT} (h : DT X c t) : DTs X [c] t := ⟨h.mono, Y5 h.pt⟩
noncomputable def caught (sl : List Nat) (ρ : Bj) : Prop := ∀ j ∈ sl, ∃ d, ρ[j]? = some (some (.is d))
noncomputable def Hg (sl : List Nat) (ti : DTI) (tt : DTT) (te : DTE) : DTE := fun ρ Q => ti ρ fun items => items.length ≤ sizeLine ∧ caught sl ρ ∧
  ∃ W : Nat → List Dt → Prop, W 0 [] ∧ (∀ (k : Nat) d acc, items[k]? = some d → W k acc → tt (inner sl ρ d) fun b => if b = true then te (inner sl ρ d) fun e => W (k + 1) (acc ++ [e]) else W (k + 1) acc) ∧
    ∀ acc, acc.length ≤ items.length → W items.length acc → Q (.lst acc)
theorem J4 {K : PySem.W.Frag} {B : Hp} {F O : List Addr} {H : Hp} {σ : St} {ρ : Bj} (R : Rep K B F O H σ ρ) : ∀ {sl : List Nat}, caught sl ρ → ∃ vs ds, sl.map (fun j => σ[j]?) = vs.map (fun v => some (some v)) ∧ sl.map (fun j => (ρ[j]?).join) = ds.map (fun d => some (En.is d)) ∧ RpL K (mask (F ++ O) H) ds vs
  | [], _ => ⟨[], [], rfl, rfl, RpL.nil⟩
  | j :: sl, h => by
    obtain ⟨d, e⟩ := h j List.mem_cons_self
    obtain ⟨v, e1, e2⟩ := R.is j d e
    obtain ⟨vs, ds, h1, h2, h3⟩ := J4 R (sl := sl) fun k hk => h k (List.mem_cons_of_mem _ hk)
    exact ⟨v :: vs, d :: ds, by simp [e1, h1], by simp [e, h2], RpL.cons e2 h3⟩
theorem U5 {K : PySem.W.Frag} {F : List Addr} {H : Hp} {d : Dt} {v : V} {ds : List Dt} {vs : List V} (th : ∀ a ∈ F, H a ≠ none) (r : Rp K (mask F H) d v) (rs : RpL K (mask F H) ds vs) :
    Rep K (fun _ => none) F [] H (some v :: vs.map some) (some (.is d) :: ds.map fun d => some (En.is d)) := by
  have e : mask (F ++ []) H = mask F H := by rw [List.append_nil]
  have noown : ∀ (i : Nat) (es : En), (∀ z, es ≠ .is z) → (some (En.is d) :: ds.map fun d => some (En.is d))[i]? = some (some es) → False := fun i es nz q => by
    cases i with
    | zero => cases q; exact nz _ rfl
    | succ j =>
      rw [List.getElem?_cons_succ, List.getElem?_map] at q
      cases z : ds[j]? with
      | none => rw [z] at q; cases q
      | some y => rw [z] at q; cases q; exact nz _ rfl
  refine ⟨by simp [rs.len], fun a o q => (nomatch q), fun a h => (nomatch h), fun a h => th a (by simpa using h), fun i y q => ?_, fun i es q => (noown i _ (fun _ z => by cases z) q).elim, fun i j es es' a h1 => (noown i _ (fun _ z => by cases z) h1).elim, fun i es q => (noown i _ (fun _ z => by cases z) q).elim, fun i j es es' a h1 => (noown i _ (fun _ z => by cases z) h1).elim, fun i v q => (noown i _ (fun _ z => by cases z) q).elim⟩
  rw [e]
  cases i with
  | zero => cases q; exact ⟨v, rfl, r⟩
  | succ j =>
    rw [List.getElem?_cons_succ, List.getElem?_map] at q
    cases z : ds[j]? with
    | none => rw [z] at q; cases q
    | some y' =>
      rw [z] at q; cases q
      obtain ⟨u, h1, h2⟩ := rs.get z
      exact ⟨u, by rw [List.getElem?_cons_succ, List.getElem?_map, h1]; rfl, h2⟩
theorem Q8 {K : PySem.W.Frag} {sl : List Nat} {ti : DTI} {dt : DTT} {de : DTE} (mi : ∀ {ρ Q Q'}, (∀ d, Q d → Q' d) → ti ρ Q → ti ρ Q') (mt : ∀ {ρ Q Q'}, (∀ d, Q d → Q' d) → dt ρ Q → dt ρ Q') (me : ∀ {ρ Q Q'}, (∀ d, Q d → Q' d) → de ρ Q → de ρ Q')
    (σ : St) (H : Hp) (Q : VK) (h : lE K (Hg sl ti dt de) σ H Q) : Xp sl (lI K ti) (lT K dt) (lE K de) σ H Q := by
  obtain ⟨B, F, O, ρ, R, h⟩ := h
  refine ⟨B, F, O, ρ, R, mi (fun items ⟨h1, h2, W, w0, st, fin⟩ J H1 s1 it => ?_) h⟩
  have R1 := R.same s1
  obtain ⟨vs, ds, ev, ed, rs⟩ := J4 R1 h2
  refine ⟨vs, ev, fun D hD => ?_⟩
  have nD : D ∉ F ++ O := fun z => R1.th D z hD
  have sM : Same (mask (F ++ O) H1) (mask (F ++ O) (upd H1 D (.lst []))) := (Same.upd hD).mask
  refine ⟨fun i m acc H2 => m + i = items.length ∧ H2 D = some (.lst acc) ∧ acc.length ≤ i ∧ Same H1 H2 ∧ ∃ as, RpL K (mask (D :: (F ++ O)) H2) as acc ∧ W i as, ⟨items.length, by omega, Bp, Nat.le_refl _, Same.upd hD, [], RpL.nil, w0⟩, ?_⟩
  rintro i m acc H2 ⟨hm, e2, hl, s2, as, ra, w⟩
  have sb : Same (mask (F ++ O) H1) H2 := fun a o e => s2 a o (Bw e).2
  have sD : Same (mask (F ++ O) H1) (mask (D :: (F ++ O)) H2) := fun a o e => by
    obtain ⟨q, e⟩ := Bw e
    rw [Aq fun z => by
      rcases List.mem_cons.mp z with z | z
      · rw [z, hD] at e; cases e
      · exact q z]
    exact s2 a o e
  obtain ⟨go, stop⟩ := it H2 sb
  by_cases hlt : i < items.length
  · refine .inr ⟨(go i items[i] (by simp [hlt])).1, fun z H3 y => ?_⟩
    obtain ⟨e, r⟩ := (go i items[i] (by simp [hlt])).2 z H3 y
    subst e
    have th : ∀ a ∈ D :: (F ++ O), H3 a ≠ none := fun a ha q => by
      rcases List.mem_cons.mp ha with z | z
      · rw [z, e2] at q; cases q
      · have := R1.th a z
        cases q' : H1 a with
        | none => exact this q'
        | some o => rw [s2 a o q'] at q; cases q
    have R3 := U5 th (r.mono sD) (rs.mono sD)
    have ei : some (En.is items[i]) :: ds.map (fun d => some (En.is d)) = inner sl ρ items[i] := by unfold inner; rw [ed]
    rw [ei] at R3
    refine ⟨_, _, _, _, R3, mt (fun b q H4 s4 => ?_) (st i _ as (by simp [hlt]) w)⟩
    cases b with
    | false =>
      refine ⟨m - 1, by omega, by omega, s4 _ _ e2, by omega, s2.trans s4, as, ra.mono s4.mask, q⟩
    | true =>
      refine ⟨_, _, _, _, R3.same s4, me (fun e q v5 H5 s5 r5 => ?_) q⟩
      have e5 : H5 D = some (.lst acc) := s5 _ _ (s4 _ _ e2)
      have hz : acc.length < sizeLine := by omega
      have s6 : Same (mask (D :: (F ++ O)) H5) (mask (D :: (F ++ O)) (upd H5 D (.lst (acc ++ [v5])))) := fun a o q => by
        obtain ⟨n, q⟩ := Bw q
        rw [Aq n, Bc fun z => n (by rw [z]; exact List.mem_cons_self)]; exact q
      have em : mask (D :: (F ++ O) ++ []) H5 = mask (D :: (F ++ O)) H5 := by rw [List.append_nil]
      rw [em] at r5
      refine ⟨e5, hz, m - 1, by omega, by omega, Bp, by simp; omega, fun a o q => ?_, as ++ [e], (((ra.mono s4.mask).mono s5.mask).append (RpL.cons r5 RpL.nil)).mono s6, q⟩
      rw [Bc (Dw q hD)]
      exact s5 _ _ (s4 _ _ (s2 a o q))
  · have e : i = items.length := by omega
    subst e
    refine .inl ⟨stop, fin as (by rw [← ra.len]; exact hl) w (.ref D) H2 (s1.trans s2) (HX ⟨D, acc, rfl, (by rw [Aq nD]; exact e2), ra.mono (Dp fun a h => List.mem_cons_of_mem _ h)⟩)⟩
theorem Xu {ti : DTI} {dt : DTT} {de : DTE} (S : Ed X scope x N sl) (hc : X.calm = true) (hi : DI X (.Name x px) iter ti) (ht : ∀ cl C s₀ H₀ ex, DTs (Bd X scope (x :: N) cl C s₀ H₀ ex) ifs dt) (he : ∀ cl C s₀ H₀ ex, DE (Bd X scope (x :: N) cl C s₀ H₀ ex) elt de)
    (hs : ∀ x, foldedSetIterable iter X.env x = pure x := by intro _; rfl) : DE X (.ListComp elt [⟨.Name x px, iter, ifs, 0⟩] scope pos) (Hg sl ti dt de) := by
  have mt : ∀ {ρ Q Q'}, (∀ d, Q d → Q' d) → dt ρ Q → dt ρ Q' := (ht [] 0 X.s₀ X.H₀ []).mono
  have me : ∀ {ρ Q Q'}, (∀ d, Q d → Q' d) → de ρ Q → de ρ Q' := (he [] 0 X.s₀ X.H₀ []).mono
  refine ⟨fun hq h => hi.mono (fun items ⟨h1, h2, W, w0, st, fin⟩ => ⟨h1, h2, W, w0, st, fun acc l w => hq _ (fin acc l w)⟩) h, ?_⟩
  refine (Y0 (tt := lT X.K dt) (te := lE X.K de) S hc hi.pi (fun cl C s₀ H₀ ex => (ht cl C s₀ H₀ ex).pts) (fun cl C s₀ H₀ ex => (he cl C s₀ H₀ ex).pe) hs).imp (Q8 (ti := ti) (dt := dt) (de := de) hi.mono mt me)
theorem Lr {c : Expr} {ti : DTI} {dt : DTT} {de : DTE} (S : Ed X scope x N sl) (hc : X.calm = true) (hi : DI X (.Name x px) iter ti) (ht : ∀ cl C s₀ H₀ ex, DT (Bd X scope (x :: N) cl C s₀ H₀ ex) c dt) (he : ∀ cl C s₀ H₀ ex, DE (Bd X scope (x :: N) cl C s₀ H₀ ex) elt de)
    (hs : ∀ x, foldedSetIterable iter X.env x = pure x := by intro _; rfl) : DE X (.ListComp elt [⟨.Name x px, iter, [c], 0⟩] scope pos) (Hg sl ti dt de) := Xu S hc hi (fun _ _ _ _ _ => Yq (ht _ _ _ _ _)) he hs
end
noncomputable def Aah (sc scope : Scope) (NN : List Str) (x : Str) (N : List Str) (sl : List Nat) : Bool :=
  decide (scope.names.lookup x = some .local) && decide (scope.kind = .function) && scope.names.all (fun y => decide (y.2 ≠ .cell)) && scope.names.all (fun y => decide (y.2 = .local → scope.names.lookup y.1 = some .local)) &&
    scope.names.all (fun y => decide (y.2 = .free → sc.names.lookup y.1 = some .cell)) && decide (x :: N).Nodup && decide (N.map some = sl.map (fun j => NN[j]?)) && N.all (fun n => decide (scope.names.lookup n = some .free))
theorem HY {X : Cx} {sc scope : Scope} {NN : List Str} {x : Str} {N : List Str} {sl : List Nat} (h1 : X.env.scope = sc) (h2 : X.N = NN) (h : Aah sc scope NN x N sl = true) : Ed X scope x N sl := by
  subst h1 h2
  unfold Aah at h
  simp only [Bool.and_eq_true, decide_eq_true_eq, List.all_eq_true] at h
  obtain ⟨⟨⟨⟨⟨⟨⟨a, b⟩, c⟩, d⟩, e⟩, f⟩, g⟩, i⟩ := h
  exact ⟨a, b, c, d, e, f, g, i⟩
noncomputable def Bt (n : Nat) (x : Int) : Prop := x.natAbs < 2 ^ n
theorem Bt.le {n m : Nat} {x : Int} (h : Bt n x) (l : n ≤ m) : Bt m x := Nat.lt_of_lt_of_le h (Nat.pow_le_pow_right (by decide) l)
theorem Bt.mul {n m : Nat} {x y : Int} (a : Bt n x) (b : Bt m y) : Bt (n + m) (x * y) := by
  unfold Bt at *
  rw [Int.natAbs_mul, Nat.pow_add]
  exact Nat.mul_lt_mul'' a b
theorem Bt.add {n m : Nat} {x y : Int} (a : Bt n x) (b : Bt m y) : Bt (max n m + 1) (x + y) := by
  have a' := a.le (Nat.le_max_left n m)
  have b' := b.le (Nat.le_max_right n m)
  unfold Bt at *
  rw [Nat.pow_succ]
  have := Int.natAbs_add_le x y
  omega
theorem Bt.neg {n : Nat} {x : Int} (a : Bt n x) : Bt n (-x) := by unfold Bt at *; rw [Int.natAbs_neg]; exact a
theorem Bt.sub {n m : Nat} {x y : Int} (a : Bt n x) (b : Bt m y) : Bt (max n m + 1) (x - y) := by rw [Int.sub_eq_add_neg]; exact a.add b.neg
theorem Bt.of_abs {n : Nat} {x : Int} (h : x.natAbs < 2 ^ n) : Bt n x := h
theorem Bt.of {n : Nat} {x : Int} (h1 : -(2 ^ n) < x) (h2 : x < 2 ^ n) : Bt n x := by
  unfold Bt
  have : ((x.natAbs : Nat) : Int) < ((2 ^ n : Nat) : Int) := by push_cast; omega
  omega
theorem Bt.mulOk {n m : Nat} {x y : Int} (a : Bt n x) (b : Bt m y) (hn : n ≤ 1048576 := by decide) (hm : m ≤ 1048576 := by decide) : IntMulOk x y :=
  IntMulOk.of_bits (intBits_le_iff.mpr (a.le hn)) (intBits_le_iff.mpr (b.le hm))
theorem Bt.divOk {n : Nat} {x y : Int} (a : Bt n y) (h : y ≠ 0) (hn : n ≤ 9000 := by decide) : CDv x y := ⟨h, a.le hn⟩
theorem Bt.zero : Bt 0 0 := by unfold Bt; decide
theorem Bt.one : Bt 1 1 := by unfold Bt; decide
section
variable {a b c d e f : Dt} {r s : List Dt} {i j : Int} {k l : Bool} {n : Nat} {x y : Str}
theorem Ae8 : ixD 0 (.tup (a :: r)) = some a := rfl
theorem Agg : ixD 1 (.tup (a :: b :: r)) = some b := rfl
theorem Agp : ixD 2 (.tup (a :: b :: c :: r)) = some c := rfl
theorem AfD : ixD 3 (.tup (a :: b :: c :: d :: r)) = some d := rfl
theorem Afs : ixD 0 (.lst (a :: r)) = some a := rfl
theorem AgH : ixD 1 (.lst (a :: b :: r)) = some b := rfl
theorem AgB : ixD 2 (.lst (a :: b :: c :: r)) = some c := rfl
theorem AeT : ixD 3 (.lst (a :: b :: c :: d :: r)) = some d := rfl
theorem Nr : Dt.eq (.int i) (.int j) = decide (i = j) := by rw [Dt.eq]
theorem AdU : Dt.eq (.bl k) (.bl l) = (k == l) := by rw [Dt.eq]
theorem Aac : Dt.eq (.str x) (.str y) = (x == y) := by rw [Dt.eq]
theorem Adu : Dt.eq .non .non = true := by rw [Dt.eq]
theorem Ad9 : Dt.eq .non (.int i) = false := by simp [Dt.eq]
theorem AdW : Dt.eq .non (.tup r) = false := by simp [Dt.eq]
theorem AdV : Dt.eq (.tup r) .non = false := by simp [Dt.eq]
theorem Adf : Dt.eq (.tup r) (.tup s) = Dt.eqs r s := by rw [Dt.eq]
theorem AdN : Dt.eq (.lst r) (.lst s) = Dt.eqs r s := by rw [Dt.eq]
theorem AbF : Dt.eqs [] [] = true := by rw [Dt.eqs]
theorem AbI : Dt.eqs (a :: r) (b :: s) = (Dt.eq a b && Dt.eqs r s) := by rw [Dt.eqs]
theorem Abu : Dt.eqs [] (b :: s) = false := by simp [Dt.eqs]
theorem Ab1 : Dt.eqs (b :: s) [] = false := by simp [Dt.eqs]
theorem JH : Dt.flat n (.int i) = true := by cases n <;> rw [Dt.flat] <;> simp
theorem Aa9 : Dt.flat n (.bl k) = true := by cases n <;> rw [Dt.flat] <;> simp
theorem Abf : Dt.flat n .non = true := by cases n <;> rw [Dt.flat] <;> simp
theorem S7 : Dt.flat (n + 1) (.tup r) = Dt.flats n r := by rw [Dt.flat]
theorem W4 : Dt.flat (n + 1) (.lst r) = Dt.flats n r := by rw [Dt.flat]
theorem Yj : Dt.flat 8 (.tup r) = Dt.flats 7 r := S7
theorem TX : Dt.flat 8 (.lst r) = Dt.flats 7 r := W4
theorem YX : Dt.flat 7 (.tup r) = Dt.flats 6 r := S7
theorem Y7 : Dt.flat 7 (.lst r) = Dt.flats 6 r := W4
theorem ZD : Dt.flat 6 (.tup r) = Dt.flats 5 r := S7
theorem YH : Dt.flats n [] = true := by rw [Dt.flats]
theorem ZG : Dt.flats n (a :: r) = (Dt.flat n a && Dt.flats n r) := by rw [Dt.flats]
theorem Jx {N : Str} {M : List Str} : DQ (N :: M) (a :: r) = some (.is a) :: DQ M r := by
  unfold DQ
  simp only [List.map_cons, List.length_cons, List.cons_append, Nat.add_sub_add_right]
theorem Jk {N : Str} {M : List Str} : DQ (N :: M) [] = none :: DQ M [] := by
  unfold DQ
  simp [List.replicate_succ]
theorem JB : DQ [] [] = [] := rfl
theorem Bu (h : n ≤ 1000) : n ≤ sizeLine := Nat.le_of_lt (U6 h)
theorem AaG : isT "tuple" (.tup r) = true := rfl
theorem AaR : isT "list" (.lst r) = true := rfl
theorem AcI : isT "int" (.int i) = true := rfl
theorem AbC : isT "bool" (.int i) = false := rfl
theorem Acp : isT "int" (.bl k) = true := rfl
theorem Abq : isT "bool" (.bl k) = true := rfl
theorem AaT : isT "tuple" .non = false := rfl
theorem AbB : isT "int" .non = false := rfl
theorem Aci : isT "int" (.tup r) = false := rfl
theorem AaQ : isT "bool" (.tup r) = false := rfl
theorem AgK : noFn (.int i) = true := rfl
theorem Afw : noFn (.bl k) = true := rfl
theorem AeH : noFn .non = true := rfl
theorem Agy : noFn (.tup r) = true := rfl
theorem Agi : noFn (.lst r) = true := rfl
theorem AeX : noFn (.str x) = true := rfl
theorem Aey : isB true (.bl k) = k := by cases k <;> rfl
theorem Adp : isB false (.bl k) = !k := by cases k <;> rfl
theorem AcU : isB k (.int i) = false := rfl
theorem Ado : isB k .non = false := rfl
theorem AbE : isB k (.tup r) = false := rfl
theorem Ac6 : isB k (.lst r) = false := rfl
theorem AcW : isN .non = true := rfl
theorem Adm : isN (.int i) = false := rfl
theorem Aek : isN (.bl k) = false := rfl
theorem Ac8 : isN (.tup r) = false := rfl
theorem AdJ : isN (.lst r) = false := rfl
end
theorem ifn {c : Bool} {A B : Prop} (h : c = true) (b : B) : if (!c) = true then A else B := by subst h; exact b
theorem ift {c : Bool} {A B : Prop} (h : c = true) (a : A) : if c = true then A else B := by subst h; exact a
theorem Dn {c : Bool} {A B : Prop} (h : c = false) (b : B) : if c = true then A else B := by subst h; exact b
theorem Ak {τ : Type} {args : τ → List Dt} {pre : τ → Prop} {val : τ → Dt} {Q : Dt → Prop} (p : τ) (h : pre p) (k : Q (val p)) : CW args pre val (args p) Q := ⟨p, rfl, h, fun d e => by rw [e]; exact k⟩
theorem Bh {τ : Type} {args : τ → List Dt} {pre : τ → Prop} {post : τ → Dt → Prop} {Q : Dt → Prop} (p : τ) (h : pre p) (k : ∀ d, post p d → Q d) : spec args pre post (args p) Q := ⟨p, rfl, h, k⟩
theorem J8 {sl : List Nat} {tt : DTT} {te : DTE} {ρ : Bj} {Q : Dt → Prop} {items : List Dt} (p : Dt → Bool) (f : Dt → Dt) (ht : ∀ d ∈ items, ∀ R : Bool → Prop, R (p d) → tt (inner sl ρ d) R) (he : ∀ d ∈ items, p d = true → ∀ R : Dt → Prop, R (f d) → te (inner sl ρ d) R)
    (hq : Q (.lst ((items.filter p).map f))) : ∃ W : Nat → List Dt → Prop, W 0 [] ∧ (∀ (k : Nat) d acc, items[k]? = some d → W k acc → tt (inner sl ρ d) fun b => if b = true then te (inner sl ρ d) fun e => W (k + 1) (acc ++ [e]) else W (k + 1) acc) ∧
      ∀ acc, acc.length ≤ items.length → W items.length acc → Q (.lst acc) := by
  refine ⟨fun k acc => acc = ((items.take k).filter p).map f, by simp, fun k d acc e w => ?_, fun acc _ w => by rw [w, List.take_length]; exact hq⟩
  have hm := List.mem_of_getElem? e
  refine ht d hm _ ?_
  have ht := take_succ_filter p items k d e
  by_cases hp : p d = true
  · rw [if_pos hp]
    refine he d hm hp _ ?_
    show acc ++ [f d] = _
    rw [w, ht, if_pos hp]; simp
  · rw [if_neg hp]
    show acc = _
    rw [w, ht, if_neg hp]; simp
theorem comp_map {sl : List Nat} {te : DTE} {ρ : Bj} {Q : Dt → Prop} {items : List Dt} (f : Dt → Dt) (he : ∀ d ∈ items, ∀ R : Dt → Prop, R (f d) → te (inner sl ρ d) R)
    (hq : Q (.lst (items.map f))) : ∃ W : Nat → List Dt → Prop, W 0 [] ∧ (∀ (k : Nat) d acc, items[k]? = some d → W k acc → Qy (inner sl ρ d) fun b => if b = true then te (inner sl ρ d) fun e => W (k + 1) (acc ++ [e]) else W (k + 1) acc) ∧
      ∀ acc, acc.length ≤ items.length → W items.length acc → Q (.lst acc) :=
  J8 (fun _ => true) f (fun _ _ _ h => h) (fun d hm _ R h => he d hm R h) (by rw [List.filter_eq_self.mpr (fun _ _ => rfl)]; exact hq)
theorem Jt {sl : List Nat} {ti : DTI} {tt : DTT} {te : DTE} {ρ : Bj} {Q : Dt → Prop} (items : List Dt) (p : Dt → Bool) (f : Dt → Dt) (hi : ∀ R : List Dt → Prop, R items → ti ρ R) (hl : items.length ≤ sizeLine) (hc : caught sl ρ)
    (ht : ∀ d ∈ items, ∀ R : Bool → Prop, R (p d) → tt (inner sl ρ d) R) (he : ∀ d ∈ items, p d = true → ∀ R : Dt → Prop, R (f d) → te (inner sl ρ d) R) (hq : Q (.lst ((items.filter p).map f))) : Hg sl ti tt te ρ Q :=
  hi _ ⟨hl, hc, J8 p f ht he hq⟩
theorem VF {sl : List Nat} {ti : DTI} {te : DTE} {ρ : Bj} {Q : Dt → Prop} (items : List Dt) (f : Dt → Dt) (hi : ∀ R : List Dt → Prop, R items → ti ρ R) (hl : items.length ≤ sizeLine) (hc : caught sl ρ)
    (he : ∀ d ∈ items, ∀ R : Dt → Prop, R (f d) → te (inner sl ρ d) R) (hq : Q (.lst (items.map f))) : Hg sl ti Qy te ρ Q :=
  hi _ ⟨hl, hc, comp_map f he hq⟩
theorem El {ti : DTI} {g : DTG} {tb : DTS} {D : DK} {ρ : Bj} (items : List Dt) (hi : ∀ R : List Dt → Prop, R items → ti ρ R) (W : Nat → Bj → Prop) (h0 : W 0 ρ)
    (hs : ∀ (k : Nat) d ρ', items[k]? = some d → W k ρ' → g d ρ' fun ρ2 => tb { D with nx := W (k + 1), ct := W (k + 1), bk := D.nx } ρ2) (he : ∀ ρ', W items.length ρ' → D.nx ρ') : ZF ti g tb D ρ := hi _ ⟨W, h0, hs, he⟩
theorem GP {ρ : Bj} : caught [] ρ := fun _ h => (nomatch h)
theorem Ze {ns : List Int} {k : Int} (h0 : 0 ≤ k) (h1 : k < ns.length) : ixD k (.lst (ns.map Dt.int)) = some (.int (ns.getD k.toNat 0)) := by
  obtain ⟨j, rfl⟩ := Int.eq_ofNat_of_zero_le h0
  have hj : j < ns.length := by omega
  show (ns.map Dt.int)[j]? = _
  rw [List.getElem?_map]
  simp [hj]
end L2
namespace L2
theorem Eo {c : DTT} {tb : DTS} {D : DK} {ρ : Bj} (W : Nat → Bj → Prop) (m : Nat) (h0 : W m ρ) (h : ∀ m ρ, W m ρ → c ρ fun k => if k = true then tb { D with nx := fun ρ' => ∃ m', m' < m ∧ W m' ρ', ct := fun ρ' => ∃ m', m' < m ∧ W m' ρ', bk := D.nx } ρ else D.nx ρ) : Ws c tb D ρ := ⟨W, ⟨m, h0⟩, h⟩
end L2
namespace L2
open PySem PySem.Spec PyProof.Rows PySem.SeqAt
section
variable {X : Cx} {a b c e : Expr} {es : List Expr} {ta tb te : DTE} {tl : DTA} {pos : Pos}
noncomputable def downs (hi : Int) (n : Nat) : List Dt := (List.range n).map fun i => .int (hi - (i : Nat))
noncomputable def AaK (tl : DTA) : DTI := fun ρ Q => tl ρ fun ds => match ds with
  | [.int i, .int j, .int k] => k = -1 ∧ (-(2 ^ 62) ≤ i ∧ i < 2 ^ 62 ∧ -(2 ^ 62) ≤ j ∧ j < 2 ^ 62) ∧ Q (downs i (i - j).toNat)
  | _ => False
theorem ZQ : MtR X "int.bit_length" (fun x xs H Q => ∃ i, x = .int i ∧ xs = [] ∧ Q (.int (Builtin.Int.intBits i)) H) := by
  intro pins s σ H x xs v us Q I rx rs ⟨i, e, e2, q⟩
  subst e e2
  cases rs
  obtain ⟨t, rfl⟩ := rx
  exact call_int_bit_length ⟨.int _, H, I.tok _, ⟨_, rfl⟩, q⟩
noncomputable def Aai (ta : DTE) : DTE := fun ρ Q => ta ρ fun d => match d with
  | .int i => Q (.int (Builtin.Int.intBits i))
  | _ => False
theorem Tw {apos : Pos} (ha : DE X a ta) (hbase : attributeBase a "bit_length" X.env (eval a X.env) = eval a X.env := by rfl) (hline : (apos.endLine == pos.line) = true := by rfl) : DE X (.Call (.Attribute a "bit_length" apos) [] [] pos) (Aai ta) where
  mono := fun hq h => ha.mono (fun d h => by
    split at h
    · exact hq _ h
    · exact h.elim) h
  pe := (Sw PySem.F.plainAttrs_int PySem.F.slot_int_bit_length PySem.F.type_int_bit_length ZQ ha.pe hbase hline).imp fun σ H Q ⟨B, F, O, ρ, R, h⟩ => ⟨B, F, O, ρ, R, ha.mono (fun d h v H1 s1 r1 => by
    split at h
    · rw [Ba.mp r1]
      exact ⟨rfl, _, rfl, rfl, h _ H1 s1 (Ba.mpr rfl)⟩
    · exact h.elim) h⟩
noncomputable def Ael (P : Program) (w : World) (K : PySem.W.Frag) (mg : Str → Option Value) (base : Heap) (k : Nat) (a : Addr) (sp : DSp) : Prop :=
  ∃ fd ps, Kc P w K mg base CX0 k a fd ps (lSp K sp) ∧ Binds K fd ps [] ∧ PySem.W.keepIn K (.ref a) = true
noncomputable def AcH (P : Program) (w : World) (K : PySem.W.Frag) (mg : Str → Option Value) (base : Heap) (k : Nat) (tf : DTE) (tl : DTA) : DTE := fun ρ Q => tf ρ fun d => match d with
  | .fn a => PySem.W.keepIn K (.ref a) = true ∧ tl ρ fun ds => ∃ sp, KJ sp ∧ Ael P w K mg base k a sp ∧ sp ds Q
  | _ => False
noncomputable def lF (K : PySem.W.Frag) (t : DTA) : TE := fun σ H Q => ∃ B F O ρ, Rep K B F O H σ ρ ∧ t ρ fun ds => ∀ p H' vs, Same H H' → H' p = some (.lst vs) → p ∉ F ++ O → RpL K (mask (F ++ O) H') ds vs → Q (.ref p) H'
structure DF (X : Cx) (e : Expr) (t : DTA) : Prop where
  mono : ∀ {ρ Q Q'}, (∀ d, Q d → Q' d) → t ρ Q → t ρ Q'
  pe : PE X e (lF X.K t)
noncomputable def dOf (t : DTA) : DTE := fun ρ Q => t ρ fun ds => Q (.lst ds)
theorem DF.de {t : DTA} (h : DF X e t) : DE X e (dOf t) where
  mono := fun hq z => h.mono (fun _ z => hq _ z) z
  pe := h.pe.imp fun σ H Q ⟨B, F, O, ρ, R, z⟩ => ⟨B, F, O, ρ, R, h.mono (fun ds z p H' vs s e n r => z (.ref p) H' s (HX ⟨p, vs, rfl, (by rw [Aq n]; exact e), r⟩)) z⟩
noncomputable def Z9 (tl : DTA) : DTA := fun ρ Q => tl ρ fun ds => ds.length ≤ sizeLine ∧ Q ds
theorem Ab9 (h : DA X es tl) : DF X (.List es pos) (Z9 tl) where
  mono := fun hq z => h.mono (fun ds q => ⟨q.1, hq _ q.2⟩) z
  pe := (Sx h.pa).imp fun σ H Q ⟨B, F, O, ρ, R, q⟩ => ⟨B, F, O, ρ, R, h.mono (fun ds z vs H1 s1 r1 => ⟨by rw [r1.len]; exact z.1, fun p hp => by
    have np : p ∉ F ++ O := fun m => (R.same s1).th p m hp
    exact z.2 p _ vs (s1.trans (Same.upd hp)) Bp np (r1.mono (Same.upd hp).mask)⟩) q⟩
noncomputable def Ub (te : DTE) (tl th : DTO) : DTA := fun ρ Q => te ρ fun d => tl ρ fun lo => th ρ fun hi => match d with
  | .lst ds => Q (cutD ds lo hi)
  | _ => False
theorem Qi {lo hi : Option Expr} {t1 t2 : DTO} {p2 : Pos} (he : DE X e te) (hl : DO X lo t1) (hh : DO X hi t2) : DF X (.Subscript e (.Slice lo hi none p2) pos) (Ub te t1 t2) where
  mono := fun hq z => he.mono (fun d z => hl.mono (fun l z => hh.mono (fun h z => by
    split at z
    · exact hq _ z
    · exact z.elim) z) z) z
  pe := (Qq TF he.pe hl.po hh.po).imp fun σ H Q ⟨B, F, O, ρ, R, z⟩ => ⟨B, F, O, ρ, R, he.mono (fun d z v H1 s1 r1 => ⟨B, F, O, ρ, R.same s1, hl.mono (fun l z H2 s2 => ⟨B, F, O, ρ, (R.same s1).same s2, hh.mono (fun h z H3 s3 => by
    split at z
    · obtain ⟨a, xs, rfl, hs, hr⟩ := Ds ((r1.mono s2.mask).mono s3.mask)
      refine ⟨a, xs, rfl, Ay.seq hs, fun p hp => ?_⟩
      have R3 := ((R.same s1).same s2).same s3
      have np : p ∉ F ++ O := fun m => R3.th p m hp
      exact z p _ _ (((s1.trans s2).trans s3).trans (Same.upd hp)) Bp np (hr.cut.mono (Same.upd hp).mask)
    · exact z.elim) z⟩) z⟩) z⟩
noncomputable def Aat (t u : DTA) : DTA := fun ρ Q => t ρ fun xs => u ρ fun ys => xs.length + ys.length ≤ sizeLine ∧ Q (xs ++ ys)
theorem Acx {t u : DTA} (ha : DF X a t) (hb : DF X b u) : DF X (.BinOp a .Add b pos) (Aat t u) where
  mono := fun hq z => ha.mono (fun _ z => hb.mono (fun _ z => ⟨z.1, hq _ z.2⟩) z) z
  pe := (W6 AbH ha.pe hb.pe).imp fun σ H Q ⟨B, F, O, ρ, R, z⟩ => ⟨B, F, O, ρ, R, ha.mono (fun xs z p H1 vs s1 e1 n1 r1 => ⟨B, F, O, ρ, R.same s1, hb.mono (fun ys z p2 H2 ws s2 e2 n2 r2 => by
    refine ⟨p, p2, vs, ws, rfl, rfl, s2 _ _ e1, e2, by rw [r1.len, r2.len]; exact z.1, fun l hl => ?_⟩
    have np : l ∉ F ++ O := fun m => ((R.same s1).same s2).th l m hl
    exact z.2 l _ _ ((s1.trans s2).trans (Same.upd hl)) Bp np (((r1.mono s2.mask).append r2).mono (Same.upd hl).mask)) z⟩) z⟩
end
section
variable {X : Cx} {elt iter : Expr} {x : Str} {px : Pos} {ifs : List Expr} {scope : Scope} {pos : Pos} {N : List Str} {sl : List Nat} {wi : TI} {tt : TT} {te : TE}
theorem RN {pins : List (Addr × Obj)} {σ : St} {H2 : Hp} {s2 : Shared} {cl : List (Str × Addr)} {it : Addr} {fp : List Addr} {tn : Nat → Heap → Prop} {J : It} {vs : List V} {PP : Value → Addr → Result → Shared → Prop} {E : Value → Shared → Prop} {QD : Hp → Prop} (S : Ed X scope x N sl) (hc : X.calm = true)
    (ht : ∀ cl C s₀ H₀ ex, PTs (Bd X scope (x :: N) cl C s₀ H₀ ex) ifs tt) (he : ∀ cl C s₀ H₀ ex, PE (Bd X scope (x :: N) cl C s₀ H₀ ex) elt te)
    (hcl : ∀ n c, cl.lookup n = some c → X.env.cells.lookup n = some c) (hcl2 : ∀ n, (n, NameKind.free) ∈ scope.names → ∃ c, cl.lookup n = some c)
    (I2 : Inv X pins σ H2 s2) (T : Turn X.prog X.w X.K (.Name x px) J fp it tn) (st2 : tn 0 s2.heap) (f2 : ∀ b ∈ fp, Kp X pins H2 b) (hvs : sl.map (fun j => σ[j]?) = vs.map (fun v => some (some v)))
    (hW : ∃ W : Nat → Nat → List V → Hp → Prop, (∃ m, W 0 m [] (upd H2 s2.heap.objs.size (.lst []))) ∧ ∀ i m acc H, W i m acc H →
      (J.stop i H ∧ QD H) ∨ (J.go i H ∧ ∀ x H', J.yld i H x H' → tt (some x :: vs.map some) H' fun b H2' =>
        if b = true then te (some x :: vs.map some) H2' fun y H3 => H3 s2.heap.objs.size = some (.lst acc) ∧ acc.length < sizeLine ∧ ∃ m', m' < m ∧ W (i + 1) m' (acc ++ [y]) (upd H3 s2.heap.objs.size (.lst (acc ++ [y])))
        else ∃ m', m' < m ∧ W (i + 1) m' acc H2'))
    (fin : ∀ (C : Addr), (s2.heap.push { cls := .type "list", data := .seq ([] : List Value).toArray }).objs.size = C → ∀ {σ' : St} {H' : Hp} {s' : Shared}, Inv (Bd X scope (x :: N) cl C { s2 with heap := s2.heap.push { cls := .type "list", data := .seq ([] : List Value).toArray }, toks := s2.toks } (upd H2 s2.heap.objs.size (.lst [])) fp) [] σ' H' s' → QD H' → PP (.ref s2.heap.objs.size) C (.ok .next) s') :
    wpAny (model X.prog X.w) X.A (newList []) (fun acc s₃ => wpAny (model X.prog X.w) X.A (newFunctionEnv scope X.env.globals cl [] X.env.qual none .none (some X.env)) (fun cenv s₄ =>
      codeAny (model X.prog X.w) X.A (.compStart (.ListComp elt [⟨.Name x px, iter, ifs, 0⟩] scope pos) 0 (.ref it) acc { cenv with scope := relabel scope X.env }) (PP acc cenv.locals) s₄) E s₃) E s2 := by
  refine wpAny_newObj_type (wpAny_newFunctionEnv S.cell (by intro y hy; simp at hy) (fun h₁ hns₁ hsb₁ => ?_) S.kind)
  have hD : H2 s2.heap.objs.size = none := I2.fresh
  have I3 : Inv X pins σ (upd H2 s2.heap.objs.size (.lst [])) { s2 with heap := s2.heap.push { cls := .type "list", data := .seq ([] : List Value).toArray }, toks := s2.toks } := I2.lnew (its := []) (ys := []) .nil (Nat.zero_le _)
  have hbD : ∀ b ∈ fp, b ≠ s2.heap.objs.size := fun b hb z => by
    obtain ⟨o', e', _⟩ := T.obj _ _ st2 b hb
    exact absurd (Heap.lt_size e') (by rw [z]; exact Nat.lt_irrefl _)
  have f3 : ∀ b ∈ fp, Kp X pins (upd H2 s2.heap.objs.size (.lst [])) b := fun b hb => ⟨by rw [Bc (hbD b hb)]; exact (f2 b hb).1, (f2 b hb).2⟩
  have ob3 : ∀ b ∈ fp, ∃ o, (s2.heap.push { cls := .type "list", data := .seq ([] : List Value).toArray }).get? b = some o := fun b hb => by
    obtain ⟨o', e', _⟩ := T.obj _ _ st2 b hb
    exact ⟨o', Heap.get?_push_of_some _ e'⟩
  have IC := Rk (tk := s2.toks + ([] : List (Str × Value)).length) S I3 f3 ob3 hns₁ hsb₁ hcl hcl2 hvs
  dsimp only at hsb₁ IC ⊢
  generalize hCC : (s2.heap.push { cls := .type "list", data := .seq ([] : List Value).toArray }).objs.size = C at hns₁ hsb₁ IC ⊢
  have old : ∀ b o, s2.heap.get? b = some o → h₁.get? b = some o := fun b o e => by
    have e1 : (s2.heap.push { cls := .type "list", data := .seq ([] : List Value).toArray }).get? b = some o := Heap.get?_push_of_some _ e
    exact (hsb₁.2 b (by rw [← hCC]; exact Nat.ne_of_lt (Heap.lt_size e1))).trans (Heap.get?_push_of_some _ e1)
  have st₁ : tn 0 h₁ := T.keep _ _ _ st2 fun b hb o e => old b o e
  obtain ⟨W, ⟨m0, w0⟩, turn⟩ := hW
  have fpC : ∀ {H' : Hp} {pl : List (Addr × Obj)}, (∀ b ∈ fp, H' b = none) → (∀ p ∈ pl, p.1 ∉ fp) → ∀ b ∈ fp, Kp (Bd X scope (x :: N) cl C { s2 with heap := s2.heap.push { cls := .type "list", data := .seq ([] : List Value).toArray }, toks := s2.toks } (upd H2 s2.heap.objs.size (.lst [])) fp) pl H' b := fun {H' pl} hn hp b hb => by
    refine ⟨hn b hb, (IC.ok.exf b hb).1, IC.ok.exfs b hb, .inl hb, (IC.ok.exf b hb).2, fun p hq z => ?_⟩
    have hq' : p ∈ pl := by simpa [Bd] using hq
    exact hp p hq' (by rw [z]; exact hb)
  have loop : codeAny (model X.prog X.w) X.A (.compLoop (.ListComp elt [⟨.Name x px, iter, ifs, 0⟩] scope pos) 0 (.ref it) (.ref s2.heap.objs.size) (compEnvC scope cl C X.env)) (PP (.ref s2.heap.objs.size) C)
      { s2 with heap := h₁, toks := s2.toks + ([] : List (Str × Value)).length } := by
    refine codeAny_compLoop_tests (fun n s' => ∃ i acc σ' H', Inv (Bd X scope (x :: N) cl C { s2 with heap := s2.heap.push { cls := .type "list", data := .seq ([] : List Value).toArray }, toks := s2.toks } (upd H2 s2.heap.objs.size (.lst [])) fp) [] σ' H' s' ∧ (∃ y, σ' = y :: vs.map some) ∧
      tn i s'.heap ∧ (∀ b ∈ fp, H' b = none) ∧ W i n acc H') ?_ m0 ⟨0, [], _, _, IC, ⟨none, rfl⟩, st₁, fun b hb => (f3 b hb).1, w0⟩
    rintro n s3 ⟨i, acc, σ3, H3, I4, ⟨y, rfl⟩, st3, fr3, w3⟩
    rcases turn i n acc H3 w3 with ⟨stop, qn⟩ | ⟨go, step⟩
    · refine wpAny_mono (T.done (Bd X scope (x :: N) cl C { s2 with heap := s2.heap.push { cls := .type "list", data := .seq ([] : List Value).toArray }, toks := s2.toks } (upd H2 s2.heap.objs.size (.lst [])) fp) rfl rfl rfl hc i [] s3 _ H3 (fun _ _ => False) I4 (fpC fr3 (by simp)) st3 stop) (fun r s4 ⟨hr, I5⟩ => ?_) fun _ _ z => False.elim z
      subst hr
      exact fin C hCC I5 qn
    · refine wpAny_mono (T.item (Bd X scope (x :: N) cl C { s2 with heap := s2.heap.push { cls := .type "list", data := .seq ([] : List Value).toArray }, toks := s2.toks } (upd H2 s2.heap.objs.size (.lst [])) fp) rfl rfl rfl hc i [] s3 _ H3 (fun _ _ => False) I4 (fpC fr3 (by simp)) st3 go) (fun r s4 ⟨u, hr, h4⟩ => ?_) fun _ _ z => False.elim z
      subst hr
      have e0 : ∀ (k : Unit → Sem Unit), (letOwnedTupleGo (.Name x px) (.ref it) u >>= k) = k () := fun k => rfl
      have hg : PG (Bd X scope (x :: N) cl C { s2 with heap := s2.heap.push { cls := .type "list", data := .seq ([] : List Value).toArray }, toks := s2.toks } (upd H2 s2.heap.objs.size (.lst [])) fp) (.Name x px) (Um 0) := Px S.nd rfl (.inl (lookup_relabel_local S.hx)) (.inr (lookup_relabel_local S.hx))
      show wpAny (model X.prog X.w) X.A (assign (.Name x px) (compEnvC scope cl C X.env) u) _ _ s4
      rw [← e0 fun _ => assign (.Name x px) (compEnvC scope cl C X.env) u]
      refine wpAny_bind (wpAny_mono h4 (fun _ s5 ⟨z, H5, I5, r5, y5, st5, fr5⟩ => ?_) fun _ _ z => False.elim z)
      have I5' := I5.pinned (fpC fr5 (by simp)) (T.obj _ _ st5)
      have W5 := hg _ s5 _ H5 z u (fun σ' H' => σ' = some z :: vs.map some ∧ H' = H5) I5' r5 ⟨rfl, rfl⟩
      refine wpAny_mono W5 (fun _ s6 ⟨σ6, H6, I6, e6, e7⟩ => ?_) fun _ _ z => False.elim z
      subst e6 e7
      refine wpAny_mono (ht _ _ _ _ _ _ s6 _ H6 _ I6 (step z H6 y5)) (fun b s7 ⟨H7, I7, q7⟩ => ?_) fun _ _ z => False.elim z
      have again : ∀ {H8 : Hp} {s8 : Shared} {acc' : List V}, Inv (Bd X scope (x :: N) cl C { s2 with heap := s2.heap.push { cls := .type "list", data := .seq ([] : List Value).toArray }, toks := s2.toks } (upd H2 s2.heap.objs.size (.lst [])) fp) ([] ++ J1 fp s5.heap) (some z :: vs.map some) H8 s8 → (∃ m', m' < n ∧ W (i + 1) m' acc' H8) → ∃ m, m < n ∧ ∃ i acc σ' H', Inv (Bd X scope (x :: N) cl C { s2 with heap := s2.heap.push { cls := .type "list", data := .seq ([] : List Value).toArray }, toks := s2.toks } (upd H2 s2.heap.objs.size (.lst [])) fp) [] σ' H' s8 ∧ (∃ y, σ' = y :: vs.map some) ∧ tn i s8.heap ∧ (∀ b ∈ fp, H' b = none) ∧ W i m acc H' := fun {H8 s8 acc'} I8 ⟨m', hm, w8⟩ => by
        refine ⟨m', hm, i + 1, acc', _, H8, I8.unpinned, ⟨_, rfl⟩, T.keep _ _ _ st5 fun b hb o e => (I8.pin (b, o) (List.mem_append_right _ (List.mem_append_right _ (Eh hb e)))).1, fun b hb => ?_, w8⟩
        obtain ⟨o, e, d⟩ := T.obj _ _ st5 b hb
        exact (I8.pin (b, o) (List.mem_append_right _ (List.mem_append_right _ (Eh hb e)))).2.1
      cases b with
      | false => exact again I7 q7
      | true =>
        rw [if_pos rfl]
        refine wpAny_mono (he _ _ _ _ _ _ s7 _ H7 _ I7 q7) (fun v8 s8 ⟨x8, H8, I8, r8, hD8, hz8, q8⟩ => ?_) fun _ _ z => False.elim z
        refine wpAny_mono (JV (X := (Bd X scope (x :: N) cl C { s2 with heap := s2.heap.push { cls := .type "list", data := .seq ([] : List Value).toArray }, toks := s2.toks } (upd H2 s2.heap.objs.size (.lst [])) fp)) _ s8 _ H8 (.ref s2.heap.objs.size) [x8] (.ref s2.heap.objs.size) [v8] (fun _ H9 => H9 = upd H8 s2.heap.objs.size (.lst (acc ++ [x8]))) I8 rfl (.cons r8 .nil) ⟨_, acc, x8, rfl, rfl, hD8, hz8, rfl⟩) (fun _ s9 ⟨_, H9, I9, _, e9⟩ => ?_) fun _ _ z => False.elim z
        subst e9
        exact again I9 q8
  exact codeAny_compStart_list loop (T.self _ 0 _ _ _ st₁ loop)
noncomputable def Ac3 (i : Nat) (sl : List Nat) (wi : TI) (tt : TT) (te : TE) : TS := fun D σ H => Xp sl wi tt te σ H fun v H' => D.nx (σ.set i (some v)) H'
theorem Yz {i : Nat} {y : Str} {py spos : Pos} (S : Ed X scope x N sl) (hc : X.calm = true) (hN : X.N.Nodup) (hyi : X.N[i]? = some y) (hy : X.env.scope.names.lookup y = some .local) (hi : PI X (.Name x px) iter wi)
    (ht : ∀ cl C s₀ H₀ ex, PTs (Bd X scope (x :: N) cl C s₀ H₀ ex) ifs tt) (he : ∀ cl C s₀ H₀ ex, PE (Bd X scope (x :: N) cl C s₀ H₀ ex) elt te)
    (hsw : swapsWith (.ListComp elt [⟨.Name x px, iter, ifs, 0⟩] scope pos) (some (.Name y py)) spos.line X.env = pure true) (hs : ∀ x, foldedSetIterable iter X.env x = pure x := by intro _; rfl) :
    PS X (.Assign [.Name y py] (.ListComp elt [⟨.Name x px, iter, ifs, 0⟩] scope pos) spos) (Ac3 i sl wi tt te) := by
  intro pins s σ H DD I h
  obtain ⟨cl, hclos, hcl, hcl2⟩ := Mw (env := X.env) (scope := scope) fun y hy hf => I.ok.has y.1 (.inl (S.free y hy hf))
  rw [exec_Assign_Name_used _ _ _ _ hsw]
  refine wpAny_bind (wpAny_standAt (wpAny_bind ?_))
  show wpAny _ X.A (do let _ ← comprehension (.ListComp elt [⟨.Name x px, iter, ifs, 0⟩] scope pos) scope X.env _ (newList []) false (eval iter X.env) (some (assign (.Name y py) X.env))) _ _ s
  refine wpAny_bind (wpAny_mono (wpAny_comprehension_free (use := some (assign (.Name y py) X.env)) (Q := fun _ s' => SP X pins DD .next s') rfl hs hclos S.kind S.names
    (thn (hi pins s σ H _ I h) fun v s1 h1 => thn h1 fun itv s2 h2 => ?_)) (fun _ s' hq => wpAny_pure (wpAny_pure hq)) fun _ _ e => e)
  obtain ⟨it, fp, tn, J, H2, e, I2, T, st2, f2, vs, hvs, hW⟩ := h2
  subst e
  refine RN (QD := fun H' => DD.nx (σ.set i (some (.ref s2.heap.objs.size))) H') (PP := fun acc C => compPost (model X.prog X.w) X.A X.xe (some (assign (.Name y py) X.env)) (fun _ s' => SP X pins DD .next s') acc C) S hc ht he hcl hcl2 I2 T st2 f2 hvs (hW s2.heap.objs.size I2.fresh) fun C hCC {σ' H' s'} J q => ?_
  have hD : H2 s2.heap.objs.size = none := I2.fresh
  have nC : ∀ b o, s2.heap.get? b = some o → b ≠ C := fun b o e => by
    have e1 : (s2.heap.push { cls := .type "list", data := .seq ([] : List Value).toArray }).get? b = some o := Heap.get?_push_of_some _ e
    rw [← hCC]; exact Nat.ne_of_lt (Heap.lt_size e1)
  have u : Un (frs X.stack) fp H2 H' s2.heap s'.heap := (Un.laid (fun b u e => Heap.get?_push_of_some _ e) (Nat.le_refl _) hD).trans J.base
  have hos : s'.os = s2.os := J.os
  have IX : Inv X pins σ H' s' := I2.call' (ch := fp) hos u J.hok J.bare fun b hb => ⟨(f2 b hb).2.2.2.1, (f2 b hb).2.1, (f2 b hb).2.2.2.2.1, (f2 b hb).2.2.2.2.2⟩
  have hLC : X.env.locals ≠ C := by
    obtain ⟨m, ⟨o, _, _, ho, _⟩, _⟩ := I2.loc
    exact nC _ o ho
  have hcC : ∀ y c, X.env.cells.lookup y = some c → c ≠ C := fun y c e => by
    obtain ⟨v, o, ho, _⟩ := I2.cell y c e
    exact nC _ o ho
  show wpAny _ X.A (assign (.Name y py) X.env (.ref s2.heap.objs.size)) _ _ _
  refine wpAny_assign_Name (Od IX hN hyi (.inl hy) (v := .ref s2.heap.objs.size) rfl (fun s'' I'' ⟨a, hs2, ha⟩ => ?_) (.inr hy))
  obtain ⟨m, hn, _⟩ := id J.loc
  have haC : C ≠ a := by
    rcases ha with z | z
    · rw [z]; exact Ne.symm hLC
    · exact Ne.symm (hcC y a z)
  refine ⟨m, hn.sameBut hs2 haC, fun h' hs' => ⟨_, H', ?_, q⟩⟩
  refine I''.turned (t' := s''.toks) (it := C) (fun b o hb e => (hs'.2 b hb).trans e) J.free (Ne.symm hLC) (.inr ?_) hcC (fun p hp z => ?_)
  · rw [← hCC]
    exact Nat.le_trans I2.sz (by rw [Heap.size_push]; exact Nat.le_succ _)
  · obtain ⟨e, _⟩ := I2.pin p hp
    exact nC _ _ e z
theorem N5 {sl : List Nat} {ti : DTI} {dt : DTT} {de : DTE} (mi : ∀ {ρ Q Q'}, (∀ d, Q d → Q' d) → ti ρ Q → ti ρ Q') : ∀ {ρ Q Q'}, (∀ d, Q d → Q' d) → Hg sl ti dt de ρ Q → Hg sl ti dt de ρ Q' :=
  fun hq h => mi (fun items ⟨h1, h2, W, w0, st, fin⟩ => ⟨h1, h2, W, w0, st, fun acc l w => hq _ (fin acc l w)⟩) h
noncomputable def WX (i : Nat) (sl : List Nat) (ti : DTI) (tt : DTT) (te : DTE) : DTS := fun D ρ => Hg sl ti tt te ρ fun d => D.nx (ρ.set i (some (.is d)))
theorem W0 {ti : DTI} {dt : DTT} {de : DTE} {y : Str} {py spos : Pos} (i : Nat) (S : Ed X scope x N sl) (hc : X.calm = true) (hN : X.N.Nodup) (hyi : X.N[i]? = some y) (hy : X.env.scope.names.lookup y = some .local) (hi : DI X (.Name x px) iter ti)
    (ht : ∀ cl C s₀ H₀ ex, DTs (Bd X scope (x :: N) cl C s₀ H₀ ex) ifs dt) (he : ∀ cl C s₀ H₀ ex, DE (Bd X scope (x :: N) cl C s₀ H₀ ex) elt de)
    (hsw : swapsWith (.ListComp elt [⟨.Name x px, iter, ifs, 0⟩] scope pos) (some (.Name y py)) spos.line X.env = pure true) (hs : ∀ x, foldedSetIterable iter X.env x = pure x := by intro _; rfl) :
    DS X (.Assign [.Name y py] (.ListComp elt [⟨.Name x px, iter, ifs, 0⟩] scope pos) spos) (WX i sl ti dt de) where
  mono := fun hd h => N5 (ti := ti) hi.mono (fun d q => hd.nx _ q) h
  ps := (Yz (tt := lT X.K dt) (te := lE X.K de) S hc hN hyi hy hi.pi (fun cl C s₀ H₀ ex => (ht cl C s₀ H₀ ex).pts) (fun cl C s₀ H₀ ex => (he cl C s₀ H₀ ex).pe) hsw hs).imp fun D σ H ⟨B, F, O, ρ, R, h⟩ =>
    Q8 (ti := ti) (dt := dt) (de := de) hi.mono (ht [] 0 X.s₀ X.H₀ []).mono (he [] 0 X.s₀ X.H₀ []).mono σ H _ ⟨B, F, O, ρ, R, N5 (ti := ti) hi.mono (fun d q v H' s r => q O _ H' ((R.same s).set i r)) h⟩
theorem Y6 {ti : DTI} {de : DTE} {y : Str} {py spos : Pos} (i : Nat) (hN : X.N.Nodup) (S : Ed X scope x N sl) (hc : X.calm = true) (hi : DI X (.Name x px) iter ti) (he : ∀ cl C s₀ H₀ ex, DE (Bd X scope (x :: N) cl C s₀ H₀ ex) elt de)
    (hyi : X.N[i]? = some y := by rfl) (hy : X.env.scope.names.lookup y = some .local := by rfl) (hsw : swapsWith (.ListComp elt [⟨.Name x px, iter, [], 0⟩] scope pos) (some (.Name y py)) spos.line X.env = pure true := by rfl) (hs : ∀ x, foldedSetIterable iter X.env x = pure x := by intro _; rfl) :
    DS X (.Assign [.Name y py] (.ListComp elt [⟨.Name x px, iter, [], 0⟩] scope pos) spos) (WX i sl ti Qy de) := W0 i S hc hN hyi hy hi (fun _ _ _ _ _ => Zh) he hsw hs
end
section
variable {prog : Program} {w : World} {A : Around} {E : Value → Shared → Prop} {s : Shared}
end
section
variable {X : Cx} {es : List Expr} {pos : Pos}
noncomputable def Adh (n : Nat) (gs : Oo) : DTG := fun d ρ Q => match d with
  | .lst ds => ds.length = n ∧ gs ds ρ Q
  | _ => False
end
end L2
namespace L2
end L2
namespace L2
theorem Abe {n : Nat} {x : PySem.Str} : Dt.flat n (.str x) = (PySem.PyData.str x).canLay0 := by cases n <;> rw [Dt.flat]
end L2
namespace L2
open PySem PySem.Spec PyProof.Rows PySem.SeqAt
section
variable {X : Cx} {pins : List (Addr × Obj)} {σ : St} {H : Hp} {s : Shared} {h' : Heap} {a dx C U f fI : Addr} {φ ψ : Heap → Prop}
end
structure Abx where
  d : DK
  ex : Bj → Dt → Prop
noncomputable abbrev IW := Abx → Bj → Prop
noncomputable abbrev Mx := Bj → (Dt → Prop) → (Dt → Prop) → Prop
section
variable {X : Cx} {a b c e : Expr} {es : List Expr} {st : Stmt} {sts sa sb : List Stmt} {t u : IW} {ts us : DTS} {te : Mx} {tA : DTT} {tl : DTA} {pos : Pos}
noncomputable def Acb (t : DTS) : IW := fun D ρ => t D.d ρ
noncomputable def Aby : IW := fun D ρ => D.d.nx ρ
noncomputable def Aep (t u : IW) : IW := fun D ρ => t ⟨{ D.d with nx := u D }, D.ex⟩ ρ
noncomputable def AeS (c : DTT) (t u : IW) : IW := fun D ρ => c ρ fun k => if k = true then t D ρ else u D ρ
noncomputable def Acf (te : Mx) : IW := fun D ρ => te ρ (fun _ => D.d.nx ρ) (D.ex ρ)
noncomputable def Ac5 (te : Mx) : IW := fun D ρ => te ρ D.d.rt (D.ex ρ)
noncomputable def Ad0 (te : Mx) (g : DTG) : IW := fun D ρ => te ρ (fun d => g d ρ D.d.nx) (D.ex ρ)
noncomputable abbrev Afj := List Dt → (Dt → Prop) → (Dt → Prop) → Prop
noncomputable def Acm (sp : Afj) (tl : DTA) : Mx := fun ρ Q E => tl ρ fun ds => sp ds Q E
noncomputable def Acn (c : Str) (ns : List Str) (tl : DTA) : IW := fun D ρ => tl ρ fun ds => ds.length = ns.length ∧ ds.length ≤ 1000 ∧ D.ex ρ (.exc c ns ds)
end
section
variable {P : Program} {w : World} {K : PySem.W.Frag} {mg : Str → Option Value} {base : Heap}
end
section
variable {X : Cx} {pins : List (Addr × Obj)} {σ : St} {H : Hp} {s : Shared}
end
noncomputable def Under (K : PySem.W.Frag) (mg : Str → Option Value) (c T : Str) : Prop := ∀ C U, PySem.W.nsIn K mainGlobals c = some (some (.ref C)) → XC K C U → mg T = some (.ref U)
section
variable {X : Cx} {tb : IW} {ts : DTS} {pos tp hp : Pos} {T n : Str} {U : Addr} {body suite : List Stmt} {b₀ : Stmt}
noncomputable def Xj (K : PySem.W.Frag) (mg : Str → Option Value) (T : Str) (j : Nat) (ts : DTS) (D : DK) (ρ : Bj) (x : Dt) : Prop := match x with
  | .exc c ns ds => Under K mg c T ∧ ts { nx := fun ρ2 => D.nx (ρ2.set j none), rt := fun _ => False } (ρ.set j (some (.is (.exc c ns ds))))
  | _ => False
noncomputable def Ag4 (K : PySem.W.Frag) (mg : Str → Option Value) (T : Str) (j : Nat) (tb : IW) (ts : DTS) : IW := fun D ρ => tb ⟨D.d, Xj K mg T j ts D.d⟩ ρ
end
noncomputable def AgT (K : PySem.W.Frag) (c : Str) (A : Addr) (b : Bool) : Prop := ∀ C, PySem.W.nsIn K mainGlobals c = some (some (.ref C)) → PySem.W.kitOne K (.ref C) (.ref A) = some b
noncomputable def Adl (K : PySem.W.Frag) (c : Str) (As : List Addr) (b : Bool) : Prop := ∀ C, PySem.W.nsIn K mainGlobals c = some (some (.ref C)) → PySem.W.kitAny K (.ref C) (As.map .ref) = some b
noncomputable def Afd (K : PySem.W.Frag) (c f : Str) : Prop := ∀ C, PySem.W.nsIn K mainGlobals c = some (some (.ref C)) → PySem.W.findIn K (.ref C) f = some none
section
variable {X : Cx} {a b c e : Expr} {es : List Expr} {ta tb te : DTE} {tl : DTA} {pos : Pos}
noncomputable def AeV (K : PySem.W.Frag) : DL := fun ds Q => match ds with
  | [.exc c _ _, .fn A] => ∃ v, AgT K c A v ∧ Q (.bl v)
  | _ => False
noncomputable def AcQ (K : PySem.W.Frag) : DL := fun ds Q => match ds with
  | [.exc c _ _, .tup es] => ∃ As v, es = As.map .fn ∧ Adl K c As v ∧ Q (.bl v)
  | _ => False
noncomputable def Ag1 (ta : DTE) : DTE := fun ρ Q => ta ρ fun d => match d with
  | .exc _ _ _ => Q (.bl true)
  | _ => False
noncomputable def Aex (K : PySem.W.Frag) (te : DTE) (f : Str) : DTE := fun ρ Q => te ρ fun d => match d with
  | .exc c ns ds => Afd K c f ∧ ∃ v, (ns.zip ds).lookup f = some v ∧ Q v
  | _ => False
noncomputable def Ac7 (t : IW) : DTS := fun D ρ => t ⟨D, fun _ _ => False⟩ ρ
end
section
variable {K : PySem.W.Frag} {mg : Str → Option Value} {c T f : Str} {C U A : Addr} {cd : ClassData}
end
theorem KQ {O : List Addr} {H : Hp} {a : Addr} {o : HO} (h : a ∈ O) : mask O (upd H a o) = mask O H := by
  funext b
  by_cases q : b ∈ O
  · rw [CV q, CV q]
  · rw [Aq q, Aq q, Bc (a := a) (fun z => q (by rw [z]; exact h))]
theorem Rr {F O : List Addr} {H : Hp} {p : Addr} {o : HO} (h : H p = none) : mask (F ++ (p :: O)) (upd H p o) = mask (F ++ O) H := by
  funext b
  by_cases e : b = p
  · subst e
    rw [CV (List.mem_append_right _ List.mem_cons_self)]
    by_cases q : b ∈ F ++ O
    · rw [CV q]
    · rw [Aq q, h]
  · by_cases q : b ∈ F ++ O
    · rw [CV q, CV]
      rcases List.mem_append.mp q with q | q
      · exact List.mem_append_left _ q
      · exact List.mem_append_right _ (List.mem_cons_of_mem _ q)
    · rw [Aq q, Aq, Bc e]
      intro z
      rcases List.mem_append.mp z with z | z
      · exact q (List.mem_append_left _ z)
      · rcases List.mem_cons.mp z with z | z
        · exact e z
        · exact q (List.mem_append_right _ z)
section
variable {K : PySem.W.Frag} {B : Hp} {F O : List Addr} {H : Hp} {σ : St} {ρ : Bj}
theorem Rep.newOwn (r : Rep K B F O H σ ρ) (i : Nat) {p : Addr} {ds : List Dt} {xs : List V} (hp : H p = none) (h : RpL K (mask (F ++ O) H) ds xs) : Rep K B F (p :: O) (upd H p (.lst xs)) (σ.set i (some (.ref p))) (ρ.set i (some (.own ds))) := by
  have hl := r.len
  have nF : p ∉ F := fun z => r.th p (List.mem_append_left _ z) hp
  have nO : p ∉ O := fun z => r.th p (List.mem_append_right _ z) hp
  have em := Rr (F := F) (O := O) (o := .lst xs) hp
  refine ⟨by simpa using hl, r.base.trans (Same.upd hp), fun a h => ?_, fun a h e => ?_, fun j d q => ?_, fun j es q => ?_, fun j k es es' a h1 h2 h3 h4 => ?_, fun j ks q => ?_, fun j k es es' a h1 h2 h3 h4 => ?_, r.rawSet fun _ z => by cases z⟩
  · rcases List.mem_cons.mp h with rfl | h
    · cases q : B a with
      | none => rfl
      | some o => rw [r.base a o q] at hp; cases hp
    · exact r.fr a h
  · by_cases z : a = p
    · rw [z, Bp] at e; cases e
    · rw [Bc z] at e
      refine r.th a ?_ e
      rcases List.mem_append.mp h with h | h
      · exact List.mem_append_left _ h
      · exact List.mem_append_right _ ((List.mem_cons.mp h).resolve_left z)
  · by_cases hj : j = i
    · subst hj
      by_cases hk : j < ρ.length
      · rw [List.getElem?_set_self hk] at q; cases q
      · rw [List.getElem?_eq_none (by simpa using hk)] at q; cases q
    · rw [List.getElem?_set_ne (Ne.symm hj)] at q ⊢
      rw [em]; exact r.is j d q
  · by_cases hj : j = i
    · subst hj
      by_cases hk : j < ρ.length
      · rw [List.getElem?_set_self hk] at q; cases q
        exact ⟨p, xs, List.getElem?_set_self (by omega), List.mem_cons_self, nF, Bp, by rw [em]; exact h⟩
      · rw [List.getElem?_eq_none (by simpa using hk)] at q; cases q
    · rw [List.getElem?_set_ne (Ne.symm hj)] at q ⊢
      obtain ⟨a, ys, h1, h2, h3, h4, h5⟩ := r.own j es q
      exact ⟨a, ys, h1, List.mem_cons_of_mem _ h2, h3, by rw [Bc (a := p) (fun z => nO (by rw [← z]; exact h2))]; exact h4, by rw [em]; exact h5⟩
  · have other : ∀ (m : Nat) es, m ≠ i → (ρ.set i (some (.own ds)))[m]? = some (some (.own es)) → (σ.set i (some (.ref p)))[m]? = some (some (.ref p)) → False := fun m es hm q1 q2 => by
      rw [List.getElem?_set_ne (Ne.symm hm)] at q1 q2
      obtain ⟨b, _, e1, e2, _⟩ := r.own m es q1
      rw [e1] at q2
      cases q2
      exact nO e2
    by_cases hj : j = i
    · by_cases hk : k = i
      · rw [hj, hk]
      · subst hj
        have : a = p := by
          rw [List.getElem?_set_self (by
            have := (List.getElem?_eq_some_iff.mp h1).1
            simp at this; omega)] at h3
          cases h3; rfl
        subst this
        exact (other k es' hk h2 h4).elim
    · by_cases hk : k = i
      · subst hk
        have : a = p := by
          rw [List.getElem?_set_self (by
            have := (List.getElem?_eq_some_iff.mp h2).1
            simp at this; omega)] at h4
          cases h4; rfl
        subst this
        exact (other j es hj h1 h3).elim
      · rw [List.getElem?_set_ne (Ne.symm hj)] at h1 h3
        rw [List.getElem?_set_ne (Ne.symm hk)] at h2 h4
        exact r.inj j k es es' a h1 h2 h3 h4
  · have hj : j ≠ i := fun z => by
      subst z
      by_cases hk : j < ρ.length
      · rw [List.getElem?_set_self hk] at q; cases q
      · rw [List.getElem?_eq_none (by simpa using hk)] at q; cases q
    rw [List.getElem?_set_ne (Ne.symm hj)] at q ⊢
    obtain ⟨a, ys, h1, h2, h3, h4, h5⟩ := r.tab j ks q
    exact ⟨a, ys, h1, List.mem_cons_of_mem _ h2, h3, by rw [Bc (a := p) (fun z => nO (by rw [← z]; exact h2))]; exact h4, by rw [em]; exact h5⟩
  · have back : ∀ (m : Nat) ks, (ρ.set i (some (.own ds)))[m]? = some (some (.tab ks)) → m ≠ i ∧ ρ[m]? = some (some (.tab ks)) := fun m ks q => by
      have hm : m ≠ i := fun z => by
        subst z
        by_cases hk : m < ρ.length
        · rw [List.getElem?_set_self hk] at q; cases q
        · rw [List.getElem?_eq_none (by simpa using hk)] at q; cases q
      rw [List.getElem?_set_ne (Ne.symm hm)] at q; exact ⟨hm, q⟩
    obtain ⟨n1, q1⟩ := back j _ h1
    obtain ⟨n2, q2⟩ := back k _ h2
    rw [List.getElem?_set_ne (Ne.symm n1)] at h3
    rw [List.getElem?_set_ne (Ne.symm n2)] at h4
    exact r.tinj j k es es' a q1 q2 h3 h4
theorem Rep.putOwn (r : Rep K B F O H σ ρ) {i : Nat} {a : Addr} {ds es : List Dt} {xs ys : List V} (hi : ρ[i]? = some (some (.own ds))) (hs : σ[i]? = some (some (.ref a))) (ha : a ∈ O) (hH : H a = some (.lst xs)) (h : RpL K (mask (F ++ O) H) es ys) :
    Rep K B F O (upd H a (.lst ys)) σ (ρ.set i (some (.own es))) := by
  have em : mask (F ++ O) (upd H a (.lst ys)) = mask (F ++ O) H := KQ (List.mem_append_right _ ha)
  have hk : i < ρ.length := (List.getElem?_eq_some_iff.mp hi).1
  refine ⟨by simpa using r.len, fun b o e => ?_, r.fr, fun b hb e => ?_, fun j d q => ?_, fun j ks q => ?_, fun j k es' es'' b h1 h2 h3 h4 => ?_, fun j ks q => ?_, fun j k es' es'' b h1 h2 h3 h4 => ?_, fun j v q => r.raw j v (Ho (fun _ z => by cases z) q).2⟩
  · rw [Bc fun z => by rw [z, r.fr a ha] at e; cases e]; exact r.base b o e
  · by_cases z : b = a
    · rw [z, Bp] at e; cases e
    · rw [Bc z] at e; exact r.th b hb e
  · have hj : j ≠ i := fun z => by subst z; rw [List.getElem?_set_self hk] at q; cases q
    rw [List.getElem?_set_ne (Ne.symm hj)] at q
    rw [em]; exact r.is j d q
  · by_cases hj : j = i
    · subst hj
      rw [List.getElem?_set_self hk] at q; cases q
      obtain ⟨b, _, e1, e2, e3, _⟩ := r.own j ds hi
      rw [hs] at e1; cases e1
      exact ⟨a, ys, hs, ha, e3, Bp, by rw [em]; exact h⟩
    · rw [List.getElem?_set_ne (Ne.symm hj)] at q
      obtain ⟨b, zs, e1, e2, e3, e4, e5⟩ := r.own j ks q
      have nb : b ≠ a := fun z => by subst z; exact hj (r.inj j i ks ds b q hi e1 hs)
      exact ⟨b, zs, e1, e2, e3, by rw [Bc nb]; exact e4, by rw [em]; exact e5⟩
  · have back : ∀ (m : Nat) ks, (ρ.set i (some (.own es)))[m]? = some (some (.own ks)) → ∃ ks', ρ[m]? = some (some (.own ks')) := fun m ks q => by
      by_cases hm : m = i
      · subst hm; exact ⟨ds, hi⟩
      · rw [List.getElem?_set_ne (Ne.symm hm)] at q; exact ⟨ks, q⟩
    obtain ⟨_, q1⟩ := back j es' h1
    obtain ⟨_, q2⟩ := back k es'' h2
    exact r.inj j k _ _ b q1 q2 h3 h4
  · have hj : j ≠ i := fun z => by subst z; rw [List.getElem?_set_self hk] at q; cases q
    rw [List.getElem?_set_ne (Ne.symm hj)] at q
    obtain ⟨b, zs, e1, e2, e3, e4, e5⟩ := r.tab j ks q
    have nb : b ≠ a := fun z => by rw [z, hH] at e4; cases e4
    exact ⟨b, zs, e1, e2, e3, by rw [Bc nb]; exact e4, by rw [em]; exact e5⟩
  · have back : ∀ (m : Nat) ks, (ρ.set i (some (.own es)))[m]? = some (some (.tab ks)) → ρ[m]? = some (some (.tab ks)) := fun m ks q => by
      have hm : m ≠ i := fun z => by subst z; rw [List.getElem?_set_self hk] at q; cases q
      rw [List.getElem?_set_ne (Ne.symm hm)] at q; exact q
    exact r.tinj j k _ _ b (back j _ h1) (back k _ h2) h3 h4
theorem Rep.freeze (r : Rep K B F O H σ ρ) {i : Nat} {ds : List Dt} (hi : ρ[i]? = some (some (.own ds))) : ∃ O', Rep K B F O' H σ (ρ.set i (some (.is (.lst ds)))) := by
  obtain ⟨a, xs, h1, h2, h3, h4, h5⟩ := r.own i ds hi
  have hk : i < ρ.length := (List.getElem?_eq_some_iff.mp hi).1
  have sub : ∀ b ∈ F ++ O.filter (fun b => decide (b ≠ a)), b ∈ F ++ O := fun b hb => by
    rcases List.mem_append.mp hb with hb | hb
    · exact List.mem_append_left _ hb
    · exact List.mem_append_right _ (List.mem_filter.mp hb).1
  have na : a ∉ F ++ O.filter (fun b => decide (b ≠ a)) := fun z => by
    rcases List.mem_append.mp z with z | z
    · exact h3 z
    · exact of_decide_eq_true (List.mem_filter.mp z).2 rfl
  refine ⟨O.filter fun b => decide (b ≠ a), by simpa using r.len, r.base, fun b hb => r.fr b (List.mem_filter.mp hb).1, fun b hb => r.th b (sub b hb), fun j d q => ?_, fun j es q => ?_, fun j k es es' b q1 q2 q3 q4 => ?_, fun j ks q => ?_, fun j k es es' b q1 q2 q3 q4 => ?_, fun j v q => r.raw j v (Ho (fun _ z => by cases z) q).2⟩
  · by_cases hj : j = i
    · subst hj
      rw [List.getElem?_set_self hk] at q; cases q
      exact ⟨.ref a, h1, HX ⟨a, xs, rfl, (by rw [Aq na]; exact h4), h5.mono (Dp sub)⟩⟩
    · rw [List.getElem?_set_ne (Ne.symm hj)] at q
      obtain ⟨v, e1, e2⟩ := r.is j d q
      exact ⟨v, e1, e2.mono (Dp sub)⟩
  · have hj : j ≠ i := fun z => by subst z; rw [List.getElem?_set_self hk] at q; cases q
    rw [List.getElem?_set_ne (Ne.symm hj)] at q
    obtain ⟨b, ys, e1, e2, e3, e4, e5⟩ := r.own j es q
    have nb : b ≠ a := fun z => by subst z; exact hj (r.inj j i es ds b q hi e1 h1)
    exact ⟨b, ys, e1, List.mem_filter.mpr ⟨e2, decide_eq_true nb⟩, e3, e4, e5.mono (Dp sub)⟩
  · have nj : ∀ (m : Nat) ks, (ρ.set i (some (.is (.lst ds))))[m]? = some (some (.own ks)) → ρ[m]? = some (some (.own ks)) := fun m ks q => by
      have hm : m ≠ i := fun z => by subst z; rw [List.getElem?_set_self hk] at q; cases q
      rw [List.getElem?_set_ne (Ne.symm hm)] at q; exact q
    exact r.inj j k es es' b (nj j es q1) (nj k es' q2) q3 q4
  · have hj : j ≠ i := fun z => by subst z; rw [List.getElem?_set_self hk] at q; cases q
    rw [List.getElem?_set_ne (Ne.symm hj)] at q
    obtain ⟨b, ys, e1, e2, e3, e4, e5⟩ := r.tab j ks q
    have nb : b ≠ a := fun z => by rw [z, h4] at e4; cases e4
    exact ⟨b, ys, e1, List.mem_filter.mpr ⟨e2, decide_eq_true nb⟩, e3, e4, e5.mono (Dp sub)⟩
  · have nj : ∀ (m : Nat) ks, (ρ.set i (some (.is (.lst ds))))[m]? = some (some (.tab ks)) → ρ[m]? = some (some (.tab ks)) := fun m ks q => by
      have hm : m ≠ i := fun z => by subst z; rw [List.getElem?_set_self hk] at q; cases q
      rw [List.getElem?_set_ne (Ne.symm hm)] at q; exact q
    exact r.tinj j k es es' b (nj j es q1) (nj k es' q2) q3 q4
end
section
variable {X : Cx} {a b c e : Expr} {es : List Expr} {st : Stmt} {ta tb te : DTE} {tl : DTA} {t : DTS} {pos : Pos}
noncomputable def Ac2 (i : Nat) (tl : DTA) : DTS := fun D ρ => tl ρ fun ds => ds.length ≤ sizeLine ∧ D.nx (ρ.set i (some (.own ds)))
theorem Lh (i : Nat) {x : Str} {pos' lp : Pos} (hN : X.N.Nodup) (ha : DA X es tl) (hi : X.N[i]? = some x := by rfl) (hx : Loc X.env.scope x := by first | exact Or.inl rfl | exact Or.inr rfl) (hs : swapsWith (.List es lp) (some (.Name x pos')) pos.line X.env = pure false := by rfl)
    (hf : X.fn x = true ∨ X.env.scope.names.lookup x = some .local := by first | exact .inl rfl | exact .inr rfl | assumption) : DS X (.Assign [.Name x pos'] (.List es lp) pos) (Ac2 i tl) where
  mono := fun hd h => ha.mono (fun ds ⟨h1, h2⟩ => ⟨h1, hd.nx _ h2⟩) h
  ps := (Ou hN hi hx (Sx ha.pa) hs hf).imp fun D σ H ⟨B, F, O, ρ, R, h⟩ => ⟨B, F, O, ρ, R, ha.mono (fun ds ⟨h1, h2⟩ vs H1 s1 r1 => ⟨by rw [r1.len]; exact h1, fun p hp => h2 (p :: O) _ _ ((R.same s1).newOwn i hp r1)⟩) h⟩
noncomputable def ownAt (ρ : Bj) (j : Nat) (k : List Dt → Prop) : Prop := match ρ[j]? with
  | some (some (.own ds)) => k ds
  | _ => False
theorem ownAt.mono {ρ : Bj} {j : Nat} {k k' : List Dt → Prop} (hk : ∀ ds, k ds → k' ds) (h : ownAt ρ j k) : ownAt ρ j k' := by
  unfold ownAt at h ⊢
  split at h
  · exact hk _ h
  · exact h.elim
theorem ownAt.get {ρ : Bj} {j : Nat} {k : List Dt → Prop} (h : ownAt ρ j k) : ∃ ds, ρ[j]? = some (some (.own ds)) ∧ k ds := by
  unfold ownAt at h
  split at h
  · rename_i ds e; exact ⟨ds, e, h⟩
  · exact h.elim
noncomputable def Agd (j : Nat) (tb : DTE) : DTE := fun ρ Q => ownAt ρ j fun ds => tb ρ fun k => match k with
  | .int i => match ixL i ds with
    | some v => Q v
    | none => False
  | _ => False
noncomputable def AdP (j : Nat) (te tb : DTE) : DTS := fun D ρ => te ρ fun d => ownAt ρ j fun ds => tb ρ fun k => match k with
  | .int i => (0 ≤ i ∧ i < ds.length) ∧ D.nx (ρ.set j (some (.own (ds.set i.toNat d))))
  | _ => False
noncomputable def Z4 (j : Nat) (te : DTE) : DTS := fun D ρ => ownAt ρ j fun ds => te ρ fun d => ds.length < sizeLine ∧ D.nx (ρ.set j (some (.own (ds ++ [d]))))
theorem JT (j : Nat) {x : Str} {px ap cp : Pos} (he : DE X e te) (hN : X.N[j]? = some x := by rfl) (hv : Vis X.env.scope x := by first | exact Or.inl rfl | exact Or.inr (Or.inl rfl) | exact Or.inr (Or.inr rfl)) (hd : (x == ("__debug__" : Str)) = false := by decide)
    (hcd : (x == ("__classdict__" : Str)) = false := by decide) (hbase : attributeBase (.Name x px) "append" X.env (eval (.Name x px) X.env) = eval (.Name x px) X.env := by rfl)
    (hfew : ((backTo cp (starEach [e] X.env)).all (fun x => !x.1) && (backToKw cp (keywordEach [] X.env)).all (fun x => x.1.isSome) && decide ([e].length + ([] : List Keyword).length + (if ([] : List Keyword).isEmpty then 0 else 1) < 30)) = true := by rfl)
    (hline : (ap.endLine == cp.line) = true := by rfl) (hst : starEach [e] X.env = (false, eval e X.env) :: starEach [] X.env := by rfl) (hplain : (backTo cp (starEach [] X.env)).any (·.1) = false := by rfl)
    (hs : swapsWith (.Call (.Attribute (.Name x px) "append" ap) [e] [] cp) none pos.line X.env = pure false := by rfl) : DS X (.Expr (.Call (.Attribute (.Name x px) "append" ap) [e] [] cp) pos) (Z4 j te) where
  mono := fun hd h => h.mono fun ds h => he.mono (fun d h => ⟨h.1, hd.nx _ h.2⟩) h
  ps := (Kr (AaA PySem.F.plainAttrs_list PySem.F.slot_list_append PySem.F.type_list_append JV (GJ hN hv hd hcd) (Jy he.pe PL hst) hbase hfew hline hst hplain) hs).imp fun D σ H ⟨B, F, O, ρ, R, h⟩ => by
    obtain ⟨ds, e1, h⟩ := h.get
    obtain ⟨a, xs, h1, h2, h3, h4, h5⟩ := R.own j ds e1
    refine ⟨_, h1, .inl ⟨rfl, _, SqL.of h4⟩, B, F, O, ρ, R, he.mono (fun d h v H1 s1 r1 => ?_) h⟩
    exact ⟨a, xs, v, rfl, rfl, s1 _ _ h4, by rw [h5.len]; exact h.1, h.2 O σ _ ((R.same s1).putOwn e1 h1 h2 (s1 _ _ h4) ((h5.mono s1.mask).append (.cons r1 .nil)))⟩
noncomputable def AcL (j : Nat) (t : DTS) : DTS := fun D ρ => ownAt ρ j fun ds => t D (ρ.set j (some (.is (.lst ds))))
theorem Mp (j : Nat) (h : DS X st t) : DS X st (AcL j t) where
  mono := fun hd z => z.mono fun ds z => h.mono hd z
  ps := h.ps.imp fun D σ H ⟨B, F, O, ρ, R, z⟩ => by
    obtain ⟨ds, e1, z⟩ := z.get
    obtain ⟨O', R'⟩ := R.freeze e1
    exact ⟨B, F, O', _, R', z⟩
noncomputable def AdC (j : Nat) : DTE := fun ρ Q => ownAt ρ j fun ds => Q (.int ds.length)
noncomputable def Ad6 : D2 := fun a b Q => match a with
  | .tup xs => match b with
    | .tup ys => (xs ≠ [] ∧ xs.length + ys.length ≤ sizeLine) ∧ Q (.tup (xs ++ ys))
    | _ => False
  | _ => False
end
section chain3
variable {X : Cx} {a b c e : Expr} {ta tb tc te : TE} {pos : Pos}
theorem Vc {op op' op2 : CmpOp} {r r' r2 : R2} (ho : OpR X (compareOp op) r) (ho' : OpR X (compareOp op') r') (ho2 : OpR X (compareOp op2) r2) (ha : PE X a ta) (hb : PE X b tb) (hc : PE X c tc) (he : PE X e te)
    (hm : lastMarks [op, op', op2] [b, c, e] = false := by with_unfolding_all rfl) : PT X (.Compare a [op, op', op2] [b, c, e] pos) (fun σ H Q => ta σ H fun x H1 => tb σ H1 fun y H2 => r x y H2 fun z H3 => ∃ k, z = .bl k ∧
      (if k = true then tc σ H3 fun w' H4 => r' y w' H4 fun z H5 => ∃ k, z = .bl k ∧ (if k = true then te σ H5 fun y' H6 => r2 w' y' H6 fun z H7 => ∃ k, z = .bl k ∧ Q k H7 else Q false H5) else Q false H3)) := by
  intro pins s σ H Q I h
  refine isTrue_chain (thn (ha pins s σ H _ I h) fun v s1 ⟨x, H1, I1, r1, q1⟩ => test_link (thn (hb pins s1 σ H1 _ I1 q1) fun u s2 ⟨y, H2, I2, r2, q2⟩ =>
    thn (ho pins s2 σ H2 x y v u _ I2 r1 r2 q2) fun d s3 ⟨z, H3, I3, r3, k, e, q3⟩ => ?_)) hm
  subst e
  cases r3
  refine wpAny_truthy_bool ?_
  cases k with
  | false => exact ite_ff ⟨H3, I3, q3⟩
  | true =>
    refine ite_tt (test_link (thn (hc pins s3 σ H3 _ I3 q3) fun w' s4 ⟨z', H4, I4, r4, q4⟩ => thn (ho' pins s4 σ H4 y z' u w' _ I4 r2 r4 q4) fun d' s5 ⟨z2, H5, I5, r5, k2, e2, q5⟩ => ?_))
    subst e2
    cases r5
    refine wpAny_truthy_bool ?_
    cases k2 with
    | false => exact ite_ff ⟨H5, I5, q5⟩
    | true =>
      refine ite_tt (test_last (thn (he pins s5 σ H5 _ I5 q5) fun w2 s6 ⟨z3, H6, I6, r6, q6⟩ => thn (ho2 pins s6 σ H6 z' z3 w' w2 _ I6 r4 r6 q6) fun d' s7 ⟨z4, H7, I7, r7, k3, e3, q7⟩ => ?_))
      subst e3
      cases r7
      exact wpAny_truthy_bool ⟨H7, I7, q7⟩
end chain3
noncomputable def Ug (t t' t2 : D2) (ta tb tc te : DTE) : DTT := fun ρ Q => ta ρ fun a => tb ρ fun b => t a b fun z => match z with
  | .bl k => if k = true then tc ρ fun c => t' b c fun z => match z with
    | .bl k => if k = true then te ρ fun e => t2 c e fun z => match z with
      | .bl k => Q k
      | _ => False
      else Q false
    | _ => False
    else Q false
  | _ => False
section
variable {X : Cx} {a b c e : Expr} {ta tb tc te : DTE} {pos : Pos}
theorem Vu {op op' op2 : CmpOp} {r r' r2 : R2} {t t' t2 : D2} (ho : OpR X (compareOp op) r) (ho' : OpR X (compareOp op') r') (ho2 : OpR X (compareOp op2) r2) (S : G7 X.K r t) (S' : G7 X.K r' t') (S2 : G7 X.K r2 t2) (ha : DE X a ta) (hb : DE X b tb) (hc : DE X c tc) (he : DE X e te)
    (hm : lastMarks [op, op', op2] [b, c, e] = false := by with_unfolding_all rfl) : DT X (.Compare a [op, op', op2] [b, c, e] pos) (Ug t t' t2 ta tb tc te) where
  mono := fun hq h => ha.mono (fun _ h => hb.mono (fun _ h => S.mono (fun z h => by
    split at h
    · rename_i k
      cases k with
      | true =>
        refine hc.mono (fun _ h => S'.mono (fun z h => ?_) h) h
        split at h
        · rename_i k
          cases k with
          | true =>
            refine he.mono (fun _ h => S2.mono (fun z h => ?_) h) h
            split at h
            · exact hq _ h
            · exact h.elim
          | false => exact hq _ h
        · exact h.elim
      | false => exact hq _ h
    · exact h.elim) h) h) h
  pt := (Vc ho ho' ho2 ha.pe hb.pe hc.pe he.pe hm).imp fun σ H Q ⟨B, F, O, ρ, R, h⟩ => by
    refine ⟨B, F, O, ρ, R, ha.mono (fun a h v H1 s1 r1 => ⟨B, F, O, ρ, R.same s1, hb.mono (fun b h u H2 s2 r2 => ?_) h⟩) h⟩
    refine S.ok _ H2 a b v u _ ((R.same s1).same s2).th (r1.mono s2.mask) r2 (S.mono (fun z h w H3 s3 r3 => ?_) h)
    split at h
    · rename_i k
      refine ⟨k, CG.mp r3, ?_⟩
      have s123 := (s1.trans s2).trans s3
      cases k with
      | false => exact h H3 s123
      | true =>
        refine ⟨B, F, O, ρ, R.same s123, hc.mono (fun c h y H4 s4 r4 => ?_) h⟩
        refine S'.ok _ H4 b c u y _ ((R.same s123).same s4).th ((r2.mono s3.mask).mono s4.mask) r4 (S'.mono (fun z h w H5 s5 r5 => ?_) h)
        split at h
        · rename_i k
          refine ⟨k, CG.mp r5, ?_⟩
          have s5' := (s123.trans s4).trans s5
          cases k with
          | false => exact h H5 s5'
          | true =>
            refine ⟨B, F, O, ρ, R.same s5', he.mono (fun e h y2 H6 s6 r6 => ?_) h⟩
            refine S2.ok _ H6 c e y y2 _ ((R.same s5').same s6).th ((r4.mono s5.mask).mono s6.mask) r6 (S2.mono (fun z h w H7 s7 r7 => ?_) h)
            split at h
            · exact ⟨_, CG.mp r7, h H7 ((s5'.trans s6).trans s7)⟩
            · exact h.elim
        · exact h.elim
    · exact h.elim
end
end L2
namespace L2
open PySem PySem.Spec PyProof.Rows PySem.W
end L2
namespace L2
open PySem PySem.Spec PyProof.Rows
section
variable {X : Cx} {a b : Expr} {ta tb : DTE} {pos : Pos}
theorem Jv {K : PySem.W.Frag} {H : Hp} : ∀ {ns : List Int} {xs : List V}, RpL K H (ns.map Dt.int) xs → xs = ns.map V.int
  | [], _, h => by
    obtain rfl := Bs.mp h
    rfl
  | n :: ns, _, h => by
    obtain ⟨v, r, rfl, r2, r3⟩ := Ax.mp h
    rw [Ba] at r2
    subst r2
    rw [Jv r3]
    rfl
noncomputable def dIn : D2 := fun a b Q => ∃ (i : Int) (ns : List Int), a = .int i ∧ b = .lst (ns.map Dt.int) ∧ Q (.bl (decide (i ∈ ns)))
noncomputable def Adn (i : Nat) (te : DTE) : DTS := fun D ρ => match ρ[i]? with
  | some (some (.is (.int a))) => te ρ fun d => match d with
    | .int b => D.nx (ρ.set i (some (.is (.int (a + b)))))
    | _ => False
  | _ => False
noncomputable def Aez (i j k : Nat) (tl : DTA) : DTS := fun D ρ => tl ρ fun ds => match ds with
  | [d, e, f] => D.nx (((ρ.set i (some (.is d))).set j (some (.is e))).set k (some (.is f)))
  | _ => False
theorem Gp {ti : DTI} {g : DTG} {tb : DTS} {D : DK} {ρ : Bj} (h : ti ρ fun items => ZF (fun _ R => R items) g tb D ρ) : ZF ti g tb D ρ := h
end
open PySem.SeqAt
mutual
noncomputable def Dt.noL : Nat → Dt → Bool
  | _, .non => true
  | _, .bl _ => true
  | _, .int _ => true
  | _, .str _ => true
  | 0, _ => false
  | n + 1, .tup ds => Dt.noLs n ds
  | _, _ => false
noncomputable def Dt.noLs : Nat → List Dt → Bool
  | _, [] => true
  | n, d :: ds => Dt.noL n d && Dt.noLs n ds
end
theorem Pa {n : Nat} {d : Dt} {r : List Dt} : Dt.noLs n (d :: r) = (Dt.noL n d && Dt.noLs n r) := by rw [Dt.noLs]
theorem RJ {n : Nat} : Dt.noLs n [] = true := by rw [Dt.noLs]
theorem Aao {n : Nat} {i : Int} : Dt.noL n (.int i) = true := by cases n <;> rw [Dt.noL] <;> simp
theorem Z8 {n : Nat} {r : List Dt} : Dt.noL (n + 1) (.tup r) = Dt.noLs n r := by rw [Dt.noL]
noncomputable def Keep (M M' : Hp) : Prop := ∀ b o, M b = some o → (∀ xs, o ≠ .lst xs) → M' b = some o
mutual
theorem Ab5 {K : PySem.W.Frag} {M M' : Hp} (k : Keep M M') : ∀ (n : Nat) (d : Dt) (v : V), d.noL n = true → Rp K M d v → Rp K M' d v
  | _, .non, _, _, r => by rw [Ot] at r ⊢; exact r
  | _, .bl _, _, _, r => by rw [CG] at r ⊢; exact r
  | _, .int _, _, _, r => by rw [Ba] at r ⊢; exact r
  | _, .str _, _, _, r => by rw [Oz] at r ⊢; exact r
  | 0, .tup _, _, h, _ => by simp [Dt.noL] at h
  | n + 1, .tup ds, _, h, r => by
    rw [Z8] at h
    obtain ⟨a, xs, e, q, r⟩ := Dm.mp r
    refine Dm.mpr ⟨a, xs, e, ?_, Kw k n ds xs h r⟩
    rcases q with (q | ⟨o, q⟩) | q
    · exact .inl (.inl (k _ _ q fun _ => by simp))
    · exact .inl (.inr ⟨o, k _ _ q fun _ => by simp⟩)
    · exact .inr q
  | 0, .lst _, _, h, _ => by simp [Dt.noL] at h
  | _ + 1, .lst _, _, h, _ => by simp [Dt.noL] at h
  | 0, .fn _, _, h, _ => by simp [Dt.noL] at h
  | _ + 1, .fn _, _, h, _ => by simp [Dt.noL] at h
  | 0, .exc _ _ _, _, h, _ => by simp [Dt.noL] at h
  | _ + 1, .exc _ _ _, _, h, _ => by simp [Dt.noL] at h
  | 0, .obj _ _ _, _, h, _ => by simp [Dt.noL] at h
  | _ + 1, .obj _ _ _, _, h, _ => by simp [Dt.noL] at h
theorem Kw {K : PySem.W.Frag} {M M' : Hp} (k : Keep M M') : ∀ (n : Nat) (ds : List Dt) (vs : List V), Dt.noLs n ds = true → RpL K M ds vs → RpL K M' ds vs
  | _, [], _, _, r => by rw [Bs] at r ⊢; exact r
  | n, d :: ds, _, h, r => by
    rw [Pa, Bool.and_eq_true] at h
    obtain ⟨v, w, rfl, r1, r2⟩ := Ax.mp r
    exact Ax.mpr ⟨v, w, rfl, Ab5 k n d v h.1 r1, Kw k n ds w h.2 r2⟩
end
theorem RpL.memOf {K : PySem.W.Frag} {H : Hp} : ∀ {ds : List Dt} {vs : List V} {d : Dt}, RpL K H ds vs → d ∈ ds → ∃ v ∈ vs, Rp K H d v
  | [], _, _, _, h => by simp at h
  | d :: ds, _, e, r, h => by
    obtain ⟨v, w, rfl, r1, r2⟩ := Ax.mp r
    rcases List.mem_cons.mp h with h | h
    · subst h; exact ⟨v, List.mem_cons_self, r1⟩
    · obtain ⟨u, h1, h2⟩ := RpL.memOf r2 h
      exact ⟨u, List.mem_cons_of_mem _ h1, h2⟩
noncomputable def X3 : Option HO → Bool
  | some (.lst _) => true
  | _ => false
theorem RV {o : Option HO} (h : X3 o = true) : ∃ xs, o = some (.lst xs) := by
  unfold X3 at h
  split at h
  · exact ⟨_, rfl⟩
  · cases h
noncomputable def lists (H : Hp) (n : Nat) : List Addr := (List.range n).filter fun a => X3 (H a)
theorem Vx {H : Hp} {n a : Nat} {xs : List V} (h : H a = some (.lst xs)) (l : a < n) : a ∈ lists H n := List.mem_filter.mpr ⟨List.mem_range.mpr l, by rw [h]; rfl⟩
theorem V5 {H : Hp} {n a : Nat} (h : a ∈ lists H n) : ∃ xs, H a = some (.lst xs) := RV (List.mem_filter.mp h).2
section
variable {X : Cx} {a b c e : Expr} {es : List Expr} {st : Stmt} {ta tb te : DTE} {tl : DTA} {tA : DTT} {t : DTS} {pos : Pos}
noncomputable def Aa5 (i : Nat) (sp : DSp) (tl : DTA) : DTS := fun D ρ => tl ρ fun ds => Dt.noLs 4 ds = true ∧ sp ds fun d => ∃ ks, d = .lst ks ∧ (∃ r, Dt.tup r ∈ ks) ∧ Dt.noLs 4 ks = true ∧ D.nx (ρ.set i (some (.own ks)))
noncomputable def Wr (j : Nat) (t : DTT) : DTT := fun ρ Q => ownAt ρ j fun ds => t (ρ.set j (some (.is (.lst ds)))) Q
theorem U0 (j : Nat) (h : DT X e tA) : DT X e (Wr j tA) where
  mono := fun hq z => z.mono fun ds z => h.mono hq z
  pt := h.pt.imp fun σ H Q ⟨B, F, O, ρ, R, z⟩ => by
    obtain ⟨ds, e1, z⟩ := z.get
    obtain ⟨O', R'⟩ := R.freeze e1
    exact ⟨B, F, O', _, R', h.mono (fun b q H' s' => q H' s') z⟩
noncomputable def AaY (j : Nat) : DTE := fun ρ Q => ownAt ρ j fun ds => Q (.lst ds)
end
end L2
namespace L2
open PySem PySem.Spec PyProof.Rows PySem.W PySem.Builtin PySem.Builtin.ObjectAttr
section
variable {prog : Program} {w : World} {A : Around} {E : Value → Shared → Prop} {s : Shared} {K : PySem.W.Frag} {C U x dx : Addr} {name : Str} {v : Value}
end
section
variable {X : Cx} {pins : List (Addr × Obj)} {σ : St} {H : Hp} {s : Shared} {h' : Heap} {a dx C U f fI : Addr}
end
end L2
namespace L2
open PySem PySem.Spec PyProof.Rows PySem.SeqAt
noncomputable abbrev Ace := Bj → (List Dt → Prop) → (Dt → Prop) → Prop
section
variable {X : Cx} {e : Expr} {es : List Expr} {te : Mx} {tl : DTA} {tx : Ace} {pos : Pos}
noncomputable def Abt (te : Mx) (tl : DTA) : Ace := fun ρ Q E => te ρ (fun d => tl ρ fun ds => Q (d :: ds)) E
noncomputable def Aa7 (sp : DSp) (tx : Ace) : Mx := fun ρ Q E => tx ρ (fun ds => sp ds Q) E
end
section
variable {prog : Program} {w : World} {A : Around} {I S : Addr} {fp wr : List Addr} {n : Nat} {P : Nat → Value → Prop} {St : Nat → Heap → Prop} {bt : Nat → Nat → Bool} {R : Result → Shared → Prop}
noncomputable def Jf (wr : List Addr) (S : Addr) (h h' : Heap) : Prop := ∀ b o, b ∉ wr → b ≠ S → h.get? b = some o → h'.get? b = some o
noncomputable def RG (prog : Program) (w : World) (A : Around) (wr : List Addr) (S : Addr) (h : Heap) (P : Nat → Value → Prop) (bt : Nat → Nat → Bool) : Prop :=
  ∀ (i j : Nat) (x y : Value) (s : Shared) (Q : Value → Shared → Prop) (E : Value → Shared → Prop), Jf wr S h s.heap → P i x → P j y → Q (.bool (bt i j)) s → wpAny (model prog w) A (richCompare .Lt x y) Q E s
theorem RQ : (toString "min" ++ toString ".loop" : String) = "min.loop" := by decide
theorem Sv {h0 : Heap} (W : Walks prog w A.in1 I fp wr n P St) (less : RG prog w A.in1 wr S h0 P bt) (off : S ∉ fp) :
    ∀ (left at' : Nat) (s : Shared) (best : Value) (c : Nat), n = at' + 1 + left → St (at' + 1) s.heap → P (argBest bt at') best → Jf wr S h0 s.heap →
      s.heap.get? S = some ⟨.type "list", none, .seq #[best, best] c, #[]⟩ →
      (∀ v h' tk, P (argBest bt (n - 1)) v → Jf wr S s.heap h' → R (.ok (.ret v)) { s with heap := h', toks := tk }) →
      codeAny (model prog w) A (.builtin "min.loop" ⟨[.ref I, .none, .ref S], []⟩) R s := by
  have off' : S ∉ wr := fun z => off (W.sub _ z)
  have nm := RQ
  intro left
  induction left with
  | zero =>
    intro at' s best c hn st hb hk hS fin
    have e : at' + 1 = n := by omega
    refine codeAny_builtin F.entry_min_loop ?_; rw [Around.under_plainId F.plain_min_loop _]; show wpAny _ A.in1 (seqItems? (.ref S) >>= _) _ _ s
    refine wpAny_bind (wpAny_seqItems hS rfl ?_); show wpAny _ A.in1 (tryCatch (pyNext (.ref I)) _ >>= _) _ _ s
    refine wpAny_bind (wpAny_tryCatch (W.done s _ _ (e ▸ st) fun h1 tk k1 => ?_))
    show wpAny _ A.in1 (updateSeq S (fun _ => #[]) >>= _) _ _ _; refine wpAny_bind (wpAny_updateSeq (k1 S _ off' hS) rfl (wpAny_bind (wpAny_letGo (wpAny_pure ?_))))
    exact fin best _ tk (by rw [← e]; exact hb) fun b o nb ns eo => (Heap.get?_update_other _ _ (Ne.symm ns)).trans (k1 b o nb eo)
  | succ left ih =>
    intro at' s best c hn st hb hk hS fin
    refine codeAny_builtin F.entry_min_loop ?_; rw [Around.under_plainId F.plain_min_loop _]; show wpAny _ A.in1 (seqItems? (.ref S) >>= _) _ _ s
    refine wpAny_bind (wpAny_seqItems hS rfl ?_); show wpAny _ A.in1 (tryCatch (pyNext (.ref I)) _ >>= _) _ _ s
    refine wpAny_bind (wpAny_tryCatch (W.item (at' + 1) s _ _ (by omega) st fun v h1 tk hv st1 k1 => ?_))
    have hS1 := k1 S _ off' hS
    have hk1 : Jf wr S h0 h1 := fun b o nb ns eo => k1 b o nb (hk b o nb ns eo)
    show wpAny _ A.in1 (tryCatch (holding [v, v] (richCompare .Lt v best >>= _)) _ >>= _) _ _ _
    refine wpAny_bind (wpAny_tryCatch (wpAny_holding (wpAny_bind (less (at' + 1) (argBest bt at') v best _ _ _ hk1 hv hb ?_))))
    refine wpAny_bind (wpAny_holding (wpAny_truthy_bool ?_)); refine wpAny_bind (wpAny_letGo (wpAny_pure ?_))
    cases hbt : bt (at' + 1) (argBest bt at') with
    | true =>
      simp only [if_true]
      refine wpAny_bind (wpAny_updateSeq hS1 rfl (wpAny_bind (wpAny_letGo ?_)))
      rw [nm]
      refine wpAny_pure ⟨plainId_quiet F.plain_min_loop _, ih (at' + 1) _ v _ (by omega) (W.frame _ _ _ st1 fun b hbf o eo => (Heap.get?_update_other _ _ (fun z : S = b => off (z ▸ hbf))).trans eo) (by simp only [argBest, hbt, if_true]; exact hv) (fun b o nb ns eo => (Heap.get?_update_other _ _ (Ne.symm ns)).trans (hk1 b o nb ns eo)) (Heap.get?_update_self _ hS1 rfl) fun v' h2 tk2 hv' k2 => ?_⟩
      exact fin v' h2 tk2 hv' fun b o nb ns eo => k2 b o nb ns ((Heap.get?_update_other _ _ (Ne.symm ns)).trans (k1 b o nb eo))
    | false =>
      simp only [Bool.false_eq_true, if_false]
      refine wpAny_bind (wpAny_letGo ?_)
      rw [nm]
      refine wpAny_pure ⟨plainId_quiet F.plain_min_loop _, ih (at' + 1) _ best c (by omega) st1 (by simp only [argBest, hbt, Bool.false_eq_true, if_false]; exact hb) hk1 hS1 fun v' h2 tk2 hv' k2 => ?_⟩
      exact fin v' h2 tk2 hv' fun b o nb ns eo => k2 b o nb ns (k1 b o nb eo)
theorem Q9 {s : Shared} {c : Nat} (W : Walks prog w A.in1 I fp wr n P St) (less : RG prog w A.in1 wr S s.heap P bt) (off : S ∉ fp) (n0 : 0 < n) (st : St 0 s.heap) (hS : s.heap.get? S = some ⟨.type "list", none, .seq #[] c, #[]⟩)
    (fin : ∀ v h' tk, P (argBest bt (n - 1)) v → Jf wr S s.heap h' → R (.ok (.ret v)) { s with heap := h', toks := tk }) : codeAny (model prog w) A (.builtin "min.loop" ⟨[.ref I, .none, .ref S], []⟩) R s := by
  have off' : S ∉ wr := fun z => off (W.sub _ z)
  refine codeAny_builtin F.entry_min_loop ?_; rw [Around.under_plainId F.plain_min_loop _]; show wpAny _ A.in1 (seqItems? (.ref S) >>= _) _ _ s
  refine wpAny_bind (wpAny_seqItems hS rfl ?_); show wpAny _ A.in1 (tryCatch (pyNext (.ref I)) _ >>= _) _ _ s
  refine wpAny_bind (wpAny_tryCatch (W.item 0 s _ _ n0 st fun v h1 tk hv st1 k1 => ?_))
  have hS1 := k1 S _ off' hS
  show wpAny _ A.in1 (updateSeq S (fun _ => #[v, v]) >>= _) _ _ _; refine wpAny_bind (wpAny_updateSeq hS1 rfl ?_); rw [RQ]
  refine wpAny_pure ⟨plainId_quiet F.plain_min_loop _, Sv (h0 := s.heap) W less off (n - 1) 0 _ v _ (by omega) (W.frame _ _ _ st1 fun b hbf o eo => (Heap.get?_update_other _ _ (fun z : S = b => off (z ▸ hbf))).trans eo) hv (fun b o nb ns eo => (Heap.get?_update_other _ _ (Ne.symm ns)).trans (k1 b o nb eo)) (Heap.get?_update_self _ hS1 rfl) fun v' h2 tk2 hv' k2 => ?_⟩
  exact fin v' h2 tk2 hv' fun b o nb ns eo => k2 b o nb ns ((Heap.get?_update_other _ _ (Ne.symm ns)).trans (k1 b o nb eo))
theorem Qs {E : Value → Shared → Prop} {s : Shared} {x : Value} {Q : Value → Shared → Prop}
    (h : wpAny (model prog w) A.in1 (pyIter x) (fun it s2 => ∃ I fp wr n P St bt, it = .ref I ∧ Walks prog w A.in1 I fp wr n P St ∧ St 0 s2.heap ∧ (∀ b ∈ fp, b < s2.heap.objs.size) ∧ 0 < n ∧
      (∀ h1 : Heap, (∀ b o, s2.heap.get? b = some o → h1.get? b = some o) → RG prog w A.in1 wr s2.heap.objs.size h1 P bt) ∧
      ∀ v h' tk, P (argBest bt (n - 1)) v → (∀ b o, b ∉ wr → s2.heap.get? b = some o → h'.get? b = some o) → Q v { s2 with heap := h', toks := tk }) E s) :
    wpAny (model prog w) A (call (.builtin "min") [x]) Q E s := by
  refine call_function_tree F.kind_min F.plain_min F.entry_min (F.args_min1 _) ?_; show wpAny _ A.in1 (Builtin.Builtins.bindParams "min" ["key", "default"] 0 ⟨[], []⟩ >>= _) _ _ s
  refine wpAny_bind (wpAny_of_eq (show Builtin.Builtins.bindParams "min" ["key", "default"] 0 ⟨[], []⟩ = pure [none, none] from rfl) ?_); refine wpAny_bind (wpAny_pure ?_)
  refine wpAny_bind (wpAny_mono h (fun it s2 h2 => ?_) fun _ _ z => z); obtain ⟨I, fp, wr, n, P, St, bt, rfl, W, st, low, n0, less, fin⟩ := h2
  refine wpAny_bind (wpAny_newObj_type ?_); rw [RQ]
  have off : s2.heap.objs.size ∉ fp := fun z => Nat.lt_irrefl _ (low _ z)
  refine wpAny_pure ⟨plainId_quiet F.plain_min_loop _, Q9 W (less _ fun b o e => Heap.get?_push_of_some _ e) off n0 (W.frame _ _ _ st fun b _ o e => Heap.get?_push_of_some _ e) (Heap.get?_push_size _ rfl) fun v h' tk hv k => ?_⟩
  exact fin v h' tk hv fun b o nb e => k b o nb (Nat.ne_of_lt (Heap.lt_size e)) (Heap.get?_push_of_some _ e)
end
section
variable {X : Cx}
noncomputable def AaC (K : PySem.W.Frag) : List V → Hp → VK → Prop := fun xs H Q => ∃ p vs, ∃ nss : Nat → List Int, xs = [.ref p] ∧ SqL K H p vs ∧ 0 < vs.length ∧ (∀ (i : Nat) (v : V), vs[i]? = some v → ∃ a, v = .ref a ∧ SqT K H a ((nss i).map V.int)) ∧
  ∀ v, vs[argBest (fun i j => HT.lexLt (nss i) (nss j)) (vs.length - 1)]? = some v → Q v H
theorem Vals.at {xs : List V} {us : List Value} (r : Vals xs us) : ∀ (i : Nat) (u : Value), us[i]? = some u → ∃ x, xs[i]? = some x ∧ RelV x u := by
  induction r with
  | nil => intro i u h; cases h
  | cons h t ih =>
    intro i u e
    cases i with
    | zero => exact ⟨_, rfl, by cases e; exact h⟩
    | succ i => exact ih i u e
theorem VB (hc : X.calm = true) (hu : X.A.in1.units < cLine) : Hz X (.builtin "min") (AaC X.K) := by
  intro pins s σ H xs us Q I r h
  obtain ⟨p, vs, nss, rfl, hl, ne, each, q⟩ := h
  obtain ⟨u, rfl, r1⟩ := vals1 r
  cases r1
  obtain ⟨its, rv, pl, _⟩ := I.list hl
  have hlen : its.length = vs.length := rv.length.symm
  have lt : p < s.heap.objs.size := by obtain ⟨_, e, _⟩ := pl.isList; exact Heap.lt_size e
  refine Qs (wpAny_pyIter_list pl.isList ?_)
  refine ⟨s.heap.objs.size, [s.heap.objs.size, p], [s.heap.objs.size], its.toArray.size, fun i v => its.toArray[i]? = some v, _, fun i j => HT.lexLt (nss i) (nss j), rfl, Walks.list (A := X.A.in1) (I.ok.hd hc) _ p (Nat.ne_of_lt lt) its.toArray, ⟨⟨_, Heap.get?_push_size _ rfl, rfl, rfl⟩, pl.isList.push _⟩, ?_, ?_, ?_, ?_⟩
  · intro b hb
    show b < (s.heap.push _).objs.size
    rw [Heap.size_push]
    rcases List.mem_cons.mp hb with rfl | hb
    · exact Nat.lt_succ_self _
    · have e : b = p := by simpa using hb
      rw [e]
      exact Nat.lt_succ_of_lt lt
  · rw [List.size_toArray]; omega
  · intro h1 k1 i j x y s' Q' E' kept hx hy q'
    have fact : ∀ (i : Nat) (x : Value), its.toArray[i]? = some x → ∃ a its2, x = .ref a ∧ IsTup s'.heap a its2 ∧ IntsAre its2.toList (nss i) := fun i x hx => by
      obtain ⟨v, e1, r2⟩ := Vals.at rv i x (by simpa using hx)
      obtain ⟨a, rfl, ht⟩ := each i v e1
      cases r2
      obtain ⟨its2, r3, tp, _⟩ := I.tuple ht
      refine ⟨a, its2.toArray, rfl, ?_, intsAre_of r3⟩
      have go : ∀ o, s.heap.get? a = some o → s'.heap.get? a = some o := fun o eo => by
        have la := Heap.lt_size eo
        refine kept a o (fun z => ?_) (fun z => ?_) (k1 a o (Heap.get?_push_of_some _ eo))
        · have e2 : a = s.heap.objs.size := by simpa using z
          rw [e2] at la
          exact Nat.lt_irrefl _ la
        · have e2 : a = (s.heap.push _).objs.size := z
          rw [Heap.size_push] at e2
          rw [e2] at la
          exact Nat.lt_irrefl _ (Nat.lt_of_succ_lt la)
      obtain ⟨o, eo, rest⟩ := tp
      exact ⟨o, go o eo, rest⟩
    obtain ⟨a, i1, rfl, t1, n1⟩ := fact i x hx
    obtain ⟨b, i2, rfl, t2, n2⟩ := fact j y hy
    exact HT.S8 t1 t2 n1 n2 hu q'
  · intro v h' tk hv k
    obtain ⟨x, e1, r2⟩ := Vals.at rv _ v (by simpa using hv)
    rw [hlen] at e1
    exact ⟨x, H, I.kept fun b o e => k b o (fun z => by have e2 : b = s.heap.objs.size := by simpa using z
                                                        have e3 := Heap.lt_size e
                                                        rw [e2] at e3
                                                        exact Nat.lt_irrefl _ e3) (Heap.get?_push_of_some _ e), r2, q x e1⟩
theorem RpL.at' {K : PySem.W.Frag} {H : Hp} : ∀ {ds : List Dt} {vs : List V} (i : Nat) (v : V), RpL K H ds vs → vs[i]? = some v → ∃ d, ds[i]? = some d ∧ Rp K H d v
  | [], vs, i, v, h, e => by
    obtain rfl := Bs.mp h
    cases e
  | d :: ds, vs, i, v, h, e => by
    obtain ⟨v', r, rfl, r2, r3⟩ := Ax.mp h
    cases i with
    | zero => exact ⟨d, rfl, by cases e; exact r2⟩
    | succ i => exact RpL.at' i v r3 e
theorem RpL.len' {K : PySem.W.Frag} {H : Hp} : ∀ {ds : List Dt} {vs : List V}, RpL K H ds vs → vs.length = ds.length
  | [], vs, h => by
    obtain rfl := Bs.mp h
    rfl
  | d :: ds, vs, h => by
    obtain ⟨v', r, rfl, r2, r3⟩ := Ax.mp h
    rw [List.length_cons, List.length_cons, RpL.len' r3]
noncomputable def Gx (nss : List (List Int)) : Nat := argBest (fun i j => HT.lexLt (nss.getD i []) (nss.getD j [])) (nss.length - 1)
noncomputable abbrev Bq (ns : List Int) : Dt := .tup (ns.map Dt.int)
noncomputable def Aaw : DL := fun ds Q => ∃ nss : List (List Int), ds = [.lst (nss.map Bq)] ∧ 0 < nss.length ∧ Gx nss < nss.length ∧ Q (Bq (nss.getD (Gx nss) []))
theorem Wm {K : PySem.W.Frag} : O6 K (AaC K) Aaw where
  mono := fun hq ⟨nss, e, n0, lt, h⟩ => ⟨nss, e, n0, lt, hq _ h⟩
  ok := fun O H ds xs Q _ r ⟨nss, e, n0, lt, h⟩ => by
    subst e
    obtain ⟨x, r', rfl, r2, r3⟩ := Ax.mp r
    obtain rfl := Bs.mp r3
    obtain ⟨p, vs, rfl, hs, hl⟩ := Ds r2
    have hs' := (Ay (O := O) (H := H)).seq hs
    have hl' := hl.mono (Ay (O := O) (H := H))
    have hlen := RpL.len' hl'
    rw [List.length_map] at hlen
    have row : ∀ (i : Nat) (d : Dt), (nss.map Bq)[i]? = some d → d = Bq (nss.getD i []) := fun i d e => by
      rw [List.getElem?_map] at e
      cases q : nss[i]? with
      | none => rw [q] at e; cases e
      | some ns =>
        rw [q] at e
        cases e
        have : nss.getD i [] = ns := by simp [List.getD, q]
        rw [this]
    refine ⟨p, vs, fun i => nss.getD i [], rfl, hs', by omega, fun i v e => ?_, fun v e => ?_⟩
    · obtain ⟨d, e1, r4⟩ := RpL.at' i v hl' e
      rw [row i d e1] at r4
      obtain ⟨a, ys, rfl, ht, hy⟩ := Dm.mp r4
      obtain rfl := Jv hy
      exact ⟨a, rfl, ht⟩
    · rw [hlen] at e
      obtain ⟨d, e1, r4⟩ := RpL.at' _ v hl e
      rw [row _ d e1] at r4
      exact h v H (Same.refl H) r4
theorem ZX {a : Expr} {tl : DTA} {p pos : Pos} (hm : X.mg "min" = none) (hu : X.A.in1.units < cLine) (ha : DA X [a] tl) (hc : X.calm = true := by rfl) (hg : Gl X "min" := by rfl) (hv : bootBuiltins "min" = some (.builtin "min") := by rfl) (he : starEach [a] X.env = (false, eval a X.env) :: starEach [] X.env := by rfl)
    (hpl : (backTo pos (starEach [] X.env)).any (·.1) = false := by rfl) : DE X (.Call (.Name "min" p) [a] [] pos) (dCB Aaw tl) := QC (VB hc hu) Wm hg hm hv ha (he := he) (hpl := hpl)
end
section
variable {X : Cx}
theorem Xw {h : Heap} {a : Addr} {i1 i2 : Array Value} (t1 : IsTup h a i1) (t2 : IsTup h a i2) : i1 = i2 := by
  obtain ⟨o, e1, _, n1, d1⟩ := t1
  obtain ⟨o', e2, _, n2, d2⟩ := t2
  rw [e1] at e2
  cases e2
  rw [d1] at d2
  cases d2
  rfl
noncomputable def Yg (K : PySem.W.Frag) : V → List V → Hp → VK → Prop := fun x ys H Q => ∃ p vs, ∃ nss : Nat → List Int, ∃ b ns j, x = .ref p ∧ ys = [.ref b] ∧ SqL K H p vs ∧ SqT K H b (List.map V.int ns) ∧ (∀ (i : Nat) (v : V), vs[i]? = some v → ∃ a, v = .ref a ∧ SqT K H a ((nss i).map V.int)) ∧
  j < vs.length ∧ nss j = ns ∧ (∀ m, m < j → nss m ≠ ns) ∧ Q (.int (j : Nat)) H
theorem Xv {K : PySem.W.Frag} {H : Hp} {a : Addr} {ns : List Int} (h : SqT K H a (ns.map V.int)) : Rp K H (Bq ns) (.ref a) := Dm.mpr ⟨a, _, rfl, h, RpL.ints ns⟩
theorem Uj : ∀ (ns ms : List Int), Dt.eqs (ns.map Dt.int) (ms.map Dt.int) = decide (ns = ms)
  | [], [] => by simp [Dt.eqs]
  | [], m :: ms => by simp [Dt.eqs]
  | n :: ns, [] => by simp [Dt.eqs]
  | n :: ns, m :: ms => by
    rw [List.map_cons, List.map_cons, Dt.eqs, Uj ns ms, Nr, ← Bool.decide_and]
    exact decide_eq_decide.mpr (by simp)
theorem QG : ∀ (ns : List Int), Dt.flats 7 (ns.map Dt.int) = true
  | [] => rfl
  | n :: ns => by rw [List.map_cons, Dt.flats, QG ns]; rfl
theorem VL (hu : X.A.units + 64 < cLine) (hu1 : X.A.in1.units + 8 < cLine) : MtR X "list.index" (Yg X.K) := by
  classical
  intro pins s σ H x ys v us Q I rx ry h
  obtain ⟨p, vs, nss, b, ns, j, rfl, rfl, hl, hb, each, jl, ej, before, q⟩ := h
  cases rx
  obtain ⟨u, rfl, r1⟩ := vals1 ry
  cases r1
  obtain ⟨its, rv, pl, hz⟩ := I.list hl
  have hlen : its.length = vs.length := rv.length.symm
  have fl : ∀ ns : List Int, (Bq ns).flat 8 = true := fun ns => QG ns
  have rowAt' : ∀ (i : Nat) (y : Value), its[i]? = some y → ∃ a, y = .ref a ∧ SqT X.K H a ((nss i).map V.int) := fun i y e => by
    obtain ⟨v, e1, r2⟩ := Vals.at rv i y e
    obtain ⟨a, rfl, ht⟩ := each i v e1
    cases r2
    exact ⟨a, rfl, ht⟩
  have uniq : ∀ (i i' : Nat) (y : Value), its[i]? = some y → its[i']? = some y → nss i = nss i' := fun i i' y e e' => by
    obtain ⟨a, rfl, h1⟩ := rowAt' i y e
    obtain ⟨a', ea, h2⟩ := rowAt' i' _ e'
    cases ea
    obtain ⟨i1, v1, t1, _⟩ := I.tuple h1
    obtain ⟨i2, v2, t2, _⟩ := I.tuple h2
    have es := Xw t1 t2
    have n1 : IntsAre i1.toArray.toList (nss i) := intsAre_of v1
    have n2 : IntsAre i2.toArray.toList (nss i') := intsAre_of v2
    rw [← es] at n2
    rw [← n1.numsOf, ← n2.numsOf]
  obtain ⟨o, n, eo, ec, ed, dd⟩ := pl
  obtain ⟨cl, di, da, sl⟩ := o
  dsimp only at ec ed dd
  subst ec ed dd
  have jl' : j < its.toArray.size := by rw [List.size_toArray]; omega
  have at' : ∀ (i : Nat) (hi : i < its.toArray.size), its[i]? = some its.toArray[i] := fun i hi => by
    rw [List.getElem_toArray]
    exact List.getElem?_eq_getElem _
  refine call_meets F.slot_list_index ⟨_, eo, rfl⟩ F.entry_list_index (F.args_list_index_2 _ _) (SeqAt.list_indexAt p its.toArray n none sl (.ref b) (fun y => decide (∃ i, its[i]? = some y ∧ nss i = ns)) j jl' ?_ ?_ ?_) ⟨eo, ?_, ?_⟩
  · have : sizeLine < 2 ^ 63 - 1 := by unfold sizeLine; decide
    omega
  · exact decide_eq_true ⟨j, at' j jl', ej⟩
  · intro m hm lt
    refine decide_eq_false ?_
    rintro ⟨i, e1, e2⟩
    exact before m lt ((uniq m i _ (at' m hm) e1).trans e2)
  · intro y hy
    obtain ⟨i, hi, e⟩ := List.getElem_of_mem (show y ∈ its by simpa using hy)
    have e1 : its[i]? = some y := by rw [← e]; exact List.getElem?_eq_getElem hi
    obtain ⟨a, rfl, ht⟩ := rowAt' i y e1
    obtain ⟨ca, da⟩ := Fv _ 8 (fl (nss i))
    obtain ⟨cb, db⟩ := Fv _ 8 (fl ns)
    obtain ⟨as, q1⟩ := Ft I ca (Xv ht) (rfl : RelV (.ref a) (.ref a))
    obtain ⟨bs, q2⟩ := Ft I cb (Xv hb) (rfl : RelV (.ref b) (.ref b))
    have := SeqAt.eqAt_reads _ _ X.A.in1 s _ _ as bs q1 q2 ca cb (by omega)
    rw [PB _ _ ca cb] at this
    have ee : (Bq (nss i)).eq (Bq ns) = decide (∃ i, its[i]? = some (Value.ref a) ∧ nss i = ns) := by
      show Dt.eqs _ _ = _
      rw [Uj]
      refine decide_eq_decide.mpr ⟨fun z => ⟨i, e1, z⟩, ?_⟩
      rintro ⟨i', e2, e3⟩
      exact (uniq i i' _ e1 e2).trans e3
    rw [ee] at this
    exact this
  · exact ⟨.int _, H, I.tok _, ⟨_, rfl⟩, q⟩
noncomputable def Ye (j : Nat) (te : DTE) : DTE := fun ρ Q => ∃ nss : List (List Int), ρ[j]? = some (some (.is (.lst (nss.map Bq)))) ∧ te ρ fun d => ∃ ns k, d = Bq ns ∧ k < nss.length ∧ nss.getD k [] = ns ∧ (∀ m, m < k → nss.getD m [] ≠ ns) ∧ Q (.int (k : Nat))
theorem T6 {K : PySem.W.Frag} {H : Hp} {nss : List (List Int)} {vs : List V} (h : RpL K H (nss.map Bq) vs) : vs.length = nss.length ∧ ∀ (i : Nat) (v : V), vs[i]? = some v → ∃ a, v = .ref a ∧ SqT K H a ((nss.getD i []).map V.int) := by
  refine ⟨by rw [RpL.len' h, List.length_map], fun i v e => ?_⟩
  obtain ⟨d, e1, r⟩ := RpL.at' i v h e
  rw [List.getElem?_map] at e1
  cases q : nss[i]? with
  | none => rw [q] at e1; cases e1
  | some ns =>
    rw [q] at e1
    cases e1
    have : nss.getD i [] = ns := by simp [List.getD, q]
    rw [this]
    obtain ⟨a, ys, rfl, ht, hy⟩ := Dm.mp r
    obtain rfl := Jv hy
    exact ⟨a, rfl, ht⟩
theorem VD (j : Nat) {e : Expr} {te : DTE} {x : Str} {px ap cp : Pos} (hu : X.A.units + 64 < cLine) (hu1 : X.A.in1.units + 8 < cLine) (he : DE X e te) (hN : X.N[j]? = some x := by rfl) (hv : Vis X.env.scope x := by first | exact Or.inl rfl | exact Or.inr (Or.inl rfl) | exact Or.inr (Or.inr rfl)) (hd : (x == ("__debug__" : Str)) = false := by decide)
    (hcd : (x == ("__classdict__" : Str)) = false := by decide) (hbase : attributeBase (.Name x px) "index" X.env (eval (.Name x px) X.env) = eval (.Name x px) X.env := by rfl)
    (hfew : ((backTo cp (starEach [e] X.env)).all (fun x => !x.1) && (backToKw cp (keywordEach [] X.env)).all (fun x => x.1.isSome) && decide ([e].length + ([] : List Keyword).length + (if ([] : List Keyword).isEmpty then 0 else 1) < 30)) = true := by rfl)
    (hline : (ap.endLine == cp.line) = true := by rfl) (hst : starEach [e] X.env = (false, eval e X.env) :: starEach [] X.env := by rfl) (hplain : (backTo cp (starEach [] X.env)).any (·.1) = false := by rfl) :
    DE X (.Call (.Attribute (.Name x px) "index" ap) [e] [] cp) (Ye j te) where
  mono := fun hq ⟨nss, e1, h⟩ => ⟨nss, e1, he.mono (fun d ⟨ns, k, a, b, c, d', h⟩ => ⟨ns, k, a, b, c, d', hq _ h⟩) h⟩
  pe := (AaA PySem.F.plainAttrs_list PySem.F.slot_list_index PySem.F.type_list_index (VL hu hu1) (GJ hN hv hd hcd) (Jy he.pe PL hst) hbase hfew hline hst hplain).imp fun σ H Q ⟨B, F, O, ρ, R, nss, e1, h⟩ => by
    obtain ⟨v, h1, r⟩ := R.is j _ e1
    obtain ⟨p, vs, rfl, hs, hl⟩ := Ds r
    refine ⟨_, h1, .inl ⟨rfl, _, (Ay (O := F ++ O) (H := H)).seq hs⟩, B, F, O, ρ, R, he.mono (fun d h v H1 s1 r1 => ?_) h⟩
    obtain ⟨ns, k, rfl, kl, ek, before, q⟩ := h
    obtain ⟨b, ys, rfl, hb, hy⟩ := Dm.mp r1
    obtain rfl := Jv hy
    obtain ⟨ll, each⟩ := T6 (hl.mono s1.mask)
    refine ⟨p, vs, fun i => nss.getD i [], b, ns, k, rfl, rfl, (Ay (O := F ++ O) (H := H1)).seq (s1.mask.seq hs), (Ay (O := F ++ O) (H := H1)).seqT hb, fun i v e => ?_, by omega, ek, before, q _ H1 (Same.refl H1 |> fun _ => s1) (Ba.mpr rfl)⟩
    obtain ⟨a, ea, ht⟩ := each i v e
    exact ⟨a, ea, (Ay (O := F ++ O) (H := H1)).seqT ht⟩
theorem AbG {A : Around} (h : A.units + 64 < cLine) : A.in1.units < cLine := by show A.units + 1 < cLine; omega
theorem AdZ {A : Around} (h : A.units + 64 < cLine) : A.in1.units + 8 < cLine := by show A.units + 1 + 8 < cLine; omega
end
section
variable {X : Cx} {a b c e o : Expr} {es : List Expr} {ta tb te : DTE} {tl : DTA} {pos apos : Pos}
end
section
variable {K : PySem.W.Frag} {B : Hp} {F O : List Addr} {H : Hp} {σ : St} {ρ : Bj} {x : Addr}
end
section
variable {X : Cx} {e e1 e2 e3 : Expr} {es : List Expr} {te1 te2 te3 : DTE} {tl : DTA} {pos apos : Pos}
end
section
variable {X : Cx} {e o : Expr} {es : List Expr} {te : DTE} {tl : DTA} {pos apos : Pos}
end
section
open PySem.SeqAt PySem.AutoSeq1 PySem.MeetsSeq PySem.MeetsSeq2 PySem.MeetsSeq3
end
section
variable {prog : Program} {w : World} {A : Around} {E : Value → Shared → Prop} {s : Shared}
end
section
variable {X : Cx}
end
section
variable {X : Cx} {a b : Expr} {ta tb : DTE} {pos : Pos}
end
section
variable {X : Cx} {e : Expr} {te : DTE}
end
section
variable {P : Program} {w : World} {A : Around} {E : Value → Shared → Prop} {s : Shared}
end
section
variable {X : Cx} {tg : Expr} {pins : List (Addr × Obj)} {σ : St} {H : Hp} {s : Shared} {g : Heap}
end
section
variable {X : Cx} {tg : Expr}
end
section
variable {X : Cx} {elt iter : Expr} {x : Str} {N : List Str} {sl : List Nat} {scope : Scope} {px pos : Pos}
end
section
variable {prog : Program} {w : World} {A : Around}
end
section
variable {X : Cx}
end
section
variable {X : Cx}
end
open PySem.W (KasT kas_asc kas_desc kas_tail3 kas_descPart kas_count kas_place kas_bin kas_sort kas_rev)
section
variable {n : Nat}
end
section
variable {prog : Program} {w : World} {A : Around} {E : Value → Shared → Prop} {s : Shared}
theorem Q7 {Q : Bool → Shared → Prop} : ∀ (vs us : List Value) (ns ms : List Int) (i : Nat), IntsAre vs ns → IntsAre us ms → Q (HT.lexLt ns ms) s → PySem.W.KatLex prog w A true (decide (vs.length < us.length)) Q (vs.zip us) i s
  | _, _, _, _, _, .nil, .nil, q => q
  | _, _, _, _, _, .nil, .cons _ _ _, q => by
    rw [decide_eq_true (by simp)]
    exact PySem.W.kat_nil q
  | _, _, _, _, _, .cons _ _ _, .nil, q => by
    rw [decide_eq_false (by simp)]
    exact PySem.W.kat_nil q
  | _, _, _, _, i, .cons (vs := vs) (ns := ns) a t h1, .cons (vs := us) (ns := ms) b u h2, q => by
    rw [HT.Fz] at q
    refine PySem.W.kat_cons (wpAny_eqBool_int (PySem.W.kat_go (fun e => PySem.W.kat_yes ?_) (fun e => PySem.W.kat_no ?_)))
    · have e : a = b := by simpa using e
      rw [if_pos e] at q
      have := Q7 vs us ns ms (i + 1) h1 h2 q
      rw [show decide ((Value.int a t :: vs).length < (Value.int b u :: us).length) = decide (vs.length < us.length) from decide_eq_decide.mpr (by simp)]
      exact this
    · have e : ¬ a = b := by simpa using e
      rw [if_neg e] at q
      cases hi : (true && i == 0) with
      | true => exact oneLt_int q
      | false => exact PySem.W.kat_one _ _ (richCompare_gives (op := .Lt) (typeIs_int s _ t) (typeIs_int s _ u) F.slot_int_lt F.entry_int_lt (F.args_int_lt_2 _ _) (gives_int_lt _ _ t u) (fun x => nomatch x) q)
theorem X5 {x y : Addr} {xs ys : Array Value} {ns ms : List Int} {Q : Bool → Shared → Prop} (hx : IsTup s.heap x xs) (hy : IsTup s.heap y ys) (hi : IntsAre xs.toList ns) (hj : IntsAre ys.toList ms) (q : Q (HT.lexLt ns ms) s) :
    wpAny (model prog w) A (keyLt' (tuples' true) (.ref x) (.ref y)) Q E s := by
  obtain ⟨o1, g1, _, n1, d1⟩ := hx
  obtain ⟨o2, g2, _, n2, d2⟩ := hy
  have := Q7 (prog := prog) (w := w) (A := A) (Q := Q) xs.toList ys.toList ns ms 0 hi hj q
  exact PySem.W.kat_lt g1 d1 g2 d2 (by simpa using this)
noncomputable def But (a : Addr) (h h' : Heap) : Prop := ∀ b o, b ≠ a → h.get? b = some o → h'.get? b = some o
end
theorem Tt {h : Heap} : ∀ its : List Value, (∀ v ∈ its, ∃ a xs ns, v = .ref a ∧ IsTup h a xs ∧ IntsAre xs.toList ns ∧ ns ≠ []) → ∃ fs, PySem.W.KatTups h its fs ∧ fs.length = its.length ∧ ∀ f ∈ fs, ∃ n t, f = Value.int n t
  | [], _ => ⟨[], PySem.W.KatTups.nil, rfl, fun _ z => by cases z⟩
  | v :: its, hv => by
    obtain ⟨fs, k, lf, ff⟩ := Tt its fun x hx => hv x (.tail _ hx)
    obtain ⟨a, xs, ns, rfl, ⟨o, g, c, n, d⟩, hi, ne⟩ := hv v (.head _)
    cases hx : xs.toList with
    | nil => rw [hx] at hi; cases hi; exact absurd rfl ne
    | cons x r =>
      rw [hx] at hi
      cases hi with
      | cons m t _ =>
        have e0 : xs[0]? = some (Value.int m t) := by rw [← Array.getElem?_toList, hx]; rfl
        refine ⟨.int m t :: fs, PySem.W.KatTups.cons g c d e0 k, by rw [List.length_cons, List.length_cons, lf], fun f hf => ?_⟩
        rcases List.mem_cons.mp hf with rfl | hf
        · exact ⟨m, t, rfl⟩
        · exact ff f hf
theorem Ny {xs : List V} {us : List Value} (r : Vals xs us) : ∀ ix : List Nat, (∀ i ∈ ix, i < xs.length) → Vals (ix.map fun i => xs.getD i V.non) (ix.map fun i => us.getD i Value.none)
  | [], _ => .nil
  | i :: ix, h => by
    have hi : i < xs.length := h i (.head _)
    obtain ⟨u, eu, ru⟩ := Vals.get (i := i) (x := xs[i]) r (List.getElem?_eq_getElem hi)
    have e1 : xs.getD i V.non = xs[i] := by simp [List.getD, hi]
    have e2 : us.getD i Value.none = u := by simp [List.getD, eu]
    rw [List.map_cons, List.map_cons, e1, e2]
    exact .cons ru (Ny r ix fun j hj => h j (.tail _ hj))
section
variable {X : Cx}
theorem Qt {K : PySem.W.Frag} {H : Hp} {nss : List (List Int)} {vs : List V} (r : RpL K H (nss.map Bq) vs) : ∀ ix : List Nat, (∀ i ∈ ix, i < nss.length) → RpL K H (ix.map fun i => Bq (nss.getD i [])) (ix.map fun i => vs.getD i V.non)
  | [], _ => RpL.nil
  | i :: ix, h => by
    have hi : i < nss.length := h i (.head _)
    have hv : i < vs.length := by rw [RpL.len' r, List.length_map]; exact hi
    obtain ⟨d, e1, r1⟩ := RpL.at' i vs[i] r (List.getElem?_eq_getElem hv)
    have e2 : d = Bq (nss.getD i []) := by
      rw [List.getElem?_map, List.getElem?_eq_getElem hi] at e1
      cases e1
      simp [List.getD, hi]
    have e3 : vs.getD i V.non = vs[i] := by simp [List.getD, hv]
    rw [List.map_cons, List.map_cons, e3, ← e2]
    exact RpL.cons r1 (Qt r ix fun j hj => h j (.tail _ hj))
end
open PySem.W (KasT kas_asc kas_desc kas_tail3 kas_descPart kas_count kas_place kas_bin kas_sort kas_rev)
structure Yi (bt : Nat → Nat → Bool) : Prop where
  asy : ∀ i j, bt i j = true → bt j i = false
  neg : ∀ i j k, bt j i = false → bt k j = false → bt k i = false
noncomputable abbrev gt (p : Array Nat) (i : Nat) : Nat := p.getD i 0
section
variable {bt : Nat → Nat → Bool} (O : Yi bt)
end
theorem NT : ∀ a : List Int, HT.lexLt a a = false
  | [] => rfl
  | x :: a => by
    simp [HT.lexLt, NT a]
theorem QS (x y : Int) (a b : List Int) : HT.lexLt (x :: a) (y :: b) = if x = y then HT.lexLt a b else decide (x < y) := by
  simp only [HT.lexLt]
theorem UW : ∀ a b : List Int, HT.lexLt a b = true → HT.lexLt b a = false
  | [], [], h => by simp [HT.lexLt] at h
  | [], _ :: _, _ => by simp [HT.lexLt]
  | _ :: _, [], h => by simp [HT.lexLt] at h
  | x :: a, y :: b, h => by
    rw [QS] at h ⊢
    by_cases e : x = y
    · subst e
      rw [if_pos rfl] at h ⊢
      exact UW a b h
    · rw [if_neg e] at h
      rw [if_neg (fun z => e z.symm)]
      have : x < y := by simpa using h
      simp only [decide_eq_false_iff_not]
      omega
theorem Ks : ∀ a b c : List Int, HT.lexLt b a = false → HT.lexLt c b = false → HT.lexLt c a = false
  | [], b, c, h1, h2 => by cases c <;> simp [HT.lexLt]
  | x :: a, [], c, h1, h2 => by simp [HT.lexLt] at h1
  | x :: a, y :: b, [], h1, h2 => by simp [HT.lexLt] at h2
  | x :: a, y :: b, z :: c, h1, h2 => by
    rw [QS] at h1 h2 ⊢
    by_cases e1 : y = x
    · subst e1
      rw [if_pos rfl] at h1
      by_cases e2 : z = y
      · subst e2
        rw [if_pos rfl] at h2 ⊢
        exact Ks a b c h1 h2
      · rw [if_neg e2] at h2 ⊢
        exact h2
    · rw [if_neg e1] at h1
      have q1 : ¬ y < x := by simpa using h1
      by_cases e2 : z = y
      · subst e2
        rw [if_neg e1]
        exact h1
      · rw [if_neg e2] at h2
        have q2 : ¬ z < y := by simpa using h2
        rw [if_neg (by omega)]
        simp only [decide_eq_false_iff_not]
        omega
section
variable {X : Cx} {e : Expr} {te : DTE} {pos : Pos}
noncomputable def Aap (j : Nat) : DTS := fun D ρ => ownAt ρ j fun _ => D.nx (ρ.set j (some (.own [])))
theorem AbK (j : Nat) {x : Str} {px ap cp : Pos} (hN : X.N[j]? = some x := by rfl) (hv : Vis X.env.scope x := by first | exact Or.inl rfl | exact Or.inr (Or.inl rfl) | exact Or.inr (Or.inr rfl)) (hd : (x == ("__debug__" : Str)) = false := by decide)
    (hcd : (x == ("__classdict__" : Str)) = false := by decide) (hbase : attributeBase (.Name x px) "clear" X.env (eval (.Name x px) X.env) = eval (.Name x px) X.env := by rfl)
    (hline : (ap.endLine == cp.line) = true := by rfl)
    (hs : swapsWith (.Call (.Attribute (.Name x px) "clear" ap) [] [] cp) none pos.line X.env = pure false := by rfl) : DS X (.Expr (.Call (.Attribute (.Name x px) "clear" ap) [] [] cp) pos) (Aap j) where
  mono := fun hd h => h.mono fun ds h => hd.nx _ h
  ps := (Kr (Sw PySem.F.plainAttrs_list PySem.F.slot_list_clear PySem.F.type_list_clear WQ (GJ hN hv hd hcd) hbase hline) hs).imp fun D σ H ⟨B, F, O, ρ, R, h⟩ => by
    obtain ⟨ds, e1, h⟩ := h.get
    obtain ⟨a, xs, h1, h2, h3, h4, h5⟩ := R.own j ds e1
    exact ⟨_, h1, .inl ⟨rfl, _, SqL.of h4⟩, a, xs, rfl, rfl, h4, h O σ _ (R.putOwn e1 h1 h2 h4 .nil)⟩
end
theorem Qn : ∀ a b : List Int, Dt.eqs (a.map Dt.int) (b.map Dt.int) = decide (a = b)
  | [], [] => by simp [Dt.eqs]
  | [], _ :: _ => by simp [Dt.eqs]
  | _ :: _, [] => by simp [Dt.eqs]
  | x :: a, y :: b => by
    rw [List.map_cons, List.map_cons, Dt.eqs, Qn a b, Dt.eq]
    by_cases e : x = y
    · by_cases e2 : a = b <;> simp [e, e2]
    · simp [e]
theorem JC : ∀ a b : List (List Int), Dt.eqs (a.map Bq) (b.map Bq) = decide (a = b)
  | [], [] => by simp [Dt.eqs]
  | [], _ :: _ => by simp [Dt.eqs]
  | _ :: _, [] => by simp [Dt.eqs]
  | x :: a, y :: b => by
    rw [List.map_cons, List.map_cons, Dt.eqs, JC a b, Dt.eq, Qn]
    by_cases e : x = y
    · by_cases e2 : a = b <;> simp [e, e2]
    · simp [e]
theorem Lp (n : Nat) : ∀ a : List Int, Dt.flats n (a.map Dt.int) = true
  | [] => by simp [Dt.flats]
  | x :: a => by rw [List.map_cons, Dt.flats, Lp n a, JH]; rfl
theorem Dc (n : Nat) : ∀ a : List (List Int), Dt.flats (n + 1) (a.map Bq) = true
  | [] => by simp [Dt.flats]
  | x :: a => by rw [List.map_cons, Dt.flats, Dc n a, Dt.flat, Lp]; rfl
theorem Nu (n : Nat) : ∀ a : List Int, Dt.noLs n (a.map Dt.int) = true
  | [] => RJ
  | x :: a => by rw [List.map_cons, Pa, Nu n a, Aao]; rfl
theorem Np (n : Nat) : ∀ a : List (List Int), Dt.noLs (n + 1) (a.map Bq) = true
  | [] => RJ
  | x :: a => by rw [List.map_cons, Pa, Np n a, Z8, Nu]; rfl
open PySem.W (KasT kas_sort)
section
variable {prog : Program} {w : World} {A : Around} {E : Value → Shared → Prop} {s : Shared}
end
section
variable {X : Cx}
end
section
variable {X : Cx}
end
section
variable {X : Cx}
end
section
variable {P : Program} {w : World}
theorem Nv : ∀ {ks : List Int} {us : List Value}, Vals (ks.map V.int) us → ItemsAre (EY P w) (ks.map Sum.inl) us
  | [], _, r => by cases r; exact .nil
  | _ :: ks, _, r => by
    cases r with
    | cons h t =>
      obtain ⟨t', rfl⟩ := h
      exact .cons (Qc P w _ t') (Nv t)
theorem XD (ks : List Int) : (ks.map (Sum.inl : Int → Key)).map kV = ks.map V.int := by rw [List.map_map]; rfl
theorem Us : ∀ {a b : List Int}, a.map (Sum.inl : Int → Key) = b.map Sum.inl → a = b
  | [], [], _ => rfl
  | [], _ :: _, e => by cases e
  | _ :: _, [], e => by cases e
  | x :: xs, y :: ys, e => by
    obtain ⟨h1, h2⟩ := List.cons.inj e
    rw [Sum.inl.inj h1, Us h2]
theorem Vt {P' : Program} {w' : World} {x : List Key × Addr × Value} {k : List Int} (h : x.1 = k.map Sum.inl) : entryOfKey (tupleKind (EY P w)) x = entryOfKey (tupleKind (EY P' w')) x := by
  show DictEntry.mk (reduceHash (Builtin.Tuple.tupleHashOf (x.1.map (AbJ w)))) _ _ = DictEntry.mk (reduceHash (Builtin.Tuple.tupleHashOf (x.1.map (AbJ w')))) _ _
  rw [h, List.map_map, List.map_map]
  rfl
end
section
variable {X : Cx} {pins : List (Addr × Obj)} {σ : St} {H : Hp} {s : Shared} {a b : Addr} {ks : List (List Int)} {xs : List (List Key × Addr × Value)} {A : Around} {E : Value → Shared → Prop} {k : List Int}
theorem O8 (I : Inv X pins σ H s) (h : SqT X.K H b (k.map V.int)) : (tupleKind (EY X.prog X.w)).is s.heap (k.map Sum.inl) b := by
  obtain ⟨its, r, ⟨o, h1, h2, n, h3⟩, _⟩ := I.tuple h
  exact ⟨o, its.toArray, n, h1, h2, h3, by simpa using Nv r⟩
theorem QM (I : Inv X pins σ H s) (Ha : H a = some (.ext (tabAt a xs))) (tk : Rh X.K H ks xs) : (a == sysModules) = false ∧ s.heap.DictOfH (tupleKind (EY X.prog X.w)) a xs := by
  obtain ⟨⟨h0, P, w, o, es, ep, h1, h2, h3, h4, h5⟩, _⟩ := I.hok a _ Ha
  refine ⟨h0, o, es, ep, h1, h2, h3, h4.trans (List.map_congr_left fun x hx => ?_), fun x hx => ?_, h5⟩
  · have m : x.1 ∈ ks.map (·.map Sum.inl) := by rw [← tk.1]; exact List.mem_map.mpr ⟨x, hx, rfl⟩
    obtain ⟨k, _, e⟩ := List.mem_map.mp m
    exact Vt e.symm
  have m : x.1 ∈ ks.map (·.map Sum.inl) := by rw [← tk.1]; exact List.mem_map.mpr ⟨x, hx, rfl⟩
  obtain ⟨k, _, e⟩ := List.mem_map.mp m
  have := tk.2 x hx
  rw [← e, XD] at this
  rw [← e]
  exact O8 I this
theorem Ut (e : xs.map (·.1) = ks.map (·.map Sum.inl)) : (atKey xs (k.map Sum.inl)).isSome = decide (k ∈ ks) := by
  by_cases h : k ∈ ks
  · rw [decide_eq_true h]
    have m : k.map Sum.inl ∈ xs.map (·.1) := by rw [e]; exact List.mem_map.mpr ⟨k, h, rfl⟩
    obtain ⟨x, hx, ex⟩ := List.mem_map.mp m
    unfold atKey
    rw [Option.isSome_map, List.find?_isSome]
    exact ⟨x, hx, decide_eq_true ex⟩
  · rw [decide_eq_false h]
    unfold atKey
    rw [Option.isSome_map]
    cases q : xs.find? fun x => decide (x.1 = k.map Sum.inl) with
    | none => rfl
    | some x =>
      have h1 := List.mem_of_find?_eq_some q
      have h2 : decide (x.1 = k.map Sum.inl) = true := List.find?_some (p := fun x : List Key × Addr × Value => decide (x.1 = k.map Sum.inl)) q
      have h2 := of_decide_eq_true h2
      have m : x.1 ∈ ks.map (·.map Sum.inl) := by rw [← e]; exact List.mem_map.mpr ⟨x, h1, rfl⟩
      obtain ⟨k', hk, e'⟩ := List.mem_map.mp m
      rw [h2] at e'
      exact absurd (by rw [← Us e']; exact hk) h
noncomputable def AbX (K : PySem.W.Frag) : R2 := fun y x H Q => ∃ a b ks xs k, x = .ref a ∧ y = .ref b ∧ H a = some (.ext (tabAt a xs)) ∧ Rh K H ks xs ∧ SqT K H b (k.map V.int) ∧ Q (.bl (!decide (k ∈ ks))) H
theorem Qw (hu : X.A.units + 1 < cLine) : OpR X (compareOp .NotIn) (AbX X.K) := by
  intro pins s σ H y x v u Q I ry rx h
  obtain ⟨a, b, ks, xs, k, rfl, rfl, Ha, tk, hb, q⟩ := h
  cases rx
  cases ry
  obtain ⟨h0, dd⟩ := QM I Ha tk
  refine wpAny_notIn_heap (tupleKind_room_in1 hu) (O8 I hb) h0 dd ?_
  rw [Ut tk.1]
  exact ⟨.bl (!decide (k ∈ ks)), H, I.tok _, rfl, q⟩
noncomputable def Gg (k : List Int) (ks : List (List Int)) : List (List Int) := if k ∈ ks then ks else ks ++ [k]
theorem WW {v : Value} (e : xs.map (·.1) = ks.map (·.map Sum.inl)) : (storedH xs (k.map Sum.inl) b v).map (·.1) = (Gg k ks).map (·.map Sum.inl) := by
  unfold storedH Gg
  rw [Ut e]
  by_cases h : k ∈ ks
  · rw [decide_eq_true h, if_pos rfl, if_pos h, List.map_map, ← e]
    refine List.map_congr_left fun x _ => ?_
    show (putAt _ v x).1 = x.1
    unfold putAt
    split <;> rfl
  · rw [decide_eq_false h, if_neg (by simp), if_neg h, List.map_append, List.map_append, e]
    rfl
theorem Yl {v : Value} {x : List Key × Addr × Value} {kk : List Key} (h : x ∈ storedH xs kk b v) : (∃ y ∈ xs, y.1 = x.1 ∧ y.2.1 = x.2.1) ∨ (x.1 = kk ∧ x.2.1 = b) := by
  unfold storedH at h
  split at h
  · obtain ⟨y, hy, rfl⟩ := List.mem_map.mp h
    refine .inl ⟨y, hy, ?_⟩
    unfold putAt
    split <;> exact ⟨rfl, rfl⟩
  · rcases List.mem_append.mp h with h | h
    · exact .inl ⟨x, h, rfl, rfl⟩
    · rw [List.mem_singleton.mp h]
      exact .inr ⟨rfl, rfl⟩
noncomputable def ZS (K : PySem.W.Frag) : V → V → V → Hp → (Hp → Prop) → Prop := fun x y v H Q => ∃ a b t ks xs k, x = .ref a ∧ y = .ref b ∧ v = .bl t ∧ H a = some (.ext (tabAt a xs)) ∧ Rh K H ks xs ∧ ks.length ≤ sizeLine ∧ SqT K H b (k.map V.int) ∧ ∀ xs', (xs'.map (·.1) = (Gg k ks).map (·.map Sum.inl)) → (∀ x ∈ xs', (∃ y ∈ xs, y.1 = x.1 ∧ y.2.1 = x.2.1) ∨ (x.1 = k.map Sum.inl ∧ x.2.1 = b)) → Q (upd H a (.ext (tabAt a xs')))
theorem K1 {a : Addr} {xs : List (List Key × Addr × Value)} (h1 h2 : Heap) (x : tabAt a xs h1) (k : ∀ o, h1.get? a = some o → h2.get? a = some o) : tabAt a xs h2 := let ⟨h0, P, w, o, es, ep, e, r⟩ := x; ⟨h0, P, w, o, es, ep, k o e, r⟩
theorem Zu (hu : X.A.units + 1 < cLine) : Aer X (ZS X.K) := by
  intro pins s σ H x y v ov iv u Q I rx ry rv h
  obtain ⟨a, b, t, ks, xs, k, rfl, rfl, rfl, Ha, tk, hz, hb, q⟩ := h
  cases rx
  cases ry
  obtain ⟨h0, dd⟩ := QM I Ha tk
  have lx : xs.length ≤ sizeLine := by
    have := congrArg List.length tk.1
    rw [List.length_map, List.length_map] at this
    omega
  refine wpAny_setItem_heap (hsz := lx) (tupleKind_room_in1 hu) (O8 I hb) dd fun h' dd' hs => ⟨_, ?_, q _ (WW (b := b) (v := u) tk.1) (fun x hx => Yl hx)⟩
  obtain ⟨o, es, ep, e1, e2, e3, e4, _, e5⟩ := dd'
  have th : ∃ o, h'.get? a = some o := ⟨o, e1⟩
  exact I.write (x := a) (e := a) (by rw [Ha]; exact True.intro) (.inl rfl) (fun c u hc z => (hs.2 c hc).trans z) th ⟨⟨h0, _, _, o, es, ep, e1, e2, e3, e4, e5⟩, th, K1⟩
noncomputable def ZK : TE := fun _ H Q => ∀ p, H p = none → Q (.ref p) (upd H p (.ext (tabAt p [])))
theorem Vq {pos : Pos} : PE X (.Dict [] [] pos) ZK := fun pins s σ H Q I h => by
  have big : sysModules < s.heap.objs.size := Nat.lt_trans (by decide) (show mainGlobals < s.heap.objs.size from (I.mod.glob.keeps I.bk).lt)
  have at' : (s.heap.push { cls := .type "dict", data := .dict #[] }).get? s.heap.objs.size = some { cls := .type "dict", data := .dict #[] } := Heap.get?_push_size _ rfl
  refine wpAny_Dict_empty ⟨.ref s.heap.objs.size, _, I.laid (a := s.heap.objs.size) (o := .ext (tabAt s.heap.objs.size [])) (t' := s.toks) (fun _ _ q => Heap.get?_push_of_some _ q) (Nat.le_refl _) ⟨⟨beq_eq_false_iff_ne.mpr (Ne.symm (Nat.ne_of_lt big)), X.prog, X.w, _, #[], 0, at', ⟨rfl, rfl, rfl⟩, rfl, rfl, List.nodup_nil⟩, ⟨_, at'⟩, K1⟩, rfl, h _ (I.hok.fresh (Nat.le_refl _))⟩
end
section
variable {K : PySem.W.Frag} {B : Hp} {F O : List Addr} {H : Hp} {σ : St} {ρ : Bj}
theorem Rep.newTab (r : Rep K B F O H σ ρ) (i : Nat) {p : Addr} (hp : H p = none) : Rep K B F (p :: O) (upd H p (.ext (tabAt p []))) (σ.set i (some (.ref p))) (ρ.set i (some (.tab []))) := by
  have hl := r.len
  have nF : p ∉ F := fun z => r.th p (List.mem_append_left _ z) hp
  have nO : p ∉ O := fun z => r.th p (List.mem_append_right _ z) hp
  have em := Rr (F := F) (O := O) (o := .ext (tabAt p [])) hp
  have back : ∀ (m : Nat) (x : En), (∀ ks, x ≠ .tab ks) → (ρ.set i (some (.tab [])))[m]? = some (some x) → m ≠ i ∧ ρ[m]? = some (some x) := fun m x nx q => by
    have hm : m ≠ i := fun z => by
      subst z
      by_cases hk : m < ρ.length
      · rw [List.getElem?_set_self hk] at q; cases q; exact nx _ rfl
      · rw [List.getElem?_eq_none (by simpa using hk)] at q; cases q
    rw [List.getElem?_set_ne (Ne.symm hm)] at q; exact ⟨hm, q⟩
  refine ⟨by simpa using hl, r.base.trans (Same.upd hp), fun a h => ?_, fun a h e => ?_, fun j d q => ?_, fun j es q => ?_, fun j k es es' a h1 h2 h3 h4 => ?_, fun j ks q => ?_, fun j k es es' a h1 h2 h3 h4 => ?_, r.rawSet fun _ z => by cases z⟩
  · rcases List.mem_cons.mp h with rfl | h
    · cases q : B a with
      | none => rfl
      | some o => rw [r.base a o q] at hp; cases hp
    · exact r.fr a h
  · by_cases z : a = p
    · rw [z, Bp] at e; cases e
    · rw [Bc z] at e
      refine r.th a ?_ e
      rcases List.mem_append.mp h with h | h
      · exact List.mem_append_left _ h
      · exact List.mem_append_right _ ((List.mem_cons.mp h).resolve_left z)
  · obtain ⟨hj, q⟩ := back j _ (fun _ z => by cases z) q
    rw [List.getElem?_set_ne (Ne.symm hj), em]; exact r.is j d q
  · obtain ⟨hj, q⟩ := back j _ (fun _ z => by cases z) q
    rw [List.getElem?_set_ne (Ne.symm hj)]
    obtain ⟨a, ys, h1, h2, h3, h4, h5⟩ := r.own j es q
    exact ⟨a, ys, h1, List.mem_cons_of_mem _ h2, h3, by rw [Bc (a := p) (fun z => nO (by rw [← z]; exact h2))]; exact h4, by rw [em]; exact h5⟩
  · obtain ⟨n1, q1⟩ := back j _ (fun _ z => by cases z) h1
    obtain ⟨n2, q2⟩ := back k _ (fun _ z => by cases z) h2
    rw [List.getElem?_set_ne (Ne.symm n1)] at h3
    rw [List.getElem?_set_ne (Ne.symm n2)] at h4
    exact r.inj j k es es' a q1 q2 h3 h4
  · by_cases hj : j = i
    · subst hj
      by_cases hk : j < ρ.length
      · rw [List.getElem?_set_self hk] at q; cases q
        exact ⟨p, [], List.getElem?_set_self (by omega), List.mem_cons_self, nF, Bp, rfl, fun x hx => (nomatch hx)⟩
      · rw [List.getElem?_eq_none (by simpa using hk)] at q; cases q
    · rw [List.getElem?_set_ne (Ne.symm hj)] at q ⊢
      obtain ⟨a, ys, h1, h2, h3, h4, h5⟩ := r.tab j ks q
      exact ⟨a, ys, h1, List.mem_cons_of_mem _ h2, h3, by rw [Bc (a := p) (fun z => nO (by rw [← z]; exact h2))]; exact h4, by rw [em]; exact h5⟩
  · have other : ∀ (m : Nat) es, m ≠ i → (ρ.set i (some (.tab [])))[m]? = some (some (.tab es)) → (σ.set i (some (.ref p)))[m]? = some (some (.ref p)) → False := fun m es hm q1 q2 => by
      rw [List.getElem?_set_ne (Ne.symm hm)] at q1 q2
      obtain ⟨b, _, e1, e2, _⟩ := r.tab m es q1
      rw [e1] at q2
      cases q2
      exact nO e2
    have self : ∀ (m : Nat) es, m = i → (ρ.set i (some (.tab [])))[m]? = some (some (.tab es)) → (σ.set i (some (.ref p)))[m]? = some (some (.ref a)) → a = p := fun m es hm q1 q2 => by
      subst hm
      rw [List.getElem?_set_self (by
        have := (List.getElem?_eq_some_iff.mp q1).1
        simp at this; omega)] at q2
      cases q2; rfl
    by_cases hj : j = i
    · by_cases hk : k = i
      · rw [hj, hk]
      · have := self j es hj h1 h3
        subst this
        exact (other k es' hk h2 h4).elim
    · by_cases hk : k = i
      · have := self k es' hk h2 h4
        subst this
        exact (other j es hj h1 h3).elim
      · rw [List.getElem?_set_ne (Ne.symm hj)] at h1 h3
        rw [List.getElem?_set_ne (Ne.symm hk)] at h2 h4
        exact r.tinj j k es es' a h1 h2 h3 h4
theorem Rep.putTab (r : Rep K B F O H σ ρ) {i : Nat} {a : Addr} {ks ls : List (List Int)} {xs ys : List (List Key × Addr × Value)} (hi : ρ[i]? = some (some (.tab ks))) (hs : σ[i]? = some (some (.ref a))) (ha : a ∈ O) (hH : H a = some (.ext (tabAt a xs))) (h : Rh K (mask (F ++ O) H) ls ys) :
    Rep K B F O (upd H a (.ext (tabAt a ys))) σ (ρ.set i (some (.tab ls))) := by
  have em : mask (F ++ O) (upd H a (.ext (tabAt a ys))) = mask (F ++ O) H := KQ (List.mem_append_right _ ha)
  have hk : i < ρ.length := (List.getElem?_eq_some_iff.mp hi).1
  have back : ∀ (m : Nat) (x : En), (∀ ks, x ≠ .tab ks) → (ρ.set i (some (.tab ls)))[m]? = some (some x) → ρ[m]? = some (some x) := fun m x nx q => by
    have hm : m ≠ i := fun z => by subst z; rw [List.getElem?_set_self hk] at q; cases q; exact nx _ rfl
    rw [List.getElem?_set_ne (Ne.symm hm)] at q; exact q
  refine ⟨by simpa using r.len, fun b o e => ?_, r.fr, fun b hb e => ?_, fun j d q => ?_, fun j zs q => ?_, fun j k es' es'' b h1 h2 h3 h4 => ?_, fun j zs q => ?_, fun j k es' es'' b h1 h2 h3 h4 => ?_, fun j v q => r.raw j v (Ho (fun _ z => by cases z) q).2⟩
  · rw [Bc fun z => by rw [z, r.fr a ha] at e; cases e]; exact r.base b o e
  · by_cases z : b = a
    · rw [z, Bp] at e; cases e
    · rw [Bc z] at e; exact r.th b hb e
  · rw [em]; exact r.is j d (back j _ (fun _ z => by cases z) q)
  · obtain ⟨b, ws, e1, e2, e3, e4, e5⟩ := r.own j zs (back j _ (fun _ z => by cases z) q)
    have nb : b ≠ a := fun z => by rw [z, hH] at e4; cases e4
    exact ⟨b, ws, e1, e2, e3, by rw [Bc nb]; exact e4, by rw [em]; exact e5⟩
  · exact r.inj j k _ _ b (back j _ (fun _ z => by cases z) h1) (back k _ (fun _ z => by cases z) h2) h3 h4
  · by_cases hj : j = i
    · subst hj
      rw [List.getElem?_set_self hk] at q; cases q
      obtain ⟨b, _, e1, e2, e3, _⟩ := r.tab j ks hi
      rw [hs] at e1; cases e1
      exact ⟨a, ys, hs, ha, e3, Bp, by rw [em]; exact h⟩
    · rw [List.getElem?_set_ne (Ne.symm hj)] at q
      obtain ⟨b, ws, e1, e2, e3, e4, e5⟩ := r.tab j zs q
      have nb : b ≠ a := fun z => by subst z; exact hj (r.tinj j i zs ks b q hi e1 hs)
      exact ⟨b, ws, e1, e2, e3, by rw [Bc nb]; exact e4, by rw [em]; exact e5⟩
  · have bk : ∀ (m : Nat) es, (ρ.set i (some (.tab ls)))[m]? = some (some (.tab es)) → ∃ es', ρ[m]? = some (some (.tab es')) := fun m es q => by
      by_cases hm : m = i
      · subst hm; exact ⟨ks, hi⟩
      · rw [List.getElem?_set_ne (Ne.symm hm)] at q; exact ⟨es, q⟩
    obtain ⟨_, q1⟩ := bk j es' h1
    obtain ⟨_, q2⟩ := bk k es'' h2
    exact r.tinj j k _ _ b q1 q2 h3 h4
end
section
variable {X : Cx} {e : Expr} {te : DTE} {pos : Pos}
noncomputable def tabOf (ρ : Bj) (j : Nat) (k : List (List Int) → Prop) : Prop := match ρ[j]? with
  | some (some (.tab ks)) => k ks
  | _ => False
theorem tabOf.mono {ρ : Bj} {j : Nat} {k k' : List (List Int) → Prop} (hk : ∀ ks, k ks → k' ks) (h : tabOf ρ j k) : tabOf ρ j k' := by
  unfold tabOf at h ⊢
  split at h
  · exact hk _ h
  · exact h.elim
theorem tabOf.get {ρ : Bj} {j : Nat} {k : List (List Int) → Prop} (h : tabOf ρ j k) : ∃ ks, ρ[j]? = some (some (.tab ks)) ∧ k ks := by
  unfold tabOf at h
  split at h
  · rename_i ks e; exact ⟨ks, e, h⟩
  · exact h.elim
noncomputable def AcM (i : Nat) : DTS := fun D ρ => D.nx (ρ.set i (some (.tab [])))
theorem Xn (i : Nat) {x : Str} {pos' lp : Pos} (hN : X.N.Nodup) (hi : X.N[i]? = some x := by rfl) (hx : Loc X.env.scope x := by first | exact Or.inl rfl | exact Or.inr rfl) (hs : swapsWith (.Dict [] [] lp) (some (.Name x pos')) pos.line X.env = pure false := by rfl)
    (hf : X.fn x = true ∨ X.env.scope.names.lookup x = some .local := by first | exact .inl rfl | exact .inr rfl | assumption) : DS X (.Assign [.Name x pos'] (.Dict [] [] lp) pos) (AcM i) where
  mono := fun hd h => hd.nx _ h
  ps := (Ou hN hi hx Vq hs hf).imp fun D σ H ⟨B, F, O, ρ, R, h⟩ p hp => h (p :: O) _ _ (R.newTab i hp)
noncomputable def Oq (j : Nat) (te : DTE) : DTE := fun ρ Q => te ρ fun d => ∃ k, d = Bq k ∧ tabOf ρ j fun ks => Q (.bl (!decide (k ∈ ks)))
theorem Py {K : PySem.W.Frag} {H : Hp} {k : List Int} {v : V} (r : Rp K H (Bq k) v) : ∃ b, v = .ref b ∧ SqT K H b (k.map V.int) := by
  obtain ⟨b, ys, rfl, ht, hy⟩ := Dm.mp r
  obtain rfl := Jv hy
  exact ⟨b, rfl, ht⟩
theorem Wj (j : Nat) {x : Str} {px : Pos} (hu : X.A.units + 1 < cLine) (he : DE X e te) (hN : X.N[j]? = some x := by rfl) (hv : Vis X.env.scope x := by first | exact Or.inl rfl | exact Or.inr (Or.inl rfl) | exact Or.inr (Or.inr rfl)) (hd : (x == ("__debug__" : Str)) = false := by decide)
    (hcd : (x == ("__classdict__" : Str)) = false := by decide) (hm : behindInMarks .NotIn (.Name x px) = false := by rfl) : DE X (.Compare e [.NotIn] [.Name x px] pos) (Oq j te) where
  mono := fun hq h => he.mono (fun d ⟨k, e, h⟩ => ⟨k, e, h.mono fun ks h => hq _ h⟩) h
  pe := (Te (Qw hu) he.pe (GJ hN hv hd hcd) hm).imp fun σ H Q ⟨B, F, O, ρ, R, h⟩ => by
    refine ⟨B, F, O, ρ, R, he.mono (fun d ⟨k, ed, h⟩ v H1 s1 r1 => ?_) h⟩
    obtain ⟨ks, e1, h⟩ := h.get
    obtain ⟨a, xs, h1, h2, h3, h4, h5⟩ := (R.same s1).tab j ks e1
    subst ed
    obtain ⟨b, rfl, hb⟩ := Py r1
    exact ⟨_, h1, a, b, ks, xs, k, rfl, rfl, h4, h5.mono Ay, Ay.seqT hb, h _ H1 s1 (CG.mpr rfl)⟩
theorem un1 {A : Around} (h : A.units + 64 < cLine) : A.units + 1 < cLine := by omega
theorem KH (j : Nat) {x : Str} {px : Pos} (hu : X.A.units + 1 < cLine) (he : DE X e te) (hN : X.N[j]? = some x := by rfl) (hv : Vis X.env.scope x := by first | exact Or.inl rfl | exact Or.inr (Or.inl rfl) | exact Or.inr (Or.inr rfl)) (hd : (x == ("__debug__" : Str)) = false := by decide)
    (hcd : (x == ("__classdict__" : Str)) = false := by decide) (hm : behindInMarks .NotIn (.Name x px) = false := by rfl) : DT X (.Compare e [.NotIn] [.Name x px] pos) (Kh (Oq j te)) where
  mono := JZ (t := Oq j te) (Wj (pos := pos) (px := px) j hu he hN hv hd hcd hm).mono
  pt := (Ul (Qw hu) he.pe (GJ hN hv hd hcd) hm).imp fun σ H Q ⟨B, F, O, ρ, R, h⟩ => by
    refine ⟨B, F, O, ρ, R, he.mono (fun d ⟨k, ed, h⟩ v H1 s1 r1 => ?_) h⟩
    obtain ⟨ks, e1, h⟩ := h.get
    obtain ⟨a, xs, h1, h2, h3, h4, h5⟩ := (R.same s1).tab j ks e1
    subst ed
    obtain ⟨b, rfl, hb⟩ := Py r1
    exact ⟨_, h1, a, b, ks, xs, k, rfl, rfl, h4, h5.mono Ay, Ay.seqT hb, _, rfl, h H1 s1⟩
noncomputable def Uc (j : Nat) (tv te : DTE) : DTS := fun D ρ => tv ρ fun v => (∃ t, v = .bl t) ∧ tabOf ρ j fun ks => te ρ fun d => ∃ k, d = Bq k ∧ ks.length ≤ sizeLine ∧ D.nx (ρ.set j (some (.tab (Gg k ks))))
theorem Nq (j : Nat) {x : Str} {v : Expr} {tv : DTE} {px sp : Pos} (hu : X.A.units + 1 < cLine) (hvv : DE X v tv) (he : DE X e te) (hN : X.N[j]? = some x := by rfl) (hv : Vis X.env.scope x := by first | exact Or.inl rfl | exact Or.inr (Or.inl rfl) | exact Or.inr (Or.inr rfl)) (hd : (x == ("__debug__" : Str)) = false := by decide)
    (hcd : (x == ("__classdict__" : Str)) = false := by decide) (hs : swapsWithSole [.Subscript (.Name x px) e sp] v pos.line X.env = pure false := by rfl) (hw : swappedStores [.Subscript (.Name x px) e sp] v X.env = pure none := by rfl)
    (h1 : (assignEach [.Subscript (.Name x px) e sp] X.env).map (·.2) = [assign (.Subscript (.Name x px) e sp) X.env] := by rfl)
    (hag : ∀ v, assign (.Subscript (.Name x px) e sp) X.env v = (holding [v] (eval (.Name x px) X.env) >>= fun ov => holding [v, ov] (eval e X.env) >>= fun iv => standAt sp >>= fun _ => holding [v, ov, iv] (setItem ov iv v) >>= fun _ => release [v, ov, iv] []) := by intro _; rfl) : DS X (.Assign [.Subscript (.Name x px) e sp] v pos) (Uc j tv te) where
  mono := fun hd h => hvv.mono (fun v ⟨hv, h⟩ => ⟨hv, h.mono fun ks h => he.mono (fun d ⟨k, e, z, h⟩ => ⟨k, e, z, hd.nx _ h⟩) h⟩) h
  ps := (WR hvv.pe (AbS (GJ hN hv hd hcd) he.pe (Zu hu) hag) hs hw h1).imp fun D σ H ⟨B, F, O, ρ, R, h⟩ => ⟨B, F, O, ρ, R, hvv.mono (fun d ⟨hv, h⟩ v H1 s1 r1 => by
    obtain ⟨t, rfl⟩ := hv
    have R1 := R.same s1
    obtain ⟨ks, e1, h⟩ := h.get
    obtain ⟨a0, _, ha0, _⟩ := R1.tab j ks e1
    refine ⟨_, ha0, B, F, O, ρ, R1, he.mono (fun d ⟨k, ed, hz, h⟩ w H2 s2 r2 => ?_) h⟩
    obtain ⟨a, xs, h1, h2, h3, h4, h5⟩ := (R1.same s2).tab j ks e1
    rw [ha0] at h1
    cases h1
    subst ed
    obtain ⟨b, rfl, hb⟩ := Py r2
    refine ⟨a0, b, t, ks, xs, k, rfl, rfl, CG.mp r1, h4, h5.mono Ay, hz, Ay.seqT hb, fun xs' k1 k2 => h O σ _ ((R1.same s2).putTab e1 ha0 h2 h4 ⟨k1, fun x hx => ?_⟩)⟩
    rcases k2 x hx with ⟨y, hy, y1, y2⟩ | ⟨y1, y2⟩
    · rw [← y1, ← y2]
      exact h5.2 y hy
    · rw [y1, y2, XD]
      exact hb) h⟩
end
section
variable {X : Cx} {a b : Expr} {ta tb : DTE} {pos : Pos}
end
section
variable {X : Cx} {k : Nat} {f C : Addr} {fd : FuncData} {ps : List Str} {sp : Sp} {x : Str} {p pos : Pos} {e : Expr} {es : List Expr} {t : TA}
end
section
variable {X : Cx} {o e : Expr} {es : List Expr} {tl : DTA} {te : Mx} {pos : Pos}
end
section
variable {X : Cx} {es : List Expr} {pos : Pos}
end
section
variable {X : Cx} {e o : Expr} {es : List Expr} {t : TA} {pos apos : Pos}
end
section
variable {X : Cx} {e o a b : Expr} {es : List Expr} {te : DTE} {tl : DTA} {tx : Mx} {tb : DTE} {pos apos : Pos}
end
section
variable {X : Cx} {C U fI : Addr} {e : Expr} {es : List Expr} {p pos : Pos} {t : TA} {tl : DTA}
end
section
variable {P : Program} {w : World} {H : Hp} {h h' : Heap} {a : Addr} {o : HO}
end
section
variable {X : Cx} {C U : Addr} {e : Expr} {es : List Expr} {p pos : Pos} {t : TA} {tl : DTA} {c : Str} {bm : List Value}
end
section
variable {K : PySem.W.Frag} {c : Str} {C U A : Addr} {cd : ClassData}
end
section
variable {t1 t2 t3 t4 u : DTS} {D : DK} {ρ : Bj}
theorem Rq (S : Bj → Prop) (h1 : ∀ N : Bj → Prop, (∀ ρ', S ρ' → N ρ') → XH t1 t2 { D with nx := N } ρ) (h2 : ∀ ρ', S ρ' → u D ρ') : XH t1 (XH t2 u) D ρ := h1 (u D) h2
end
section
variable {X : Cx} {iter elt : Expr} {px pos : Pos} {scope : Scope} {x : Str} {N : List Str} {sl : List Nat} {tx : Mx} {de : DTE} {ti : DTI}
end
section
variable {X : Cx} {a : Expr} {ta : DTE} {pos : Pos}
end
section
variable {X : Cx} {e : Expr} {te : DTE}
end
namespace Tb
noncomputable def Rs (xs : Array Nat) : Prop := ∀ i k, i < k → k < xs.size → xs.getD i 0 < xs.getD k 0
structure Ok (t : SetTable) (n : Nat) : Prop where
  rs : Rs t.place
  sz : t.place.size = n
  le : ∀ k, k < t.place.size → t.place.getD k 0 ≤ t.mask
  nd : t.dummies = #[]
  lt : n ≤ t.mask
set_option maxRecDepth 1000000 in
set_option maxRecDepth 1000000 in
set_option maxRecDepth 1000000 in
set_option maxRecDepth 1000000 in
set_option maxRecDepth 1000000 in
set_option maxRecDepth 1000000 in
noncomputable def lp (mask : Nat) : Nat → Nat × Nat → Nat × Nat
  | 0, x => x
  | n + 1, x => lp mask n (SetTable.leap mask x.1 x.2)
end Tb
end L2
namespace L2
open PySem
namespace Tb
structure PI (t : SetTable) (p : SetTable.Probe) : Prop where
  i : p.i ≤ t.mask
  j : p.j + p.more ≤ t.mask
  d : p.dummy = none
end Tb
end L2
namespace L2
open PySem
namespace Tb
end Tb
end L2
namespace L2
open PySem PySem.Spec PyProof.Rows PySem.SeqAt
section
variable {prog : Program} {w : World} {A : Around} {E : Value → Shared → Prop} {s : Shared} {h : Heap} {r : List Int} {b : Addr}
end
section
variable {prog : Program} {w : World} {A : Around} {E : Value → Shared → Prop} {s : Shared}
end
section
variable {X : Cx} {e : Expr} {te : DTE} {pos : Pos}
end
section
variable {prog : Program} {w : World} {A : Around} {E : Value → Shared → Prop} {s : Shared} {a I : Addr} {es : Array (Int × Value)} {ep i : Nat} {t : SetTable}
end
section
variable {prog : Program} {w : World} {A : Around} {E : Value → Shared → Prop} {s : Shared} {a : Addr} {es : Array (Int × Value)} {ep : Nat} {t : SetTable}
end
section
variable {prog : Program} {w : World} {A : Around} {E : Value → Shared → Prop} {s : Shared}
end
section
variable {prog : Program} {w : World} {A : Around} {E : Value → Shared → Prop} {s : Shared}
end
section
variable {X : Cx} {e : Expr} {te : DTE} {pos : Pos}
end
theorem Mv {L L' : List Addr} {H : Hp} (h : ∀ b, b ∈ L ↔ b ∈ L') : mask L H = mask L' H := by
  funext b
  by_cases z : b ∈ L
  · rw [CV z, CV ((h b).mp z)]
  · rw [Aq z, Aq fun y => z ((h b).mpr y)]
section
variable {K : PySem.W.Frag} {B : Hp} {F O O1 : List Addr} {H H1 : Hp} {σ σ' : St} {ρ ρ' : Bj} {i : Nat} {ds : List Dt} {a : Addr} {xs : List V}
theorem Rep.hide (r : Rep K B F O H σ ρ) (hi : ρ[i]? = some (some (.own ds))) (hs : σ[i]? = some (some (.ref a))) (hl : H a = some (.lst xs)) (hF : a ∉ F) (hO : a ∈ O) (h1 : ∀ b, b ∈ O1 ↔ b ∈ O ∧ b ≠ a) : Rep K B (a :: F) O1 H σ (ρ.set i (some (.raw (.ref a)))) := by
  have hk : i < ρ.length := (List.getElem?_eq_some_iff.mp hi).1
  have em : mask (a :: F ++ O1) H = mask (F ++ O) H := Mv fun b => by
    simp only [List.cons_append, List.mem_cons, List.mem_append, h1]
    constructor
    · rintro (rfl | z | ⟨z, _⟩)
      · exact .inr hO
      · exact .inl z
      · exact .inr z
    · rintro (z | z)
      · exact .inr (.inl z)
      · by_cases e : b = a
        · exact .inl e
        · exact .inr (.inr ⟨z, e⟩)
  have back : ∀ (j : Nat) (x : En), (∀ v, x ≠ .raw v) → (ρ.set i (some (.raw (.ref a))))[j]? = some (some x) → j ≠ i ∧ ρ[j]? = some (some x) := fun j x nx q => by
    have hj : j ≠ i := fun z => by subst z; rw [List.getElem?_set_self hk] at q; cases q; exact nx _ rfl
    rw [List.getElem?_set_ne (Ne.symm hj)] at q
    exact ⟨hj, q⟩
  refine ⟨by simpa using r.len, r.base, fun b hb => r.fr b ((h1 b).mp hb).1, fun b hb => ?_, fun j d q => ?_, fun j es q => ?_, fun j k es es' b q1 q2 q3 q4 => ?_, fun j ks q => ?_, fun j k es es' b q1 q2 q3 q4 => ?_, fun j v q => ?_⟩
  · rcases List.mem_append.mp hb with hb | hb
    · rcases List.mem_cons.mp hb with rfl | hb
      · rw [hl]; simp
      · exact r.th b (List.mem_append_left _ hb)
    · exact r.th b (List.mem_append_right _ ((h1 b).mp hb).1)
  · rw [em]
    exact r.is j d (back j _ (fun _ z => by cases z) q).2
  · obtain ⟨hj, q'⟩ := back j _ (fun _ z => by cases z) q
    obtain ⟨b, ys, e1, e2, e3, e4, e5⟩ := r.own j es q'
    have nb : b ≠ a := fun z => by rw [z] at e1; exact hj (r.inj j i es ds a q' hi e1 hs)
    exact ⟨b, ys, e1, (h1 b).mpr ⟨e2, nb⟩, fun z => (List.mem_cons.mp z).elim nb e3, e4, by rw [em]; exact e5⟩
  · exact r.inj j k es es' b (back j _ (fun _ z => by cases z) q1).2 (back k _ (fun _ z => by cases z) q2).2 q3 q4
  · obtain ⟨hj, q⟩ := back j _ (fun _ z => by cases z) q
    obtain ⟨b, ys, e1, e2, e3, e4, e5⟩ := r.tab j ks q
    have nb : b ≠ a := fun z => by rw [z, hl] at e4; cases e4
    exact ⟨b, ys, e1, (h1 b).mpr ⟨e2, nb⟩, fun z => (List.mem_cons.mp z).elim nb e3, e4, by rw [em]; exact e5⟩
  · exact r.tinj j k es es' b (back j _ (fun _ z => by cases z) q1).2 (back k _ (fun _ z => by cases z) q2).2 q3 q4
  · by_cases hj : j = i
    · subst hj
      rw [List.getElem?_set_self hk] at q
      cases q
      exact hs
    · rw [List.getElem?_set_ne (Ne.symm hj)] at q
      exact r.raw j v q
theorem Rep.show (r0 : Rep K B F O H1 σ ρ) (hO : a ∈ O) (hF : a ∉ F) (hl : H1 a = some (.lst xs)) (rl : RpL K (mask (F ++ O) H1) ds xs) (h1 : ∀ b, b ∈ O1 ↔ b ∈ O ∧ b ≠ a) {O2 : List Addr} {H2 : Hp} (r : Rep K (mask O1 H1) (a :: F) O2 H2 σ' ρ') (hi : ρ'[i]? = some (some (.raw (.ref a)))) :
    Rep K B F (a :: O2) H2 σ' (ρ'.set i (some (.own ds))) := by
  have hk : i < ρ'.length := (List.getElem?_eq_some_iff.mp hi).1
  have hs := r.raw i _ hi
  have em : mask (F ++ a :: O2) H2 = mask (a :: F ++ O2) H2 := Mv fun b => by
    simp only [List.cons_append, List.mem_cons, List.mem_append]
    constructor
    · rintro (z | z | z)
      · exact .inr (.inl z)
      · exact .inl z
      · exact .inr (.inr z)
    · rintro (z | z | z)
      · exact .inr (.inl z)
      · exact .inl z
      · exact .inr (.inr z)
  have sO : Same (mask O H1) (mask O1 H1) := Dp fun b hb => ((h1 b).mp hb).1
  have nO1 : a ∉ O1 := fun z => ((h1 a).mp z).2 rfl
  have la : H2 a = some (.lst xs) := r.base a _ (by rw [Aq nO1]; exact hl)
  have sB : Same B (mask O1 H1) := r0.sub.trans sO
  have sM : Same (mask (F ++ O) H1) (mask (a :: F ++ O2) H2) := fun b o e => by
    obtain ⟨nb, e⟩ := Bw e
    have nO : b ∉ O := fun z => nb (List.mem_append_right _ z)
    have e1 : mask O1 H1 b = some o := by rw [Aq fun z => nO ((h1 b).mp z).1]; exact e
    rw [Aq]
    · exact r.base b o e1
    · intro z
      rcases List.mem_append.mp z with z | z
      · rcases List.mem_cons.mp z with z | z
        · exact nO (by rw [z]; exact hO)
        · exact nb (List.mem_append_left _ z)
      · rw [r.fr b z] at e1; cases e1
  have back : ∀ (j : Nat) (x : En), (∀ z, x ≠ .own z) → (ρ'.set i (some (.own ds)))[j]? = some (some x) → j ≠ i ∧ ρ'[j]? = some (some x) := fun j x nx q => by
    have hj : j ≠ i := fun z => by subst z; rw [List.getElem?_set_self hk] at q; cases q; exact nx _ rfl
    rw [List.getElem?_set_ne (Ne.symm hj)] at q
    exact ⟨hj, q⟩
  have other : ∀ (j : Nat) es, j ≠ i → (ρ'.set i (some (.own ds)))[j]? = some (some (.own es)) → σ'[j]? = some (some (.ref a)) → False := fun j es hj q q2 => by
    rw [List.getElem?_set_ne (Ne.symm hj)] at q
    obtain ⟨b, ys, e1, e2, e3, _⟩ := r.own j es q
    rw [q2] at e1
    cases e1
    exact e3 List.mem_cons_self
  refine ⟨by simpa using r.len, sB.trans r.base, fun b hb => ?_, fun b hb => ?_, fun j d q => ?_, fun j es q => ?_, fun j k es es' b q1 q2 q3 q4 => ?_, fun j ks q => ?_, fun j k es es' b q1 q2 q3 q4 => ?_, fun j v q => r.raw j v (Ho (fun _ z => by cases z) q).2⟩
  · rcases List.mem_cons.mp hb with rfl | hb
    · exact r0.fr b hO
    · cases q : B b with
      | none => rfl
      | some o => have := sB b o q; rw [r.fr b hb] at this; cases this
  · refine r.th b ?_
    simp only [List.cons_append, List.mem_cons, List.mem_append] at hb ⊢
    rcases hb with z | z | z
    · exact .inr (.inl z)
    · exact .inl z
    · exact .inr (.inr z)
  · rw [em]
    exact r.is j d (back j _ (fun _ z => by cases z) q).2
  · rw [em]
    by_cases hj : j = i
    · subst hj
      rw [List.getElem?_set_self hk] at q
      cases q
      exact ⟨a, xs, hs, List.mem_cons_self, hF, la, rl.mono sM⟩
    · rw [List.getElem?_set_ne (Ne.symm hj)] at q
      obtain ⟨b, ys, e1, e2, e3, e4, e5⟩ := r.own j es q
      exact ⟨b, ys, e1, List.mem_cons_of_mem _ e2, fun z => e3 (List.mem_cons_of_mem _ z), e4, e5⟩
  · by_cases hj : j = i
    · by_cases hk2 : k = i
      · rw [hj, hk2]
      · subst hj
        rw [hs] at q3
        cases q3
        exact (other k es' hk2 q2 q4).elim
    · by_cases hk2 : k = i
      · subst hk2
        rw [hs] at q4
        cases q4
        exact (other j es hj q1 q3).elim
      · rw [List.getElem?_set_ne (Ne.symm hj)] at q1
        rw [List.getElem?_set_ne (Ne.symm hk2)] at q2
        exact r.inj j k es es' b q1 q2 q3 q4
  · rw [em]
    obtain ⟨hj, q⟩ := back j _ (fun _ z => by cases z) q
    obtain ⟨b, ys, e1, e2, e3, e4, e5⟩ := r.tab j ks q
    exact ⟨b, ys, e1, List.mem_cons_of_mem _ e2, fun z => e3 (List.mem_cons_of_mem _ z), e4, e5⟩
  · exact r.tinj j k es es' b (back j _ (fun _ z => by cases z) q1).2 (back k _ (fun _ z => by cases z) q2).2 q3 q4
end
section
variable {X : Cx} {e : Expr} {es : List Expr} {st : Stmt} {te : DTE} {tl : DTA} {tA tA' : DTT} {t t' : DTS} {pos : Pos}
noncomputable def WL (j : Nat) (g : DTG) (tb : DTS) : DTS := fun D ρ => ownAt ρ j fun ds => ∀ v : V, ∃ W : Nat → Bj → Prop, W 0 (ρ.set j (some (.raw v))) ∧
  (∀ (k : Nat) d ρ', ds[k]? = some d → W k ρ' → g d ρ' fun ρ2 => tb { D with nx := W (k + 1), ct := W (k + 1), bk := fun ρ3 => ρ3[j]? = some (some (.raw v)) ∧ D.nx (ρ3.set j (some (.own ds))) } ρ2) ∧ ∀ ρ', W ds.length ρ' → ρ'[j]? = some (some (.raw v)) ∧ D.nx (ρ'.set j (some (.own ds)))
theorem Yk (j : Nat) {tg : Expr} {body : List Stmt} {g : DTG} {x : Str} {px : Pos} (hp : PassesOwn (model X.prog X.w) X.A X.env X.xe) (hc : X.calm = true) (hg : DG X tg g) (hb : DSs X body t) (hN : X.N[j]? = some x := by rfl)
    (hv : Vis X.env.scope x := by first | exact Or.inl rfl | exact Or.inr (Or.inl rfl) | exact Or.inr (Or.inr rfl)) (hd : (x == ("__debug__" : Str)) = false := by decide) (hcd : (x == ("__classdict__" : Str)) = false := by decide)
    (hs : ∀ y, foldedSetIterable (.Name x px) X.env y = pure y := by intro _; rfl) : DS X (.For tg (.Name x px) body [] pos) (WL j g t) where
  mono := fun {ρ D D'} hd h => h.mono fun ds h v => by
    obtain ⟨W, h0, h, he⟩ := h v
    exact ⟨W, h0, fun k d ρ' e w => hg.mono (fun ρ2 q => hb.mono (D := { D with nx := W (k + 1), ct := W (k + 1), bk := fun ρ3 => ρ3[j]? = some (some (.raw v)) ∧ D.nx (ρ3.set j (some (.own ds))) }) ⟨fun _ q => q, hd.rt, fun _ q => ⟨q.1, hd.nx _ q.2⟩, fun _ q => q⟩ q) (h k d ρ' e w), fun ρ' w => ⟨(he ρ' w).1, hd.nx _ (he ρ' w).2⟩⟩
  ps := (Xm hp hc (Ux (GJ hN hv hd hcd)) hg.pg hb.ps hs).imp fun D σ H ⟨B, F, O, ρ, R, h⟩ => by
    obtain ⟨ds, e1, h⟩ := h.get
    obtain ⟨a, xs, h1, h2, h3, h4, h5⟩ := R.own j ds e1
    obtain ⟨W, w0, step, fin⟩ := h (.ref a)
    have hO1 : ∀ b, b ∈ O.filter (fun b => decide (b ≠ a)) ↔ b ∈ O ∧ b ≠ a := fun b => by simp
    generalize O.filter (fun b => decide (b ≠ a)) = O1 at hO1
    have R1 := R.hide e1 h1 h4 h3 h2 hO1
    have nO1 : a ∉ O1 := fun z => ((hO1 a).mp z).2 rfl
    refine ⟨_, h1, a, rfl, ⟨xs, SqL.of h4⟩, fun i m σ2 H2 => m + i = ds.length ∧ ∃ O' ρ', Rep X.K (mask O1 H) (a :: F) O' H2 σ2 ρ' ∧ W i ρ', ⟨ds.length, by omega, O1, _, R1.rebase, w0⟩, ?_⟩
    rintro i m σ2 H2 ⟨hm, O', ρ', R2, w⟩
    have la : H2 a = some (.lst xs) := R2.base a _ (by rw [Aq nO1]; exact h4)
    have sM : Same (mask (F ++ O) H) (mask (a :: F ++ O') H2) := fun b o e => by
      obtain ⟨nb, e⟩ := Bw e
      have nO : b ∉ O := fun z => nb (List.mem_append_right _ z)
      have e1 : mask O1 H b = some o := by rw [Aq fun z => nO ((hO1 b).mp z).1]; exact e
      rw [Aq]
      · exact R2.base b o e1
      · intro z
        rcases List.mem_append.mp z with z | z
        · rcases List.mem_cons.mp z with z | z
          · exact nO (by rw [z]; exact h2)
          · exact nb (List.mem_append_left _ z)
        · rw [R2.fr b z] at e1; cases e1
    have sB : Same B (mask O1 H) := R.sub.trans (Dp fun b hb => ((hO1 b).mp hb).1)
    by_cases hlt : i < ds.length
    · have hi : ds[i]? = some ds[i] := by simp [hlt]
      obtain ⟨y, y1, y2⟩ := h5.get hi
      refine .inr ⟨⟨xs, y, SqL.of la, y1⟩, fun σ' H' => ∃ O' ρ', Rep X.K (mask O1 H) (a :: F) O' H' σ' ρ' ∧ W (i + 1) ρ', fun σ' H' q => ⟨m - 1, by omega, by omega, q⟩, fun z H3 yl => ?_⟩
      obtain ⟨e3, e4⟩ := yl
      subst e3
      have e5 := e4 xs (SqL.of la)
      rw [y1] at e5
      cases e5
      refine ⟨_, _, O', ρ', _, R2, y2.mono sM, hg.mono (fun ρ2 q σ3 R3 => ⟨_, _, O', ρ2, R3, hb.mono (D := { lD X.K B F D with nx := W (i + 1), ct := W (i + 1), bk := fun ρ3 => ρ3[j]? = some (some (.raw (.ref a))) ∧ (lD X.K B F D).nx (ρ3.set j (some (.own ds))) }) ⟨?_, ?_, ?_, ?_⟩ q⟩) (step i _ ρ' hi w)⟩
      · exact fun ρ4 w4 O4 σ4 H4 R4 => ⟨O4, ρ4, R4, w4⟩
      · exact fun d q v H4 s4 r4 => q v H4 (sB.trans s4) (r4.mono (Dp fun b hb => List.mem_cons_of_mem _ hb))
      · exact fun ρ4 q O4 σ4 H4 R4 => q.2 _ _ _ (R.show h2 h3 h4 h5 hO1 R4 q.1)
      · exact fun ρ4 w4 O4 σ4 H4 R4 => ⟨O4, ρ4, R4, w4⟩
    · have e : i = ds.length := by omega
      subst e
      have f := fin ρ' w
      exact .inl ⟨⟨xs, SqL.of la, by rw [h5.len]; exact Nat.le_refl _⟩, f.2 _ _ _ (R.show h2 h3 h4 h5 hO1 R2 f.1)⟩
noncomputable def Wo (t t' : DTS) : DTS := fun D ρ => t D ρ ∨ t' D ρ
theorem W8 (h : DS X st t) (h' : DS X st t') : DS X st (Wo t t') where
  mono := fun hd z => z.imp (h.mono hd) (h'.mono hd)
  ps := fun pins s σ H D I ⟨B, F, O, ρ, R, z⟩ => z.elim (fun z => h.ps pins s σ H D I ⟨B, F, O, ρ, R, z⟩) fun z => h'.ps pins s σ H D I ⟨B, F, O, ρ, R, z⟩
noncomputable def XF (t t' : DTT) : DTT := fun ρ Q => t ρ Q ∨ t' ρ Q
theorem X8 (h : DT X e tA) (h' : DT X e tA') : DT X e (XF tA tA') where
  mono := fun hq z => z.imp (h.mono hq) (h'.mono hq)
  pt := fun pins s σ H Q I ⟨B, F, O, ρ, R, z⟩ => z.elim (fun z => h.pt pins s σ H Q I ⟨B, F, O, ρ, R, z⟩) fun z => h'.pt pins s σ H Q I ⟨B, F, O, ρ, R, z⟩
theorem alt1 {D : DK} {ρ : Bj} (h : t D ρ) : Wo t t' D ρ := .inl h
theorem alt2 {D : DK} {ρ : Bj} (h : t' D ρ) : Wo t t' D ρ := .inr h
theorem Aal {ρ : Bj} {Q : Bool → Prop} (h : tA ρ Q) : XF tA tA' ρ Q := .inl h
theorem Aam {ρ : Bj} {Q : Bool → Prop} (h : tA' ρ Q) : XF tA tA' ρ Q := .inr h
theorem Wk {j : Nat} {g : DTG} {tb : DTS} {D : DK} {ρ : Bj} (ds : List Dt) (ho : ρ[j]? = some (some (.own ds))) (W : V → Nat → Bj → Prop) (h0 : ∀ v, W v 0 (ρ.set j (some (.raw v))))
    (hs : ∀ v (k : Nat) d ρ', ds[k]? = some d → W v k ρ' → g d ρ' fun ρ2 => tb { D with nx := W v (k + 1), ct := W v (k + 1), bk := fun ρ3 => ρ3[j]? = some (some (.raw v)) ∧ D.nx (ρ3.set j (some (.own ds))) } ρ2) (he : ∀ v ρ', W v ds.length ρ' → ρ'[j]? = some (some (.raw v)) ∧ D.nx (ρ'.set j (some (.own ds)))) : WL j g tb D ρ := by
  unfold WL ownAt
  rw [ho]
  exact fun v => ⟨W v, h0 v, hs v, he v⟩
end
theorem Rv (l : Addr) (o : Obj) (n : Nat) (hc : o.cls = .type "list") (hd : o.dict = none) (hs : o.data = .seq #[] n) :
    Meets (Builtin.«list.clear» ⟨[.ref l], []⟩) (fun _ R s => s.heap.get? l = some o ∧ R (.ok (.ret Value.none)) { s with heap := s.heap.update l (Obj.mapSeq fun _ => #[]), toks := s.toks }) :=
  .of_wp fun prog w A R s h => by
    obtain ⟨hp, g, d, tk, os⟩ := s
    obtain ⟨hl, h⟩ := h
    obtain ⟨c, dd, dt, sl⟩ := o
    cases hc; cases hd; cases hs
    wp_walk using wpAny_loadPart' hl
    exact ⟨_, rfl, h⟩
section
variable {X : Cx} {e : Expr} {es : List Expr} {te : DTE} {tl : DTA} {pos : Pos}
noncomputable def YF (K : PySem.W.Frag) : V → List V → Hp → VK → Prop := fun x vs H Q => ∃ l, x = .ref l ∧ vs = [] ∧ SqL K H l [] ∧ Q .non H
theorem Vj : MtM X "list.clear" (YF X.K) := by
  intro pins s σ H x vs v us Q I rx rv h
  obtain ⟨l, rfl, rfl, hH, q⟩ := h
  cases rx
  have hus := rv.zero
  subst hus
  obtain ⟨its, r, ⟨o, n, e, hc, hd, hs⟩, z⟩ := I.list hH
  have hi : its = [] := by cases r; rfl
  subst hi
  refine call_meets F.slot_list_clear ⟨_, e, hc⟩ F.entry_list_clear (F.args_list_clear_1 _) (Rv l o n hc hd hs) ⟨e, ?_⟩
  refine ⟨.non, _, I.kept fun b u eb => ?_, rfl, q⟩
  by_cases hb : b = l
  · subst hb
    rw [e] at eb
    cases eb
    obtain ⟨c, dd, dt, sl⟩ := o
    cases hs
    exact Heap.get?_update_self _ e (by rfl)
  · exact (Heap.get?_update_other _ _ (Ne.symm hb)).trans eb
noncomputable def Adz (j : Nat) : DTS := fun D ρ => ρ[j]? = some (some (.is (.lst []))) ∧ D.nx ρ
theorem ZR (j : Nat) {x : Str} {px ap cp : Pos} (hN : X.N[j]? = some x := by rfl) (hv : Vis X.env.scope x := by first | exact Or.inl rfl | exact Or.inr (Or.inl rfl) | exact Or.inr (Or.inr rfl)) (hd : (x == ("__debug__" : Str)) = false := by decide)
    (hcd : (x == ("__classdict__" : Str)) = false := by decide) (hbase : attributeBase (.Name x px) "clear" X.env (eval (.Name x px) X.env) = eval (.Name x px) X.env := by rfl)
    (hline : (ap.endLine == cp.line) = true := by rfl)
    (hs : swapsWith (.Call (.Attribute (.Name x px) "clear" ap) [] [] cp) none pos.line X.env = pure false := by rfl) : DS X (.Expr (.Call (.Attribute (.Name x px) "clear" ap) [] [] cp) pos) (Adz j) where
  mono := fun hd h => ⟨h.1, hd.nx _ h.2⟩
  ps := (Kr (Sw PySem.F.plainAttrs_list PySem.F.slot_list_clear PySem.F.type_list_clear Vj (GJ hN hv hd hcd) hbase hline) hs).imp fun D σ H ⟨B, F, O, ρ, R, h1, h⟩ => by
    obtain ⟨v, e1, r⟩ := R.is j _ h1
    obtain ⟨a, xs, rfl, sq, rl⟩ := Ds r
    have hx := Bs.mp rl
    subst hx
    have sq := Ay.seq sq
    exact ⟨_, e1, .inl ⟨rfl, _, sq⟩, a, rfl, rfl, sq, h O σ _ R⟩
noncomputable def Td (i : Nat) (sp : DSp) (tl : DTA) : DTS := fun D ρ => tl ρ fun ds => Dt.noLs 4 ds = true ∧ sp ds fun d => (∃ ks, d = .lst ks ∧ (∃ r, Dt.tup r ∈ ks) ∧ Dt.noLs 4 ks = true ∧ D.nx (ρ.set i (some (.own ks)))) ∨ (d = .lst [] ∧ D.nx (ρ.set i (some (.is (.lst [])))))
theorem Vf (i : Nat) {k : Nat} {ps : List Str} {sp : DSp} {f y : Str} {stx : Stmt} {p cp pos' : Pos} (hN : X.N.Nodup) (m : KJ sp) (G : Pm X.prog X.w X.K X.mg X.base k f stx ps sp) (hr : Gf k X.A) (hg : Gl X f)
    (ha : DA X (e :: es) tl) (hdb : (f == ("__debug__" : Str)) = false := by decide) (hi : X.N[i]? = some y := by rfl) (hx : Loc X.env.scope y := by first | exact Or.inl rfl | exact Or.inr rfl)
    (he : starEach (e :: es) X.env = (false, eval e X.env) :: starEach es X.env := by rfl) (hpl : (backTo cp (starEach es X.env)).any (·.1) = false := by rfl)
    (hs : swapsWith (.Call (.Name f p) (e :: es) [] cp) (some (.Name y pos')) pos.line X.env = pure false := by rfl)
    (hf : X.fn y = true ∨ X.env.scope.names.lookup y = some .local := by first | exact .inl rfl | exact .inr rfl | assumption) : DS X (.Assign [.Name y pos'] (.Call (.Name f p) (e :: es) [] cp) pos) (Td i sp tl) where
  mono := fun hd h => ha.mono (fun ds ⟨h1, h2⟩ => ⟨h1, m _ _ _ (fun d z => z.imp (fun ⟨ks, q1, q2, q3, q4⟩ => ⟨ks, q1, q2, q3, hd.nx _ q4⟩) fun ⟨q1, q2⟩ => ⟨q1, hd.nx _ q2⟩) h2⟩) h
  ps := fun pins s σ H D I ⟨B, F, O, ρ, R, h⟩ => by
    obtain ⟨f', fd, FT, G⟩ := G
    refine (Ou hN hi hx (Tf G hr hg FT.mg FT.fn.kp FT.bd .nil Aad ha.pa hdb he hpl) hs hf) pins s σ H D I ?_
    refine ⟨B, F, O, ρ, R, ha.mono (fun ds ⟨hn, z⟩ vs H1 s1 r1 => ?_) h⟩
    show lSp X.K sp (vs ++ []) H1 _ E0
    rw [List.append_nil]
    have hL : ∀ a ∈ lists H s.heap.objs.size, ∃ xs, H1 a = some (.lst xs) := fun a h => by
      obtain ⟨xs, e⟩ := V5 h
      exact ⟨xs, s1 _ _ e⟩
    refine ⟨(F ++ O) ++ lists H s.heap.objs.size, ds, fun a h => ?_, ?_, m _ _ _ (fun d z2 v H2 s2 r2 => ?_) z⟩
    · rcases List.mem_append.mp h with h | h
      · exact (R.same s1).th a h
      · obtain ⟨xs, e⟩ := hL a h
        rw [e]; simp
    · refine Kw (fun b o e nl => ?_) 4 ds vs hn r1
      obtain ⟨n1, e⟩ := Bw e
      rw [Aq]
      · exact e
      · intro z
        rcases List.mem_append.mp z with z | z
        · exact n1 z
        · obtain ⟨xs, e'⟩ := hL b z
          rw [e] at e'
          exact nl xs (Option.some.inj e')
    rcases z2 with ⟨ks, q1, ⟨rr, q2⟩, q3, q4⟩ | ⟨q1, q2⟩
    · subst q1
      obtain ⟨a, xs, rfl, ls, rl⟩ := Kv.mp r2
      have ea : mask ((F ++ O) ++ lists H s.heap.objs.size) H2 a = some (.lst xs) := by
        rcases ls with ls | ⟨_, hi⟩
        · exact ls
        · obtain ⟨v, hv, r⟩ := rl.memOf q2
          obtain ⟨_, _, rfl, _⟩ := Dm.mp r
          obtain ⟨i, e⟩ := hi _ hv
          cases e
      obtain ⟨na, ea⟩ := Bw ea
      have Ha : H a = none := by
        cases q : H a with
        | none => rfl
        | some o =>
          have e2 := s2 _ _ (s1 _ _ q)
          rw [ea] at e2
          cases e2
          exact absurd (List.mem_append_right _ (Vx q (I.hok a _ q).lt)) na
      let H3 : Hp := fun b => if b = a then none else H2 b
      have h3n : H3 a = none := if_pos rfl
      have h3o : ∀ b, b ≠ a → H3 b = H2 b := fun b n => if_neg n
      have eU : upd H3 a (.lst xs) = H2 := by
        funext b
        by_cases n : b = a
        · subst n; rw [Bp, ea]
        · rw [Bc n, h3o b n]
      have R3 : Rep X.K B F O H3 σ ρ := R.same fun b o q => by
        rw [h3o b fun n => by rw [n, Ha] at q; cases q]
        exact s2 _ _ (s1 _ _ q)
      have rl3 : RpL X.K (mask (F ++ O) H3) ks xs := Kw (fun b o q nl => by
        obtain ⟨n1, q⟩ := Bw q
        rw [Aq fun z => n1 (List.mem_append_left _ z), h3o b fun n => by
          subst n
          rw [ea] at q
          exact nl xs (Option.some.inj q).symm]
        exact q) 4 ks xs q3 rl
      have := q4 (a :: O) _ _ (R3.newOwn i h3n rl3)
      rw [eU] at this
      exact this
    · subst q1
      exact q2 O _ _ ((R.same (s1.trans s2)).set i (r2.mono (Dp fun b hb => List.mem_append_left _ hb)))
end
theorem Nt {α β : Type} {f : α → β} {l m : List β} (p : l.Perm m) : ∀ xs : List α, m = xs.map f → ∃ ys : List α, ys.Perm xs ∧ l = ys.map f := by
  induction p with
  | nil => exact fun xs e => ⟨xs, .refl _, e⟩
  | cons x _ ih =>
    intro xs e
    cases xs with
    | nil => cases e
    | cons y xs =>
      injection e with e1 e2
      obtain ⟨ys, p, rfl⟩ := ih xs e2
      exact ⟨y :: ys, p.cons y, by rw [List.map_cons, e1]⟩
  | swap x y l =>
    intro xs e
    match xs, e with
    | a :: b :: xs, e =>
      injection e with e1 e2
      injection e2 with e2 e3
      exact ⟨b :: a :: xs, .swap _ _ _, by rw [List.map_cons, List.map_cons, e1, e2, e3]⟩
  | trans _ _ ih1 ih2 =>
    intro xs e
    obtain ⟨ys, p, rfl⟩ := ih2 xs e
    obtain ⟨zs, p2, e2⟩ := ih1 ys rfl
    exact ⟨zs, p2.trans p, e2⟩
section
variable {prog : Program} {w : World} {A : Around} {E : Value → Shared → Prop} {s : Shared}
end
section
variable {X : Cx} {e : Expr} {te : DTE} {pos : Pos}
end
section
variable {X : Cx} {a b : Expr} {ta tb : DTE} {pos : Pos}
end
section
variable {X : Cx} {pos : Pos}
end
noncomputable def rk (g : Keyed → Int) (xs : Array Keyed) (i : Nat) : Int := match xs[i]? with
  | some p => g p
  | none => 0
noncomputable def Ris (f : Nat → Int) (lo hi : Nat) : Prop := ∀ i j, lo ≤ i → i ≤ j → j < hi → f i ≤ f j
theorem Z1 {g : Keyed → Int} {xs : Array Keyed} {i : Nat} {p : Keyed} (h : xs[i]? = some p) : rk g xs i = g p := by unfold rk; rw [h]
theorem Gk {g : Keyed → Int} {xs ys : Array Keyed} {i j : Nat} (h : xs[i]? = ys[j]?) : rk g xs i = rk g ys j := by unfold rk; rw [h]
noncomputable def Cmp (prog : Program) (w : World) (A : Around) (E : Value → Shared → Prop) (s : Shared) (a₀ : Array Keyed) (κ : SortKind) (g : Keyed → Int) : Prop :=
  ∀ x y : Keyed, x ∈ a₀ → y ∈ a₀ → ∀ (st : SortSt) (Q : Option Bool → SortSt → Prop), kindOf st = κ → Q (some (decide (g x < g y))) st → wpS (model prog w) A E s (lt' x y) Q st
structure TB (a₀ : Array Keyed) (κ : SortKind) (st : SortSt) : Prop where
  perm : (arrOf st).Perm a₀
  kind : kindOf st = κ
  failed : failedOf st = none
section
variable {prog : Program} {w : World} {A : Around} {E : Value → Shared → Prop} {s : Shared} {a₀ : Array Keyed} {κ : SortKind} {g : Keyed → Int}
theorem TB.size {st : SortSt} (h : TB a₀ κ st) : (arrOf st).size = a₀.size := h.perm.size_eq
theorem TB.mem {st : SortSt} (h : TB a₀ κ st) {p : Keyed} (hp : p ∈ arrOf st) : p ∈ a₀ := h.perm.mem_iff.mp hp
theorem TB.setArr {st : SortSt} (h : TB a₀ κ st) {xs : Array Keyed} (hp : xs.Perm (arrOf st)) : TB a₀ κ (setArr st xs) := ⟨hp.trans h.perm, h.kind, h.failed⟩
theorem Bf {arr : Array Keyed} {i : Nat} {st : SortSt} {Q : Keyed → SortSt → Prop} (hi : i < arr.size) (h : Q arr[i] st) : wpS (model prog w) A E s (elem' arr i) Q st := by
  rw [elem'_eq, getElem?_pos arr i hi]
  exact wpS_pure h
theorem Cy {arr : Array Keyed} {i : Nat} (hi : i < arr.size) : rk g arr i = g arr[i] := Z1 (getElem?_pos arr i hi)
theorem Gm {st : SortSt} {i j : Nat} {Q : Option Bool → SortSt → Prop} (hc : Cmp prog w A E s a₀ κ g) (hB : TB a₀ κ st) (hi : i < a₀.size) (hj : j < a₀.size)
    (h : Q (some (decide (rk g (arrOf st) i < rk g (arrOf st) j))) st) : wpS (model prog w) A E s (ltAt' i j) Q st := by
  have hi' : i < (arrOf st).size := by rw [hB.size]; exact hi
  have hj' : j < (arrOf st).size := by rw [hB.size]; exact hj
  rw [ltAt'_eq]
  refine wpS_bind (wpS_get ?_)
  refine wpS_bind (Bf hi' (wpS_bind (Bf hj' ?_)))
  refine hc _ _ (hB.mem (Array.getElem_mem hi')) (hB.mem (Array.getElem_mem hj')) _ _ hB.kind ?_
  rwa [Cy hi', Cy hj'] at h
noncomputable def Dr : Bool → Keyed → Array Keyed → Nat → Nat → Nat → StateT SortSt Sem (Option Nat) := sortPriv% PySem.Builtin.gallop
noncomputable def FJ (left : Bool) (key : Keyed) (arr : Array Keyed) (base i : Nat) : StateT SortSt Sem (Option Bool) := do
  let x ← elem' arr (base + i)
  if left then lt' x key else return (← lt' key x).map (!·)
theorem Sd (left : Bool) (key : Keyed) (arr : Array Keyed) (base n hint : Nat) : Dr left key arr base n hint = (do
  let mut lastofs := 0
  let mut ofs := 1
  let mut lo := 0
  let mut hi := 0
  let some right ← FJ left key arr base hint | return none
  if right then
    let maxofs := n - hint
    for _ in [0:n] do
      if ofs ≥ maxofs then break
      let some more ← FJ left key arr base (hint + ofs) | return none
      if !more then break
      lastofs := ofs
      ofs := 2 * ofs + 1
    lo := hint + lastofs + 1
    hi := hint + min ofs maxofs
  else
    let maxofs := hint + 1
    for _ in [0:n] do
      if ofs ≥ maxofs then break
      let some found ← FJ left key arr base (hint - ofs) | return none
      if found then break
      lastofs := ofs
      ofs := 2 * ofs + 1
    lo := hint + 1 - min ofs maxofs
    hi := hint - lastofs
  for _ in [0:n] do
    if lo ≥ hi then break
    let m := lo + (hi - lo) / 2
    let some more ← FJ left key arr base m | return none
    if more then lo := m + 1 else hi := m
  return some hi) := rfl
noncomputable def byd (left : Bool) (k v : Int) : Bool := if left then decide (v < k) else decide (v ≤ k)
theorem Wd {left : Bool} {k v u : Int} (h : u ≤ v) (e : byd left k v = true) : byd left k u = true := by
  unfold byd at e ⊢; split <;> simp_all <;> omega
theorem S5 {left : Bool} {key : Keyed} {arr : Array Keyed} {base i : Nat} {st : SortSt} {Q : Option Bool → SortSt → Prop} (hc : Cmp prog w A E s a₀ κ g) (hk : kindOf st = κ) (hy : key ∈ a₀) (ha : ∀ p ∈ arr, p ∈ a₀) (hi : base + i < arr.size)
    (h : Q (some (byd left (g key) (rk g arr (base + i)))) st) : wpS (model prog w) A E s (FJ left key arr base i) Q st := by
  unfold FJ
  refine wpS_bind (Bf hi ?_)
  have hm := ha _ (Array.getElem_mem hi)
  rw [Cy hi] at h
  cases left with
  | true => exact hc _ _ hm hy _ _ hk h
  | false =>
    refine wpS_bind (hc _ _ hy hm _ _ hk (wpS_pure ?_))
    have e : (!decide (g key < g arr[base + i])) = decide (g arr[base + i] ≤ g key) := by
      rw [← decide_not]; exact decide_eq_decide.mpr Int.not_lt
    show Q (some (!decide (g key < g arr[base + i]))) st
    rw [e]; exact h
noncomputable def Cut (f : Nat → Bool) (n k : Nat) : Prop := k ≤ n ∧ (∀ i, i < k → f i = true) ∧ ∀ i, k ≤ i → i < n → f i = false
theorem Ei {left : Bool} {key : Keyed} {arr : Array Keyed} {base n hint : Nat} {st : SortSt} {Q : Option Nat → SortSt → Prop} (hc : Cmp prog w A E s a₀ κ g) (hk : kindOf st = κ) (hy : key ∈ a₀) (ha : ∀ p ∈ arr, p ∈ a₀) (hn : base + n ≤ arr.size) (hh : hint < n)
    (hu : Ris (rk g arr) base (base + n)) (h : ∀ k, Cut (fun i => byd left (g key) (rk g arr (base + i))) n k → Q (some k) st) : wpS (model prog w) A E s (Dr left key arr base n hint) Q st := by
  rw [Sd]
  generalize hf : (fun i => byd left (g key) (rk g arr (base + i))) = f at h
  have hb : ∀ i (Q : Option Bool → SortSt → Prop), i < n → Q (some (f i)) st → wpS (model prog w) A E s (FJ left key arr base i) Q st := fun i Q hi q => S5 hc hk hy ha (by omega) (by subst hf; exact q)
  have dn : ∀ i j, i ≤ j → j < n → f j = true → f i = true := fun i j hij hj e => by
    subst hf; exact Wd (hu (base + i) (base + j) (by omega) (by omega) (by omega)) e
  have up : ∀ i j, i ≤ j → j < n → f i = false → f j = false := fun i j hij hj e => by
    cases e' : f j with
    | false => rfl
    | true => rw [dn i j hij hj e'] at e; cases e
  clear hf hu
  have halves : ∀ lo hi, lo ≤ hi → hi ≤ n → (∀ i, i < lo → f i = true) → (∀ i, hi ≤ i → i < n → f i = false) → wpS (model prog w) A E s (do
      let mut lo := lo
      let mut hi := hi
      for _ in [0:n] do
        if lo ≥ hi then break
        let m := lo + (hi - lo) / 2
        let some more ← FJ left key arr base m | return none
        if more then lo := m + 1 else hi := m
      return some hi) Q st := fun lo hi h1 h2 h3 h4 => by
    refine wpS_bind (wpS_mono (wpS_forRange (I := fun x c st' => st' = st ∧ ∃ lo hi, c = (none, lo, hi) ∧ lo ≤ hi ∧ hi ≤ n ∧ hi - lo ≤ n - x ∧ (∀ i, i < lo → f i = true) ∧ (∀ i, hi ≤ i → i < n → f i = false))
      (Q := fun c st' => st' = st ∧ ∃ lo hi, c = (none, lo, hi) ∧ Cut f n hi) ?step ?fin ⟨rfl, lo, hi, rfl, h1, h2, by omega, h3, h4⟩) ?post)
    case post =>
      rintro c st' ⟨rfl, lo, hi, rfl, q⟩
      exact wpS_pure (h hi q)
    case fin =>
      rintro c st' ⟨rfl, lo, hi, rfl, g1, g2, g3, g4, g5⟩
      exact ⟨rfl, lo, hi, rfl, g2, fun i hi => g4 i (by omega), g5⟩
    case step =>
      rintro x c st' _ hx ⟨rfl, lo, hi, rfl, g1, g2, g3, g4, g5⟩
      dsimp only
      split
      · exact wpS_pure ⟨rfl, lo, hi, rfl, g2, fun i hi => g4 i (by omega), g5⟩
      · refine wpS_bind (hb _ _ (by omega) ?_)
        dsimp only
        cases e : f (lo + (hi - lo) / 2) with
        | true => exact wpS_pure ⟨rfl, _, _, rfl, by omega, g2, by omega, fun i hi' => dn i _ (by omega) (by omega) e, g5⟩
        | false => exact wpS_pure ⟨rfl, _, _, rfl, by omega, by omega, by omega, g4, fun i h1 h2 => up _ i h1 h2 e⟩
  refine wpS_bind (hb hint _ hh ?_)
  dsimp only
  cases e0 : f hint with
  | true =>
    simp only [if_true]
    refine wpS_bind (wpS_mono (wpS_forRange (I := fun x c st' => st' = st ∧ ∃ l o, c = (none, l, o) ∧ hint + l < n ∧ f (hint + l) = true ∧ l < o ∧ x < o)
      (Q := fun c st' => st' = st ∧ ∃ l o, c = (none, l, o) ∧ hint + l < n ∧ f (hint + l) = true ∧ l < o ∧ (n - hint ≤ o ∨ f (hint + o) = false)) ?step ?fin ⟨rfl, 0, 1, rfl, hh, e0, by omega, by omega⟩) ?post)
    case fin =>
      rintro c st' ⟨rfl, l, o, rfl, g1, g2, g3, g4⟩
      exact ⟨rfl, l, o, rfl, g1, g2, g3, .inl (by omega)⟩
    case post =>
      rintro c st' ⟨rfl, l, o, rfl, g1, g2, g3, g4⟩
      dsimp only
      refine halves _ _ (by omega) (by omega) (fun i hi => dn i _ (by omega) g1 g2) fun i h1 h2 => ?_
      rcases g4 with g4 | g4
      · exact absurd h2 (by omega)
      · exact up _ i (by omega) h2 g4
    case step =>
      rintro x c st' _ hx ⟨rfl, l, o, rfl, g1, g2, g3, g4⟩
      dsimp only
      split
      · rename_i g5
        exact wpS_pure ⟨rfl, l, o, rfl, g1, g2, g3, .inl g5⟩
      · refine wpS_bind (hb _ _ (by omega) ?_)
        dsimp only
        cases e : f (hint + o) with
        | true => exact wpS_pure ⟨rfl, _, _, rfl, by omega, e, by omega, by omega⟩
        | false => exact wpS_pure ⟨rfl, _, _, rfl, g1, g2, g3, .inr e⟩
  | false =>
    simp only [Bool.false_eq_true, if_false]
    refine wpS_bind (wpS_mono (wpS_forRange (I := fun x c st' => st' = st ∧ ∃ l o, c = (none, l, o) ∧ l ≤ hint ∧ f (hint - l) = false ∧ l < o ∧ x < o)
      (Q := fun c st' => st' = st ∧ ∃ l o, c = (none, l, o) ∧ l ≤ hint ∧ f (hint - l) = false ∧ l < o ∧ (hint + 1 ≤ o ∨ f (hint - o) = true)) ?step ?fin ⟨rfl, 0, 1, rfl, by omega, e0, by omega, by omega⟩) ?post)
    case fin =>
      rintro c st' ⟨rfl, l, o, rfl, g1, g2, g3, g4⟩
      exact ⟨rfl, l, o, rfl, g1, g2, g3, .inl (by omega)⟩
    case post =>
      rintro c st' ⟨rfl, l, o, rfl, g1, g2, g3, g4⟩
      dsimp only
      refine halves _ _ (by omega) (by omega) (fun i hi => ?_) fun i h1 h2 => up _ i h1 h2 g2
      rcases g4 with g4 | g4
      · exact absurd hi (by omega)
      · exact dn i _ (by omega) (by omega) g4
    case step =>
      rintro x c st' _ hx ⟨rfl, l, o, rfl, g1, g2, g3, g4⟩
      dsimp only
      split
      · rename_i g5
        exact wpS_pure ⟨rfl, l, o, rfl, g1, g2, g3, .inl g5⟩
      · refine wpS_bind (hb _ _ (by omega) ?_)
        dsimp only
        cases e : f (hint - o) with
        | true => exact wpS_pure ⟨rfl, _, _, rfl, g1, g2, g3, .inr e⟩
        | false => exact wpS_pure ⟨rfl, _, _, rfl, by omega, e, by omega, by omega⟩
structure Mg (le : Keyed → Keyed → Prop) (T out A B : List Keyed) : Prop where
  perm : (out ++ (A ++ B)).Perm T
  so : out.Pairwise le
  sa : A.Pairwise le
  sb : B.Pairwise le
  oa : ∀ p ∈ out, ∀ q ∈ A, le p q
  ob : ∀ p ∈ out, ∀ q ∈ B, le p q
section
variable {le : Keyed → Keyed → Prop} {T out A B P : List Keyed}
theorem Mg.swap (h : Mg le T out A B) : Mg le T out B A := ⟨(List.Perm.append_left _ List.perm_append_comm).trans h.perm, h.so, h.sb, h.sa, h.ob, h.oa⟩
theorem Mg.take (h : Mg le T out (P ++ A) B) (hp : ∀ p ∈ P, ∀ q ∈ B, le p q) : Mg le T (out ++ P) A B := by
  have ⟨a1, a2, a3⟩ := List.pairwise_append.mp h.sa
  refine ⟨by simpa [List.append_assoc] using h.perm, List.pairwise_append.mpr ⟨h.so, a1, fun p hp' q hq => h.oa p hp' q (List.mem_append_left _ hq)⟩, a2, h.sb, fun p hp' q hq => ?_, fun p hp' q hq => ?_⟩
  · rcases List.mem_append.mp hp' with x | x
    · exact h.oa p x q (List.mem_append_right _ hq)
    · exact a3 p x q hq
  · rcases List.mem_append.mp hp' with x | x
    · exact h.ob p x q hq
    · exact hp p x q hq
theorem Mg.fin (h : Mg le T out A B) (hp : ∀ p ∈ A, ∀ q ∈ B, le p q) : (out ++ A ++ B).Perm T ∧ (out ++ A ++ B).Pairwise le := by
  refine ⟨by simpa [List.append_assoc] using h.perm, ?_⟩
  refine List.pairwise_append.mpr ⟨List.pairwise_append.mpr ⟨h.so, h.sa, h.oa⟩, h.sb, fun p hp' q hq => ?_⟩
  rcases List.mem_append.mp hp' with x | x
  · exact h.ob p x q hq
  · exact hp p x q hq
end
end
section
variable {prog : Program} {w : World} {A : Around} {E : Value → Shared → Prop} {s : Shared} {a₀ : Array Keyed} {κ : SortKind} {g : Keyed → Int}
theorem Az {α : Type} {c : Prop} [Decidable c] {x y : StateT SortSt Sem α} {Q : α → SortSt → Prop} {st : SortSt} (h1 : c → wpS (model prog w) A E s x Q st) (h2 : ¬ c → wpS (model prog w) A E s y Q st) : wpS (model prog w) A E s (if c then x else y) Q st := by
  by_cases h : c
  · rw [if_pos h]; exact h1 h
  · rw [if_neg h]; exact h2 h
noncomputable abbrev Cp (st : SortSt) (k : Nat) : SortSt := SortSt.mk' (kindOf st) (arrOf st) (pendingOf st) k (failedOf st)
noncomputable def Ml : Array Keyed → Array Keyed → StateT SortSt Sem (Array Keyed) := sortPriv% PySem.Builtin.mergeLo
noncomputable def K6 : Array Keyed → Array Keyed → StateT SortSt Sem (Array Keyed) := sortPriv% PySem.Builtin.mergeHi
noncomputable def Em (k : Nat) : StateT SortSt Sem Unit := modify fun st => Cp st k
theorem QB (a b : Array Keyed) : Ml a b = (do
  rule "list.sort.merge-lo"
  let total := a.size + b.size
  let done (out : Array Keyed) (ia ib : Nat) := out ++ a.extract ia a.size ++ b.extract ib b.size
  let lastOfA (out : Array Keyed) (ia ib : Nat) := out ++ b.extract ib b.size ++ a.extract ia a.size
  let mut out : Array Keyed := #[← elem' b 0]
  let mut ia := 0
  let mut ib := 1
  if ib == b.size then return done out ia ib
  if ia + 1 == a.size then return lastOfA out ia ib
  let mut minGallop := gallopOf (← get)
  for _ in [0:total] do
    let mut acount := 0
    let mut bcount := 0
    for _ in [0:total] do
      let some bWins ← lt' (← elem' b ib) (← elem' a ia) | return done out ia ib
      if bWins then
        out := out.push (← elem' b ib); ib := ib + 1; bcount := bcount + 1; acount := 0
        if ib == b.size then return done out ia ib
        if bcount ≥ minGallop then break
      else
        out := out.push (← elem' a ia); ia := ia + 1; acount := acount + 1; bcount := 0
        if ia + 1 == a.size then return lastOfA out ia ib
        if acount ≥ minGallop then break
    rule "list.sort.gallop"
    minGallop := minGallop + 1
    for _ in [0:total] do
      if minGallop > 1 then minGallop := minGallop - 1
      Em minGallop
      let some k ← Dr false (← elem' b ib) a ia (a.size - ia) 0 | return done out ia ib
      acount := k
      if k > 0 then
        out := out ++ a.extract ia (ia + k); ia := ia + k
        if ia + 1 == a.size then return lastOfA out ia ib
        if ia == a.size then return done out ia ib
      out := out.push (← elem' b ib); ib := ib + 1
      if ib == b.size then return done out ia ib
      let some k ← Dr true (← elem' a ia) b ib (b.size - ib) 0 | return done out ia ib
      bcount := k
      if k > 0 then
        out := out ++ b.extract ib (ib + k); ib := ib + k
        if ib == b.size then return done out ia ib
      out := out.push (← elem' a ia); ia := ia + 1
      if ia + 1 == a.size then return lastOfA out ia ib
      if acount < 7 && bcount < 7 then break
    minGallop := minGallop + 1
    Em minGallop
  unsupported "internal:list.sort.merge-bound") := rfl
theorem Qe (a b : Array Keyed) : K6 a b = (do
  rule "list.sort.merge-hi"
  let total := a.size + b.size
  let done (out : Array Keyed) (na nb : Nat) := a.extract 0 na ++ b.extract 0 nb ++ out.reverse
  let firstOfB (out : Array Keyed) (na nb : Nat) := b.extract 0 nb ++ a.extract 0 na ++ out.reverse
  let mut na := a.size - 1
  let mut nb := b.size
  let mut out : Array Keyed := #[← elem' a na]
  if na == 0 then return done out na nb
  if nb == 1 then return firstOfB out na nb
  let mut minGallop := gallopOf (← get)
  for _ in [0:total] do
    let mut acount := 0
    let mut bcount := 0
    for _ in [0:total] do
      let some aWins ← lt' (← elem' b (nb - 1)) (← elem' a (na - 1)) | return done out na nb
      if aWins then
        na := na - 1; out := out.push (← elem' a na); acount := acount + 1; bcount := 0
        if na == 0 then return done out na nb
        if acount ≥ minGallop then break
      else
        nb := nb - 1; out := out.push (← elem' b nb); bcount := bcount + 1; acount := 0
        if nb == 1 then return firstOfB out na nb
        if bcount ≥ minGallop then break
    rule "list.sort.gallop"
    minGallop := minGallop + 1
    for _ in [0:total] do
      if minGallop > 1 then minGallop := minGallop - 1
      Em minGallop
      let some at_ ← Dr false (← elem' b (nb - 1)) a 0 na (na - 1) | return done out na nb
      let k := na - at_
      acount := k
      if k > 0 then
        out := out ++ (a.extract at_ na).reverse; na := at_
        if na == 0 then return done out na nb
      nb := nb - 1; out := out.push (← elem' b nb)
      if nb == 1 then return firstOfB out na nb
      let some at_ ← Dr true (← elem' a (na - 1)) b 0 nb (nb - 1) | return done out na nb
      let k := nb - at_
      bcount := k
      if k > 0 then
        out := out ++ (b.extract at_ nb).reverse; nb := at_
        if nb == 1 then return firstOfB out na nb
        if nb == 0 then return done out na nb
      na := na - 1; out := out.push (← elem' a na)
      if na == 0 then return done out na nb
      if acount < 7 && bcount < 7 then break
    minGallop := minGallop + 1
    Em minGallop
  unsupported "internal:list.sort.merge-bound") := rfl
noncomputable def leG (g : Keyed → Int) (p q : Keyed) : Prop := g p ≤ g q
theorem Ris.sub {f : Nat → Int} {lo hi lo' hi' : Nat} (h : Ris f lo hi) (h1 : lo ≤ lo') (h2 : hi' ≤ hi) : Ris f lo' hi' := fun i j a b c => h i j (by omega) b (by omega)
theorem DN {arr : Array Keyed} {k : Nat} {p : Keyed} (h : p ∈ arr.toList.drop k) : ∃ i, k ≤ i ∧ i < arr.size ∧ rk g arr i = g p := by
  obtain ⟨i, hi, e⟩ := List.mem_iff_getElem.mp h
  rw [List.length_drop, Array.length_toList] at hi
  refine ⟨k + i, by omega, by omega, ?_⟩
  rw [List.getElem_drop] at e
  rw [Cy (by omega), ← e]
  simp
theorem Dz {arr : Array Keyed} {k : Nat} {p : Keyed} (h : p ∈ arr.toList.take k) : ∃ i, i < k ∧ i < arr.size ∧ rk g arr i = g p := by
  obtain ⟨i, hi, e⟩ := List.mem_iff_getElem.mp h
  rw [List.length_take, Array.length_toList] at hi
  refine ⟨i, by omega, by omega, ?_⟩
  rw [List.getElem_take] at e
  rw [Cy (by omega), ← e]
  simp
theorem Ej {arr : Array Keyed} {k m : Nat} {p : Keyed} (h : p ∈ (arr.extract k m).toList) : ∃ i, k ≤ i ∧ i < m ∧ i < arr.size ∧ rk g arr i = g p := by
  rw [Array.toList_extract, List.extract_eq_take_drop] at h
  obtain ⟨i, hi, e⟩ := List.mem_iff_getElem.mp h
  rw [List.length_take, List.length_drop, Array.length_toList] at hi
  refine ⟨k + i, by omega, by omega, by omega, ?_⟩
  rw [List.getElem_take, List.getElem_drop] at e
  rw [Cy (by omega), ← e]
  simp
theorem JD {arr : Array Keyed} {k m : Nat} (h : k ≤ m) (hm : m ≤ arr.size) : arr.toList.drop k = (arr.extract k m).toList ++ arr.toList.drop m := by
  rw [Array.toList_extract, List.extract_eq_take_drop, show arr.toList.drop m = (arr.toList.drop k).drop (m - k) by rw [List.drop_drop]; congr 1; omega, List.take_append_drop]
theorem Xi {arr : Array Keyed} {k m : Nat} (h : k ≤ m) : arr.toList.take m = arr.toList.take k ++ (arr.extract k m).toList := by
  rw [Array.toList_extract, List.extract_eq_take_drop, show m = k + (m - k) by omega, List.take_add, show k + (m - k) - k = m - k by omega]
theorem Gn {out arr : Array Keyed} {i : Nat} (hi : i < arr.size) : out.push arr[i] = out ++ arr.extract i (i + 1) := by
  apply Array.toList_inj.mp
  rw [Array.toList_push, Array.toList_append, Array.toList_extract, List.extract_eq_take_drop, show i + 1 - i = 1 by omega, List.take_one, List.head?_drop]
  simp [hi]
noncomputable abbrev Lw (g : Keyed → Int) (a b out : Array Keyed) (ia ib : Nat) : Prop := Mg (leG g) (a.toList ++ b.toList) out.toList (a.toList.drop ia) (b.toList.drop ib)
noncomputable abbrev Mgd (g : Keyed → Int) (a b out : Array Keyed) : Prop := out.toList.Perm (a.toList ++ b.toList) ∧ out.toList.Pairwise (leG g)
section
variable {a b out : Array Keyed} {ia ib : Nat}
theorem Lw.takeA (h : Lw g a b out ia ib) {m : Nat} (h1 : ia ≤ m) (h2 : m ≤ a.size) (hp : ∀ i, ia ≤ i → i < m → ∀ j, ib ≤ j → j < b.size → rk g a i ≤ rk g b j) : Lw g a b (out ++ a.extract ia m) m ib := by
  have h' : Mg (leG g) (a.toList ++ b.toList) out.toList ((a.extract ia m).toList ++ a.toList.drop m) (b.toList.drop ib) := by rw [← JD h1 h2]; exact h
  have := h'.take fun p hp' q hq => by
    obtain ⟨i, i1, i2, _, e⟩ := Ej (g := g) hp'
    obtain ⟨j, j1, j2, e'⟩ := DN (g := g) hq
    show g p ≤ g q
    rw [← e, ← e']; exact hp i i1 i2 j j1 j2
  show Mg _ _ (out ++ a.extract ia m).toList _ _
  rw [Array.toList_append (xs := out)]; exact this
theorem Lw.takeB (h : Lw g a b out ia ib) {m : Nat} (h1 : ib ≤ m) (h2 : m ≤ b.size) (hp : ∀ i, ib ≤ i → i < m → ∀ j, ia ≤ j → j < a.size → rk g b i ≤ rk g a j) : Lw g a b (out ++ b.extract ib m) ia m := by
  have h' : Mg (leG g) (a.toList ++ b.toList) out.toList ((b.extract ib m).toList ++ b.toList.drop m) (a.toList.drop ia) := by rw [← JD h1 h2]; exact h.swap
  have := h'.take fun p hp' q hq => by
    obtain ⟨i, i1, i2, _, e⟩ := Ej (g := g) hp'
    obtain ⟨j, j1, j2, e'⟩ := DN (g := g) hq
    show g p ≤ g q
    rw [← e, ← e']; exact hp i i1 i2 j j1 j2
  show Mg _ _ (out ++ b.extract ib m).toList _ _
  rw [Array.toList_append (xs := out)]; exact this.swap
theorem Jh {arr : Array Keyed} {k : Nat} : (arr.extract k arr.size).toList = arr.toList.drop k := by
  rw [Array.toList_extract, List.extract_eq_take_drop, ← Array.length_toList, ← List.length_drop, List.take_length]
theorem Lw.done (h : Lw g a b out ia ib) (e : ia = a.size ∨ ib = b.size) : Mgd g a b (out ++ a.extract ia a.size ++ b.extract ib b.size) := by
  have := h.fin fun p hp q hq => by
    obtain ⟨i, i1, i2, _⟩ := DN (g := g) hp
    obtain ⟨j, j1, j2, _⟩ := DN (g := g) hq
    omega
  unfold Mgd
  rw [Array.toList_append, Array.toList_append, Jh, Jh]
  exact this
theorem Lw.last (h : Lw g a b out ia ib) (e : ia + 1 = a.size) (h2 : ∀ j, j < b.size → rk g b j ≤ rk g a (a.size - 1)) : Mgd g a b (out ++ b.extract ib b.size ++ a.extract ia a.size) := by
  have := h.swap.fin fun p hp q hq => by
    obtain ⟨i, i1, i2, e1⟩ := DN (g := g) hp
    obtain ⟨j, j1, j2, e2⟩ := DN (g := g) hq
    show g p ≤ g q
    rw [← e1, ← e2, show j = a.size - 1 by omega]
    exact h2 i i2
  unfold Mgd
  rw [Array.toList_append, Array.toList_append, Jh, Jh]
  exact this
end
structure T5 (g : Keyed → Int) (a₀ a b : Array Keyed) : Prop where
  ma : ∀ p ∈ a, p ∈ a₀
  mb : ∀ p ∈ b, p ∈ a₀
  ua : Ris (rk g a) 0 a.size
  ub : Ris (rk g b) 0 b.size
  ab : ∀ j, j < b.size → rk g b j ≤ rk g a (a.size - 1)
noncomputable abbrev LoC := Option (Array Keyed) × Array Keyed × Nat × Nat × Nat × Nat × Nat
noncomputable def LoQ (g : Keyed → Int) (a b : Array Keyed) (st : SortSt) (n : Nat) (r : Option (Array Keyed)) (out : Array Keyed) (ia ib : Nat) (st' : SortSt) : Prop :=
  (∃ k, st' = Cp st k) ∧ ((∃ o, r = some o ∧ Mgd g a b o) ∨ (r = none ∧ Lw g a b out ia ib ∧ ia + 1 < a.size ∧ ib < b.size ∧ n ≤ ia + ib))
noncomputable def loC (a b out : Array Keyed) (ia ib mg ac bc : Nat) : StateT SortSt Sem (ForInStep LoC) := do
  let x ← elem' a ia
  if (ia + 1 + 1 == a.size) = true then pure (.done (some (out.push x ++ b.extract ib b.size ++ a.extract (ia + 1) a.size), out.push x, ia + 1, ib, mg, ac, bc))
  else if (decide (ac < 7) && decide (bc < 7)) = true then pure (.done (none, out.push x, ia + 1, ib, mg, ac, bc))
  else pure (.yield (none, out.push x, ia + 1, ib, mg, ac, bc))
noncomputable def loB (a b out : Array Keyed) (ia ib mg ac bc : Nat) : StateT SortSt Sem (ForInStep LoC) := do
  let x ← elem' b ib
  if (ib + 1 == b.size) = true then pure (.done (some (out.push x ++ a.extract ia a.size ++ b.extract (ib + 1) b.size), out.push x, ia, ib + 1, mg, ac, bc))
  else do
    let y ← elem' a ia
    let z ← Dr true y b (ib + 1) (b.size - (ib + 1)) 0
    match z with
    | some k =>
      if k > 0 then
        if (ib + 1 + k == b.size) = true then pure (.done (some (out.push x ++ b.extract (ib + 1) (ib + 1 + k) ++ a.extract ia a.size ++ b.extract (ib + 1 + k) b.size), out.push x ++ b.extract (ib + 1) (ib + 1 + k), ia, ib + 1 + k, mg, ac, k))
        else loC a b (out.push x ++ b.extract (ib + 1) (ib + 1 + k)) ia (ib + 1 + k) mg ac k
      else loC a b (out.push x) ia (ib + 1) mg ac k
    | _ => pure (.done (some (out.push x ++ a.extract ia a.size ++ b.extract (ib + 1) b.size), out.push x, ia, ib + 1, mg, ac, bc))
noncomputable def loA (a b out : Array Keyed) (ia ib mg ac bc : Nat) : StateT SortSt Sem (ForInStep LoC) := do
  Em mg
  let x ← elem' b ib
  let z ← Dr false x a ia (a.size - ia) 0
  match z with
  | some k =>
    if k > 0 then
      if (ia + k + 1 == a.size) = true then pure (.done (some (out ++ a.extract ia (ia + k) ++ b.extract ib b.size ++ a.extract (ia + k) a.size), out ++ a.extract ia (ia + k), ia + k, ib, mg, k, bc))
      else if (ia + k == a.size) = true then pure (.done (some (out ++ a.extract ia (ia + k) ++ a.extract (ia + k) a.size ++ b.extract ib b.size), out ++ a.extract ia (ia + k), ia + k, ib, mg, k, bc))
      else loB a b (out ++ a.extract ia (ia + k)) (ia + k) ib mg k bc
    else loB a b out ia ib mg k bc
  | _ => pure (.done (some (out ++ a.extract ia a.size ++ b.extract ib b.size), out, ia, ib, mg, ac, bc))
noncomputable def LoR (g : Keyed → Int) (a b : Array Keyed) (st : SortSt) (n : Nat) (r : ForInStep LoC) (st' : SortSt) : Prop := match r with
  | .done c => LoQ g a b st n c.1 c.2.1 c.2.2.1 c.2.2.2.1 st'
  | .yield c => c.1 = none ∧ LoQ g a b st n c.1 c.2.1 c.2.2.1 c.2.2.2.1 st'
section
variable {a b out : Array Keyed} {ia ib n mg ac bc : Nat} {st st' : SortSt}
theorem T7 (S : T5 g a₀ a b) (hs : ∃ k, st' = Cp st k) (h : Lw g a b out ia ib) (la : ia + 1 < a.size) (lb : ib < b.size) (hn : n ≤ ia + ib) (le : rk g a ia ≤ rk g b ib) :
    wpS (model prog w) A E s (loC a b out ia ib mg ac bc) (LoR g a b st n) st' := by
  unfold loC
  refine wpS_bind (Bf (by omega) ?_)
  have h' : Lw g a b (out.push (a[ia]'(by omega))) (ia + 1) ib := by
    rw [Gn]
    refine h.takeA (by omega) (by omega) fun i h1 h2 j h3 h4 => ?_
    rw [show i = ia by omega]
    exact Int.le_trans le (S.ub ib j (by omega) h3 h4)
  split
  · rename_i e
    exact wpS_pure ⟨hs, .inl ⟨_, rfl, h'.last (by simpa using e) S.ab⟩⟩
  · rename_i e
    have e : ¬ ia + 1 + 1 = a.size := by simpa using e
    split
    · exact wpS_pure ⟨hs, .inr ⟨rfl, h', by dsimp only; omega, lb, by dsimp only; omega⟩⟩
    · exact wpS_pure ⟨rfl, hs, .inr ⟨rfl, h', by dsimp only; omega, lb, by dsimp only; omega⟩⟩
theorem UJ (hc : Cmp prog w A E s a₀ κ g) (S : T5 g a₀ a b) (hk : kindOf st = κ) (hs : ∃ k, st' = Cp st k) (h : Lw g a b out ia ib) (la : ia + 1 < a.size) (lb : ib < b.size) (hn : n ≤ ia + ib) (le : rk g b ib ≤ rk g a ia) :
    wpS (model prog w) A E s (loB a b out ia ib mg ac bc) (LoR g a b st n) st' := by
  unfold loB
  refine wpS_bind (Bf lb ?_)
  have h' : Lw g a b (out.push b[ib]) ia (ib + 1) := by
    rw [Gn]
    refine h.takeB (by omega) (by omega) fun i h1 h2 j h3 h4 => ?_
    rw [show i = ib by omega]
    exact Int.le_trans le (S.ua ia j (by omega) h3 h4)
  split
  · rename_i e
    exact wpS_pure ⟨hs, .inl ⟨_, rfl, h'.done (.inr (by simpa using e))⟩⟩
  rename_i e
  have e : ¬ ib + 1 = b.size := by simpa using e
  refine wpS_bind (Bf (by omega) ?_)
  have hk' : kindOf st' = κ := by obtain ⟨k, rfl⟩ := hs; exact hk
  refine wpS_bind (Ei hc hk' (S.ma _ (Array.getElem_mem (by omega))) S.mb (by omega) (by omega) (S.ub.sub (by omega) (by omega)) fun k hcut => ?_)
  obtain ⟨k1, k2, k3⟩ := hcut
  have k2 : ∀ i, i < k → rk g b (ib + 1 + i) ≤ rk g a ia := fun i hi => by
    have := k2 i hi
    rw [Cy (show ia < a.size by omega)]
    simp only [byd, if_true, decide_eq_true_eq] at this
    omega
  have k3 : ∀ i, k ≤ i → i < b.size - (ib + 1) → rk g a ia ≤ rk g b (ib + 1 + i) := fun i h1 h2 => by
    have := k3 i h1 h2
    rw [Cy (show ia < a.size by omega)]
    simp only [byd, if_true, decide_eq_false_iff_not] at this
    omega
  dsimp only
  split
  · have h2 : Lw g a b (out.push b[ib] ++ b.extract (ib + 1) (ib + 1 + k)) ia (ib + 1 + k) := by
      refine h'.takeB (by omega) (by omega) fun i h1 h2 j h3 h4 => ?_
      have := k2 (i - (ib + 1)) (by omega)
      rw [show ib + 1 + (i - (ib + 1)) = i by omega] at this
      exact Int.le_trans this (S.ua ia j (by omega) h3 h4)
    split
    · rename_i e
      exact wpS_pure ⟨hs, .inl ⟨_, rfl, h2.done (.inr (by simpa using e))⟩⟩
    · rename_i e
      have e : ¬ ib + 1 + k = b.size := by simpa using e
      exact T7 S hs h2 la (by omega) (by omega) (k3 k (by omega) (by omega))
  · rename_i e0
    exact T7 S hs h' la (by omega) (by omega) (k3 0 (by omega) (by omega))
theorem T9 (hc : Cmp prog w A E s a₀ κ g) (S : T5 g a₀ a b) (hk : kindOf st = κ) (hs : ∃ k, st' = Cp st k) (h : Lw g a b out ia ib) (la : ia + 1 < a.size) (lb : ib < b.size) (hn : n ≤ ia + ib) :
    wpS (model prog w) A E s (loA a b out ia ib mg ac bc) (LoR g a b st n) st' := by
  unfold loA Em
  refine wpS_bind (wpS_modify ?_)
  have hs' : ∃ k, Cp st' mg = Cp st k := by obtain ⟨k, rfl⟩ := hs; exact ⟨mg, rfl⟩
  refine wpS_bind (Bf lb ?_)
  have hk' : kindOf (Cp st' mg) = κ := by obtain ⟨k, rfl⟩ := hs; exact hk
  refine wpS_bind (Ei hc hk' (S.mb _ (Array.getElem_mem lb)) S.ma (by omega) (by omega) (S.ua.sub (by omega) (by omega)) fun k hcut => ?_)
  obtain ⟨k1, k2, k3⟩ := hcut
  have k2 : ∀ i, i < k → rk g a (ia + i) ≤ rk g b ib := fun i hi => by
    have := k2 i hi
    rw [Cy lb]
    simpa only [byd, Bool.false_eq_true, if_false, decide_eq_true_eq] using this
  have k3 : ∀ i, k ≤ i → i < a.size - ia → rk g b ib ≤ rk g a (ia + i) := fun i h1 h2 => by
    have := k3 i h1 h2
    rw [Cy lb]
    simp only [byd, Bool.false_eq_true, if_false, decide_eq_false_iff_not] at this
    omega
  dsimp only
  split
  · have h2 : Lw g a b (out ++ a.extract ia (ia + k)) (ia + k) ib := by
      refine h.takeA (by omega) (by omega) fun i h1 h2 j h3 h4 => ?_
      have := k2 (i - ia) (by omega)
      rw [show ia + (i - ia) = i by omega] at this
      exact Int.le_trans this (S.ub ib j (by omega) h3 h4)
    split
    · rename_i e
      exact wpS_pure ⟨hs', .inl ⟨_, rfl, h2.last (by simpa using e) S.ab⟩⟩
    · rename_i e1
      have e1 : ¬ ia + k + 1 = a.size := by simpa using e1
      split
      · rename_i e
        exact wpS_pure ⟨hs', .inl ⟨_, rfl, h2.done (.inl (by simpa using e))⟩⟩
      · rename_i e
        have e : ¬ ia + k = a.size := by simpa using e
        exact UJ hc S hk hs' h2 (by omega) lb (by omega) (k3 k (by omega) (by omega))
  · rename_i e0
    exact UJ hc S hk hs' h la lb hn (k3 0 (by omega) (by omega))
end
theorem QL {a b : Array Keyed} {st : SortSt} {Q : Array Keyed → SortSt → Prop} (hc : Cmp prog w A E s a₀ κ g) (hk : kindOf st = κ) (S : T5 g a₀ a b) (na : 0 < a.size) (nb : 0 < b.size)
    (ua : a.toList.Pairwise (leG g)) (ub : b.toList.Pairwise (leG g)) (h1 : rk g b 0 ≤ rk g a 0)
    (h : ∀ out k, Mgd g a b out → Q out (Cp st k)) : wpS (model prog w) A E s (Ml a b) Q st := by
  rw [QB]
  refine wpS_bind (wpS_lift (wpAny_rule ⟨rfl, ?_⟩))
  refine wpS_bind (Bf nb ?_)
  have h0 : Lw g a b #[b[0]] 0 1 := by
    have : Lw g a b #[] 0 0 := ⟨by simp, List.Pairwise.nil, ua, ub, by simp, by simp⟩
    have := this.takeB (m := 1) (by omega) (by omega) fun i h2 h3 j h4 h5 => by
      rw [show i = 0 by omega]
      exact Int.le_trans h1 (S.ua 0 j (by omega) h4 h5)
    rwa [← Gn nb] at this
  dsimp only
  refine Az (fun e => wpS_pure (h _ (gallopOf st) (h0.done (.inr (by simpa using e))))) fun e1 => ?_
  have e1 : ¬ 1 = b.size := by simpa using e1
  refine Az (fun e => wpS_pure (h _ (gallopOf st) (h0.last (by simpa using e) S.ab))) fun e2 => ?_
  have e2 : ¬ 0 + 1 = a.size := by simpa using e2
  refine wpS_bind (wpS_get ?_)
  refine wpS_bind (wpS_mono (wpS_forRange (I := fun x c st' => ∃ out ia ib mg, c = (none, out, ia, ib, mg) ∧ LoQ g a b st (x + 1) none out ia ib st')
    (Q := fun c st' => ∃ out k, c.1 = some out ∧ st' = Cp st k ∧ Mgd g a b out) ?step ?fin ⟨_, _, _, _, rfl, ⟨gallopOf st, rfl⟩, .inr ⟨rfl, h0, by omega, by omega, by omega⟩⟩) ?post)
  case post =>
    rintro ⟨r, c⟩ st' ⟨out, k, rfl, rfl, q⟩
    exact wpS_pure (h _ k q)
  case fin =>
    rintro c st' ⟨out, ia, ib, mg, rfl, hs, (⟨o, e, _⟩ | ⟨_, _, l1, l2, l3⟩)⟩
    · cases e
    · omega
  case step =>
    rintro x c st' _ hx ⟨out, ia, ib, mg, rfl, hs, (⟨o, e, _⟩ | ⟨_, hL, l1, l2, l3⟩)⟩
    · cases e
    dsimp only
    refine wpS_bind (wpS_mono (wpS_forRange (I := fun y c st' => ∃ out ia ib ac bc, c = (none, out, ia, ib, ac, bc) ∧ LoQ g a b st (x + 1 + y) none out ia ib st')
      (Q := fun c st' => LoQ g a b st (x + 1 + 1) c.1 c.2.1 c.2.2.1 c.2.2.2.1 st') ?step1 ?fin1 ⟨_, _, _, _, _, rfl, hs, .inr ⟨rfl, hL, l1, l2, l3⟩⟩) ?post1)
    case fin1 =>
      rintro c st' ⟨out, ia, ib, ac, bc, rfl, hs, (⟨o, e, _⟩ | ⟨_, hL, l1, l2, l3⟩)⟩
      · cases e
      · exact ⟨hs, .inr ⟨rfl, hL, l1, l2, by omega⟩⟩
    case step1 =>
      rintro y c st' _ hy ⟨out, ia, ib, ac, bc, rfl, hs, (⟨o, e, _⟩ | ⟨_, hL, l1, l2, l3⟩)⟩
      · cases e
      dsimp only
      have hk' : kindOf st' = κ := by obtain ⟨k, rfl⟩ := hs; exact hk
      refine wpS_bind (Bf l2 (wpS_bind (Bf (by omega) (wpS_bind (hc _ _ (S.mb _ (Array.getElem_mem l2)) (S.ma _ (Array.getElem_mem (by omega))) _ _ hk' ?_)))))
      dsimp only
      by_cases hlt : g b[ib] < g (a[ia]'(by omega))
      · rw [if_pos (decide_eq_true hlt)]
        refine wpS_bind (Bf l2 ?_)
        have h' : Lw g a b (out.push b[ib]) ia (ib + 1) := by
          rw [Gn]
          refine hL.takeB (by omega) (by omega) fun i h1 h2 j h3 h4 => ?_
          rw [show i = ib by omega, Cy l2]
          have := S.ua ia j (by omega) h3 h4
          rw [Cy (show ia < a.size by omega)] at this
          omega
        split
        · rename_i e
          exact wpS_pure ⟨hs, .inl ⟨_, rfl, h'.done (.inr (by simpa using e))⟩⟩
        · rename_i e
          have e : ¬ ib + 1 = b.size := by simpa using e
          split
          · exact wpS_pure ⟨hs, .inr ⟨rfl, h', l1, by dsimp only; omega, by dsimp only; omega⟩⟩
          · exact wpS_pure ⟨_, _, _, _, _, rfl, hs, .inr ⟨rfl, h', l1, by omega, by omega⟩⟩
      · rw [if_neg (by simpa using hlt)]
        refine wpS_bind (Bf (by omega) ?_)
        have h' : Lw g a b (out.push (a[ia]'(by omega))) (ia + 1) ib := by
          rw [Gn]
          refine hL.takeA (by omega) (by omega) fun i h1 h2 j h3 h4 => ?_
          rw [show i = ia by omega, Cy (show ia < a.size by omega)]
          have := S.ub ib j (by omega) h3 h4
          rw [Cy l2] at this
          omega
        split
        · rename_i e
          exact wpS_pure ⟨hs, .inl ⟨_, rfl, h'.last (by simpa using e) S.ab⟩⟩
        · rename_i e
          have e : ¬ ia + 1 + 1 = a.size := by simpa using e
          split
          · exact wpS_pure ⟨hs, .inr ⟨rfl, h', by dsimp only; omega, l2, by dsimp only; omega⟩⟩
          · exact wpS_pure ⟨_, _, _, _, _, rfl, hs, .inr ⟨rfl, h', by omega, l2, by omega⟩⟩
    case post1 =>
      rintro ⟨r, out, ia, ib, ac, bc⟩ st' ⟨hs, (⟨o, e, q⟩ | ⟨e, hL, l1, l2, l3⟩)⟩
      · obtain rfl : r = some o := e
        obtain ⟨k, rfl⟩ := hs
        exact wpS_pure ⟨o, k, rfl, rfl, q⟩
      obtain rfl : r = none := e
      dsimp only at hL l1 l2 l3 ⊢
      refine wpS_bind (wpS_lift (wpAny_rule ⟨rfl, ?_⟩))
      refine wpS_bind (wpS_mono (wpS_forRange (I := fun y c st' => c.1 = none ∧ LoQ g a b st (x + 1 + 1) c.1 c.2.1 c.2.2.1 c.2.2.2.1 st')
        (Q := fun c st' => LoQ g a b st (x + 1 + 1) c.1 c.2.1 c.2.2.1 c.2.2.2.1 st') ?step2 ?fin2 ⟨rfl, hs, .inr ⟨rfl, hL, l1, l2, l3⟩⟩) ?post2)
      case fin2 =>
        rintro c st' ⟨_, q⟩
        exact q
      case step2 =>
        rintro y ⟨r, out, ia, ib, mg, ac, bc⟩ st' _ hy ⟨rfl, hs, (⟨o, e, _⟩ | ⟨_, hL, l1, l2, l3⟩)⟩
        · cases e
        dsimp only at hL l1 l2 l3 ⊢
        refine wpS_mono (Q := LoR g a b st (x + 1 + 1)) ?_ fun r st' q => by cases r <;> exact q
        refine Az (fun _ => ?_) (fun _ => ?_)
        · exact T9 (mg := mg - 1) (ac := ac) (bc := bc) hc S hk hs hL l1 l2 l3
        · exact T9 (mg := mg) (ac := ac) (bc := bc) hc S hk hs hL l1 l2 l3
      case post2 =>
        rintro ⟨r, out, ia, ib, mg, ac, bc⟩ st' ⟨hs, (⟨o, e, q⟩ | ⟨e, hL, l1, l2, l3⟩)⟩
        · obtain rfl : r = some o := e
          obtain ⟨k, rfl⟩ := hs
          exact wpS_pure ⟨o, k, rfl, rfl, q⟩
        obtain rfl : r = none := e
        dsimp only at hL l1 l2 l3 ⊢
        unfold Em
        refine wpS_bind (wpS_modify (wpS_pure ⟨_, _, _, _, rfl, ?_, .inr ⟨rfl, hL, l1, l2, l3⟩⟩))
        obtain ⟨k, rfl⟩ := hs
        exact ⟨_, rfl⟩
end
section
variable {prog : Program} {w : World} {A : Around} {E : Value → Shared → Prop} {s : Shared} {a₀ : Array Keyed} {κ : SortKind} {g : Keyed → Int}
noncomputable def geG (g : Keyed → Int) (p q : Keyed) : Prop := g q ≤ g p
noncomputable abbrev Hw (g : Keyed → Int) (a b out : Array Keyed) (na nb : Nat) : Prop := Mg (geG g) (a.toList ++ b.toList) out.toList (a.toList.take na).reverse (b.toList.take nb).reverse
section
variable {a b out : Array Keyed} {na nb : Nat}
theorem Rt {arr : Array Keyed} {k m : Nat} (h : k ≤ m) : (arr.toList.take m).reverse = (arr.extract k m).reverse.toList ++ (arr.toList.take k).reverse := by
  rw [Xi h, List.reverse_append, Array.toList_reverse]
theorem Hw.takeA (h : Hw g a b out na nb) {m : Nat} (h1 : m ≤ na) (hp : ∀ i, m ≤ i → i < na → i < a.size → ∀ j, j < nb → j < b.size → rk g b j ≤ rk g a i) : Hw g a b (out ++ (a.extract m na).reverse) m nb := by
  have h' : Mg (geG g) (a.toList ++ b.toList) out.toList ((a.extract m na).reverse.toList ++ (a.toList.take m).reverse) (b.toList.take nb).reverse := by rw [← Rt h1]; exact h
  have := h'.take fun p hp' q hq => by
    obtain ⟨i, i1, i2, i3, e⟩ := Ej (g := g) (by simpa using hp' : p ∈ (a.extract m na).toList)
    obtain ⟨j, j1, j2, e'⟩ := Dz (g := g) (List.mem_reverse.mp hq)
    show g q ≤ g p
    rw [← e, ← e']; exact hp i i1 i2 i3 j j1 j2
  show Mg _ _ (out ++ (a.extract m na).reverse).toList _ _
  rw [Array.toList_append (xs := out)]; exact this
theorem Hw.takeB (h : Hw g a b out na nb) {m : Nat} (h1 : m ≤ nb) (hp : ∀ i, m ≤ i → i < nb → i < b.size → ∀ j, j < na → j < a.size → rk g a j ≤ rk g b i) : Hw g a b (out ++ (b.extract m nb).reverse) na m := by
  have h' : Mg (geG g) (a.toList ++ b.toList) out.toList ((b.extract m nb).reverse.toList ++ (b.toList.take m).reverse) (a.toList.take na).reverse := by rw [← Rt h1]; exact h.swap
  have := h'.take fun p hp' q hq => by
    obtain ⟨i, i1, i2, i3, e⟩ := Ej (g := g) (by simpa using hp' : p ∈ (b.extract m nb).toList)
    obtain ⟨j, j1, j2, e'⟩ := Dz (g := g) (List.mem_reverse.mp hq)
    show g q ≤ g p
    rw [← e, ← e']; exact hp i i1 i2 i3 j j1 j2
  show Mg _ _ (out ++ (b.extract m nb).reverse).toList _ _
  rw [Array.toList_append (xs := out)]; exact this.swap
theorem Ql {l : List Keyed} {out : Array Keyed} (e : out.toList = l.reverse) (h : l.Perm (a.toList ++ b.toList) ∧ l.Pairwise (geG g)) : Mgd g a b out := by
  unfold Mgd
  rw [e]
  exact ⟨(List.reverse_perm l).trans h.1, List.pairwise_reverse.mpr h.2⟩
theorem Hw.done (h : Hw g a b out na nb) (e : na = 0 ∨ nb = 0) : Mgd g a b (a.extract 0 na ++ b.extract 0 nb ++ out.reverse) := by
  refine Ql (l := out.toList ++ (b.toList.take nb).reverse ++ (a.toList.take na).reverse) ?_ (h.swap.fin fun p hp q hq => ?_)
  · simp
  · obtain ⟨i, i1, i2, _⟩ := Dz (g := g) (List.mem_reverse.mp hp)
    obtain ⟨j, j1, j2, _⟩ := Dz (g := g) (List.mem_reverse.mp hq)
    omega
theorem Hw.first (h : Hw g a b out na nb) (e : nb = 1) (h2 : ∀ j, j < a.size → rk g b 0 ≤ rk g a j) : Mgd g a b (b.extract 0 nb ++ a.extract 0 na ++ out.reverse) := by
  refine Ql (l := out.toList ++ (a.toList.take na).reverse ++ (b.toList.take nb).reverse) ?_ (h.fin fun p hp q hq => ?_)
  · simp
  · obtain ⟨i, i1, i2, e1⟩ := Dz (g := g) (List.mem_reverse.mp hp)
    obtain ⟨j, j1, j2, e2⟩ := Dz (g := g) (List.mem_reverse.mp hq)
    show g q ≤ g p
    rw [← e1, ← e2, show j = 0 by omega]
    exact h2 i i2
theorem Mr {out arr : Array Keyed} {i : Nat} (hi : i < arr.size) : out.push arr[i] = out ++ (arr.extract i (i + 1)).reverse := by
  rw [Gn hi]
  congr 1
  apply Array.toList_inj.mp
  rw [Array.toList_reverse, Array.toList_extract, List.extract_eq_take_drop, show i + 1 - i = 1 by omega, List.take_one]
  cases (List.drop i arr.toList).head? <;> rfl
end
noncomputable def HiQ (g : Keyed → Int) (a b : Array Keyed) (st : SortSt) (n : Nat) (r : Option (Array Keyed)) (out : Array Keyed) (na nb : Nat) (st' : SortSt) : Prop :=
  (∃ k, st' = Cp st k) ∧ ((∃ o, r = some o ∧ Mgd g a b o) ∨ (r = none ∧ Hw g a b out na nb ∧ 0 < na ∧ na ≤ a.size ∧ 1 < nb ∧ nb ≤ b.size ∧ na + nb + n ≤ a.size + b.size))
structure JN (g : Keyed → Int) (a₀ a b : Array Keyed) : Prop where
  ma : ∀ p ∈ a, p ∈ a₀
  mb : ∀ p ∈ b, p ∈ a₀
  ua : Ris (rk g a) 0 a.size
  ub : Ris (rk g b) 0 b.size
  ab : ∀ j, j < a.size → rk g b 0 ≤ rk g a j
noncomputable abbrev HiC := Option (Array Keyed) × Nat × Nat × Array Keyed × Nat × Nat × Nat
noncomputable def hiC (a b out : Array Keyed) (na nb mg ac bc : Nat) : StateT SortSt Sem (ForInStep HiC) := do
  let x ← elem' a (na - 1)
  if (na - 1 == 0) = true then pure (.done (some (a.extract 0 (na - 1) ++ b.extract 0 nb ++ (out.push x).reverse), na - 1, nb, out.push x, mg, ac, bc))
  else if (decide (ac < 7) && decide (bc < 7)) = true then pure (.done (none, na - 1, nb, out.push x, mg, ac, bc))
  else pure (.yield (none, na - 1, nb, out.push x, mg, ac, bc))
noncomputable def hiB (a b out : Array Keyed) (na nb mg ac bc : Nat) : StateT SortSt Sem (ForInStep HiC) := do
  let x ← elem' b (nb - 1)
  if (nb - 1 == 1) = true then pure (.done (some (b.extract 0 (nb - 1) ++ a.extract 0 na ++ (out.push x).reverse), na, nb - 1, out.push x, mg, ac, bc))
  else do
    let y ← elem' a (na - 1)
    let z ← Dr true y b 0 (nb - 1) (nb - 1 - 1)
    match z with
    | some k =>
      if nb - 1 - k > 0 then
        if (k == 1) = true then pure (.done (some (b.extract 0 k ++ a.extract 0 na ++ (out.push x ++ (b.extract k (nb - 1)).reverse).reverse), na, k, out.push x ++ (b.extract k (nb - 1)).reverse, mg, ac, nb - 1 - k))
        else if (k == 0) = true then pure (.done (some (a.extract 0 na ++ b.extract 0 k ++ (out.push x ++ (b.extract k (nb - 1)).reverse).reverse), na, k, out.push x ++ (b.extract k (nb - 1)).reverse, mg, ac, nb - 1 - k))
        else hiC a b (out.push x ++ (b.extract k (nb - 1)).reverse) na k mg ac (nb - 1 - k)
      else hiC a b (out.push x) na (nb - 1) mg ac (nb - 1 - k)
    | _ => pure (.done (some (a.extract 0 na ++ b.extract 0 (nb - 1) ++ (out.push x).reverse), na, nb - 1, out.push x, mg, ac, bc))
noncomputable def hiA (a b out : Array Keyed) (na nb mg ac bc : Nat) : StateT SortSt Sem (ForInStep HiC) := do
  Em mg
  let x ← elem' b (nb - 1)
  let z ← Dr false x a 0 na (na - 1)
  match z with
  | some k =>
    if na - k > 0 then
      if (k == 0) = true then pure (.done (some (a.extract 0 k ++ b.extract 0 nb ++ (out ++ (a.extract k na).reverse).reverse), k, nb, out ++ (a.extract k na).reverse, mg, na - k, bc))
      else hiB a b (out ++ (a.extract k na).reverse) k nb mg (na - k) bc
    else hiB a b out na nb mg (na - k) bc
  | _ => pure (.done (some (a.extract 0 na ++ b.extract 0 nb ++ out.reverse), na, nb, out, mg, ac, bc))
noncomputable def HiR (g : Keyed → Int) (a b : Array Keyed) (st : SortSt) (n : Nat) (r : ForInStep HiC) (st' : SortSt) : Prop := match r with
  | .done c => HiQ g a b st n c.1 c.2.2.2.1 c.2.1 c.2.2.1 st'
  | .yield c => c.1 = none ∧ HiQ g a b st n c.1 c.2.2.2.1 c.2.1 c.2.2.1 st'
section
variable {a b out : Array Keyed} {na nb n mg ac bc : Nat} {st st' : SortSt}
theorem Hw.pushA (S : JN g a₀ a b) (h : Hw g a b out na nb) (l1 : 0 < na) (l2 : na ≤ a.size) (l3 : 1 < nb) (l4 : nb ≤ b.size) (le : rk g b (nb - 1) ≤ rk g a (na - 1)) : Hw g a b (out.push (a[na - 1]'(by omega))) (na - 1) nb := by
  rw [Mr, show na - 1 + 1 = na by omega]
  refine h.takeA (by omega) fun i h1 h2 _ j h3 h4 => ?_
  rw [show i = na - 1 by omega]
  exact Int.le_trans (S.ub j (nb - 1) (by omega) (by omega) (by omega)) le
theorem Hw.pushB (S : JN g a₀ a b) (h : Hw g a b out na nb) (l1 : 0 < na) (l2 : na ≤ a.size) (l3 : 1 < nb) (l4 : nb ≤ b.size) (le : rk g a (na - 1) ≤ rk g b (nb - 1)) : Hw g a b (out.push (b[nb - 1]'(by omega))) na (nb - 1) := by
  rw [Mr, show nb - 1 + 1 = nb by omega]
  refine h.takeB (by omega) fun i h1 h2 _ j h3 h4 => ?_
  rw [show i = nb - 1 by omega]
  exact Int.le_trans (S.ua j (na - 1) (by omega) (by omega) (by omega)) le
theorem Tr (S : JN g a₀ a b) (hs : ∃ k, st' = Cp st k) (h : Hw g a b out na nb) (l1 : 0 < na) (l2 : na ≤ a.size) (l3 : 1 < nb) (l4 : nb ≤ b.size) (hn : na + nb + n ≤ a.size + b.size) (le : rk g b (nb - 1) ≤ rk g a (na - 1)) :
    wpS (model prog w) A E s (hiC a b out na nb mg ac bc) (HiR g a b st n) st' := by
  unfold hiC
  refine wpS_bind (Bf (by omega) ?_)
  have h' := h.pushA S l1 l2 l3 l4 le
  refine Az (fun e => wpS_pure ⟨hs, .inl ⟨_, rfl, h'.done (.inl (by simpa using e))⟩⟩) fun e => ?_
  have e : ¬ na - 1 = 0 := by simpa using e
  refine Az (fun _ => wpS_pure ⟨hs, .inr ⟨rfl, h', ?_⟩⟩) fun _ => wpS_pure ⟨rfl, hs, .inr ⟨rfl, h', ?_⟩⟩
  all_goals exact ⟨by dsimp only; omega, by dsimp only; omega, l3, l4, by dsimp only; omega⟩
theorem UG (hc : Cmp prog w A E s a₀ κ g) (S : JN g a₀ a b) (hk : kindOf st = κ) (hs : ∃ k, st' = Cp st k) (h : Hw g a b out na nb) (l1 : 0 < na) (l2 : na ≤ a.size) (l3 : 1 < nb) (l4 : nb ≤ b.size) (hn : na + nb + n ≤ a.size + b.size) (le : rk g a (na - 1) ≤ rk g b (nb - 1)) :
    wpS (model prog w) A E s (hiB a b out na nb mg ac bc) (HiR g a b st n) st' := by
  unfold hiB
  refine wpS_bind (Bf (by omega) ?_)
  have h' := h.pushB S l1 l2 l3 l4 le
  refine Az (fun e => wpS_pure ⟨hs, .inl ⟨_, rfl, h'.first (by simpa using e) S.ab⟩⟩) fun e => ?_
  have e : ¬ nb - 1 = 1 := by simpa using e
  refine wpS_bind (Bf (by omega) ?_)
  have hk' : kindOf st' = κ := by obtain ⟨k, rfl⟩ := hs; exact hk
  refine wpS_bind (Ei hc hk' (S.ma _ (Array.getElem_mem (by omega))) S.mb (by omega) (by omega) (S.ub.sub (by omega) (by omega)) fun k hcut => ?_)
  obtain ⟨k1, k2, k3⟩ := hcut
  have k2 : ∀ i, i < k → rk g b i ≤ rk g a (na - 1) := fun i hi => by
    have := k2 i hi
    rw [Cy (show na - 1 < a.size by omega)]
    simp only [byd, if_true, decide_eq_true_eq, Nat.zero_add] at this
    omega
  have k3 : ∀ i, k ≤ i → i < nb - 1 → rk g a (na - 1) ≤ rk g b i := fun i h1 h2 => by
    have := k3 i h1 h2
    rw [Cy (show na - 1 < a.size by omega)]
    simp only [byd, if_true, decide_eq_false_iff_not, Nat.zero_add] at this
    omega
  dsimp only
  refine Az (fun e0 => ?_) fun e0 => ?_
  · have h2 := h'.takeB (m := k) (by omega) fun i h1 h2 _ j h3 h4 => Int.le_trans (S.ua j (na - 1) (by omega) (by omega) (by omega)) (k3 i h1 h2)
    refine Az (fun e => wpS_pure ⟨hs, .inl ⟨_, rfl, h2.first (by simpa using e) S.ab⟩⟩) fun e3 => ?_
    have e3 : ¬ k = 1 := by simpa using e3
    refine Az (fun e => wpS_pure ⟨hs, .inl ⟨_, rfl, h2.done (.inr (by simpa using e))⟩⟩) fun e4 => ?_
    have e4 : ¬ k = 0 := by simpa using e4
    exact Tr S hs h2 l1 l2 (by omega) (by omega) (by omega) (k2 _ (by omega))
  · exact Tr S hs h' l1 l2 (by omega) (by omega) (by omega) (k2 _ (by omega))
theorem Ti (hc : Cmp prog w A E s a₀ κ g) (S : JN g a₀ a b) (hk : kindOf st = κ) (hs : ∃ k, st' = Cp st k) (h : Hw g a b out na nb) (l1 : 0 < na) (l2 : na ≤ a.size) (l3 : 1 < nb) (l4 : nb ≤ b.size) (hn : na + nb + n ≤ a.size + b.size) :
    wpS (model prog w) A E s (hiA a b out na nb mg ac bc) (HiR g a b st n) st' := by
  unfold hiA Em
  refine wpS_bind (wpS_modify ?_)
  have hs' : ∃ k, Cp st' mg = Cp st k := by obtain ⟨k, rfl⟩ := hs; exact ⟨mg, rfl⟩
  refine wpS_bind (Bf (by omega) ?_)
  have hk' : kindOf (Cp st' mg) = κ := by obtain ⟨k, rfl⟩ := hs; exact hk
  refine wpS_bind (Ei hc hk' (S.mb _ (Array.getElem_mem (by omega))) S.ma (by omega) (by omega) (S.ua.sub (by omega) (by omega)) fun k hcut => ?_)
  obtain ⟨k1, k2, k3⟩ := hcut
  have k2 : ∀ i, i < k → rk g a i ≤ rk g b (nb - 1) := fun i hi => by
    have := k2 i hi
    rw [Cy (show nb - 1 < b.size by omega)]
    simpa only [byd, Bool.false_eq_true, if_false, decide_eq_true_eq, Nat.zero_add] using this
  have k3 : ∀ i, k ≤ i → i < na → rk g b (nb - 1) ≤ rk g a i := fun i h1 h2 => by
    have := k3 i h1 h2
    rw [Cy (show nb - 1 < b.size by omega)]
    simp only [byd, Bool.false_eq_true, if_false, decide_eq_false_iff_not, Nat.zero_add] at this
    omega
  dsimp only
  refine Az (fun e0 => ?_) fun e0 => ?_
  · have h2 := h.takeA (m := k) (by omega) fun i h1 h2 _ j h3 h4 => Int.le_trans (S.ub j (nb - 1) (by omega) (by omega) (by omega)) (k3 i h1 h2)
    refine Az (fun e => wpS_pure ⟨hs', .inl ⟨_, rfl, h2.done (.inl (by simpa using e))⟩⟩) fun e4 => ?_
    have e4 : ¬ k = 0 := by simpa using e4
    exact UG hc S hk hs' h2 (by omega) (by omega) l3 l4 (by omega) (k2 _ (by omega))
  · exact UG hc S hk hs' h l1 l2 l3 l4 hn (k2 _ (by omega))
end
theorem QK {a b : Array Keyed} {st : SortSt} {Q : Array Keyed → SortSt → Prop} (hc : Cmp prog w A E s a₀ κ g) (hk : kindOf st = κ) (S : JN g a₀ a b) (pa : 0 < a.size) (pb : 0 < b.size)
    (ua : a.toList.Pairwise (leG g)) (ub : b.toList.Pairwise (leG g)) (h1 : rk g b (b.size - 1) ≤ rk g a (a.size - 1))
    (h : ∀ out k, Mgd g a b out → Q out (Cp st k)) : wpS (model prog w) A E s (K6 a b) Q st := by
  rw [Qe]
  refine wpS_bind (wpS_lift (wpAny_rule ⟨rfl, ?_⟩))
  refine wpS_bind (Bf (by omega) ?_)
  have h0 : Hw g a b #[a[a.size - 1]'(by omega)] (a.size - 1) b.size := by
    have : Hw g a b #[] a.size b.size := ⟨?_, List.Pairwise.nil, ?_, ?_, by simp, by simp⟩
    · have := this.takeA (m := a.size - 1) (by omega) fun i h2 h3 _ j h4 h5 => by
        rw [show i = a.size - 1 by omega]
        exact Int.le_trans (S.ub j (b.size - 1) (by omega) (by omega) (by omega)) h1
      have e := Mr (out := #[]) (arr := a) (i := a.size - 1) (by omega)
      rw [show a.size - 1 + 1 = a.size by omega] at e
      rwa [← e] at this
    · rw [← Array.length_toList, ← Array.length_toList, List.take_length, List.take_length]
      simp only [List.nil_append]
      exact List.Perm.append (List.reverse_perm _) (List.reverse_perm _)
    · rw [← Array.length_toList, List.take_length]; exact List.pairwise_reverse.mpr ua
    · rw [← Array.length_toList, List.take_length]; exact List.pairwise_reverse.mpr ub
  dsimp only
  refine Az (fun e => wpS_pure (h _ (gallopOf st) (h0.done (.inl (by simpa using e))))) fun e1 => ?_
  have e1 : ¬ a.size - 1 = 0 := by simpa using e1
  refine Az (fun e => wpS_pure (h _ (gallopOf st) (h0.first (by simpa using e) S.ab))) fun e2 => ?_
  have e2 : ¬ b.size = 1 := by simpa using e2
  refine wpS_bind (wpS_get ?_)
  refine wpS_bind (wpS_mono (wpS_forRange (I := fun x c st' => ∃ out na nb mg, c = (none, na, nb, out, mg) ∧ HiQ g a b st (x + 1) none out na nb st')
    (Q := fun c st' => ∃ out k, c.1 = some out ∧ st' = Cp st k ∧ Mgd g a b out) ?step ?fin ⟨_, _, _, _, rfl, ⟨gallopOf st, rfl⟩, .inr ⟨rfl, h0, by omega, by omega, by omega, by omega, by omega⟩⟩) ?post)
  case post =>
    rintro ⟨r, c⟩ st' ⟨out, k, rfl, rfl, q⟩
    exact wpS_pure (h _ k q)
  case fin =>
    rintro c st' ⟨out, na, nb, mg, rfl, hs, (⟨o, e, _⟩ | ⟨_, _, l1, l2, l3, l4, l5⟩)⟩
    · cases e
    · omega
  case step =>
    rintro x c st' _ hx ⟨out, na, nb, mg, rfl, hs, (⟨o, e, _⟩ | ⟨_, hL, l1, l2, l3, l4, l5⟩)⟩
    · cases e
    dsimp only
    refine wpS_bind (wpS_mono (wpS_forRange (I := fun y c st' => ∃ out na nb ac bc, c = (none, na, nb, out, ac, bc) ∧ HiQ g a b st (x + 1 + y) none out na nb st')
      (Q := fun c st' => HiQ g a b st (x + 1 + 1) c.1 c.2.2.2.1 c.2.1 c.2.2.1 st') ?step1 ?fin1 ⟨_, _, _, _, _, rfl, hs, .inr ⟨rfl, hL, l1, l2, l3, l4, l5⟩⟩) ?post1)
    case fin1 =>
      rintro c st' ⟨out, na, nb, ac, bc, rfl, hs, (⟨o, e, _⟩ | ⟨_, hL, l1, l2, l3, l4, l5⟩)⟩
      · cases e
      · exact ⟨hs, .inr ⟨rfl, hL, l1, l2, l3, l4, by dsimp only; omega⟩⟩
    case step1 =>
      rintro y c st' _ hy ⟨out, na, nb, ac, bc, rfl, hs, (⟨o, e, _⟩ | ⟨_, hL, l1, l2, l3, l4, l5⟩)⟩
      · cases e
      dsimp only
      have hk' : kindOf st' = κ := by obtain ⟨k, rfl⟩ := hs; exact hk
      refine wpS_bind (Bf (by omega) (wpS_bind (Bf (by omega) (wpS_bind (hc _ _ (S.mb _ (Array.getElem_mem (by omega))) (S.ma _ (Array.getElem_mem (by omega))) _ _ hk' ?_)))))
      dsimp only
      have ea : rk g a (na - 1) = g (a[na - 1]'(by omega)) := Cy (by omega)
      have eb : rk g b (nb - 1) = g (b[nb - 1]'(by omega)) := Cy (by omega)
      by_cases hlt : g (b[nb - 1]'(by omega)) < g (a[na - 1]'(by omega))
      · rw [if_pos (decide_eq_true hlt)]
        refine wpS_bind (Bf (by omega) ?_)
        have h' := hL.pushA S l1 l2 l3 l4 (by omega)
        refine Az (fun e => wpS_pure ⟨hs, .inl ⟨_, rfl, h'.done (.inl (by simpa using e))⟩⟩) fun e => ?_
        have e : ¬ na - 1 = 0 := by simpa using e
        refine Az (fun _ => wpS_pure ⟨hs, .inr ⟨rfl, h', ?_⟩⟩) fun _ => wpS_pure ⟨_, _, _, _, _, rfl, hs, .inr ⟨rfl, h', ?_⟩⟩
        all_goals exact ⟨by (try dsimp only); omega, by (try dsimp only); omega, l3, l4, by (try dsimp only); omega⟩
      · rw [if_neg (by simpa using hlt)]
        refine wpS_bind (Bf (by omega) ?_)
        have h' := hL.pushB S l1 l2 l3 l4 (by omega)
        refine Az (fun e => wpS_pure ⟨hs, .inl ⟨_, rfl, h'.first (by simpa using e) S.ab⟩⟩) fun e => ?_
        have e : ¬ nb - 1 = 1 := by simpa using e
        refine Az (fun _ => wpS_pure ⟨hs, .inr ⟨rfl, h', ?_⟩⟩) fun _ => wpS_pure ⟨_, _, _, _, _, rfl, hs, .inr ⟨rfl, h', ?_⟩⟩
        all_goals exact ⟨l1, l2, by (try dsimp only); omega, by (try dsimp only); omega, by (try dsimp only); omega⟩
    case post1 =>
      rintro ⟨r, na, nb, out, ac, bc⟩ st' ⟨hs, (⟨o, e, q⟩ | ⟨e, hL, l1, l2, l3, l4, l5⟩)⟩
      · obtain rfl : r = some o := e
        obtain ⟨k, rfl⟩ := hs
        exact wpS_pure ⟨o, k, rfl, rfl, q⟩
      obtain rfl : r = none := e
      dsimp only at hL l1 l2 l3 l4 l5 ⊢
      refine wpS_bind (wpS_lift (wpAny_rule ⟨rfl, ?_⟩))
      refine wpS_bind (wpS_mono (wpS_forRange (I := fun y c st' => c.1 = none ∧ HiQ g a b st (x + 1 + 1) c.1 c.2.2.2.1 c.2.1 c.2.2.1 st')
        (Q := fun c st' => HiQ g a b st (x + 1 + 1) c.1 c.2.2.2.1 c.2.1 c.2.2.1 st') ?step2 ?fin2 ⟨rfl, hs, .inr ⟨rfl, hL, l1, l2, l3, l4, l5⟩⟩) ?post2)
      case fin2 =>
        rintro c st' ⟨_, q⟩
        exact q
      case step2 =>
        rintro y ⟨r, na, nb, out, mg, ac, bc⟩ st' _ hy ⟨rfl, hs, (⟨o, e, _⟩ | ⟨_, hL, l1, l2, l3, l4, l5⟩)⟩
        · cases e
        dsimp only at hL l1 l2 l3 l4 l5 ⊢
        refine wpS_mono (Q := HiR g a b st (x + 1 + 1)) ?_ fun r st' q => by cases r <;> exact q
        refine Az (fun _ => ?_) (fun _ => ?_)
        · exact Ti (mg := mg - 1) (ac := ac) (bc := bc) hc S hk hs hL l1 l2 l3 l4 l5
        · exact Ti (mg := mg) (ac := ac) (bc := bc) hc S hk hs hL l1 l2 l3 l4 l5
      case post2 =>
        rintro ⟨r, na, nb, out, mg, ac, bc⟩ st' ⟨hs, (⟨o, e, q⟩ | ⟨e, hL, l1, l2, l3, l4, l5⟩)⟩
        · obtain rfl : r = some o := e
          obtain ⟨k, rfl⟩ := hs
          exact wpS_pure ⟨o, k, rfl, rfl, q⟩
        obtain rfl : r = none := e
        dsimp only at hL l1 l2 l3 l4 l5 ⊢
        unfold Em
        refine wpS_bind (wpS_modify (wpS_pure ⟨_, _, _, _, rfl, ?_, .inr ⟨rfl, hL, l1, l2, l3, l4, l5⟩⟩))
        obtain ⟨k, rfl⟩ := hs
        exact ⟨_, rfl⟩
end
section
variable {prog : Program} {w : World} {A : Around} {E : Value → Shared → Prop} {s : Shared} {a₀ : Array Keyed} {κ : SortKind} {g : Keyed → Int}
structure Ch (g : Keyed → Int) (a₀ : Array Keyed) (κ : SortKind) (lo hi : Nat) (st st' : SortSt) : Prop where
  tb : TB a₀ κ st'
  pend : pendingOf st' = pendingOf st
  out : ∀ k, k < lo ∨ hi ≤ k → rk g (arrOf st') k = rk g (arrOf st) k
theorem Ch.refl {lo hi : Nat} {st : SortSt} (h : TB a₀ κ st) : Ch g a₀ κ lo hi st st := ⟨h, rfl, fun _ _ => rfl⟩
theorem Ch.trans {lo hi : Nat} {st st' st'' : SortSt} (h : Ch g a₀ κ lo hi st st') (h' : Ch g a₀ κ lo hi st' st'') : Ch g a₀ κ lo hi st st'' := ⟨h'.tb, h'.pend.trans h.pend, fun k hk => (h'.out k hk).trans (h.out k hk)⟩
noncomputable def Fal (f : Nat → Int) (lo hi : Nat) : Prop := ∀ i j, lo ≤ i → i ≤ j → j < hi → f j ≤ f i
theorem HS {xs : Array Keyed} {i j : Nat} (hj : j ≤ xs.size) (k : Nat) : rk g (mirror xs i j ((j - i) / 2)) k = if i ≤ k ∧ k < j then rk g xs (i + j - 1 - k) else rk g xs k := by
  have e := getElem?_mirror_all (i := i) hj k
  split
  · rename_i h; rw [if_pos h] at e; exact Gk e
  · rename_i h; rw [if_neg h] at e; exact Gk e
theorem Ch.mirror {lo hi i j : Nat} {st : SortSt} (h : TB a₀ κ st) (h1 : lo ≤ i) (h2 : j ≤ hi) (h3 : j ≤ a₀.size) : Ch g a₀ κ lo hi st (setArr st (mirror (arrOf st) i j ((j - i) / 2))) :=
  ⟨h.setArr (mirror_perm _ _ _ _), rfl, fun k hk => by
    show rk g (PyProof.Rows.mirror (arrOf st) i j ((j - i) / 2)) k = _
    rw [HS (by rw [h.size]; exact h3), if_neg (by omega)]⟩
theorem Tz {st : SortSt} {lo a nrem : Nat} {Q : Option (Option Nat) × Nat → SortSt → Prop} (hc : Cmp prog w A E s a₀ κ g) (hB : TB a₀ κ st) (hn : lo + nrem ≤ a₀.size) (ha : 1 ≤ a) (han : a ≤ nrem) (hs : Ris (rk g (arrOf st)) lo (lo + a))
    (h : ∀ n, a ≤ n → n ≤ nrem → Ris (rk g (arrOf st)) lo (lo + n) → (n = nrem ∨ rk g (arrOf st) (lo + n) < rk g (arrOf st) (lo + n - 1)) → Q (none, n) st) :
    wpS (model prog w) A E s (forIn [a:nrem] ((none, a) : Option (Option Nat) × Nat) fun _ c => do
      let x ← ltAt' (lo + c.snd) (lo + c.snd - 1)
      match x with
      | some smaller => if smaller = true then pure (ForInStep.done (none, c.snd)) else pure (ForInStep.yield (none, c.snd + 1))
      | _ => pure (ForInStep.done (some none, c.snd))) Q st := by
  refine wpS_forRange (I := fun x c st' => st' = st ∧ c = (none, x) ∧ Ris (rk g (arrOf st)) lo (lo + x)) ?step ?fin ⟨rfl, rfl, hs⟩
  case fin =>
    rintro c st' ⟨rfl, rfl, hs'⟩
    rw [show max a nrem = nrem by omega] at hs' ⊢
    exact h nrem han (Nat.le_refl _) hs' (.inl rfl)
  case step =>
    rintro x c st' hax hxn ⟨rfl, rfl, hs'⟩
    dsimp only
    refine wpS_bind (Gm hc hB (by omega) (by omega) ?_)
    dsimp only
    by_cases hl : rk g (arrOf st') (lo + x) < rk g (arrOf st') (lo + x - 1)
    · rw [if_pos (decide_eq_true hl)]
      exact wpS_pure (h x hax (by omega) hs' (.inr hl))
    · rw [if_neg (by simpa using hl)]
      refine wpS_pure ⟨rfl, rfl, fun i j h1 h2 h3 => ?_⟩
      by_cases hj : j < lo + x
      · exact hs' i j h1 h2 hj
      · rw [show j = lo + x by omega]
        by_cases hi : i = lo + x
        · rw [hi]; exact Int.le_refl _
        · exact Int.le_trans (hs' i (lo + x - 1) h1 (by omega) (by omega)) (by omega)
noncomputable abbrev AaO (g : Keyed → Int) (a₀ : Array Keyed) (κ : SortKind) (lo nrem : Nat) (st : SortSt) (Q : Option Nat → SortSt → Prop) : Prop :=
  ∀ m st', Ch g a₀ κ lo (lo + nrem) st st' → 1 ≤ m → m ≤ nrem → Ris (rk g (arrOf st')) lo (lo + m) → Q (some m) st'
theorem QF {st st0 : SortSt} {lo n nrem : Nat} {Q : Option Nat → SortSt → Prop} (hc : Cmp prog w A E s a₀ κ g) (hC : Ch g a₀ κ lo (lo + nrem) st0 st) (hn : lo + nrem ≤ a₀.size) (h1 : 1 ≤ n) (hnn : n ≤ nrem) (hs : Fal (rk g (arrOf st)) lo (lo + n))
    (h : AaO g a₀ κ lo nrem st0 Q) : wpS (model prog w) A E s (do
      reverseSlice' lo (lo + n)
      let mut n := n
      for _ in [n:nrem] do
        let some smaller ← ltAt' (lo + n) (lo + n - 1) | return none
        if smaller then break
        n := n + 1
      return some n) Q st := by
  refine wpS_bind (wpS_reverse ?_)
  have hC' : Ch g a₀ κ lo (lo + nrem) st (setArr st (mirror (arrOf st) lo (lo + n) ((lo + n - lo) / 2))) := Ch.mirror hC.tb (Nat.le_refl _) (by omega) (by omega)
  refine wpS_bind (Tz hc hC'.tb hn h1 hnn ?_ fun m hm1 hm2 hsm _ => wpS_pure (h m _ (hC.trans hC') (by omega) hm2 hsm))
  intro i j h3 h4 h5
  have hsz : lo + n ≤ (arrOf st).size := by rw [hC.tb.size]; omega
  show rk g (mirror (arrOf st) lo (lo + n) ((lo + n - lo) / 2)) i ≤ rk g (mirror (arrOf st) lo (lo + n) ((lo + n - lo) / 2)) j
  rw [HS hsz, HS hsz, if_pos (by omega), if_pos (by omega)]
  exact hs _ _ (by omega) (by omega) (by omega)
theorem Ox {xs : Array Keyed} {i j : Nat} (hj : j ≤ xs.size) (he : ∀ k, i ≤ k → k < j → rk g xs k = rk g xs (j - 1)) (k : Nat) : rk g (mirror xs i j ((j - i) / 2)) k = rk g xs k := by
  rw [HS hj]
  split
  · rw [he _ (by omega) (by omega), he k (by omega) (by omega)]
  · rfl
theorem Fal.congr {f f' : Nat → Int} {lo hi : Nat} (h : Fal f lo hi) (e : ∀ k, f' k = f k) : Fal f' lo hi := fun i j a b c => by rw [e, e]; exact h i j a b c
theorem Fal.more {f : Nat → Int} {lo n : Nat} (h1 : 1 ≤ n) (h : Fal f lo (lo + n)) (e : f (lo + n) ≤ f (lo + n - 1)) : Fal f lo (lo + (n + 1)) := fun i j a b c => by
  by_cases hj : j < lo + n
  · exact h i j a b hj
  · rw [show j = lo + n by omega]
    by_cases hi : i = lo + n
    · rw [hi]; exact Int.le_refl _
    · exact Int.le_trans e (h i (lo + n - 1) a (by omega) (by omega))
theorem Qp {st st0 : SortSt} {lo n nrem : Nat} {Q : Option Nat → SortSt → Prop} (hc : Cmp prog w A E s a₀ κ g) (hC : Ch g a₀ κ lo (lo + nrem) st0 st) (hn : lo + nrem ≤ a₀.size) (h1 : 1 ≤ n) (hnn : n + 1 ≤ nrem) (hs : Fal (rk g (arrOf st)) lo (lo + (n + 1)))
    (h : AaO g a₀ κ lo nrem st0 Q) : wpS (model prog w) A E s (do
      let mut n := n
      rule "list.sort.descending-run"
      n := n + 1
      let mut neq := 0
      for _ in [n:nrem] do
        let some smaller ← ltAt' (lo + n) (lo + n - 1) | return none
        if smaller then
          if neq > 0 then reverseSlice' (lo + n - (neq + 1)) (lo + n)
          neq := 0
        else
          let some larger ← ltAt' (lo + n - 1) (lo + n) | return none
          if larger then break
          neq := neq + 1
        n := n + 1
      if neq > 0 then reverseSlice' (lo + n - (neq + 1)) (lo + n)
      reverseSlice' lo (lo + n)
      for _ in [n:nrem] do
        let some smaller ← ltAt' (lo + n) (lo + n - 1) | return none
        if smaller then break
        n := n + 1
      return some n) Q st := by
  refine wpS_bind (wpS_lift (wpAny_rule ⟨rfl, ?_⟩))
  dsimp only
  have eq0 : ∀ (f : Nat → Int) x, 1 ≤ x → ∀ i, lo + x - (0 + 1) ≤ i → i < lo + x → f i = f (lo + x - 1) := fun f x hx i h1 h2 => by rw [show i = lo + x - 1 by omega]
  refine wpS_bind (wpS_mono (wpS_forRange (I := fun x c st' => ∃ q, c = (none, x, q) ∧ Ch g a₀ κ lo (lo + nrem) st0 st' ∧ Fal (rk g (arrOf st')) lo (lo + x) ∧ q + 1 ≤ x ∧ ∀ i, lo + x - (q + 1) ≤ i → i < lo + x → rk g (arrOf st') i = rk g (arrOf st') (lo + x - 1))
    (Q := fun c st' => ∃ x q, c = (none, x, q) ∧ 1 ≤ x ∧ x ≤ nrem ∧ Ch g a₀ κ lo (lo + nrem) st0 st' ∧ Fal (rk g (arrOf st')) lo (lo + x) ∧ q + 1 ≤ x ∧ ∀ i, lo + x - (q + 1) ≤ i → i < lo + x → rk g (arrOf st') i = rk g (arrOf st') (lo + x - 1)) ?step ?fin ⟨0, rfl, hC, hs, by omega, eq0 _ _ (by omega)⟩) ?post)
  case fin =>
    rintro c st' ⟨q, rfl, hC', hs', hq, he⟩
    rw [show max (n + 1) nrem = nrem by omega] at hs' hq he ⊢
    exact ⟨nrem, q, rfl, by omega, Nat.le_refl _, hC', hs', hq, he⟩
  case post =>
    rintro c st' ⟨x, q, rfl, x1, x2, hC', hs', hq, he⟩
    dsimp only
    have hsz : lo + x ≤ (arrOf st').size := by rw [hC'.tb.size]; omega
    refine Az (fun _ => ?_) fun _ => QF hc hC' hn x1 x2 hs' h
    exact wpS_bind (wpS_reverse (QF hc (hC'.trans (Ch.mirror hC'.tb (by omega) (by omega) (by omega))) hn x1 x2 (hs'.congr (Ox hsz he)) h))
  case step =>
    rintro x c st' hax hxn ⟨q, rfl, hC', hs', hq, he⟩
    dsimp only
    have hsz : lo + x ≤ (arrOf st').size := by rw [hC'.tb.size]; omega
    refine wpS_bind (Gm hc hC'.tb (by omega) (by omega) ?_)
    dsimp only
    by_cases hl : rk g (arrOf st') (lo + x) < rk g (arrOf st') (lo + x - 1)
    · rw [if_pos (decide_eq_true hl)]
      refine Az (fun _ => ?_) fun _ => wpS_pure ⟨0, rfl, hC', hs'.more (by omega) (by omega), by omega, eq0 _ _ (by omega)⟩
      exact wpS_bind (wpS_reverse (wpS_pure ⟨0, rfl, hC'.trans (Ch.mirror hC'.tb (by omega) (by omega) (by omega)), (hs'.more (by omega) (by omega)).congr (Ox hsz he), by omega, eq0 _ _ (by omega)⟩))
    · rw [if_neg (by simpa using hl)]
      refine wpS_bind (Gm hc hC'.tb (by omega) (by omega) ?_)
      dsimp only
      by_cases hg : rk g (arrOf st') (lo + x - 1) < rk g (arrOf st') (lo + x)
      · rw [if_pos (decide_eq_true hg)]
        exact wpS_pure ⟨x, q, rfl, by omega, by omega, hC', hs', hq, he⟩
      · rw [if_neg (by simpa using hg)]
        have ex : rk g (arrOf st') (lo + x) = rk g (arrOf st') (lo + x - 1) := by omega
        refine wpS_pure ⟨q + 1, rfl, hC', hs'.more (by omega) (by omega), by omega, fun i h1 h2 => ?_⟩
        rw [show lo + (x + 1) - 1 = lo + x by omega, ex]
        by_cases hi : i = lo + x
        · rw [hi, ex]
        · exact he i (by omega) (by omega)
theorem M7 {st : SortSt} {lo nrem : Nat} {Q : Option Nat → SortSt → Prop} (hc : Cmp prog w A E s a₀ κ g) (hB : TB a₀ κ st) (hn : lo + nrem ≤ a₀.size) (h1 : 1 ≤ nrem) (h : AaO g a₀ κ lo nrem st Q) :
    wpS (model prog w) A E s (countRun' lo nrem) Q st := by
  rw [countRun'_eq]
  refine wpS_bind (Tz hc hB hn (Nat.le_refl 1) h1 (fun i j a b c => by rw [show i = j by omega]; exact Int.le_refl _) fun n n1 n2 hs hor => ?_)
  dsimp only
  refine Az (fun e => wpS_pure (h n st (.refl hB) n1 n2 hs)) fun e => ?_
  have e : ¬ n = nrem := by simpa using e
  have hl := hor.resolve_left e
  refine Az (fun e1 => ?_) fun e1 => ?_
  · refine wpS_bind (Gm hc hB (by omega) (by omega) ?_)
    dsimp only
    by_cases hr : rk g (arrOf st) lo < rk g (arrOf st) (lo + n - 1)
    · rw [if_pos (decide_eq_true hr)]
      exact wpS_pure (h n st (.refl hB) n1 n2 hs)
    · rw [if_neg (by simpa using hr)]
      have hsz : lo + n ≤ (arrOf st).size := by rw [hB.size]; omega
      have hall : ∀ k, lo ≤ k → k < lo + n → rk g (arrOf st) k = rk g (arrOf st) (lo + n - 1) := fun k h3 h4 => by
        have a1 := hs lo k (by omega) h3 h4
        have a2 := hs k (lo + n - 1) h3 (by omega) (by omega)
        omega
      refine wpS_bind (wpS_reverse (Qp hc (Ch.mirror hB (by omega) (by omega) (by omega)) hn n1 (by omega) (Fal.congr ?_ (Ox hsz hall)) h))
      exact Fal.more n1 (fun i j a b c => by rw [hall i a (by omega), hall j (by omega) c]; exact Int.le_refl _) (by omega)
  · refine Qp hc (.refl hB) hn n1 (by omega) (Fal.more n1 (fun i j a b c => ?_) (by omega)) h
    rw [show i = j by omega]; exact Int.le_refl _
theorem VJ {xs : Array Keyed} {src d : Nat} (hs : src < xs.size) (hd : d ≤ src) (k : Nat) :
    rk g (bubble xs src d) k = if k = src - d then rk g xs src else if src - d < k ∧ k ≤ src then rk g xs (k - 1) else rk g xs k := by
  have e := getElem?_bubble hs d hd k
  by_cases h1 : k = src - d
  · rw [if_pos h1] at e ⊢; exact Gk e
  · rw [if_neg h1] at e ⊢
    by_cases h2 : src - d < k ∧ k ≤ src
    · rw [if_pos h2] at e ⊢; exact Gk e
    · rw [if_neg h2] at e ⊢; exact Gk e
theorem Ko {st : SortSt} {lo n ok : Nat} {Q : Bool → SortSt → Prop} (hc : Cmp prog w A E s a₀ κ g) (hB : TB a₀ κ st) (hn : lo + n ≤ a₀.size) (hok : ok ≤ n) (hs : Ris (rk g (arrOf st)) lo (lo + ok))
    (h : ∀ st', Ch g a₀ κ lo (lo + n) st st' → Ris (rk g (arrOf st')) lo (lo + n) → Q true st') : wpS (model prog w) A E s (binarySort' lo n ok) Q st := by
  rw [binarySort'_eq]
  refine wpS_bind (wpS_mono (wpS_forRange (I := fun k c st' => c = (none, ()) ∧ Ch g a₀ κ lo (lo + n) st st' ∧ Ris (rk g (arrOf st')) lo (lo + min k n))
    (Q := fun c st' => c = (none, ()) ∧ Ch g a₀ κ lo (lo + n) st st' ∧ Ris (rk g (arrOf st')) lo (lo + n)) ?step ?fin ?init) ?post)
  case post =>
    rintro c st' ⟨rfl, hC, hs'⟩
    exact wpS_pure (h st' hC hs')
  case init =>
    refine ⟨rfl, .refl hB, fun i j a b c => ?_⟩
    by_cases h1 : ok = 0
    · rw [show i = j by omega]; exact Int.le_refl _
    · exact hs i j a b (by omega)
  case fin =>
    rintro c st' ⟨hc', hC, hs'⟩
    refine ⟨hc', hC, ?_⟩
    rwa [show min (max (max ok 1) n) n = n by omega] at hs'
  case step =>
    rintro k c st' hak hkn ⟨rfl, hC, hs'⟩
    rw [show min k n = k by omega] at hs'
    refine wpS_bind (wpS_mono (wpS_forRange (I := fun x c st'' => st'' = st' ∧ ∃ l r, c = (none, l, r) ∧ l ≤ r ∧ r ≤ k ∧ r - l ≤ k - x ∧
        (∀ i, lo ≤ i → i < lo + l → rk g (arrOf st') i ≤ rk g (arrOf st') (lo + k)) ∧ (∀ i, lo + r ≤ i → i < lo + k → rk g (arrOf st') (lo + k) < rk g (arrOf st') i))
      (Q := fun c st'' => st'' = st' ∧ ∃ l r, c = (none, l, r) ∧ l ≤ k ∧
        (∀ i, lo ≤ i → i < lo + l → rk g (arrOf st') i ≤ rk g (arrOf st') (lo + k)) ∧ (∀ i, lo + l ≤ i → i < lo + k → rk g (arrOf st') (lo + k) < rk g (arrOf st') i)) ?istep ?ifin ?iinit) ?ipost)
    case iinit => exact ⟨rfl, 0, k, rfl, by omega, by omega, by omega, fun i h1 h2 => by omega, fun i h1 h2 => by omega⟩
    case ifin =>
      rintro c st'' ⟨rfl, l, r, rfl, hlr, hrk, hm, h1, h2⟩
      obtain rfl : l = r := by omega
      exact ⟨rfl, l, l, rfl, hrk, h1, h2⟩
    case istep =>
      rintro x c st'' _ hxk ⟨rfl, l, r, rfl, hlr, hrk, hm, h1, h2⟩
      dsimp only
      refine Az (fun e => ?_) fun e => ?_
      · obtain rfl : l = r := by omega
        exact wpS_pure ⟨rfl, l, l, rfl, hrk, h1, h2⟩
      · refine wpS_bind (Gm hc hC.tb (by omega) (by omega) ?_)
        dsimp only
        by_cases hl : rk g (arrOf st'') (lo + k) < rk g (arrOf st'') (lo + (l + r) / 2)
        · rw [if_pos (decide_eq_true hl)]
          exact wpS_pure ⟨rfl, l, (l + r) / 2, rfl, by omega, by omega, by omega, h1, fun i h3 h4 => Int.lt_of_lt_of_le hl (hs' _ _ (by omega) h3 h4)⟩
        · rw [if_neg (by simpa using hl)]
          exact wpS_pure ⟨rfl, (l + r) / 2 + 1, r, rfl, by omega, by omega, by omega, fun i h3 h4 => Int.le_trans (hs' i (lo + (l + r) / 2) h3 (by omega) (by omega)) (by omega), h2⟩
    case ipost =>
      rintro c st'' ⟨rfl, l, r, rfl, hlk, h1, h2⟩
      show wpS _ _ _ _ (do moveDown' (lo + k) (lo + l); pure (ForInStep.yield (none, ()))) _ _
      rw [moveDown'_eq]
      have hks : lo + k < (arrOf st'').size := by rw [hC.tb.size]; omega
      have eb := VJ (g := g) hks (d := lo + k - (lo + l)) (by omega)
      rw [show lo + k - (lo + k - (lo + l)) = lo + l by omega] at eb
      refine wpS_bind (wpS_modify (wpS_pure ⟨rfl, hC.trans ⟨hC.tb.setArr (bubble_perm _ _ _), rfl, fun i hi => ?_⟩, ?_⟩))
      · show rk g (bubble (arrOf st'') (lo + k) (lo + k - (lo + l))) i = _
        rw [eb, if_neg (by omega), if_neg (by omega)]
      · rw [show min (k + 1) n = k + 1 by omega]
        intro i j h3 h4 h5
        show rk g (bubble (arrOf st'') (lo + k) (lo + k - (lo + l))) i ≤ rk g (bubble (arrOf st'') (lo + k) (lo + k - (lo + l))) j
        rw [eb, eb]
        repeat' split
        all_goals first
          | (exfalso; omega)
          | exact Int.le_refl _
          | exact h1 _ (by omega) (by omega)
          | exact Int.le_of_lt (h2 _ (by omega) (by omega))
          | exact hs' _ _ (by omega) (by omega) (by omega)
end
section
variable {prog : Program} {w : World} {A : Around} {E : Value → Shared → Prop} {s : Shared} {a₀ : Array Keyed} {κ : SortKind} {g : Keyed → Int}
theorem QW (i : Nat) : mergeAt' i = (do
  let s ← get
  let (some (sa, na, power), some (sb, nb, _)) := ((pendingOf s)[i]?, (pendingOf s)[i + 1]?) | unsupported "internal:list.sort.pending"
  set (setPending s (((pendingOf s).setIfInBounds i (sa, na + nb, power)).eraseIdxIfInBounds (i + 1)))
  let some k ← Dr false (← elem' (arrOf s) sb) (arrOf s) sa na 0 | return false
  let (sa, na) := (sa + k, na - k)
  if na == 0 then return true
  let some nb ← Dr true (← elem' (arrOf s) (sa + na - 1)) (arrOf s) sb nb (nb - 1) | return false
  if nb == 0 then return true
  let x := (arrOf s).extract sa sb
  let y := (arrOf s).extract sb (sb + nb)
  let merged ← if na ≤ nb then Ml x y else K6 x y
  modify fun s => setArr s (merged.toList.zipIdx.foldl (fun a (p, j) => a.setIfInBounds (sa + j) p) (arrOf s))
  return (failedOf (← get)).isNone) := rfl
theorem YS {st st' : SortSt} {Q : PUnit → SortSt → Prop} (h : Q ⟨⟩ st') : wpS (model prog w) A E s (set st' : StateT SortSt Sem PUnit) Q st := by
  unfold wpS; rw [StateT.run_set]; exact wpAny_pure ⟨rfl, h⟩
noncomputable abbrev Run := Nat × Nat × Nat
noncomputable def Runs (f : Nat → Int) : List Run → Nat → Nat → Prop
  | [], lo, hi => lo = hi
  | r :: l, lo, hi => r.1 = lo ∧ 1 ≤ r.2.1 ∧ Ris f lo (lo + r.2.1) ∧ Runs f l (lo + r.2.1) hi
theorem Runs.le {f : Nat → Int} : ∀ {l : List Run} {lo hi : Nat}, Runs f l lo hi → lo + l.length ≤ hi
  | [], _, _, h => by cases h; exact Nat.le_refl _
  | r :: l, lo, hi, ⟨_, h1, _, h2⟩ => by have := h2.le; rw [List.length_cons]; omega
theorem Runs.append {f : Nat → Int} : ∀ {l l' : List Run} {lo mid hi : Nat}, Runs f l lo mid → Runs f l' mid hi → Runs f (l ++ l') lo hi
  | [], _, _, _, _, h, h' => by cases h; exact h'
  | _ :: _, _, _, _, _, ⟨a, b, c, d⟩, h' => ⟨a, b, c, d.append h'⟩
theorem Runs.cut {f : Nat → Int} : ∀ {l l' : List Run} {lo hi : Nat}, Runs f (l ++ l') lo hi → ∃ mid, Runs f l lo mid ∧ Runs f l' mid hi
  | [], _, lo, _, h => ⟨lo, rfl, h⟩
  | _ :: _, _, _, _, ⟨a, b, c, d⟩ => by obtain ⟨m, h1, h2⟩ := d.cut; exact ⟨m, ⟨a, b, c, h1⟩, h2⟩
theorem Ris.congr {f f' : Nat → Int} {lo hi : Nat} (h : Ris f lo hi) (e : ∀ k, lo ≤ k → k < hi → f' k = f k) : Ris f' lo hi := fun i j a b c => by rw [e i a (by omega), e j (by omega) c]; exact h i j a b c
theorem Runs.congr {f f' : Nat → Int} : ∀ {l : List Run} {lo hi : Nat}, Runs f l lo hi → (∀ k, lo ≤ k → k < hi → f' k = f k) → Runs f' l lo hi
  | [], _, _, h, _ => h
  | _ :: _, _, _, ⟨a, b, c, d⟩, e => ⟨a, b, c.congr fun k h1 h2 => e k h1 (by have := d.le; omega), d.congr fun k h1 h2 => e k (by omega) h2⟩
theorem Qv : ∀ (l : List Keyed) (m sa : Nat) (arr : Array Keyed), sa + m + l.length ≤ arr.size → ((l.zipIdx m).foldl (fun a (p, j) => a.setIfInBounds (sa + j) p) arr).toList = arr.toList.take (sa + m) ++ l ++ arr.toList.drop (sa + m + l.length)
  | [], m, sa, arr, _ => by simp
  | p :: l, m, sa, arr, h => by
    rw [List.length_cons] at h
    rw [List.zipIdx_cons, List.foldl_cons, Qv l (m + 1) sa _ (by rw [Array.size_setIfInBounds]; omega), Array.toList_setIfInBounds]
    have hl : sa + m < arr.toList.length := by rw [Array.length_toList]; omega
    have e : arr.toList.set (sa + m) p = (arr.toList.take (sa + m) ++ [p]) ++ arr.toList.drop (sa + m + 1) := by
      rw [List.set_eq_take_append_cons_drop, if_pos hl, List.append_assoc]; rfl
    have el : (arr.toList.take (sa + m) ++ [p]).length = sa + (m + 1) := by
      rw [List.length_append, List.length_take, List.length_singleton]; omega
    rw [e, ← el, List.take_left, el, List.length_cons, List.drop_append, List.drop_eq_nil_of_le (by rw [el]; omega), List.drop_drop, el]
    simp only [List.nil_append, List.append_assoc, List.singleton_append]
    congr 3
    omega
theorem JR {xs : Array Keyed} {i : Nat} : rk g xs i = (xs.toList[i]?).elim 0 g := by
  unfold rk; rw [Array.getElem?_toList]; cases xs[i]? <;> rfl
theorem PJ {xs : Array Keyed} {l : List Keyed} (e : xs.toList = l) (i : Nat) : rk g xs i = (l[i]?).elim 0 g := by rw [JR, e]
theorem VR {xs : Array Keyed} {k m i : Nat} (h : k + i < m) (hm : m ≤ xs.size) : rk g (xs.extract k m) i = rk g xs (k + i) := by
  refine Gk ?_
  rw [Array.getElem?_extract, if_pos (by omega)]
theorem Uo {arr : Array Keyed} (h : Ris (rk g arr) 0 arr.size) : arr.toList.Pairwise (leG g) := by
  rw [List.pairwise_iff_getElem]
  intro i j hi hj hij
  rw [Array.length_toList] at hi hj
  have := h i j (by omega) (by omega) hj
  rw [Cy hi, Cy hj] at this
  simpa [leG] using this
theorem TV {arr : Array Keyed} {k m : Nat} {p : Keyed} (h : p ∈ arr.extract k m) : p ∈ arr := by
  rw [← Array.mem_toList_iff, Array.toList_extract, List.extract_eq_take_drop] at h
  exact Array.mem_toList_iff.mp (List.mem_of_mem_drop (List.mem_of_mem_take h))
theorem Vp {xs : Array Run} {l1 l2 : List Run} {a b v : Run} (e : xs.toList = l1 ++ a :: b :: l2) : ((xs.setIfInBounds l1.length v).eraseIdxIfInBounds (l1.length + 1)).toList = l1 ++ v :: l2 := by
  have e2 : (xs.setIfInBounds l1.length v).toList = l1 ++ v :: b :: l2 := by
    rw [Array.toList_setIfInBounds, e]; simp
  have hs : l1.length + 1 < (xs.setIfInBounds l1.length v).size := by rw [← Array.length_toList, e2]; simp
  rw [Array.eraseIdxIfInBounds, dif_pos hs, Array.toList_eraseIdx, e2, List.eraseIdx_append_of_length_le (by omega)]
  simp
theorem Hh {i hi : Nat} {st : SortSt} {Q : Bool → SortSt → Prop} (hc : Cmp prog w A E s a₀ κ g) (hB : TB a₀ κ st) (hr : Runs (rk g (arrOf st)) (pendingOf st).toList 0 hi) (hi2 : i + 1 < (pendingOf st).size) (hhi : hi ≤ a₀.size)
    (h : ∀ st', TB a₀ κ st' → Runs (rk g (arrOf st')) (pendingOf st').toList 0 hi → (pendingOf st').size + 1 = (pendingOf st).size → (∀ k, hi ≤ k → rk g (arrOf st') k = rk g (arrOf st) k) → Q true st') :
    wpS (model prog w) A E s (mergeAt' i) Q st := by
  rw [QW]
  refine wpS_bind (wpS_get ?_)
  obtain ⟨l1, a, b, l2, el, e1⟩ : ∃ (l1 : List Run) (a b : Run) (l2 : List Run), (pendingOf st).toList = l1 ++ a :: b :: l2 ∧ l1.length = i := by
    have hl : i + 1 < (pendingOf st).toList.length := by rw [Array.length_toList]; exact hi2
    refine ⟨(pendingOf st).toList.take i, (pendingOf st).toList[i], (pendingOf st).toList[i + 1], (pendingOf st).toList.drop (i + 2), ?_, by rw [List.length_take]; omega⟩
    conv => lhs; rw [← List.take_append_drop i (pendingOf st).toList]
    rw [List.drop_eq_getElem_cons (by omega), List.drop_eq_getElem_cons (by omega)]
  subst e1
  obtain ⟨sa, na, pa⟩ := a
  obtain ⟨sb, nb, pb⟩ := b
  have ga : (pendingOf st)[l1.length]? = some (sa, na, pa) := by rw [← Array.getElem?_toList, el]; simp
  have gb : (pendingOf st)[l1.length + 1]? = some (sb, nb, pb) := by rw [← Array.getElem?_toList, el]; simp
  rw [ga, gb]
  dsimp only
  have ep := Vp (v := (sa, na + nb, pa)) el
  rw [el] at hr
  obtain ⟨m0, r1, q1, p1, u1, q2, p2, u2, r2⟩ := hr.cut
  obtain rfl : sa = m0 := q1
  obtain rfl : sb = sa + na := q2
  dsimp only at p1 p2 u1 u2 r2
  have le1 := r1.le
  have le2 := r2.le
  have hsz := hB.size
  have fin : ∀ st', TB a₀ κ st' → pendingOf st' = ((pendingOf st).setIfInBounds l1.length (sa, na + nb, pa)).eraseIdxIfInBounds (l1.length + 1) → (∀ k, k < sa ∨ sa + na + nb ≤ k → rk g (arrOf st') k = rk g (arrOf st) k) → Ris (rk g (arrOf st')) sa (sa + na + nb) → Q true st' := fun st' t1 t2 t3 t4 => by
    refine h st' t1 ?_ ?_ fun k hk => t3 k (by omega)
    · rw [t2, ep]
      refine (r1.congr fun k _ h2 => t3 k (.inl h2)).append ⟨rfl, by dsimp only; omega, ?_, ?_⟩
      · dsimp only; rw [← Nat.add_assoc]; exact t4
      · dsimp only; rw [← Nat.add_assoc]; exact r2.congr fun k h1 _ => t3 k (.inr h1)
    · rw [← Array.length_toList, t2, ep, ← Array.length_toList, el]; simp; omega
  refine wpS_bind (YS ?_)
  refine wpS_bind (Bf (by omega) ?_)
  have st1 : ∀ p, TB a₀ κ (setPending st p) := fun p => ⟨hB.perm, hB.kind, hB.failed⟩
  have all : ∀ p ∈ arrOf st, p ∈ a₀ := fun p hp => hB.mem hp
  refine wpS_bind (Ei hc hB.kind (all _ (Array.getElem_mem (by omega))) all (by omega) (by omega) u1 fun k hcut => ?_)
  obtain ⟨k1, k2, k3⟩ := hcut
  have k2 : ∀ i, sa ≤ i → i < sa + k → rk g (arrOf st) i ≤ rk g (arrOf st) (sa + na) := fun i h1 h2 => by
    have := k2 (i - sa) (by omega)
    rw [Cy (show sa + na < (arrOf st).size by omega)]
    dsimp only at this
    rw [show sa + (i - sa) = i by omega] at this
    simpa only [byd, Bool.false_eq_true, if_false, decide_eq_true_eq] using this
  have k3 : ∀ i, sa + k ≤ i → i < sa + na → rk g (arrOf st) (sa + na) ≤ rk g (arrOf st) i := fun i h1 h2 => by
    have := k3 (i - sa) (by omega) (by omega)
    rw [Cy (show sa + na < (arrOf st).size by omega)]
    dsimp only at this
    rw [show sa + (i - sa) = i by omega] at this
    simp only [byd, Bool.false_eq_true, if_false, decide_eq_false_iff_not] at this
    omega
  dsimp only
  refine Az (fun e => ?_) fun e => ?_
  · have e : na - k = 0 := by simpa using e
    refine wpS_pure (fin _ (st1 _) rfl (fun _ _ => rfl) fun i j h1 h2 h3 => ?_)
    show rk g (arrOf st) i ≤ rk g (arrOf st) j
    by_cases hj : j < sa + na
    · exact u1 i j h1 h2 hj
    · by_cases hi' : i < sa + na
      · exact Int.le_trans (k2 i h1 (by omega)) (u2 (sa + na) j (by omega) (by omega) (by omega))
      · exact u2 i j (by omega) h2 (by omega)
  have e : ¬ na - k = 0 := by simpa using e
  refine wpS_bind (Bf (by omega) ?_)
  refine wpS_bind (Ei hc hB.kind (all _ (Array.getElem_mem (by omega))) all (by omega) (by omega) u2 fun n2 hcut => ?_)
  obtain ⟨c1, c2, c3⟩ := hcut
  have ek : sa + k + (na - k) - 1 = sa + na - 1 := by omega
  have c2 : ∀ i, sa + na ≤ i → i < sa + na + n2 → rk g (arrOf st) i ≤ rk g (arrOf st) (sa + na - 1) := fun i h1 h2 => by
    have := c2 (i - (sa + na)) (by omega)
    rw [← ek, Cy (show sa + k + (na - k) - 1 < (arrOf st).size by omega)]
    dsimp only at this
    rw [show sa + na + (i - (sa + na)) = i by omega] at this
    simp only [byd, if_true, decide_eq_true_eq] at this
    omega
  have c3 : ∀ i, sa + na + n2 ≤ i → i < sa + na + nb → rk g (arrOf st) (sa + na - 1) ≤ rk g (arrOf st) i := fun i h1 h2 => by
    have := c3 (i - (sa + na)) (by omega) (by omega)
    rw [← ek, Cy (show sa + k + (na - k) - 1 < (arrOf st).size by omega)]
    dsimp only at this
    rw [show sa + na + (i - (sa + na)) = i by omega] at this
    simp only [byd, if_true, decide_eq_false_iff_not] at this
    omega
  dsimp only
  refine Az (fun e => ?_) fun e' => ?_
  · have e : n2 = 0 := by simpa using e
    refine wpS_pure (fin _ (st1 _) rfl (fun _ _ => rfl) fun i j h1 h2 h3 => ?_)
    show rk g (arrOf st) i ≤ rk g (arrOf st) j
    by_cases hj : j < sa + na
    · exact u1 i j h1 h2 hj
    · by_cases hi' : i < sa + na
      · exact Int.le_trans (u1 i (sa + na - 1) h1 (by omega) (by omega)) (c3 j (by omega) (by omega))
      · exact u2 i j (by omega) h2 (by omega)
  have e' : ¬ n2 = 0 := by simpa using e'
  have zx : ((arrOf st).extract (sa + k) (sa + na)).size = na - k := by rw [Array.size_extract]; omega
  have zy : ((arrOf st).extract (sa + na) (sa + na + n2)).size = n2 := by rw [Array.size_extract]; omega
  have rx : ∀ i, i < na - k → rk g ((arrOf st).extract (sa + k) (sa + na)) i = rk g (arrOf st) (sa + k + i) := fun i hi => VR (by omega) (by omega)
  have ry : ∀ i, i < n2 → rk g ((arrOf st).extract (sa + na) (sa + na + n2)) i = rk g (arrOf st) (sa + na + i) := fun i hi => VR (by omega) (by omega)
  have ux : Ris (rk g ((arrOf st).extract (sa + k) (sa + na))) 0 ((arrOf st).extract (sa + k) (sa + na)).size := fun i j h1 h2 h3 => by
    rw [rx i (by omega), rx j (by omega)]; exact u1 _ _ (by omega) (by omega) (by omega)
  have uy : Ris (rk g ((arrOf st).extract (sa + na) (sa + na + n2))) 0 ((arrOf st).extract (sa + na) (sa + na + n2)).size := fun i j h1 h2 h3 => by
    rw [ry i (by omega), ry j (by omega)]; exact u2 _ _ (by omega) (by omega) (by omega)
  have mx : ∀ p ∈ (arrOf st).extract (sa + k) (sa + na), p ∈ a₀ := fun p hp => all p (TV hp)
  have my : ∀ p ∈ (arrOf st).extract (sa + na) (sa + na + n2), p ∈ a₀ := fun p hp => all p (TV hp)
  have abL : ∀ j, j < ((arrOf st).extract (sa + na) (sa + na + n2)).size → rk g ((arrOf st).extract (sa + na) (sa + na + n2)) j ≤ rk g ((arrOf st).extract (sa + k) (sa + na)) (((arrOf st).extract (sa + k) (sa + na)).size - 1) := fun j hj => by
    rw [ry j (by omega), rx _ (by omega), show sa + k + (((arrOf st).extract (sa + k) (sa + na)).size - 1) = sa + na - 1 by omega]
    exact c2 _ (by omega) (by omega)
  have abH : ∀ j, j < ((arrOf st).extract (sa + k) (sa + na)).size → rk g ((arrOf st).extract (sa + na) (sa + na + n2)) 0 ≤ rk g ((arrOf st).extract (sa + k) (sa + na)) j := fun j hj => by
    rw [ry 0 (by omega), rx j (by omega)]
    exact k3 _ (by omega) (by omega)
  have last : ∀ out m, Mgd g ((arrOf st).extract (sa + k) (sa + na)) ((arrOf st).extract (sa + na) (sa + na + n2)) out → wpS (model prog w) A E s (do
      modify fun s => setArr s (out.toList.zipIdx.foldl (fun a (p, j) => a.setIfInBounds (sa + k + j) p) (arrOf s))
      return (failedOf (← get)).isNone) Q (Cp (setPending st (((pendingOf st).setIfInBounds l1.length (sa, na + nb, pa)).eraseIdxIfInBounds (l1.length + 1))) m) := fun out m ho => by
    refine wpS_bind (wpS_modify (wpS_bind (wpS_get (wpS_pure ?_))))
    have lo : out.toList.length = na - k + n2 := by
      rw [ho.1.length_eq, List.length_append, Array.length_toList, Array.length_toList, zx, zy]
    have et := Qv out.toList 0 (sa + k) (arrOf st) (by omega)
    rw [lo] at et
    generalize hnew : out.toList.zipIdx.foldl (fun a (p, j) => a.setIfInBounds (sa + k + j) p) (arrOf st) = new at et
    have hf : (failedOf st).isNone = true := by rw [hB.failed]; rfl
    show Q (failedOf st).isNone _
    rw [hf]
    have lt : ((arrOf st).toList.take (sa + k)).length = sa + k := by rw [List.length_take, Array.length_toList]; omega
    have old : (arrOf st).toList = (arrOf st).toList.take (sa + k) ++ (((arrOf st).extract (sa + k) (sa + na)).toList ++ ((arrOf st).extract (sa + na) (sa + na + n2)).toList) ++ (arrOf st).toList.drop (sa + na + n2) := by
      rw [List.append_assoc, List.append_assoc, ← JD (by omega) (by omega), ← JD (by omega) (by omega), List.take_append_drop]
    have f1 : ∀ i, i < sa + k → rk g new i = rk g (arrOf st) i := fun i hi => by
      rw [PJ et, JR, List.append_assoc, List.getElem?_append_left (by rw [Nat.add_zero, lt]; exact hi), List.getElem?_take_of_lt (by omega)]
    have f3 : ∀ i, sa + na + n2 ≤ i → rk g new i = rk g (arrOf st) i := fun i hi => by
      rw [PJ et, JR, List.getElem?_append_right (by rw [List.length_append, Nat.add_zero, lt, lo]; omega), List.getElem?_drop, List.length_append, Nat.add_zero, lt, lo]
      congr 2; omega
    have f2 : ∀ i, sa + k ≤ i → i < sa + na + n2 → ∃ p, out.toList[i - (sa + k)]? = some p ∧ rk g new i = g p := fun i h1 h2 => by
      have hl : i - (sa + k) < out.toList.length := by omega
      refine ⟨out.toList[i - (sa + k)], List.getElem?_eq_getElem hl, ?_⟩
      rw [PJ et, List.append_assoc, List.getElem?_append_right (by rw [Nat.add_zero, lt]; exact h1), Nat.add_zero, lt, List.getElem?_append_left hl, List.getElem?_eq_getElem hl]
      rfl
    have f4 : ∀ i, sa + k ≤ i → i < sa + na + n2 → ∃ j, sa + k ≤ j ∧ j < sa + na + n2 ∧ rk g new i = rk g (arrOf st) j := fun i h1 h2 => by
      obtain ⟨p, hp, e⟩ := f2 i h1 h2
      rcases List.mem_append.mp (ho.1.mem_iff.mp (List.mem_of_getElem? hp)) with hm | hm
      · obtain ⟨j, j1, j2, _, ej⟩ := Ej (g := g) hm
        exact ⟨j, j1, by omega, e.trans ej.symm⟩
      · obtain ⟨j, j1, j2, _, ej⟩ := Ej (g := g) hm
        exact ⟨j, by omega, j2, e.trans ej.symm⟩
    refine fin _ ⟨?_, hB.kind, hB.failed⟩ rfl (fun i hi => ?_) fun i j h1 h2 h3 => ?_
    · show new.Perm a₀
      refine Array.Perm.trans (Array.perm_iff_toList_perm.mpr ?_) hB.perm
      rw [et, Nat.add_zero, show sa + k + (na - k + n2) = sa + na + n2 by omega]
      exact ((List.Perm.append_left _ ho.1).append_right _).trans (.of_eq old.symm)
    · show rk g new i = _
      rcases hi with hi | hi
      · exact f1 i (by omega)
      · exact f3 i (by omega)
    · show rk g new i ≤ rk g new j
      by_cases i1 : i < sa + k
      · rw [f1 i i1]
        by_cases j1 : j < sa + k
        · rw [f1 j j1]; exact u1 i j h1 h2 (by omega)
        · have key : ∀ j', sa + k ≤ j' → j' < sa + na + nb → rk g (arrOf st) i ≤ rk g (arrOf st) j' := fun j' a1 a2 => by
            by_cases a3 : j' < sa + na
            · exact u1 i j' h1 (by omega) a3
            · exact Int.le_trans (k2 i h1 i1) (u2 (sa + na) j' (by omega) (by omega) (by omega))
          by_cases j2 : j < sa + na + n2
          · obtain ⟨j', b1, b2, e⟩ := f4 j (by omega) j2
            rw [e]; exact key j' b1 (by omega)
          · rw [f3 j (by omega)]; exact key j (by omega) h3
      · by_cases i2 : i < sa + na + n2
        · by_cases j2 : j < sa + na + n2
          · obtain ⟨p, hp, ep⟩ := f2 i (by omega) i2
            obtain ⟨q, hq, eq⟩ := f2 j (by omega) j2
            rw [ep, eq]
            rcases Nat.lt_or_eq_of_le h2 with hl | rfl
            · have l1' : i - (sa + k) < out.toList.length := by omega
              have l2' : j - (sa + k) < out.toList.length := by omega
              have := List.pairwise_iff_getElem.mp ho.2 _ _ l1' l2' (by omega)
              rw [List.getElem?_eq_getElem l1'] at hp
              rw [List.getElem?_eq_getElem l2'] at hq
              rw [Option.some.inj hp, Option.some.inj hq] at this
              exact this
            · rw [hp] at hq; rw [Option.some.inj hq]; exact Int.le_refl _
          · obtain ⟨i', b1, b2, e⟩ := f4 i (by omega) i2
            rw [e, f3 j (by omega)]
            by_cases a3 : i' < sa + na
            · exact Int.le_trans (u1 i' (sa + na - 1) (by omega) (by omega) (by omega)) (c3 j (by omega) h3)
            · exact u2 i' j (by omega) (by omega) (by omega)
        · rw [f3 i (by omega), f3 j (by omega)]
          exact u2 i j (by omega) h2 (by omega)
  refine Az (fun _ => ?_) fun _ => ?_
  · exact wpS_bind (QL hc hB.kind ⟨mx, my, ux, uy, abL⟩ (by omega) (by omega) (Uo ux) (Uo uy) (abH 0 (by omega)) fun out m ho => last out m ho)
  · exact wpS_bind (QK hc hB.kind ⟨mx, my, ux, uy, abH⟩ (by omega) (by omega) (Uo ux) (Uo uy) (abL _ (by omega)) fun out m ho => last out m ho)
end
section
variable {prog : Program} {w : World} {A : Around} {E : Value → Shared → Prop} {s : Shared} {a₀ : Array Keyed} {κ : SortKind} {g : Keyed → Int}
theorem Runs.pw {f : Nat → Int} (v : Nat) : ∀ {l : List Run} {k lo hi : Nat}, Runs f l lo hi → Runs f (l.modify k fun r => (r.1, r.2.1, v)) lo hi
  | [], _, _, _, h => by rw [List.modify_nil]; exact h
  | r :: l, 0, _, _, ⟨a, b, c, d⟩ => by rw [List.modify_zero_cons]; exact ⟨a, b, c, d⟩
  | r :: l, k + 1, _, _, ⟨a, b, c, d⟩ => by rw [List.modify_succ_cons]; exact ⟨a, b, c, d.pw v⟩
theorem KZ : ∀ (f n r : Nat), 1 ≤ n → 1 ≤ minRun' f n r
  | 0, n, r, h => by show 1 ≤ n + r; omega
  | f + 1, n, r, h => by
    rw [minRun'_succ]
    split
    · omega
    · exact KZ f _ _ (by omega)
structure RS (g : Keyed → Int) (a₀ : Array Keyed) (κ : SortKind) (lo : Nat) (st : SortSt) : Prop where
  tb : TB a₀ κ st
  rs : Runs (rk g (arrOf st)) (pendingOf st).toList 0 lo
theorem M4 {st : SortSt} {Q : Unit → SortSt → Prop} (hc : Cmp prog w A E s a₀ κ g) (hB : TB a₀ κ st) (hp : pendingOf st = #[]) (h2 : 2 ≤ a₀.size)
    (h : ∀ st', TB a₀ κ st' → Ris (rk g (arrOf st')) 0 a₀.size → Q () st') : wpS (model prog w) A E s sortRuns' Q st := by
  rw [sortRuns'_eq]
  refine wpS_bind (wpS_get ?_)
  dsimp only
  rw [hB.size]
  generalize hmr : minRun' a₀.size a₀.size 0 = mr
  have mr1 : 1 ≤ mr := by rw [← hmr]; exact KZ _ _ _ (by omega)
  refine wpS_bind (wpS_mono (wpS_forRange (I := fun x c st' => ∃ lo, c = (none, lo) ∧ RS g a₀ κ lo st' ∧ lo ≤ a₀.size ∧ (x ≤ lo ∨ lo = a₀.size))
    (Q := fun c st' => c = (none, a₀.size) ∧ RS g a₀ κ a₀.size st') ?step ?fin ⟨0, rfl, ⟨hB, by rw [hp]; rfl⟩, by omega, by omega⟩) ?post)
  case fin =>
    rintro c st' ⟨lo, rfl, hR, l1, l2⟩
    obtain rfl : lo = a₀.size := by omega
    exact ⟨rfl, hR⟩
  case step =>
    rintro x c st' _ hx ⟨lo, rfl, hR, l1, l2⟩
    dsimp only
    refine Az (fun e => ?_) fun e => ?_
    · obtain rfl : lo = a₀.size := by omega
      exact wpS_pure ⟨rfl, hR⟩
    refine wpS_bind (M7 hc hR.tb (by omega) (by omega) fun n st2 hC n1 n2 hu => ?_)
    dsimp only
    refine Az (fun e1 => ?_) fun e1 => ?_
    · refine wpS_bind (wpS_lift (wpAny_rule ⟨rfl, ?_⟩))
      refine wpS_bind (Ko hc hC.tb (by omega) (by omega) hu fun st3 hC3 hu3 => ?_)
      simp only [Bool.not_true, Bool.false_eq_true, if_false]
      have hC := hC.trans ⟨hC3.tb, hC3.pend, fun k hk => hC3.out k (by omega)⟩
      have n1 : 1 ≤ min (a₀.size - lo) mr := by omega
      have n2 : min (a₀.size - lo) mr ≤ a₀.size - lo := by omega
      generalize min (a₀.size - lo) mr = n at *
      have hq : ∀ st4, RS g a₀ κ (lo + n) st4 → ∃ lo', ((none, lo + n) : Option Unit × Nat) = (none, lo') ∧ RS g a₀ κ lo' st4 ∧ lo' ≤ a₀.size ∧ (x + 1 ≤ lo' ∨ lo' = a₀.size) := fun st4 z => ⟨_, rfl, z, by omega, by omega⟩
      have hR2 : RS g a₀ κ lo st3 := ⟨hC.tb, by rw [hC.pend]; exact hR.rs.congr fun k _ h2 => hC.out k (.inl h2)⟩
      have push : ∀ st3, RS g a₀ κ lo st3 → Ris (rk g (arrOf st3)) lo (lo + n) → RS g a₀ κ (lo + n) (setPending st3 ((pendingOf st3).push (lo, n, 0))) := fun st3 r3 u3 => ⟨⟨r3.tb.perm, r3.tb.kind, r3.tb.failed⟩, by
        show Runs (rk g (arrOf st3)) ((pendingOf st3).push (lo, n, 0)).toList 0 (lo + n)
        rw [Array.toList_push]
        exact r3.rs.append ⟨rfl, n1, u3, rfl⟩⟩
      refine wpS_bind (wpS_get ?_)
      cases hb : (pendingOf st3).back? with
      | none => exact wpS_bind (wpS_modify (wpS_pure (hq _ (push _ hR2 hu3))))
      | some r =>
        obtain ⟨s1, m1, p0⟩ := r
        dsimp only
        refine wpS_bind (wpS_mono (wpS_forRange (I := fun _ c st3 => c = (none, ()) ∧ RS g a₀ κ lo st3 ∧ Ris (rk g (arrOf st3)) lo (lo + n)) (Q := fun c st3 => c = (none, ()) ∧ RS g a₀ κ lo st3 ∧ Ris (rk g (arrOf st3)) lo (lo + n)) ?istep (fun _ _ z => z) ⟨rfl, hR2, hu3⟩) ?ipost)
        case ipost =>
          rintro c st3 ⟨rfl, r3, u3⟩
          dsimp only
          refine wpS_bind (wpS_modify (wpS_bind (wpS_modify (wpS_pure (hq _ (push _ ⟨⟨r3.tb.perm, r3.tb.kind, r3.tb.failed⟩, ?_⟩ u3))))))
          show Runs (rk g (arrOf st3)) ((pendingOf st3).modify _ _).toList 0 lo
          rw [Array.toList_modify]
          exact r3.rs.pw _
        case istep =>
          rintro y c st3 _ hy ⟨rfl, r3, u3⟩
          refine wpS_bind (wpS_get ?_)
          by_cases hs : (pendingOf st3).size > 1
          · rw [if_pos hs, getElem?_pos (pendingOf st3) ((pendingOf st3).size - 2) (by omega)]
            dsimp only
            refine Az (fun _ => wpS_pure ⟨rfl, r3, u3⟩) fun _ => ?_
            refine wpS_bind (Hh hc r3.tb r3.rs (by omega) l1 fun st4 t1 t2 _ t4 => ?_)
            exact wpS_pure ⟨rfl, ⟨t1, t2⟩, u3.congr fun k h1 _ => t4 k h1⟩
          · rw [if_neg hs]
            exact wpS_pure ⟨rfl, r3, u3⟩
    · have hq : ∀ st4, RS g a₀ κ (lo + n) st4 → ∃ lo', ((none, lo + n) : Option Unit × Nat) = (none, lo') ∧ RS g a₀ κ lo' st4 ∧ lo' ≤ a₀.size ∧ (x + 1 ≤ lo' ∨ lo' = a₀.size) := fun st4 z => ⟨_, rfl, z, by omega, by omega⟩
      have hR2 : RS g a₀ κ lo st2 := ⟨hC.tb, by rw [hC.pend]; exact hR.rs.congr fun k _ h2 => hC.out k (.inl h2)⟩
      have push : ∀ st3, RS g a₀ κ lo st3 → Ris (rk g (arrOf st3)) lo (lo + n) → RS g a₀ κ (lo + n) (setPending st3 ((pendingOf st3).push (lo, n, 0))) := fun st3 r3 u3 => ⟨⟨r3.tb.perm, r3.tb.kind, r3.tb.failed⟩, by
        show Runs (rk g (arrOf st3)) ((pendingOf st3).push (lo, n, 0)).toList 0 (lo + n)
        rw [Array.toList_push]
        exact r3.rs.append ⟨rfl, n1, u3, rfl⟩⟩
      refine wpS_bind (wpS_get ?_)
      cases hb : (pendingOf st2).back? with
      | none => exact wpS_bind (wpS_modify (wpS_pure (hq _ (push _ hR2 hu))))
      | some r =>
        obtain ⟨s1, m1, p0⟩ := r
        dsimp only
        refine wpS_bind (wpS_mono (wpS_forRange (I := fun _ c st3 => c = (none, ()) ∧ RS g a₀ κ lo st3 ∧ Ris (rk g (arrOf st3)) lo (lo + n)) (Q := fun c st3 => c = (none, ()) ∧ RS g a₀ κ lo st3 ∧ Ris (rk g (arrOf st3)) lo (lo + n)) ?istep (fun _ _ z => z) ⟨rfl, hR2, hu⟩) ?ipost)
        case ipost =>
          rintro c st3 ⟨rfl, r3, u3⟩
          dsimp only
          refine wpS_bind (wpS_modify (wpS_bind (wpS_modify (wpS_pure (hq _ (push _ ⟨⟨r3.tb.perm, r3.tb.kind, r3.tb.failed⟩, ?_⟩ u3))))))
          show Runs (rk g (arrOf st3)) ((pendingOf st3).modify _ _).toList 0 lo
          rw [Array.toList_modify]
          exact r3.rs.pw _
        case istep =>
          rintro y c st3 _ hy ⟨rfl, r3, u3⟩
          refine wpS_bind (wpS_get ?_)
          by_cases hs : (pendingOf st3).size > 1
          · rw [if_pos hs, getElem?_pos (pendingOf st3) ((pendingOf st3).size - 2) (by omega)]
            dsimp only
            refine Az (fun _ => wpS_pure ⟨rfl, r3, u3⟩) fun _ => ?_
            refine wpS_bind (Hh hc r3.tb r3.rs (by omega) l1 fun st4 t1 t2 _ t4 => ?_)
            exact wpS_pure ⟨rfl, ⟨t1, t2⟩, u3.congr fun k h1 _ => t4 k h1⟩
          · rw [if_neg hs]
            exact wpS_pure ⟨rfl, r3, u3⟩
  case post =>
    rintro c st' ⟨rfl, hR⟩
    dsimp only
    refine wpS_bind (wpS_mono (wpS_forRange (I := fun x c st3 => c = (none, ()) ∧ RS g a₀ κ a₀.size st3 ∧ ((pendingOf st3).size ≤ 1 ∨ (pendingOf st3).size + x ≤ a₀.size)) (Q := fun c st3 => c = (none, ()) ∧ RS g a₀ κ a₀.size st3 ∧ (pendingOf st3).size ≤ 1) ?fstep ?ffin ⟨rfl, hR, .inr ?finit⟩) ?fpost)
    case finit => have := hR.rs.le; rw [Array.length_toList] at this; omega
    case ffin =>
      rintro c st3 ⟨rfl, r3, h3⟩
      exact ⟨rfl, r3, by omega⟩
    case fpost =>
      rintro c st3 ⟨rfl, r3, h3⟩
      refine wpS_pure (h st3 r3.tb ?_)
      have r := r3.rs
      rw [← Array.length_toList] at h3
      match hl : (pendingOf st3).toList, h3, r with
      | [], _, r => exact absurd r (by show ¬ 0 = a₀.size; omega)
      | [x], _, ⟨_, _, u, e⟩ =>
        have e : 0 + x.2.1 = a₀.size := e
        rw [e] at u; exact u
      | _ :: _ :: _, h3, _ => exact absurd h3 (by simp)
    case fstep =>
      rintro y c st3 _ hy ⟨rfl, r3, h3⟩
      refine wpS_bind (wpS_get ?_)
      refine Az (fun e => wpS_pure ⟨rfl, r3, e⟩) fun e => ?_
      refine wpS_bind (Hh hc r3.tb r3.rs ?_ (Nat.le_refl _) fun st4 t1 t2 t3 _ => wpS_pure ⟨rfl, ⟨t1, t2⟩, by omega⟩)
      generalize Option.any _ _ = bb
      cases bb <;> simp only [Bool.false_eq_true, if_false, if_true] <;> omega
end
section
variable {prog : Program} {w : World} {A : Around} {E : Value → Shared → Prop} {s : Shared}
theorem MK {a : Addr} {vs : List Value} {n : Nat} {κ : SortKind} {g : Keyed → Int} {P : PySem.Fin → Shared → Prop} (ho : s.heap.get? a = some (seqObj "list" vs.toArray n)) (hz : vs.length ≤ 20000)
    (hk : ∀ h' : Heap, But a s.heap h' → 2 ≤ vs.length → ∀ Q : SortKind → Shared → Prop, Q κ { s with heap := h' } → wpAny (model prog w) A (keyKind' vs.toArray) Q (fun _ _ => False) { s with heap := h' })
    (hl : ∀ h' : Heap, But a s.heap h' → Cmp prog w A E { s with heap := h' } (vs.toArray.zip vs.toArray) κ g)
    (fin : ∀ (h' : Heap) (c : Nat) (arr : Array Keyed), But a s.heap h' → arr.Perm (vs.toArray.zip vs.toArray) → Ris (rk g arr) 0 vs.length → h'.get? a = some (seqObj "list" (arr.map (·.2)) c) → P (.done (.ret .none)) { s with heap := h' }) :
    wpAny (model prog w) A (Builtin.«list.sort» ⟨[.ref a], []⟩) P E s := by
  have la : a < s.heap.objs.size := Heap.lt_size ho
  have sl : vs.length ≤ sizeLine := by rw [sizeLine_eq]; omega
  obtain ⟨c1, g1⟩ : ∃ c, (s.heap.update a (Obj.mapSeq fun _ => (#[] : Array Value))).get? a = some (seqObj "list" #[] c) := ⟨_, get?_update_seq ho fun _ => #[]⟩
  obtain ⟨h3, e3⟩ : ∃ h3, h3 = ((s.heap.update a (Obj.mapSeq fun _ => (#[] : Array Value))).push (seqObj "tuple" vs.toArray 0)).push (seqObj "list" #[] 0) := ⟨_, rfl⟩
  have g3 : h3.get? a = some (seqObj "list" #[] c1) := by rw [e3]; exact Heap.get?_push_of_some _ (Heap.get?_push_of_some _ g1)
  have k3 : But a s.heap h3 := fun b o ne e => by
    rw [e3]
    exact Heap.get?_push_of_some _ (Heap.get?_push_of_some _ ((Heap.get?_update_other _ _ (Ne.symm ne)).trans e))
  have zl : (vs.toArray.zip vs.toArray).size = vs.length := by simp
  have last : ∀ arr : Array Keyed, arr.Perm (vs.toArray.zip vs.toArray) → Ris (rk g arr) 0 vs.length → ∃ c2, (h3.update a (Obj.mapSeq fun _ => arr.map (·.2))).get? a = some (seqObj "list" (arr.map (·.2)) c2) ∧ P (.done (.ret .none)) { s with heap := h3.update a (Obj.mapSeq fun _ => arr.map (·.2)) } := fun arr pa ra => by
    obtain ⟨c2, gg⟩ : ∃ c, (h3.update a (Obj.mapSeq fun _ => arr.map (·.2))).get? a = some (seqObj "list" (arr.map (·.2)) c) := ⟨_, get?_update_seq g3 fun _ => arr.map (·.2)⟩
    exact ⟨c2, gg, fin _ c2 arr (fun b o ne e => (Heap.get?_update_other _ _ (Ne.symm ne)).trans (k3 b o ne e)) pa ra gg⟩
  rw [list_sort_plain]
  refine wpAny_bind (listItems_at ho rfl (wpAny_bind (listUpdate_at ho rfl ?_ (by rw [List.size_toArray]; exact sl) (Nat.zero_le _))))
  refine wpAny_bind (seqEpoch_at g1 rfl (wpAny_bind (wpAny_newTuple ?_ (by show vs.length ≤ _; exact sl))))
  refine wpAny_bind (wpAny_newList (wpAny_holding ?_) (Nat.zero_le _))
  show wpAny (model prog w) A _ P E { s with heap := ((s.heap.update a (Obj.mapSeq fun _ => (#[] : Array Value))).push (seqObj "tuple" vs.toArray 0)).push (seqObj "list" #[] 0) }
  rw [← e3]
  dsimp only
  have close : ∀ arr : Array Keyed, arr.Perm (vs.toArray.zip vs.toArray) → Ris (rk g arr) 0 vs.length → (arr.map (·.2)).size ≤ sizeLine + 1 := fun arr pa _ => by
    rw [Array.size_map, pa.size_eq, zl]; exact Nat.le_succ_of_le sl
  by_cases few : vs.toArray.size < 2
  · rw [if_pos few, if_pos few]
    have few' : vs.length < 2 := by simpa using few
    refine wpAny_bind (wpAny_pure ?_); rw [StateT.run_pure]; refine wpAny_bind (wpAny_pure ?_)
    dsimp only
    have r0 : Ris (rk g (vs.toArray.zip vs.toArray)) 0 vs.length := fun i j _ h1 h2 => by
      rw [show i = j by omega]; exact Int.le_refl _
    obtain ⟨c2, gg, q⟩ := last _ (Array.Perm.refl _) r0
    refine wpAny_bind (seqEpoch_at g3 rfl (wpAny_bind (listUpdate_at g3 rfl ?_ (Nat.zero_le _) (close _ (Array.Perm.refl _) r0))))
    simp only [bne_self_eq_false, Bool.false_eq_true, if_false]
    exact wpAny_pure q
  · rw [if_neg few, if_neg few]
    have many : 2 ≤ vs.length := by
      have : ¬ vs.length < 2 := by simpa using few
      omega
    refine wpAny_bind (wpAny_mono (hk h3 k3 many (fun κ' s' => κ' = κ ∧ s' = { s with heap := h3 }) ⟨rfl, rfl⟩) ?_ fun _ _ x => x.elim)
    rintro κ' s' ⟨rfl, rfl⟩
    have run := M4 (st := SortSt.mk' κ' (vs.toArray.zip vs.toArray) #[] 7 none) (Q := fun _ st' => TB (vs.toArray.zip vs.toArray) κ' st' ∧ Ris (rk g (arrOf st')) 0 vs.length) (hl h3 k3) ⟨Array.Perm.refl _, rfl, rfl⟩ rfl (by rw [zl]; exact many) fun st' t u => ⟨t, by rw [zl] at u; exact u⟩
    refine wpAny_bind (wpAny_mono run ?_ fun _ _ e => e)
    rintro ⟨⟨⟩, st'⟩ s' ⟨rfl, t, u⟩
    dsimp only at t u ⊢
    obtain ⟨c2, gg, q⟩ := last _ t.perm u
    refine wpAny_bind (seqEpoch_at g3 rfl (wpAny_bind (listUpdate_at g3 rfl ?_ (Nat.zero_le _) (close _ t.perm u))))
    rw [t.failed]
    simp only [bne_self_eq_false, Bool.false_eq_true, if_false]
    exact wpAny_pure q
theorem Rw {l : Addr} {vs : List Value} {κ : SortKind} {g : Keyed → Int} {Q : Value → Shared → Prop} (hl : s.heap.IsList l vs.toArray) (hz : vs.length ≤ 20000)
    (hk : ∀ h' : Heap, (∀ b o, s.heap.get? b = some o → h'.get? b = some o) → 2 ≤ vs.length → ∀ R : SortKind → Shared → Prop, R κ { s with heap := h' } → wpAny (model prog w) A.in1.in1 (keyKind' vs.toArray) R (fun _ _ => False) { s with heap := h' })
    (hc : ∀ (E' : Value → Shared → Prop) (h' : Heap), (∀ b o, s.heap.get? b = some o → h'.get? b = some o) → Cmp prog w A.in1.in1 E' { s with heap := h' } (vs.toArray.zip vs.toArray) κ g)
    (fin : ∀ (h' : Heap) (D : Addr) (c : Nat) (arr : Array Keyed), (∀ b o, s.heap.get? b = some o → h'.get? b = some o) → s.heap.objs.size ≤ D → arr.Perm (vs.toArray.zip vs.toArray) → Ris (rk g arr) 0 vs.length → h'.get? D = some (seqObj "list" (arr.map (·.2)) c) → Q (.ref D) { s with heap := h' }) :
    wpAny (model prog w) A (call (.builtin "sorted") [.ref l]) Q E s := by
  obtain ⟨h1, e1⟩ : ∃ h1, h1 = (s.heap.push (seqObj "list" #[] 0)).update s.heap.objs.size (Obj.mapSeq (· ++ vs.toArray)) := ⟨_, rfl⟩
  have z1 : h1.objs.size = s.heap.objs.size + 1 := by rw [e1, Heap.size_update, size_push']
  have kp : ∀ b o, s.heap.get? b = some o → (h1.push (seqObj "list" vs.toArray 0)).get? b = some o := fun b o q => by
    have lb : b < s.heap.objs.size := Heap.lt_size q
    refine Heap.get?_push_of_some _ ?_
    rw [e1, Heap.get?_update_ne _ _ _ _ (Nat.ne_of_lt lb)]
    exact Heap.get?_push_of_some _ q
  have gD : (h1.push (seqObj "list" vs.toArray 0)).get? h1.objs.size = some (seqObj "list" vs.toArray 0) := Heap.get?_push_size _ rfl
  have low : ∀ (h' : Heap), But h1.objs.size (h1.push (seqObj "list" vs.toArray 0)) h' → ∀ b o, s.heap.get? b = some o → h'.get? b = some o := fun h' k b o q => by
    have lb : b < s.heap.objs.size := Heap.lt_size q
    exact k b o (Nat.ne_of_lt (by rw [z1]; exact Nat.lt_succ_of_lt lb)) (kp b o q)
  refine Calls.call_function_entry kind_sorted plain_sorted entry_sorted (args_sorted1 _) ?_
  unfold Builtin.«sorted»
  refine wpAny_bind (m := checkCount "sorted" 1 1 _) (wpAny_pure (wpAny_bind (collect_list hl ?_ (by rw [sizeLine_eq]; omega))))
  refine wpAny_bind (wpAny_newList ?_ (by rw [sizeLine_eq]; omega))
  show wpAny _ _ _ _ _ { s with heap := ((s.heap.push (seqObj "list" #[] 0)).update s.heap.objs.size (Obj.mapSeq (· ++ vs.toArray))).push (seqObj "list" vs.toArray 0) }
  rw [← e1]
  refine wpAny_bind (wpAny_holding (wpAny_call_entry slot_list_sort ⟨_, gD, rfl⟩ entry_list_sort ?_ (args_list_sort _)))
  refine MK (s := { s with heap := h1.push (seqObj "list" vs.toArray 0) }) (κ := κ) (g := g) gD hz (fun h' k => hk h' (low h' k)) (fun h' k => hc _ h' (low h' k)) fun h' c arr k pa ra gg => ?_
  exact ⟨_, rfl, wpAny_pure ⟨_, rfl, fin h' _ c arr (low h' k) (by rw [z1]; omega) pa ra gg⟩⟩
end
theorem PN {α : Type} {p q : α → Bool} : ∀ {l : List α}, (∀ u ∈ l, p u = true → q u = true) → (∃ u ∈ l, q u = true ∧ p u = false) → l.countP p < l.countP q
  | [], _, ⟨_, h, _⟩ => by cases h
  | x :: l, h, ⟨u, hu, h1, h2⟩ => by
    have m := List.countP_mono_left (l := l) (p := p) (q := q) fun y hy => h y (.tail _ hy)
    rw [List.countP_cons, List.countP_cons]
    rcases List.mem_cons.mp hu with rfl | hu
    · rw [if_pos h1, if_neg (by rw [h2]; exact Bool.false_ne_true)]; omega
    · have := PN (fun y hy => h y (.tail _ hy)) ⟨u, hu, h1, h2⟩
      cases hp : p x with
      | true => rw [if_pos rfl, if_pos (h x (.head _) hp)]; omega
      | false => rw [if_neg Bool.false_ne_true]; split <;> omega
noncomputable def Gz (nss : List (List Int)) (r : List Int) : Int := (nss.countP fun u => HT.lexLt u r : Nat)
theorem K4 {nss : List (List Int)} {x y : List Int} (hx : x ∈ nss) : decide (Gz nss x < Gz nss y) = HT.lexLt x y := by
  unfold Gz
  cases h : HT.lexLt x y with
  | true =>
    have := PN (l := nss) (p := fun u => HT.lexLt u x) (q := fun u => HT.lexLt u y) (fun u _ hu => by
      cases e : HT.lexLt u y with
      | true => rfl
      | false =>
        have := Ks y u x e (UW u x hu)
        rw [h] at this; cases this) ⟨x, hx, h, NT x⟩
    exact decide_eq_true (by omega)
  | false =>
    have := List.countP_mono_left (l := nss) (p := fun u => HT.lexLt u y) (q := fun u => HT.lexLt u x) (fun u _ hu => by
      cases e : HT.lexLt u x with
      | true => rfl
      | false =>
        have := Ks x u y
        have h2 := Ks _ _ _ (show HT.lexLt x y = false from h) e
        rw [hu] at h2; cases h2)
    exact decide_eq_false (by omega)
section
variable {X : Cx}
noncomputable def Wt (K : PySem.W.Frag) : List V → Hp → VK → Prop := fun xs H Q => ∃ p vs, ∃ nss : Nat → List Int, xs = [.ref p] ∧ SqL K H p vs ∧ vs.length ≤ 20000 ∧ (∀ (i : Nat) (v : V), vs[i]? = some v → ∃ a, v = .ref a ∧ SqT K H a ((nss i).map V.int) ∧ nss i ≠ []) ∧
  ∀ l, H l = none → ∀ ix : List Nat, ix.Perm (List.range vs.length) → (ix.Pairwise fun i j => HT.lexLt (nss j) (nss i) = false) → Q (.ref l) (upd H l (.lst (ix.map fun i => vs.getD i V.non)))
theorem RP : Hz X (.builtin "sorted") (Wt X.K) := by
  intro pins s σ H xs us Q I r h
  obtain ⟨p, vs, nss, rfl, hl, hz, each, q⟩ := h
  obtain ⟨u, rfl, r1⟩ := vals1 r
  cases r1
  obtain ⟨its, rv, pl, hzl⟩ := I.list hl
  have hlen : its.length = vs.length := rv.length.symm
  have row : ∀ h' : Heap, (∀ b o, s.heap.get? b = some o → h'.get? b = some o) → ∀ (i : Nat) (v : Value), its[i]? = some v → ∃ a xs, v = .ref a ∧ IsTup h' a xs ∧ IntsAre xs.toList (nss i) ∧ nss i ≠ [] := fun h' k i v e => by
    obtain ⟨x, e1, r2⟩ := Vals.at rv i v e
    obtain ⟨a, rfl, ht, ne⟩ := each i x e1
    cases r2
    obtain ⟨ys, r3, ⟨o, g, rest⟩, _⟩ := I.tuple ht
    exact ⟨a, ys.toArray, rfl, ⟨o, k a o g, rest⟩, intsAre_of r3, ne⟩
  have uniq : ∀ i j v, its[i]? = some v → its[j]? = some v → nss i = nss j := fun i j v h1 h2 => by
    obtain ⟨a, xs, e1, t1, n1, _⟩ := row s.heap (fun _ _ z => z) i v h1
    obtain ⟨b, ys, e2, t2, n2, _⟩ := row s.heap (fun _ _ z => z) j v h2
    rw [e1] at e2
    cases e2
    obtain ⟨o1, g1, _, _, d1⟩ := t1
    obtain ⟨o2, g2, _, _, d2⟩ := t2
    rw [g1] at g2
    cases g2
    rw [d1] at d2
    cases d2
    exact n1.nums.symm.trans n2.nums
  obtain ⟨rw', hrw⟩ : ∃ f : Value → List Int, ∀ i v, its[i]? = some v → f v = nss i := by
    classical
    refine ⟨fun v => if h : ∃ i, its[i]? = some v then nss h.choose else [], fun i v hv => ?_⟩
    have h : ∃ i, its[i]? = some v := ⟨i, hv⟩
    dsimp only
    rw [dif_pos h]
    exact uniq _ _ v h.choose_spec hv
  let all : List (List Int) := (List.range its.length).map nss
  have memA : ∀ i, i < its.length → nss i ∈ all := fun i hi => List.mem_map.mpr ⟨i, List.mem_range.mpr hi, rfl⟩
  have pz : ∀ x : Keyed, x ∈ its.toArray.zip its.toArray → ∃ i, i < its.length ∧ its[i]? = some x.1 ∧ x.2 = x.1 := fun x hx => by
    have hx' : x ∈ its.zip its := by
      rw [← Array.mem_toList_iff, Array.toList_zip] at hx; simpa using hx
    obtain ⟨e, m⟩ := mem_zip_self hx'
    obtain ⟨i, hi, ei⟩ := List.getElem_of_mem m
    exact ⟨i, hi, by rw [← ei]; exact List.getElem?_eq_getElem hi, e.symm⟩
  refine Rw (κ := tuples' true) (g := fun x => Gz all (rw' x.1)) (vs := its) pl.isList (by omega) (fun h' k _ R hR => ?_) (fun E' h' k x y hx hy st C hk hC => ?_) fun h' D c arr k hD pa ra gg => ?_
  · obtain ⟨fs, kt, lf, ff⟩ := Tt (h := h') its fun v hv => by
      obtain ⟨i, hi, e⟩ := List.getElem_of_mem hv
      obtain ⟨a, xs, e1, t, n, ne⟩ := row h' k i v (by rw [← e]; exact List.getElem?_eq_getElem hi)
      exact ⟨a, xs, _, e1, t, n, ne⟩
    refine PySem.W.kat_kind (s := { s with heap := h' }) (T := .type "int") kt (by omega) (fun v hv => ?_) (by decide) hR
    obtain ⟨n, t, rfl⟩ := ff v hv
    exact .now
  · obtain ⟨i, hi, ei, _⟩ := pz x hx
    obtain ⟨j, hj, ej, _⟩ := pz y hy
    obtain ⟨a, xs, e1, t1, n1, _⟩ := row h' k i _ ei
    obtain ⟨b, ys, e2, t2, n2, _⟩ := row h' k j _ ej
    dsimp only at hC
    have ed := K4 (nss := all) (x := rw' x.1) (y := rw' y.1) (by rw [hrw i _ ei]; exact memA i hi)
    rw [ed, hrw i _ ei, hrw j _ ej] at hC
    rw [lt'_eq]
    refine wpS_bind (wpS_get ?_)
    rw [hk, e1, e2]
    refine wpS_bind (wpS_lift (wpAny_attempt (X5 (s := { s with heap := h' }) t1 t2 n1 n2 ⟨rfl, ?_⟩)))
    exact wpS_pure hC
  · have ez : its.zip its = (List.range its.length).map fun i => (its.getD i Value.none, its.getD i Value.none) := by
      refine List.ext_getElem (by simp) fun i h1 h2 => ?_
      have hi : i < its.length := by simpa using h2
      simp [List.getD, hi]
    have pl' : arr.toList.Perm (its.zip its) := by
      have := Array.perm_iff_toList_perm.mp pa
      rw [Array.toList_zip] at this
      simpa using this
    obtain ⟨ix, px, ex⟩ := Nt pl' (List.range its.length) ez
    have ib : ∀ i ∈ ix, i < its.length := fun i hi => List.mem_range.mp (px.mem_iff.mp hi)
    have eo : arr.map (·.2) = List.toArray (ix.map fun i => its.getD i Value.none) := by
      rw [← Array.toList_inj, Array.toList_map, ex, List.map_map]
      rfl
    rw [eo] at gg
    have vp := Ny rv ix fun i hi => by rw [← hlen]; exact ib i hi
    have lx : ix.length = its.length := by rw [px.length_eq, List.length_range]
    have lz : (ix.map fun i => vs.getD i V.non).length ≤ sizeLine := by
      rw [List.length_map, lx, hlen]
      exact hzl
    have up : ix.Pairwise fun i j => HT.lexLt (nss j) (nss i) = false := by
      rw [List.pairwise_iff_getElem]
      intro i j hi hj hij
      have la : arr.size = ix.length := by rw [← Array.length_toList, ex, List.length_map]
      have := ra i j (by omega) (by omega) (by omega)
      have at' : ∀ i (hi : i < ix.length), rk (fun x => Gz all (rw' x.1)) arr i = Gz all (nss ix[i]) := fun i hi => by
        have b := ib ix[i] (List.getElem_mem hi)
        have e : arr[i]? = some (its.getD ix[i] Value.none, its.getD ix[i] Value.none) := by
          rw [← Array.getElem?_toList, ex, List.getElem?_map, List.getElem?_eq_getElem hi]; rfl
        rw [Z1 e]
        show Gz all (rw' (its.getD ix[i] Value.none)) = _
        rw [hrw ix[i] _ (by simp [List.getD, b])]
      rw [at' i hi, at' j hj] at this
      have b := ib ix[j] (List.getElem_mem hj)
      rw [← K4 (memA _ b)]
      exact decide_eq_false (by omega)
    rw [hlen] at px
    exact ⟨.ref D, _, I.laid (t' := s.toks) k hD (show Gq X.prog X.w _ h' _ (.lst _) from ⟨lz, _, c, vp, gg⟩), rfl, q _ (I.hok.fresh hD) ix px up⟩
noncomputable def SJ : DL := fun ds Q => ∃ nss : List (List Int), ds = [.lst (nss.map Bq)] ∧ nss.length ≤ 20000 ∧ (∀ r ∈ nss, r ≠ []) ∧ ∀ out : List (List Int), out.Perm nss → (out.Pairwise fun a b => HT.lexLt b a = false) → Q (.lst (out.map Bq))
theorem Vk {K : PySem.W.Frag} : O6 K (Wt K) SJ where
  mono := fun hq ⟨nss, e, l, n, h⟩ => ⟨nss, e, l, n, fun out p o => hq _ (h out p o)⟩
  ok := fun O H ds xs Q hO r ⟨nss, e, l64, ne, h⟩ => by
    subst e
    obtain ⟨x, r', rfl, ra, r3⟩ := Ax.mp r
    obtain rfl := Bs.mp r3
    obtain ⟨p, vs, rfl, hs, hl⟩ := Ds ra
    obtain ⟨ll, each⟩ := T6 hl
    refine ⟨p, vs, fun i => nss.getD i [], rfl, (Ay (O := O) (H := H)).seq hs, by omega, fun i v e => ?_, fun l hn ix px up => ?_⟩
    · obtain ⟨a, ea, ht⟩ := each i v e
      have hi : i < nss.length := by
        have := (List.getElem?_eq_some_iff.mp e).1
        omega
      refine ⟨a, ea, (Ay (O := O) (H := H)).seqT ht, ne _ ?_⟩
      have : nss.getD i [] = nss[i] := by simp [List.getD, hi]
      show nss.getD i [] ∈ nss
      rw [this]
      exact List.getElem_mem hi
    · have nl : l ∉ O := fun z => hO l z hn
      have rp := Qt hl ix fun i hi => by have := List.mem_range.mp (px.mem_iff.mp hi); omega
      have em : (ix.map fun i => Bq (nss.getD i [])) = (ix.map fun i => nss.getD i []).map Bq := by rw [List.map_map]; rfl
      rw [em] at rp
      have e0 : (List.range vs.length).map (fun i => nss.getD i []) = nss := by
        rw [ll]
        refine List.ext_getElem (by simp) fun i h1 h2 => ?_
        simp [List.getD, h2]
      refine h _ ?_ ?_ _ _ (Same.upd hn) (HX ⟨l, _, rfl, Je nl, rp.mono (Same.upd hn).mask⟩)
      · have := px.map fun i => nss.getD i []
        rw [e0] at this
        exact this
      · exact List.pairwise_map.mpr up
theorem Qf {a : Expr} {tl : DTA} {p pos : Pos} (hm : X.mg "sorted" = none) (ha : DA X [a] tl) (hg : Gl X "sorted" := by rfl) (hv : bootBuiltins "sorted" = some (.builtin "sorted") := by rfl) (he : starEach [a] X.env = (false, eval a X.env) :: starEach [] X.env := by rfl)
    (hpl : (backTo pos (starEach [] X.env)).any (·.1) = false := by rfl) : DE X (.Call (.Name "sorted" p) [a] [] pos) (dCB SJ tl) := QC RP Vk hg hm hv ha (he := he) (hpl := hpl)
end
section
variable {X : Cx} {a b : Expr} {pos : Pos}
noncomputable def Ac1 (K : PySem.W.Frag) : R2 := fun x y H Q => ∃ l m xs zs, x = .ref l ∧ y = .ref m ∧ SqL K H l xs ∧ H m = some (.lst zs) ∧ xs.length + zs.length ≤ sizeLine ∧ ∀ p, H p = none → Q (.ref p) (upd H p (.lst (xs ++ zs)))
theorem Yx : OpR X (binaryOp .Add) (Ac1 X.K) := by
  intro pins s σ H x y v u Q I rx ry h
  obtain ⟨l, m, xs, zs, rfl, rfl, hS, hB, hz, q⟩ := h
  cases rx
  cases ry
  obtain ⟨its, r, pl, hl⟩ := I.list hS
  obtain ⟨z2, its2, n2, r2, hl2, e2⟩ := I.lstM hB
  obtain ⟨⟨cls, dd, data, sl⟩, n, ho, hc, _, hd⟩ := pl
  simp only at hc hd
  subst hc hd
  have l1 := r.length
  refine concat_meets ⟨_, ho, rfl⟩ ⟨_, e2, rfl⟩ noFill_list_add seq_list_add PySem.F.slot_list_add PySem.F.entry_list_add (PySem.F.args_list_add_2 _ _) (list_addW l m its.toArray its2.toArray n n2 dd none sl #[] (by rw [List.size_toArray, List.size_toArray]; omega)) ⟨ho, e2, ?_⟩
  have ea : its.toArray ++ its2.toArray = (its ++ its2).toArray := by simp
  rw [ea]
  exact ⟨.ref _, _, I.lnew (t' := s.toks) (r.append r2) (by rw [List.length_append]; omega), rfl, q _ I.fresh⟩
noncomputable def Aab (te : DTE) (u : DTA) : DTA := fun ρ Q => te ρ fun d => match d with
  | .lst xs => u ρ fun ys => xs.length + ys.length ≤ sizeLine ∧ Q (xs ++ ys)
  | _ => False
theorem Zi {te : DTE} {u : DTA} (ha : DE X a te) (hb : DF X b u) : DF X (.BinOp a .Add b pos) (Aab te u) where
  mono := fun hq z => ha.mono (fun d z => by
    split at z
    · exact hb.mono (fun _ z => ⟨z.1, hq _ z.2⟩) z
    · exact z.elim) z
  pe := (W6 Yx ha.pe hb.pe).imp fun σ H Q ⟨B, F, O, ρ, R, z⟩ => ⟨B, F, O, ρ, R, ha.mono (fun d z v H1 s1 r1 => ⟨B, F, O, ρ, R.same s1, by
    split at z
    · obtain ⟨p, vs, rfl, hs, rl⟩ := Ds r1
      exact hb.mono (fun ys z p2 H2 ws s2 e2 n2 r2 => by
        refine ⟨p, p2, vs, ws, rfl, rfl, (s2.mask (O := F ++ O)).seq hs |> Ay.seq, e2, by rw [rl.len, r2.len]; exact z.1, fun l hl => ?_⟩
        have np : l ∉ F ++ O := fun m => ((R.same s1).same s2).th l m hl
        exact z.2 l _ _ ((s1.trans s2).trans (Same.upd hl)) Bp np (((rl.mono s2.mask).append r2).mono (Same.upd hl).mask)) z
    · exact z.elim⟩) z⟩
end
end L2
namespace My
open PySem L2
noncomputable abbrev O7 : DSp := Aan
noncomputable abbrev I4 := Int × Int × Int × Int
noncomputable abbrev I2 := Int × Int
noncomputable abbrev t4 (p : I4) : Dt := T4 p.1 p.2.1 p.2.2.1 p.2.2.2
noncomputable abbrev t2 (p : I2) : Dt := T2 p.1 p.2
noncomputable def B4 (n : Nat) (p : I4) : Prop := Bt n p.1 ∧ Bt n p.2.1 ∧ Bt n p.2.2.1 ∧ Bt n p.2.2.2
noncomputable def B2 (n : Nat) (p : I2) : Prop := Bt n p.1 ∧ Bt n p.2
noncomputable def det (p : I4) : Int := p.1 * p.2.2.2 - p.2.1 * p.2.2.1
noncomputable def AbQ (t : I4) (p : I2) : I2 := (t.1 * p.1 + t.2.1 * p.2, t.2.2.1 * p.1 + t.2.2.2 * p.2)
noncomputable def Ao (a b : I4) : I4 := (a.1 * b.1 + a.2.1 * b.2.2.1, a.1 * b.2.1 + a.2.1 * b.2.2.2, a.2.2.1 * b.1 + a.2.2.2 * b.2.2.1, a.2.2.1 * b.2.1 + a.2.2.2 * b.2.2.2)
noncomputable def Bo (t : I4) : I4 := (t.2.2.2, -t.2.1, -t.2.2.1, t.1)
theorem B4.le {n m : Nat} {t : I4} (h : B4 n t) (l : n ≤ m) : B4 m t := ⟨h.1.le l, h.2.1.le l, h.2.2.1.le l, h.2.2.2.le l⟩
theorem B2.led {n m : Nat} {t : I4} {p : I2} (h : B4 n t) (q : B2 m p) : B2 (n + m + 1) (AbQ t p) :=
  ⟨((h.1.mul q.1).add (h.2.1.mul q.2)).le (by omega), ((h.2.2.1.mul q.1).add (h.2.2.2.mul q.2)).le (by omega)⟩
theorem B4.then {n m : Nat} {t u : I4} (h : B4 n t) (q : B4 m u) : B4 (n + m + 1) (Ao t u) :=
  ⟨((h.1.mul q.1).add (h.2.1.mul q.2.2.1)).le (by omega), ((h.1.mul q.2.1).add (h.2.1.mul q.2.2.2)).le (by omega), ((h.2.2.1.mul q.1).add (h.2.2.2.mul q.2.2.1)).le (by omega), ((h.2.2.1.mul q.2.1).add (h.2.2.2.mul q.2.2.2)).le (by omega)⟩
theorem K9 {t : I4} : det (Bo t) = det t := by obtain ⟨a, b, c, d⟩ := t; simp only [det, Bo]; grind
theorem Jp {t u : I4} : det (Ao t u) = det t * det u := by obtain ⟨a, b, c, d⟩ := t; obtain ⟨e, f, g, h⟩ := u; simp only [det, Ao]; grind
theorem HF {t : I4} (h : det t = 1) : Ao t (Bo t) = (1, 0, 0, 1) := by
  obtain ⟨a, b, c, d⟩ := t
  simp only [det, Ao, Bo, Prod.mk.injEq] at *
  refine ⟨?_, ?_, ?_, ?_⟩ <;> grind
theorem U3 {t : I4} (h : det t = 1) : Ao (Bo t) t = (1, 0, 0, 1) := by
  obtain ⟨a, b, c, d⟩ := t
  simp only [det, Ao, Bo, Prod.mk.injEq] at *
  refine ⟨?_, ?_, ?_, ?_⟩ <;> grind
noncomputable abbrev I3 := Int × Int × Int
noncomputable abbrev t3 (p : I3) : Dt := T3 p.1 p.2.1 p.2.2
noncomputable def B3 (n : Nat) (p : I3) : Prop := Bt n p.1 ∧ Bt n p.2.1 ∧ Bt n p.2.2
theorem B3.le {n m : Nat} {t : I3} (h : B3 n t) (l : n ≤ m) : B3 m t := ⟨h.1.le l, h.2.1.le l, h.2.2.le l⟩
noncomputable def meas (f : I3) : Int := f.2.1 * f.2.1 - 4 * f.1 * f.2.2
noncomputable def val (f : I3) (p : I2) : Int := f.1 * p.1 * p.1 + f.2.1 * p.1 * p.2 + f.2.2 * p.2 * p.2
noncomputable def mid (f : I3) (l r : I2) : Int := 2 * f.1 * l.1 * r.1 + f.2.1 * (l.1 * r.2 + r.1 * l.2) + 2 * f.2.2 * l.2 * r.2
noncomputable def mov (f : I3) (t : I4) : I3 := (val f (t.1, t.2.2.1), mid f (t.1, t.2.2.1) (t.2.1, t.2.2.2), val f (t.2.1, t.2.2.2))
theorem AeA {f : I3} {t : I4} {p : I2} : val (mov f t) p = val f (AbQ t p) := by
  obtain ⟨a, b, c⟩ := f; obtain ⟨e, g, h, i⟩ := t; obtain ⟨x, y⟩ := p
  simp only [val, mov, mid, AbQ]; grind
theorem Cw {f : I3} {t : I4} (h : det t = 1) : meas (mov f t) = meas f := by
  obtain ⟨a, b, c⟩ := f; obtain ⟨e, g, i, j⟩ := t
  simp only [det] at h
  have e1 : meas (mov (a, b, c) (e, g, i, j)) = (e * j - g * i) * (e * j - g * i) * meas (a, b, c) := by simp only [meas, mov, val, mid]; grind
  rw [e1, h]; simp
theorem Ck {f : I3} {t u : I4} : mov (mov f t) u = mov f (Ao t u) := by
  obtain ⟨a, b, c⟩ := f; obtain ⟨e, g, i, j⟩ := t; obtain ⟨k, l, m, n⟩ := u
  simp only [mov, val, mid, Ao, Prod.mk.injEq]
  refine ⟨?_, ?_, ?_⟩ <;> grind
theorem Cu {f : I3} : mov f (1, 0, 0, 1) = f := by
  obtain ⟨a, b, c⟩ := f
  simp only [mov, val, mid, Prod.mk.injEq]
  refine ⟨?_, ?_, ?_⟩ <;> grind
noncomputable def Sq (n r : Int) : Prop := 0 ≤ r ∧ r * r ≤ n ∧ n < (r + 1) * (r + 1)
theorem Sq.uniq {n r s : Int} (a : Sq n r) (b : Sq n s) : r = s := by
  obtain ⟨a0, a1, a2⟩ := a
  obtain ⟨b0, b1, b2⟩ := b
  rcases Int.lt_trichotomy r s with h | h | h
  · have := Int.mul_le_mul (show r + 1 ≤ s by omega) (show r + 1 ≤ s by omega) (by omega) b0
    omega
  · exact h
  · have := Int.mul_le_mul (show s + 1 ≤ r by omega) (show s + 1 ≤ r by omega) (by omega) a0
    omega
theorem NK {n g : Int} (hn : 0 ≤ n) (hg : 0 < g) : n < ((g + n / g) / 2 + 1) * ((g + n / g) / 2 + 1) := by
  have h1 : n < g * (n / g) + g := Int.lt_mul_ediv_self_add hg
  have h0 : 0 ≤ n / g := Int.ediv_nonneg hn (by omega)
  generalize n / g = q at *
  have hb : g + q ≤ 2 * ((g + q) / 2) + 1 := by omega
  have hb0 : 0 ≤ (g + q) / 2 := by omega
  generalize (g + q) / 2 = b at *
  have z1 : 0 ≤ (g - q - 1) * (g - q - 1) := by
    rcases Int.le_total 0 (g - q - 1) with h | h
    · exact Int.mul_nonneg h h
    · exact Int.mul_nonneg_of_nonpos_of_nonpos h h
  have z2 : (g + q + 1) * (g + q + 1) = (g - q - 1) * (g - q - 1) + 4 * (g * q + g) := by grind
  have z3 : (g + q + 1) * (g + q + 1) ≤ (2 * (b + 1)) * (2 * (b + 1)) := Int.mul_le_mul (by omega) (by omega) (by omega) (by omega)
  have z4 : (2 * (b + 1)) * (2 * (b + 1)) = 4 * ((b + 1) * (b + 1)) := by grind
  omega
theorem R6 {n g : Int} (hg : 0 < g) (h : g ≤ (g + n / g) / 2) : g * g ≤ n := by
  have h1 : g * (n / g) ≤ n := Int.mul_ediv_self_le (by omega)
  have h2 : g ≤ n / g := by omega
  have := Int.mul_le_mul_of_nonneg_left h2 (show 0 ≤ g by omega)
  omega
theorem Q5 {n g : Int} (hg : 0 < g) (h : n < g * g) : (g + n / g) / 2 < g := by
  have h2 : n / g < g := Int.ediv_lt_of_lt_mul hg (by rw [Int.mul_comm] at h; exact h)
  omega
theorem RM {n g : Int} (hn : 1 ≤ n) (hg : 0 < g) : 0 < (g + n / g) / 2 := by
  have h0 : 0 ≤ n / g := Int.ediv_nonneg (by omega) (by omega)
  rcases Int.lt_or_le g 2 with h | h
  · have : g = 1 := by omega
    subst this
    rw [Int.ediv_one]; omega
  · omega
theorem Q6 {n : Int} (hn : 0 ≤ n) : n < (1 * 2 ^ ((((Builtin.Int.intBits n : Nat) : Int) + 1).fdiv 2).toNat + 1) * (1 * 2 ^ ((((Builtin.Int.intBits n : Nat) : Int) + 1).fdiv 2).toNat + 1) := by
  have h1 : n.natAbs < 2 ^ Builtin.Int.intBits n := intBits_le_iff.mp (Nat.le_refl _)
  generalize Builtin.Int.intBits n = b at *
  have e : ((((b : Nat) : Int) + 1).fdiv 2).toNat = (b + 1) / 2 := by
    rw [Int.fdiv_eq_ediv_of_nonneg _ (by decide)]; omega
  rw [e]
  generalize hk : (b + 1) / 2 = k
  have h2 : 2 ^ b ≤ 2 ^ k * 2 ^ k := by rw [← Nat.pow_add]; exact Nat.pow_le_pow_right (by decide) (by omega)
  have h3 : n < ((2 ^ k * 2 ^ k : Nat) : Int) := by omega
  have h4 : ((2 ^ k * 2 ^ k : Nat) : Int) = (2 ^ k : Int) * 2 ^ k := by push_cast; rfl
  rw [h4] at h3
  have h5 : (0 : Int) ≤ 2 ^ k := Int.pow_nonneg (by decide)
  generalize (2 ^ k : Int) = z at *
  have : (1 * z + 1) * (1 * z + 1) = z * z + 2 * z + 1 := by grind
  omega
theorem J5 {n : Int} (h : Bt 4000 n) : Yy 1 ((((Builtin.Int.intBits n : Nat) : Int) + 1).fdiv 2) ∧ Bt 2001 (1 * 2 ^ ((((Builtin.Int.intBits n : Nat) : Int) + 1).fdiv 2).toNat) ∧ 0 < (1 * 2 ^ ((((Builtin.Int.intBits n : Nat) : Int) + 1).fdiv 2).toNat : Int) := by
  have hb : Builtin.Int.intBits n ≤ 4000 := intBits_le_iff.mpr h
  generalize Builtin.Int.intBits n = b at *
  rw [Int.fdiv_eq_ediv_of_nonneg _ (by decide)]
  refine ⟨⟨by omega, by omega, by decide⟩, ?_, ?_⟩
  · have e : (((b : Int) + 1) / 2).toNat ≤ 2000 := by omega
    generalize (((b : Int) + 1) / 2).toNat = k at *
    unfold Bt
    rw [Int.one_mul, Int.natAbs_pow]
    exact Nat.pow_lt_pow_right (by decide) (by omega)
  · rw [Int.one_mul]
    exact Int.pow_pos (by decide)
theorem Pz {n g : Int} (hg : 0 < g) : (g + n.fdiv g).fdiv 2 = (g + n / g) / 2 := by
  rw [Int.fdiv_eq_ediv_of_nonneg _ (by decide), Int.fdiv_eq_ediv_of_nonneg _ (by omega)]
noncomputable def Ge (n : Int) : Prop := ∃ r : Int, r * r = n
theorem Mh {n r : Int} (h : Sq n r) : Ge n ↔ r * r = n := by
  refine ⟨fun ⟨s, e⟩ => ?_, fun e => ⟨r, e⟩⟩
  have hs : Sq n (s.natAbs : Int) := by
    have e2 : (s.natAbs : Int) * (s.natAbs : Int) = n := (Int.natAbs_mul_self' s).trans e
    refine ⟨by omega, by omega, ?_⟩
    have : ((s.natAbs : Int) + 1) * ((s.natAbs : Int) + 1) = (s.natAbs : Int) * (s.natAbs : Int) + 2 * (s.natAbs : Int) + 1 := by grind
    omega
  rw [h.uniq hs]
  exact (Int.natAbs_mul_self' s).trans e
theorem La {n : Int} (h : n < 0) : ¬ Ge n := fun ⟨r, e⟩ => by
  have : 0 ≤ r * r := by
    rcases Int.le_total 0 r with h | h
    · exact Int.mul_nonneg h h
    · exact Int.mul_nonneg_of_nonpos_of_nonpos h h
  omega
noncomputable abbrev Ia : DSp := spec (fun n : Int => [.int n]) (fun n => 0 ≤ n ∧ Bt 4000 n) fun n d => ∃ r, d = .int r ∧ Sq n r ∧ Bt 2001 r
noncomputable abbrev GC : DSp := spec (fun n : Int => [.int n]) (fun n => Bt 4000 n) fun n d => ∃ b : Bool, d = .bl b ∧ (b = true ↔ Ge n)
theorem J2 (a b : Int) : a.fmod b = a - b * a.fdiv b := Int.fmod_def a b
theorem Uk {a b : Int} (h : b ≠ 0) : (a.fmod b).natAbs < b.natAbs := by
  rcases Int.lt_or_lt_of_ne h with h | h
  · have e : a.fmod b = -((-a).fmod (-b)) := by rw [J2, J2, Int.neg_fdiv_neg]; grind
    have h1 := Int.fmod_nonneg_of_pos (-a) (show 0 < -b by omega)
    have h2 := Int.fmod_lt_of_pos (-a) (show 0 < -b by omega)
    omega
  · have h1 := Int.fmod_nonneg_of_pos a h
    have h2 := Int.fmod_lt_of_pos a h
    omega
theorem Rb (a b : Int) : Int.gcd b (a.fmod b) = Int.gcd a b := by
  rw [J2]
  have : a - b * a.fdiv b = a + b * (-(a.fdiv b)) := by grind
  rw [this, Int.gcd_comm]
  first
    | rw [Int.gcd_add_mul_left_left]
    | simp
noncomputable def g3 (f : I3) : Nat := Int.gcd ((Int.gcd f.1 f.2.1 : Nat) : Int) f.2.2
theorem AbD (f : I3) : (g3 f : Int) ∣ f.1 ∧ (g3 f : Int) ∣ f.2.1 ∧ (g3 f : Int) ∣ f.2.2 := by
  have h1 : (g3 f : Int) ∣ ((Int.gcd f.1 f.2.1 : Nat) : Int) := Int.gcd_dvd_left _ _
  exact ⟨Int.dvd_trans h1 (Int.gcd_dvd_left _ _), Int.dvd_trans h1 (Int.gcd_dvd_right _ _), Int.gcd_dvd_right _ _⟩
inductive Xc (f : I3) : Dt → Prop
  | flat : Ge (meas f) → Xc f (.str "flat")
  | saddle : ¬ Ge (meas f) → 0 < meas f → Xc f (.str "saddle")
  | bowl : ¬ Ge (meas f) → ¬ 0 < meas f → 0 < f.1 → Xc f (.str "bowl")
  | dome : ¬ Ge (meas f) → ¬ 0 < meas f → ¬ 0 < f.1 → Xc f (.str "dome")
structure Iu (f : I3) : Prop where
  pos : 0 < f.1
  lo : -f.1 ≤ f.2.1
  hi : f.2.1 ≤ f.1
  ac : f.1 ≤ f.2.2
  edge : f.2.1 = -f.1 ∨ f.1 = f.2.2 → 0 ≤ f.2.1
theorem Abr {a b c x : Int} : val (a, b, c) (x, 0) = a * (x * x) := by simp only [val]; grind
theorem Ab7 {a b c y : Int} : val (a, b, c) (0, y) = c * (y * y) := by simp only [val]; grind
theorem Gu {f : I3} {t : I4} (h : det t = 1) : mov (mov f t) (Bo t) = f := by rw [Ck, HF h, Cu]
theorem Mq (x : Int) {m : Int} (h : 0 < m) : 0 ≤ x.fmod m ∧ x.fmod m < m := ⟨Int.fmod_nonneg_of_pos x h, Int.fmod_lt_of_pos x h⟩
theorem sq_nonneg (x : Int) : 0 ≤ x * x := by
  rcases Int.le_total 0 x with h | h
  · exact Int.mul_nonneg h h
  · exact Int.mul_nonneg_of_nonpos_of_nonpos h h
noncomputable def AeR (f : I3) : Prop := 0 < f.1 ∧ meas f < 0
noncomputable def stands (f : I3) : Bool := decide (-f.1 ≤ f.2.1 ∧ f.2.1 ≤ f.1 ∧ f.1 ≤ f.2.2) && (decide (0 ≤ f.2.1) || (decide (f.2.1 ≠ -f.1) && decide (f.1 ≠ f.2.2)))
theorem Bl {f : I3} (h : 0 < f.1) (s : stands f = true) : Iu f := by
  simp only [stands, Bool.and_eq_true, Bool.or_eq_true, decide_eq_true_eq] at s
  obtain ⟨⟨h1, h2, h3⟩, h4⟩ := s
  exact ⟨h, h1, h2, h3, fun z => by rcases h4 with h4 | ⟨h4, h5⟩; exact h4; rcases z with z | z; exact absurd z h4; exact absurd z h5⟩
theorem Iu.stands {f : I3} (L : Iu f) : stands f = true := by
  simp only [My.stands, Bool.and_eq_true, Bool.or_eq_true, decide_eq_true_eq]
  refine ⟨⟨L.lo, L.hi, L.ac⟩, ?_⟩
  by_cases h : 0 ≤ f.2.1
  · exact .inl h
  · exact .inr ⟨fun z => h (L.edge (.inl z)), fun z => h (L.edge (.inr z))⟩
structure Sad (f : I3) : Prop where
  no : ¬ Ge (meas f)
  pos : 0 < meas f
  most : meas f ≤ 4000
noncomputable def Level (f : I3) (far : Int) : Prop := (0 < f.2.1 ∧ f.2.1 ≤ far) ∧ far - f.2.1 < 2 * (if f.1 < 0 then -f.1 else f.1) ∧ 2 * (if f.1 < 0 then -f.1 else f.1) ≤ far + f.2.1
instance {f : I3} {far : Int} : Decidable (Level f far) := by unfold Level; infer_instance
theorem Sad.mov {f : I3} {t : I4} (h : Sad f) (d : det t = 1) : Sad (mov f t) := by
  have e := Cw (f := f) d
  exact ⟨by rw [e]; exact h.no, by rw [e]; exact h.pos, by rw [e]; exact h.most⟩
noncomputable abbrev ab (x : Int) : Int := if x < 0 then -x else x
theorem Aj (x : Int) : (0 ≤ x ∧ ab x = x) ∨ (x < 0 ∧ ab x = -x) := by
  rcases Int.lt_or_le x 0 with h | h
  · exact .inr ⟨h, if_pos h⟩
  · exact .inl ⟨h, if_neg (by omega)⟩
theorem Bm (x : Int) : 0 ≤ ab x := by rcases Aj x with ⟨h, e⟩ | ⟨h, e⟩ <;> omega
theorem Wa {n : Nat} {x : Int} (h : Bt n x) : Bt n (ab x) := by
  rcases Aj x with ⟨_, e⟩ | ⟨_, e⟩ <;> rw [e]
  · exact h
  · exact h.neg
theorem Uh {n : Nat} {x y : Int} (h : Bt n y) (l : ab x ≤ ab y) : Bt n x := by
  unfold Bt at *
  rcases Aj x with ⟨_, e⟩ | ⟨_, e⟩ <;> rcases Aj y with ⟨_, e'⟩ | ⟨_, e'⟩ <;> omega
theorem NQ {n : Nat} {x k : Int} (l : ab x ≤ k) (hk : k < 2 ^ n) : Bt n x := by
  rcases Aj x with ⟨_, e⟩ | ⟨_, e⟩ <;> exact Bt.of (by omega) (by omega)
noncomputable def dB (f : I3) (top : Int) : Int := top - (top + f.2.1).fmod (2 * ab f.2.2)
noncomputable def kB (f : I3) (top : Int) : Int := (f.2.1 + dB f top).fdiv (2 * f.2.2)
noncomputable def Bx (f : I3) (top : Int) : I4 := (0, -1, 1, kB f top)
theorem BP {f : I3} {top : Int} : det (Bx f top) = 1 := by simp [det, Bx]
theorem G9 {f : I3} {top : Int} (h : f.2.2 ≠ 0) : top - 2 * ab f.2.2 < dB f top ∧ dB f top ≤ top := by
  have hc : 0 < 2 * ab f.2.2 := by rcases Aj f.2.2 with ⟨_, e⟩ | ⟨_, e⟩ <;> omega
  have := Mq (top + f.2.1) hc
  unfold dB
  omega
theorem Ga {f : I3} {top : Int} (h : f.2.2 ≠ 0) : 2 * f.2.2 * kB f top = f.2.1 + dB f top := by
  unfold kB dB
  have e := Int.fmod_def (top + f.2.1) (2 * ab f.2.2)
  generalize (top + f.2.1).fdiv (2 * ab f.2.2) = q at *
  have e1 : f.2.1 + (top - (top + f.2.1).fmod (2 * ab f.2.2)) = 2 * ab f.2.2 * q := by omega
  rw [e1]
  rcases Aj f.2.2 with ⟨_, e2⟩ | ⟨_, e2⟩
  · rw [e2, Int.mul_fdiv_cancel_left _ (by omega)]
  · have e3 : 2 * ab f.2.2 * q = 2 * f.2.2 * (-q) := by rw [e2]; grind
    rw [e3, Int.mul_fdiv_cancel_left _ (by omega)]
theorem Jq {f : I3} {top : Int} (h : f.2.2 ≠ 0) : ∃ e, mov f (Bx f top) = (f.2.2, dB f top, e) := by
  have hk := Ga (top := top) h
  obtain ⟨a, b, c⟩ := f
  refine ⟨(mov (a, b, c) (Bx (a, b, c) top)).2.2, ?_⟩
  have e1 : (mov (a, b, c) (Bx (a, b, c) top)).1 = c := by simp only [mov, val, Bx]; grind
  have e2 : (mov (a, b, c) (Bx (a, b, c) top)).2.1 = dB (a, b, c) top := by
    simp only [mov, mid, Bx]
    simp only at hk
    generalize kB (a, b, c) top = k at *
    have : 2 * a * 0 * -1 + b * (0 * k + -1 * 1) + 2 * c * 1 * k = 2 * c * k - b := by grind
    omega
  ext1
  · exact e1
  · ext1
    · exact e2
    · rfl
theorem R0 {D far : Int} (r : Sq D far) (n : ¬ Ge D) : far * far < D := by
  rcases Int.lt_or_le (far * far) D with h | h
  · exact h
  · exact absurd ⟨far, by have := r.2.1; omega⟩ n
theorem Hs {D far : Int} (r : Sq D far) (m : D ≤ 4000) : far ≤ 63 := by
  rcases Int.lt_or_le far 64 with h | h
  · omega
  · have := Int.mul_le_mul h h (by decide) r.1
    have := r.2.1
    omega
theorem FP {f : I3} (S : Sad f) : f.2.2 ≠ 0 := fun h => S.no ⟨f.2.1, by
  obtain ⟨a, b, c⟩ := f
  simp only at h
  subst h
  simp only [meas]
  omega⟩
theorem Nz {f : I3} (S : Sad f) : f.1 ≠ 0 := fun h => S.no ⟨f.2.1, by
  obtain ⟨a, b, c⟩ := f
  simp only at h
  subst h
  simp only [meas]
  omega⟩
theorem KC (x y : Int) : ab x * ab y = ab (x * y) := by
  rcases Aj x with ⟨h1, e1⟩ | ⟨h1, e1⟩ <;> rcases Aj y with ⟨h2, e2⟩ | ⟨h2, e2⟩ <;> rw [e1, e2]
  · have := Int.mul_nonneg h1 h2
    exact (if_neg (by omega)).symm
  · have := Int.mul_nonneg h1 (show 0 ≤ -y by omega)
    have e : x * -y = -(x * y) := by grind
    by_cases h : x * y < 0
    · rw [ab, if_pos h, e]
    · rw [ab, if_neg h]; omega
  · have := Int.mul_nonneg (show 0 ≤ -x by omega) h2
    have e : -x * y = -(x * y) := by grind
    by_cases h : x * y < 0
    · rw [ab, if_pos h, e]
    · rw [ab, if_neg h]; omega
  · have := Int.mul_nonneg (show 0 ≤ -x by omega) (show 0 ≤ -y by omega)
    have e : -x * -y = x * y := by grind
    rw [ab, if_neg (by omega), e]
theorem Hx {x k : Int} (h : ab x ≤ k) : x * x ≤ k * k := by
  have e : x * x = ab x * ab x := by
    rcases Aj x with ⟨_, e⟩ | ⟨_, e⟩ <;> rw [e]
    grind
  rw [e]
  have := Bm x
  exact Int.mul_le_mul h h this (by omega)
theorem last_eq {c d e D : Int} (h : meas (c, d, e) = D) : 4 * (ab c * ab e) = ab (d * d - D) := by
  have : d * d - D = 4 * (c * e) := by rw [← h]; simp only [meas]; grind
  rw [this, KC]
  rcases Aj (c * e) with ⟨h1, e1⟩ | ⟨h1, e1⟩
  · rw [e1, ab, if_neg (by omega)]
  · rw [e1, ab, if_pos (by omega)]; omega
theorem Yv {c d e D far : Int} (r : Sq D far) (D0 : 0 < D) (h : meas (c, d, e) = D) (hc : far < ab c) (h1 : -ab c < d) (h2 : d ≤ ab c) : 4 * ab e ≤ ab c := by
  have k := last_eq h
  have hd : d * d ≤ ab c * ab c := by
    refine Hx ?_
    rcases Aj d with ⟨_, e1⟩ | ⟨_, e1⟩ <;> omega
  have hD : D ≤ ab c * ab c := by
    have := Int.mul_le_mul (show far + 1 ≤ ab c by omega) (show far + 1 ≤ ab c by omega) (by have := r.1; omega) (Bm c)
    have := r.2.2
    omega
  have h0 := sq_nonneg d
  have : ab (d * d - D) ≤ ab c * ab c := by
    rcases Aj (d * d - D) with ⟨_, e1⟩ | ⟨_, e1⟩ <;> omega
  have hc0 : 0 < ab c := by have := r.1; omega
  rcases Int.lt_or_le (ab c) (4 * ab e) with z | z
  · exfalso
    have := Int.mul_lt_mul_of_pos_left z hc0
    have e2 : ab c * (4 * ab e) = 4 * (ab c * ab e) := by grind
    omega
  · exact z
theorem Wy {c d e D far : Int} (r : Sq D far) (n : ¬ Ge D) (h : meas (c, d, e) = D) (hc : ab c ≤ far) (hc2 : far < 2 * ab c) (h1 : far - 2 * ab c < d) (h2 : d ≤ far) : 2 * ab e ≤ far := by
  have k := last_eq h
  have hf := R0 r n
  have hd : d * d ≤ far * far := by
    refine Hx ?_
    rcases Aj d with ⟨_, e1⟩ | ⟨_, e1⟩ <;> omega
  have h0 := sq_nonneg d
  have hD := r.2.2
  have : ab (d * d - D) < (far + 1) * (far + 1) := by
    rcases Aj (d * d - D) with ⟨_, e1⟩ | ⟨_, e1⟩ <;> omega
  rcases Int.lt_or_le far (2 * ab e) with z | z
  · exfalso
    have := Int.mul_le_mul (show far + 1 ≤ 2 * ab c by omega) (show far + 1 ≤ 2 * ab e by omega) (by have := r.1; omega) (by have := Bm c; omega)
    have e2 : 2 * ab c * (2 * ab e) = 4 * (ab c * ab e) := by grind
    omega
  · exact z
theorem Tj {c d e far : Int} (hc : 2 * ab c ≤ far) (h1 : far - 2 * ab c < d) (h2 : d ≤ far) : Level (c, d, e) far := by
  refine ⟨⟨?_, h2⟩, ?_, ?_⟩
  · show 0 < d; omega
  · show far - d < 2 * ab c; omega
  · show 2 * ab c ≤ far + d; omega
theorem R9 {c d e D far : Int} (r : Sq D far) (hm : D ≤ 4000) (D0 : 0 < D) (h : meas (c, d, e) = D) (c0 : c ≠ 0) (hd : ab d ≤ far) : ab e ≤ 1000 := by
  have k := last_eq h
  have h2 : d * d ≤ far * far := Hx hd
  have h0 := sq_nonneg d
  have h3 := r.2.1
  have : ab (d * d - D) ≤ 4000 := by
    rcases Aj (d * d - D) with ⟨_, e1⟩ | ⟨_, e1⟩ <;> omega
  have hc : 1 ≤ ab c := by rcases Aj c with ⟨_, e1⟩ | ⟨_, e1⟩ <;> omega
  have := Int.mul_le_mul_of_nonneg_right hc (Bm e)
  omega
theorem GR {f : I3} {far : Int} (r : Sq (meas f) far) (n : ¬ Ge (meas f)) (L : Level f far) : far - f.2.1 < 2 * ab f.2.2 ∧ 2 * ab f.2.2 ≤ far + f.2.1 := by
  obtain ⟨a, b, c⟩ := f
  obtain ⟨⟨l1, l2⟩, l3, l4⟩ := L
  have l1 : 0 < b := l1
  have l2 : b ≤ far := l2
  have l3 : far - b < 2 * ab a := l3
  have l4 : 2 * ab a ≤ far + b := l4
  show far - b < 2 * ab c ∧ 2 * ab c ≤ far + b
  have hf := R0 r n
  have hD := r.2.2
  have k : 4 * (ab a * ab c) = ab (b * b - meas (a, b, c)) := last_eq (c := a) (d := b) (e := c) rfl
  generalize meas (a, b, c) = D at *
  have hb : b * b ≤ far * far := Int.mul_le_mul l2 l2 (by omega) (by omega)
  have k2 : (2 * ab a) * (2 * ab c) = D - b * b := by
    have e1 : (2 * ab a) * (2 * ab c) = 4 * (ab a * ab c) := by grind
    rcases Aj (b * b - D) with ⟨_, e⟩ | ⟨_, e⟩ <;> omega
  generalize 2 * ab a = A at *
  have hC0 : 0 ≤ 2 * ab c := by have := Bm c; omega
  generalize 2 * ab c = C at *
  constructor
  · rcases Int.lt_or_le (far - b) C with z | z
    · exact z
    · exfalso
      have z1 : A * C ≤ (far + b) * (far - b) := Int.mul_le_mul l4 z hC0 (by omega)
      have e1 : (far + b) * (far - b) = far * far - b * b := by grind
      omega
  · rcases Int.lt_or_le (far + b) C with z | z
    · exfalso
      have z1 : (far - b + 1) * (far + b + 1) ≤ A * C := Int.mul_le_mul (by omega) (by omega) (by omega) (by omega)
      have e1 : (far - b + 1) * (far + b + 1) = (far + 1) * (far + 1) - b * b := by grind
      omega
    · exact z
theorem RZ {f : I3} {far : Int} (S : Sad f) (r : Sq (meas f) far) (L : Level f far) : Level (mov f (Bx f far)) far := by
  have hc := FP S
  obtain ⟨e, he⟩ := Jq (top := far) hc
  rw [he]
  have ⟨d1, d2⟩ := G9 (top := far) hc
  have ⟨c1, c2⟩ := GR r S.no L
  obtain ⟨⟨l1, l2⟩, _, _⟩ := L
  have hk := Ga (top := far) hc
  have d3 : far - 2 * ab f.2.2 < dB f far := d1
  by_cases hC : 2 * ab f.2.2 ≤ far
  · exact Tj hC d1 d2
  ·
    have hd : dB f far = 2 * ab f.2.2 - f.2.1 := by
      have e1 : f.2.1 + dB f far = 2 * (f.2.2 * kB f far) := by rw [← hk]; grind
      have hx : ab (f.2.2 * kB f far) = ab f.2.2 * ab (kB f far) := (KC _ _).symm
      have hpos : 0 < f.2.2 * kB f far := by omega
      have hx2 : f.2.2 * kB f far = ab f.2.2 * ab (kB f far) := by rw [← hx, ab, if_neg (by omega)]
      have hk0 : 0 < ab (kB f far) := by
        rcases Int.lt_or_le 0 (ab (kB f far)) with z | z
        · exact z
        · have : ab (kB f far) = 0 := by have := Bm (kB f far); omega
          rw [this] at hx2
          omega
      have hk1 : ab (kB f far) = 1 := by
        rcases Int.lt_or_le (ab (kB f far)) 2 with z | z
        · omega
        · exfalso
          have := Int.mul_le_mul_of_nonneg_left z (Bm f.2.2)
          omega
      rw [hk1] at hx2
      omega
    refine ⟨⟨?_, d2⟩, ?_, ?_⟩
    · show 0 < dB f far; omega
    · show far - dB f far < 2 * ab f.2.2; omega
    · show 2 * ab f.2.2 ≤ far + dB f far; omega
theorem W9 {f : I3} {far : Int} (S : Sad f) (r : Sq (meas f) far) (L : Level f far) : B3 7 f := by
  have ⟨c1, c2⟩ := GR r S.no L
  have h6 := Hs r S.most
  obtain ⟨⟨l1, l2⟩, l3, l4⟩ := L
  have l4 : 2 * ab f.1 ≤ far + f.2.1 := l4
  exact ⟨NQ (k := 63) (by omega) (by decide), Bt.of (by omega) (by omega), NQ (k := 63) (by omega) (by decide)⟩
noncomputable abbrev bl (x : Int) : Nat := Builtin.Int.intBits x
theorem Tg {x : Int} : Bt (bl x) x := intBits_le_iff.mp (Nat.le_refl _)
theorem TQ {n : Nat} {x : Int} (h : Bt n x) : bl x ≤ n := intBits_le_iff.mpr h
theorem RD {x : Int} (h : x ≠ 0) : 1 ≤ bl x := by
  rcases Nat.lt_or_ge 0 (bl x) with z | z
  · exact z
  · have := Tg (x := x)
    unfold Bt at this
    rw [show bl x = 0 by omega] at this
    omega
theorem V6 {x : Int} (h : x ≠ 0) : 2 ^ (bl x - 1) ≤ x.natAbs := by
  rcases Nat.lt_or_ge x.natAbs (2 ^ (bl x - 1)) with z | z
  · have := TQ (n := bl x - 1) z
    have := RD h
    omega
  · exact z
theorem Vs {x y : Int} (h : 4 * ab x ≤ ab y) (hy : y ≠ 0) : bl x + 2 ≤ bl y ∨ x = 0 := by
  by_cases hx : x = 0
  · exact .inr hx
  · refine .inl ?_
    have h1 := V6 hx
    have h2 := Tg (x := y)
    unfold Bt at h2
    have p := RD hx
    rcases Nat.lt_or_ge (bl y) (bl x + 2) with z | z
    · exfalso
      have h3 : 2 ^ bl y ≤ 2 ^ (bl x - 1 + 2) := Nat.pow_le_pow_right (by decide) (by omega)
      rw [Nat.pow_add] at h3
      have h4 : 4 * x.natAbs ≤ y.natAbs := by
        rcases Aj x with ⟨_, e⟩ | ⟨_, e⟩ <;> rcases Aj y with ⟨_, e'⟩ | ⟨_, e'⟩ <;> omega
      omega
    · exact z
theorem Rg {b c d k : Int} {x : Nat} (hc : c ≠ 0) (hb : Bt x b) (hx : bl c ≤ x) (hd : ab d ≤ ab c) (hk : 2 * c * k = b + d) : Bt (x + 1 - bl c) k := by
  have h1 := V6 hc
  have h2 := Tg (x := c)
  have hp := RD hc
  unfold Bt at *
  have e1 : 2 * (c.natAbs * k.natAbs) = (b + d).natAbs := by
    rw [← hk, Int.mul_assoc, Int.natAbs_mul, Int.natAbs_mul]; rfl
  have e2 : (b + d).natAbs < 2 ^ x + 2 ^ bl c := by
    rcases Aj d with ⟨_, e⟩ | ⟨_, e⟩ <;> rcases Aj c with ⟨_, e'⟩ | ⟨_, e'⟩ <;> omega
  have e3 : 2 ^ bl c ≤ 2 ^ x := Nat.pow_le_pow_right (by decide) hx
  rcases Nat.lt_or_ge k.natAbs (2 ^ (x + 1 - bl c)) with z | z
  · exact z
  · exfalso
    have := Nat.mul_le_mul h1 z
    rw [← Nat.pow_add, show bl c - 1 + (x + 1 - bl c) = x by omega] at this
    omega
theorem KN {f : I3} {top : Int} {m : Nat} (h : Bt m (kB f top)) (hm : 1 ≤ m) : B4 m (Bx f top) := ⟨Bt.zero.le (by omega), (Bt.one.le hm).neg, Bt.one.le hm, h⟩
noncomputable def Nh (n : Nat) (far : Int) (f0 : I3) (t : I4) : Prop :=
  det t = 1 ∧ B3 n (mov f0 t) ∧
  (if far < ab (mov f0 t).2.2 then ∃ β x, B4 β t ∧ Bt x (mov f0 t).2.1 ∧ bl (mov f0 t).2.2 ≤ x ∧ β + x + bl (mov f0 t).2.2 ≤ 2 * n + 1
   else if Level (mov f0 t) far then B4 (5 * n + 30) t else if far < 2 * ab (mov f0 t).2.2 then B4 (3 * n + 10) t else B4 (4 * n + 20) t)
noncomputable def eM (far : Int) (f : I3) : Nat := if far < ab f.2.2 then (ab f.2.2).toNat + 3 else if Level f far then 0 else if far < 2 * ab f.2.2 then 2 else 1
theorem Nh.b4 {n : Nat} {far : Int} {f0 : I3} {t : I4} (h : Nh n far f0 t) : B4 (5 * n + 30) t := by
  obtain ⟨_, _, h⟩ := h
  split at h
  · obtain ⟨β, x, hb, _, _, _⟩ := h
    exact hb.le (by omega)
  · split at h
    · exact h
    · split at h
      · exact h.le (by omega)
      · exact h.le (by omega)
theorem Nh.start {n : Nat} {far : Int} {f : I3} (hn : 1 ≤ n) (hf : B3 n f) : Nh n far f (1, 0, 0, 1) := by
  have one : B4 1 (1, 0, 0, 1) := ⟨Bt.one, Bt.zero.le (by omega), Bt.zero.le (by omega), Bt.one⟩
  unfold Nh
  rw [Cu]
  refine ⟨rfl, hf, ?_⟩
  split
  · exact ⟨1, n, one, hf.2.1, TQ hf.2.2, by have := TQ hf.2.2; omega⟩
  · split
    · exact one.le (by omega)
    · split
      · exact one.le (by omega)
      · exact one.le (by omega)
theorem Vd {n : Nat} {far : Int} {f0 : I3} {t : I4} (hn : 12 ≤ n) (S : Sad f0) (r : Sq (meas f0) far) (I : Nh n far f0 t) (nl : ¬ Level (mov f0 t) far) :
    Nh n far f0 (Ao t (Bx (mov f0 t) (if far > ab (mov f0 t).2.2 then far else ab (mov f0 t).2.2))) ∧
    eM far (mov f0 (Ao t (Bx (mov f0 t) (if far > ab (mov f0 t).2.2 then far else ab (mov f0 t).2.2)))) < eM far (mov f0 t) ∧
    B4 (n + 3) (Bx (mov f0 t) (if far > ab (mov f0 t).2.2 then far else ab (mov f0 t).2.2)) := by
  have hb4 := I.b4
  obtain ⟨hd, hb, hI⟩ := I
  have Sf := S.mov hd
  have hm := Cw (f := f0) hd
  have rf : Sq (meas (mov f0 t)) far := by rw [hm]; exact r
  have f63 := Hs rf Sf.most
  have far0 := r.1
  simp only [Nh, ← Ck]
  rw [Jp, hd, BP]
  generalize hf : mov f0 t = f at *
  have hc := FP Sf
  have c1 : 1 ≤ ab f.2.2 := by rcases Aj f.2.2 with ⟨_, e1⟩ | ⟨_, e1⟩ <;> omega
  by_cases h1 : far < ab f.2.2
  ·
    rw [if_pos h1] at hI
    obtain ⟨β, x, hβ, hx, hlx, hsum⟩ := hI
    rw [if_neg (show ¬ far > ab f.2.2 by omega)]
    have ⟨d1, d2⟩ := G9 (top := ab f.2.2) hc
    have hk := Ga (top := ab f.2.2) hc
    obtain ⟨e, he⟩ := Jq (top := ab f.2.2) hc
    have hme : meas (f.2.2, dB f (ab f.2.2), e) = meas f := by rw [← he, Cw BP]
    have hdc : ab (dB f (ab f.2.2)) ≤ ab f.2.2 := by rcases Aj (dB f (ab f.2.2)) with ⟨_, e1⟩ | ⟨_, e1⟩ <;> omega
    have h4 := Yv rf Sf.pos hme h1 (by omega) d2
    have kbt := Rg hc hx hlx hdc hk
    have k1 : 1 ≤ x + 1 - bl f.2.2 := by omega
    have hbeh := KN kbt k1
    have hxn : bl f.2.2 ≤ n := TQ hb.2.2
    have hS' := Sf.mov (t := Bx f (ab f.2.2)) BP
    rw [he] at hS'
    have he0 : e ≠ 0 := FP hS'
    have hfour := (Vs h4 hc).resolve_right he0
    have hβ' := B4.then hβ hbeh
    rw [he]
    refine ⟨⟨rfl, ⟨hb.2.2, Uh hb.2.2 hdc, Uh hb.2.2 (show ab e ≤ ab f.2.2 by have := Bm e; omega)⟩, ?_⟩, ?_, ?_⟩
    · show if far < ab e then _ else _
      split
      · refine ⟨_, bl f.2.2, hβ', ?_, ?_, ?_⟩
        · exact Uh Tg hdc
        · show bl e ≤ bl f.2.2; omega
        · show _ + bl f.2.2 + bl e ≤ _; omega
      · split
        · exact hβ'.le (by omega)
        · split
          · exact hβ'.le (by omega)
          · exact hβ'.le (by omega)
    · unfold eM
      rw [if_pos h1]
      show (if far < ab e then (ab e).toNat + 3 else _) < _
      split
      · have := Bm e; omega
      · split
        · omega
        · split <;> omega
    ·
      have : Bt (n + 1 - bl f.2.2) (kB f (ab f.2.2)) := Rg hc hb.2.1 hxn hdc hk
      exact (KN this (by omega)).le (by omega)
  · rw [if_neg h1, if_neg nl] at hI
    have etop : (if far > ab f.2.2 then far else ab f.2.2) = far := by split <;> omega
    rw [etop]
    have ⟨d1, d2⟩ := G9 (top := far) hc
    have hk := Ga (top := far) hc
    obtain ⟨e, he⟩ := Jq (top := far) hc
    have hme : meas (f.2.2, dB f far, e) = meas f := by rw [← he, Cw BP]
    have hdf : ab (dB f far) ≤ far := by rcases Aj (dB f far) with ⟨_, e1⟩ | ⟨_, e1⟩ <;> omega
    have hel := R9 rf Sf.most Sf.pos hme hc hdf
    have kb : Bt (n + 2) (kB f far) := by
      have e1 : 2 * (ab f.2.2 * ab (kB f far)) = ab (f.2.1 + dB f far) := by
        rw [← hk, KC]
        have : 2 * f.2.2 * kB f far = 2 * (f.2.2 * kB f far) := by grind
        rw [this]
        rcases Aj (f.2.2 * kB f far) with ⟨h1, e1⟩ | ⟨h1, e1⟩
        · rw [e1, ab, if_neg (by omega)]
        · rw [e1, ab, if_pos (by omega)]; omega
      have e2 := Int.mul_le_mul_of_nonneg_right c1 (Bm (kB f far))
      have e3 : Bt (n + 1) (f.2.1 + dB f far) := by
        have := (hb.2.1).add (show Bt 7 (dB f far) from NQ (k := 63) (by omega) (by decide))
        exact this.le (by omega)
      refine Bt.le (n := n + 1) (Uh e3 ?_) (by omega)
      have := Bm (kB f far)
      omega
    have hbeh := KN kb (by omega)
    rw [he]
    have hB : B3 n (f.2.2, dB f far, e) := ⟨hb.2.2, Bt.le (n := 7) (NQ (k := 63) (show ab (dB f far) ≤ 63 by omega) (by decide)) (by omega), Bt.le (n := 12) (NQ (x := e) hel (by decide)) (by omega)⟩
    by_cases h2 : far < 2 * ab f.2.2
    · rw [if_pos h2] at hI
      have hβ' := B4.then hI hbeh
      have hh := Wy rf Sf.no hme (by omega) h2 (by omega) d2
      have h3 : ¬ far < ab e := by have := Bm e; omega
      refine ⟨⟨rfl, hB, ?_⟩, ?_, hbeh.le (by omega)⟩
      · show if far < ab e then _ else _
        rw [if_neg h3]
        split
        · exact hβ'.le (by omega)
        · rw [if_neg (show ¬ far < 2 * ab (f.2.2, dB f far, e).2.2 by show ¬ far < 2 * ab e; omega)]
          exact hβ'.le (by omega)
      · unfold eM
        rw [if_neg h1, if_neg nl, if_pos h2]
        show (if far < ab e then _ else _) < 2
        rw [if_neg h3]
        split
        · omega
        · rw [if_neg (show ¬ far < 2 * ab (f.2.2, dB f far, e).2.2 by show ¬ far < 2 * ab e; omega)]
          omega
    · rw [if_neg h2] at hI
      have hβ' := B4.then hI hbeh
      have hL : Level (f.2.2, dB f far, e) far := Tj (by omega) d1 d2
      have h3 : ¬ far < ab e := by
        have := (GR (f := (f.2.2, dB f far, e)) (by rw [hme]; exact rf) (by rw [hme]; exact Sf.no) hL).2
        simp only at this
        omega
      refine ⟨⟨rfl, hB, ?_⟩, ?_, hbeh.le (by omega)⟩
      · show if far < ab e then _ else _
        rw [if_neg h3, if_pos hL]
        exact hβ'.le (by omega)
      · unfold eM
        rw [if_neg h1, if_neg nl, if_neg h2]
        show (if far < ab e then _ else _) < 1
        rw [if_neg h3, if_pos hL]
        omega
noncomputable def Riv (f : I3) : Prop := (0 < f.1 ∧ f.2.2 < 0) ∧ ¬ Ge (meas f)
noncomputable abbrev tR : I4 := (1, 1, 0, 1)
noncomputable abbrev tL : I4 := (1, 0, 1, 1)
noncomputable def sm (f : I3) : Int := f.1 + f.2.1 + f.2.2
theorem Xg {a b c : Int} : mov (a, b, c) tR = (a, b + 2 * a, a + b + c) := by
  simp only [mov, val, mid, Prod.mk.injEq]
  refine ⟨?_, ?_, ?_⟩ <;> grind
theorem Wv {a b c : Int} : mov (a, b, c) tL = (a + b + c, b + 2 * c, c) := by
  simp only [mov, val, mid, Prod.mk.injEq]
  refine ⟨?_, ?_, ?_⟩ <;> grind
theorem Z6 {f : I3} (n : ¬ Ge (meas f)) : sm f ≠ 0 := fun h => n ⟨f.1 - f.2.2, by
  obtain ⟨a, b, c⟩ := f
  simp only [sm, meas] at *
  have : b = -(a + c) := by omega
  subst this
  grind⟩
noncomputable def stT (f : I3) : I4 := if sm f < 0 then tR else tL
noncomputable def nx (f : I3) : I3 := mov f (stT f)
theorem AaW {f : I3} : det (stT f) = 1 := by unfold stT; split <;> rfl
theorem Riv.next {f : I3} (h : Riv f) : Riv (nx f) := by
  have hm := Cw (f := f) (AaW (f := f))
  refine ⟨?_, by unfold nx; rw [hm]; exact h.2⟩
  have hs := Z6 h.2
  obtain ⟨a, b, c⟩ := f
  obtain ⟨⟨h1, h2⟩, _⟩ := h
  by_cases h : sm (a, b, c) < 0
  · have e : nx (a, b, c) = (a, b + 2 * a, a + b + c) := by unfold nx; rw [show stT (a, b, c) = tR from if_pos h]; exact Xg
    rw [e]; exact ⟨h1, h⟩
  · have e : nx (a, b, c) = (a + b + c, b + 2 * c, c) := by unfold nx; rw [show stT (a, b, c) = tL from if_neg h]; exact Wv
    rw [e]
    refine ⟨?_, h2⟩
    simp only [sm] at h hs ⊢
    omega
structure NN (t : I4) : Prop where
  p : 1 ≤ t.1
  q : 0 ≤ t.2.1
  r : 0 ≤ t.2.2.1
  s : 1 ≤ t.2.2.2
  d : det t = 1
noncomputable def sz (t : I4) : Nat := (t.1 + t.2.1 + t.2.2.1 + t.2.2.2).toNat
theorem NN.split {t : I4} (h : NN t) : t = (1, 0, 0, 1) ∨ (∃ u, NN u ∧ t = Ao tR u ∧ sz u < sz t) ∨ (∃ u, NN u ∧ t = Ao tL u ∧ sz u < sz t) := by
  obtain ⟨p, q, r, s⟩ := t
  obtain ⟨hp, hq, hr, hs, hd⟩ := h
  simp only [det] at *
  by_cases c1 : r ≤ p ∧ s ≤ q
  · refine .inr (.inl ⟨(p - r, q - s, r, s), ⟨?_, by simp only; omega, hr, hs, ?_⟩, ?_, ?_⟩)
    · show 1 ≤ p - r
      have e : (p - r) * s - (q - s) * r = 1 := by grind
      have z := Int.mul_nonneg (show 0 ≤ q - s by omega) hr
      rcases Int.lt_or_le (p - r) 1 with w | w
      · have : (p - r) * s ≤ 0 * s := Int.mul_le_mul_of_nonneg_right (by omega) (by omega)
        omega
      · exact w
    · show (p - r) * s - (q - s) * r = 1
      grind
    · simp only [Ao, Prod.mk.injEq]
      refine ⟨?_, ?_, ?_, ?_⟩ <;> omega
    · simp only [sz]; omega
  · by_cases c2 : p ≤ r ∧ q ≤ s
    · refine .inr (.inr ⟨(p, q, r - p, s - q), ⟨hp, hq, by simp only; omega, ?_, ?_⟩, ?_, ?_⟩)
      · show 1 ≤ s - q
        have e : p * (s - q) - q * (r - p) = 1 := by grind
        have z := Int.mul_nonneg hq (show 0 ≤ r - p by omega)
        rcases Int.lt_or_le (s - q) 1 with w | w
        · have : p * (s - q) ≤ p * 0 := Int.mul_le_mul_of_nonneg_left (by omega) (by omega)
          omega
        · exact w
      · show p * (s - q) - q * (r - p) = 1
        grind
      · simp only [Ao, Prod.mk.injEq]
        refine ⟨?_, ?_, ?_, ?_⟩ <;> omega
      · simp only [sz]; omega
    · rcases Int.lt_or_le r p with w | w
      ·
        have w2 : q < s := by omega
        have z := Int.mul_le_mul (show r + 1 ≤ p by omega) (show q + 1 ≤ s by omega) (by omega) (by omega)
        have e : (r + 1) * (q + 1) = r * q + r + q + 1 := by grind
        have e2 : r * q = q * r := Int.mul_comm r q
        have r0 : r = 0 := by omega
        have q0 : q = 0 := by omega
        subst r0 q0
        left
        have hps : p * s = 1 := by omega
        have p1 : p = 1 := by
          rcases Int.lt_or_le p 2 with v | v
          · omega
          · have := Int.mul_le_mul v hs (by decide) (by omega)
            omega
        subst p1
        have : s = 1 := by omega
        rw [this]
      ·
        have w2 : s < q := by omega
        have w3 : p < r := by
          rcases Int.lt_or_le p r with v | v
          · exact v
          · have : p = r := by omega
            subst this
            exfalso
            have e : p * s - q * p = p * (s - q) := by grind
            have := Int.mul_le_mul_of_nonneg_left (show s - q ≤ -1 by omega) (show 0 ≤ p by omega)
            omega
        exfalso
        have z := Int.mul_le_mul (show p ≤ r - 1 by omega) (show s ≤ q - 1 by omega) (by omega) (by omega)
        have e : (r - 1) * (q - 1) = q * r - r - q + 1 := by grind
        omega
noncomputable def wd : Nat → I3 → I4
  | 0, _ => (1, 0, 0, 1)
  | n + 1, f => Ao (stT f) (wd n (nx f))
noncomputable def nxs : Nat → I3 → I3
  | 0, f => f
  | n + 1, f => nxs n (nx f)
theorem HN {t : I4} : Ao (1, 0, 0, 1) t = t := by
  obtain ⟨p, q, r, s⟩ := t
  simp only [Ao, Prod.mk.injEq]
  refine ⟨?_, ?_, ?_, ?_⟩ <;> omega
theorem Fl {t : I4} : Ao t (1, 0, 0, 1) = t := by
  obtain ⟨p, q, r, s⟩ := t
  simp only [Ao, Prod.mk.injEq]
  refine ⟨?_, ?_, ?_, ?_⟩ <;> omega
theorem then_assoc {t u v : I4} : Ao (Ao t u) v = Ao t (Ao u v) := by
  obtain ⟨a, b, c, d⟩ := t; obtain ⟨e, f, g, h⟩ := u; obtain ⟨i, j, k, l⟩ := v
  simp only [Ao, Prod.mk.injEq]
  refine ⟨?_, ?_, ?_, ?_⟩ <;> grind
theorem Jc : ∀ (n : Nat) (f : I3), mov f (wd n f) = nxs n f
  | 0, f => Cu
  | n + 1, f => by rw [wd, ← Ck]; exact Jc n (nx f)
theorem TJ {a b c x y : Int} (ha : 0 < a) (hb : 0 < b) (hc : 0 < c) (hx : 0 ≤ x) (hy : 0 ≤ y) : 0 ≤ val (a, b, c) (x, y) := by
  have e : val (a, b, c) (x, y) = a * (x * x) + b * (x * y) + c * (y * y) := by simp only [val]; grind
  have h1 := Int.mul_nonneg (show 0 ≤ a by omega) (Int.mul_nonneg hx hx)
  have h2 := Int.mul_nonneg (show 0 ≤ b by omega) (Int.mul_nonneg hx hy)
  have h3 := Int.mul_nonneg (show 0 ≤ c by omega) (Int.mul_nonneg hy hy)
  omega
theorem neg_val {a b c x y : Int} (ha : a < 0) (hb : b < 0) (hc : c < 0) (hx : 0 ≤ x) (hy : 0 ≤ y) : val (a, b, c) (x, y) ≤ 0 := by
  have := TJ (a := -a) (b := -b) (c := -c) (by omega) (by omega) (by omega) hx hy
  have e : val (-a, -b, -c) (x, y) = -val (a, b, c) (x, y) := by simp only [val]; grind
  omega
theorem along : ∀ (m : Nat) (f : I3) (t : I4), sz t ≤ m → Riv f → NN t → Riv (mov f t) → ∃ n, t = wd n f := by
  intro m
  induction m with
  | zero =>
    intro f t hs _ hN _
    exfalso
    have := hN.p; have := hN.q; have := hN.r; have := hN.s
    unfold sz at hs
    omega
  | succ m ih =>
    intro f t hs hf hN hg
    rcases hN.split with e | ⟨u, hu, e, hl⟩ | ⟨u, hu, e, hl⟩
    · exact ⟨0, e⟩
    · have hsm : sm f < 0 := by
        have hne := Z6 hf.2
        rcases Int.lt_or_le (sm f) 0 with z | z
        · exact z
        · exfalso
          rw [e, ← Ck] at hg
          obtain ⟨a, b, c⟩ := f
          obtain ⟨p, q, r, s⟩ := u
          rw [Xg] at hg
          have h1 : (mov (a, b + 2 * a, a + b + c) (p, q, r, s)).2.2 < 0 := hg.1.2
          have h2 : 0 < a := hf.1.1
          have h3 : c < 0 := hf.1.2
          simp only [sm] at hne z
          have h4 : 0 ≤ val (a, b + 2 * a, a + b + c) (q, s) := TJ h2 (by omega) (by omega) hu.q (by have := hu.s; simp only at this; omega)
          have h5 : (mov (a, b + 2 * a, a + b + c) (p, q, r, s)).2.2 = val (a, b + 2 * a, a + b + c) (q, s) := rfl
          omega
      have hst : stT f = tR := by unfold stT; rw [if_pos hsm]
      have hnx : nx f = mov f tR := by unfold nx; rw [hst]
      have hr := hf.next
      obtain ⟨n, en⟩ := ih (nx f) u (by omega) hr hu (by rw [hnx, Ck, ← e]; exact hg)
      exact ⟨n + 1, by rw [wd, hst, ← en]; exact e⟩
    · have hsm : ¬ sm f < 0 := by
        intro z
        rw [e, ← Ck] at hg
        obtain ⟨a, b, c⟩ := f
        obtain ⟨p, q, r, s⟩ := u
        rw [Wv] at hg
        have h1 : 0 < (mov (a + b + c, b + 2 * c, c) (p, q, r, s)).1 := hg.1.1
        have h2 : 0 < a := hf.1.1
        have h3 : c < 0 := hf.1.2
        simp only [sm] at z
        have h4 : val (a + b + c, b + 2 * c, c) (p, r) ≤ 0 := neg_val (by omega) (by omega) h3 (by have := hu.p; simp only at this; omega) hu.r
        have h5 : (mov (a + b + c, b + 2 * c, c) (p, q, r, s)).1 = val (a + b + c, b + 2 * c, c) (p, r) := rfl
        omega
      have hst : stT f = tL := by unfold stT; rw [if_neg hsm]
      have hnx : nx f = mov f tL := by unfold nx; rw [hst]
      have hr := hf.next
      obtain ⟨n, en⟩ := ih (nx f) u (by omega) hr hu (by rw [hnx, Ck, ← e]; exact hg)
      exact ⟨n + 1, by rw [wd, hst, ← en]; exact e⟩
noncomputable def Fq (t : I4) : I4 := (-t.1, -t.2.1, -t.2.2.1, -t.2.2.2)
theorem Ku {f : I3} {t : I4} : mov f (Fq t) = mov f t := by
  obtain ⟨a, b, c⟩ := f; obtain ⟨p, q, r, s⟩ := t
  simp only [mov, val, mid, Fq, Prod.mk.injEq]
  refine ⟨?_, ?_, ?_⟩ <;> grind
theorem neg_neg {t : I4} : Fq (Fq t) = t := by
  obtain ⟨p, q, r, s⟩ := t
  simp only [Fq, Prod.mk.injEq]
  refine ⟨?_, ?_, ?_, ?_⟩ <;> omega
theorem Yw {t : I4} : det (Fq t) = det t := by
  obtain ⟨p, q, r, s⟩ := t
  simp only [det, Fq]; grind
theorem Ra {t : I4} : Bo (Fq t) = Fq (Bo t) := by
  obtain ⟨p, q, r, s⟩ := t
  simp only [Bo, Fq]
theorem signs {f : I3} {t : I4} (hf : Riv f) (hd : det t = 1) (hg : Riv (mov f t)) (hp : 0 ≤ t.1) : NN t ∨ NN (Bo t) := by
  obtain ⟨a, b, c⟩ := f
  obtain ⟨p, q, r, s⟩ := t
  have ha : 0 < a := hf.1.1
  have hc : c < 0 := hf.1.2
  have hu : 0 < val (a, b, c) (p, r) := hg.1.1
  have hv : val (a, b, c) (q, s) < 0 := hg.1.2
  have hp : 0 ≤ p := hp
  have p0 : p ≠ 0 := fun e => by
    subst e
    rw [Ab7] at hu
    have := Int.mul_nonneg (show 0 ≤ -c by omega) (sq_nonneg r)
    have e : -c * (r * r) = -(c * (r * r)) := by grind
    omega
  have s0 : s ≠ 0 := fun e => by
    subst e
    rw [Abr] at hv
    have := Int.mul_nonneg (show 0 ≤ a by omega) (sq_nonneg q)
    omega
  have hd' : p * s - q * r = 1 := hd
  have key : val (a, b, c) (p, r) * (q * s) - val (a, b, c) (q, s) * (p * r) = (p * s - q * r) * (a * (p * q) - c * (r * s)) := by simp only [val]; grind
  have hs : 0 < s := by
    rcases Int.lt_or_le 0 s with z | z
    · exact z
    · exfalso
      have z : s ≤ -1 := by omega
      have h1 : p * s ≤ 1 * -1 := by
        have := Int.mul_le_mul_of_nonneg_left z (show 0 ≤ p by omega)
        omega
      have hqr : q * r ≤ -2 := by omega
      rw [hd', Int.one_mul] at key
      rcases Int.lt_or_le q 0 with hq | hq
      · have hr : 0 < r := by
          rcases Int.lt_or_le 0 r with w | w
          · exact w
          · have := Int.mul_nonneg_of_nonpos_of_nonpos (show q ≤ 0 by omega) w
            omega
        have k1 := Int.mul_pos hu (Int.mul_pos_of_neg_of_neg hq (show s < 0 by omega))
        have k2 := Int.mul_neg_of_neg_of_pos hv (Int.mul_pos (show 0 < p by omega) hr)
        have k3 := Int.mul_neg_of_pos_of_neg ha (Int.mul_neg_of_pos_of_neg (show 0 < p by omega) hq)
        have k4 := Int.mul_pos_of_neg_of_neg hc (Int.mul_neg_of_pos_of_neg hr (show s < 0 by omega))
        omega
      · have hq' : 0 < q := by
          rcases Int.lt_or_le 0 q with w | w
          · exact w
          · have : q = 0 := by omega
            subst this
            omega
        have hr : r < 0 := by
          rcases Int.lt_or_le r 0 with w | w
          · exact w
          · have := Int.mul_nonneg hq w
            omega
        have k1 := Int.mul_neg_of_pos_of_neg hu (Int.mul_neg_of_pos_of_neg hq' (show s < 0 by omega))
        have k2 := Int.mul_pos_of_neg_of_neg hv (Int.mul_neg_of_pos_of_neg (show 0 < p by omega) hr)
        have k3 := Int.mul_pos ha (Int.mul_pos (show 0 < p by omega) hq')
        have k4 := Int.mul_neg_of_neg_of_pos hc (Int.mul_pos_of_neg_of_neg hr (show s < 0 by omega))
        omega
  have hps := Int.mul_le_mul (show 1 ≤ p by omega) (show 1 ≤ s by omega) (by decide) (by omega)
  by_cases hq : 0 ≤ q ∧ 0 ≤ r
  · exact .inl ⟨by simp only; omega, hq.1, hq.2, by simp only; omega, hd⟩
  · right
    have hqr : q ≤ 0 ∧ r ≤ 0 := by
      rcases Int.lt_trichotomy q 0 with w | w | w
      · refine ⟨by omega, ?_⟩
        rcases Int.lt_or_le 0 r with v | v
        · have := Int.mul_neg_of_neg_of_pos w v; omega
        · exact v
      · omega
      · exfalso
        have : r < 0 := by omega
        have := Int.mul_neg_of_pos_of_neg w this
        omega
    exact ⟨by simp only [Bo]; omega, by simp only [Bo]; omega, by simp only [Bo]; omega, by simp only [Bo]; omega, K9.trans hd⟩
theorem Aew {f : I3} {t : I4} (hf : Riv f) (hd : det t = 1) (hg : Riv (mov f t)) :
    (∃ n, t = wd n f ∨ t = Fq (wd n f)) ∨ (∃ n, Bo t = wd n (mov f t) ∨ Bo t = Fq (wd n (mov f t))) := by
  have core : ∀ t : I4, det t = 1 → Riv (mov f t) → 0 ≤ t.1 → (∃ n, t = wd n f) ∨ (∃ n, Bo t = wd n (mov f t)) := fun t hd hg hp => by
    rcases signs hf hd hg hp with h | h
    · exact .inl (along _ f t (Nat.le_refl _) hf h hg)
    · exact .inr (along _ (mov f t) (Bo t) (Nat.le_refl _) hg h (by rw [Gu hd]; exact hf))
  rcases Int.le_total 0 t.1 with hp | hp
  · rcases core t hd hg hp with ⟨n, h⟩ | ⟨n, h⟩
    · exact .inl ⟨n, .inl h⟩
    · exact .inr ⟨n, .inl h⟩
  · rcases core (Fq t) (Yw.trans hd) (by rw [Ku]; exact hg) (by show 0 ≤ -t.1; omega) with ⟨n, h⟩ | ⟨n, h⟩
    · exact .inl ⟨n, .inr (by rw [← h, neg_neg])⟩
    · rw [Ku, Ra] at h
      exact .inr ⟨n, .inr (by rw [← h, neg_neg])⟩
structure Lv (far : Int) (f : I3) : Prop where
  S : Sad f
  r : Sq (meas f) far
  L : Level f far
noncomputable abbrev aft (far : Int) (f : I3) : I3 := mov f (Bx f far)
theorem Lv.next {far : Int} {f : I3} (h : Lv far f) : Lv far (aft far f) :=
  ⟨h.S.mov BP, by rw [Cw BP]; exact h.r, RZ h.S h.r h.L⟩
theorem Lv.ac {far : Int} {f : I3} (h : Lv far f) : f.1 * f.2.2 < 0 := by
  have hf := R0 h.r h.S.no
  obtain ⟨⟨l1, l2⟩, _, _⟩ := h.L
  obtain ⟨a, b, c⟩ := f
  have l1 : 0 < b := l1
  have l2 : b ≤ far := l2
  have hb : b * b ≤ far * far := Int.mul_le_mul l2 l2 (by omega) (by omega)
  have e : meas (a, b, c) = b * b - 4 * (a * c) := by simp only [meas]; grind
  show a * c < 0
  omega
theorem Lv.neg {far : Int} {f : I3} (h : Lv far f) (ha : 0 < f.1) : f.2.2 < 0 := by
  rcases Int.lt_or_le f.2.2 0 with z | z
  · exact z
  · have := h.ac
    have := Int.mul_nonneg (show 0 ≤ f.1 by omega) z
    omega
theorem Lv.pos {far : Int} {f : I3} (h : Lv far f) (ha : f.1 < 0) : 0 < f.2.2 := by
  rcases Int.lt_or_le 0 f.2.2 with z | z
  · exact z
  · have := h.ac
    have := Int.mul_nonneg_of_nonpos_of_nonpos (show f.1 ≤ 0 by omega) z
    omega
theorem Fd {far : Int} {f : I3} (h : Lv far f) : (aft far f).1 = f.2.2 ∧ (aft far f).2.1 = dB f far ∧ (aft far f).2.2 = f.1 - f.2.1 * kB f far + f.2.2 * (kB f far * kB f far) := by
  obtain ⟨e, he⟩ := Jq (top := far) (FP h.S)
  refine ⟨by show (mov f (Bx f far)).1 = _; rw [he], by show (mov f (Bx f far)).2.1 = _; rw [he], ?_⟩
  show val f (-1, kB f far) = _
  simp only [val]; grind
theorem Lv.riv {far : Int} {f : I3} (h : Lv far f) (ha : 0 < f.1) : Riv f := ⟨⟨ha, h.neg ha⟩, h.S.no⟩
theorem Ue {far : Int} {f g : I3} (hf : Lv far f) (hg : Lv far g) (hm : meas f = meas g) (h : aft far f = aft far g) : f = g := by
  have ⟨f1, f2, _⟩ := Fd hf
  have ⟨g1, g2, _⟩ := Fd hg
  have hc : f.2.2 = g.2.2 := by rw [← f1, h, g1]
  have hd : dB f far = dB g far := by rw [← f2, h, g2]
  have kf := Ga (top := far) (FP hf.S)
  have kg := Ga (top := far) (FP hg.S)
  have cf := (GR hf.r hf.S.no hf.L).1
  have cg := (GR hg.r hg.S.no hg.L).1
  have lf := hf.L.1.2
  have lg := hg.L.1.2
  have c0 := FP hf.S
  obtain ⟨a, b, c⟩ := f
  obtain ⟨a', b', c'⟩ := g
  simp only at hc hd kf kg cf cg lf lg c0
  subst hc
  rw [← hd] at kg
  have hb : b = b' := by
    have e : b - b' = 2 * (c * (kB (a, b, c) far - kB (a', b', c) far)) := by
      have : 2 * (c * (kB (a, b, c) far - kB (a', b', c) far)) = 2 * c * kB (a, b, c) far - 2 * c * kB (a', b', c) far := by grind
      omega
    generalize kB (a, b, c) far - kB (a', b', c) far = k at *
    have hx : ab (c * k) = ab c * ab k := (KC c k).symm
    have hk : ab k = 0 := by
      rcases Int.lt_or_le (ab k) 1 with z | z
      · have := Bm k; omega
      · exfalso
        have := Int.mul_le_mul_of_nonneg_left z (Bm c)
        rcases Aj (c * k) with ⟨_, e1⟩ | ⟨_, e1⟩ <;> omega
    rw [hk] at hx
    have : c * k = 0 := by rcases Aj (c * k) with ⟨_, e1⟩ | ⟨_, e1⟩ <;> omega
    omega
  subst hb
  have e1 : 4 * c * a = 4 * c * a' := by
    simp only [meas] at hm
    have x1 : 4 * a * c = 4 * c * a := by grind
    have x2 : 4 * a' * c = 4 * c * a' := by grind
    omega
  have : a = a' := Int.eq_of_mul_eq_mul_left (show 4 * c ≠ 0 by omega) e1
  rw [this]
theorem Aec : ∀ (k : Nat) (a b c : Int), (∀ j : Nat, 1 ≤ j → j ≤ k → 0 < a + b * j + c * (j * j)) → wd k (a, b, c) = (1, 0, (k : Int), 1)
  | 0, _, _, _, _ => rfl
  | k + 1, a, b, c, h => by
    have h1 := h 1 (by omega) (by omega)
    have hs : ¬ sm (a, b, c) < 0 := by simp only [sm]; simp at h1; omega
    have e : nx (a, b, c) = (a + b + c, b + 2 * c, c) := by unfold nx; rw [show stT (a, b, c) = tL from if_neg hs]; exact Wv
    rw [wd, e, show stT (a, b, c) = tL from if_neg hs, Aec k _ _ _ fun j j1 jk => ?_]
    · simp only [Ao, Prod.mk.injEq]
      refine ⟨by omega, by omega, by push_cast; omega, by omega⟩
    · have := h (j + 1) (by omega) (by omega)
      have e2 : a + b + c + (b + 2 * c) * (j : Int) + c * ((j : Int) * j) = a + b * ((j + 1 : Nat) : Int) + c * (((j + 1 : Nat) : Int) * ((j + 1 : Nat) : Int)) := by push_cast; grind
      rw [e2]; exact this
theorem AdO : ∀ (k : Nat) (a b c : Int), (∀ j : Nat, 1 ≤ j → j ≤ k → a * (j * j) + b * j + c < 0) → wd k (a, b, c) = (1, (k : Int), 0, 1)
  | 0, _, _, _, _ => rfl
  | k + 1, a, b, c, h => by
    have h1 := h 1 (by omega) (by omega)
    have hs : sm (a, b, c) < 0 := by simp only [sm]; simp at h1; omega
    have e : nx (a, b, c) = (a, b + 2 * a, a + b + c) := by unfold nx; rw [show stT (a, b, c) = tR from if_pos hs]; exact Xg
    rw [wd, e, show stT (a, b, c) = tR from if_pos hs, AdO k _ _ _ fun j j1 jk => ?_]
    · simp only [Ao, Prod.mk.injEq]
      refine ⟨by omega, by push_cast; omega, by omega, by omega⟩
    · have := h (j + 1) (by omega) (by omega)
      have e2 : a * ((j : Int) * j) + (b + 2 * a) * (j : Int) + (a + b + c) = a * (((j + 1 : Nat) : Int) * ((j + 1 : Nat) : Int)) + b * ((j + 1 : Nat) : Int) + c := by push_cast; grind
      rw [e2]; exact this
theorem R5 : ∀ (m n : Nat) (f : I3), wd (m + n) f = Ao (wd m f) (wd n (nxs m f))
  | 0, n, f => by rw [Nat.zero_add]; exact HN.symm
  | m + 1, n, f => by
    rw [show m + 1 + n = (m + n) + 1 by omega, wd, R5 m n (nx f), wd, then_assoc]; rfl
theorem Ov : ∀ (m n : Nat) (f : I3), nxs (m + n) f = nxs n (nxs m f)
  | 0, n, f => by rw [Nat.zero_add]; rfl
  | m + 1, n, f => by rw [show m + 1 + n = (m + n) + 1 by omega]; exact Ov m n (nx f)
theorem AdH {a b c k j : Int} (hc : c ≤ 0) (h0 : 0 < a) (hk : 0 < a + b * k + c * (k * k)) (j0 : 0 ≤ j) (jk : j ≤ k) (k0 : 0 < k) : 0 < a + b * j + c * (j * j) := by
  have e : k * (a + b * j + c * (j * j)) = (k - j) * a + j * (a + b * k + c * (k * k)) + (-c) * (j * (k - j) * k) := by grind
  have h1 := Int.mul_nonneg (show 0 ≤ k - j by omega) (show 0 ≤ a by omega)
  have h2 := Int.mul_nonneg j0 (show 0 ≤ a + b * k + c * (k * k) by omega)
  have h3 := Int.mul_nonneg (show 0 ≤ -c by omega) (Int.mul_nonneg (Int.mul_nonneg j0 (show 0 ≤ k - j by omega)) (show 0 ≤ k by omega))
  have h4 : 0 < (k - j) * a + j * (a + b * k + c * (k * k)) := by
    by_cases z : j = k
    · subst z
      have := Int.mul_pos k0 hk
      omega
    · have := Int.mul_pos (show 0 < k - j by omega) h0
      omega
  rcases Int.lt_or_le 0 (a + b * j + c * (j * j)) with z | z
  · exact z
  · have := Int.mul_le_mul_of_nonneg_left z (show 0 ≤ k by omega)
    omega
theorem Lv.k_sign {far : Int} {f : I3} (h : Lv far f) : (0 < f.1 → kB f far < 0) ∧ (f.1 < 0 → 0 < kB f far) := by
  have hk := Ga (top := far) (FP h.S)
  have hd : 0 < dB f far := by
    have := h.next.L.1.1
    rw [(Fd h).2.1] at this
    exact this
  have hb := h.L.1.1
  constructor
  · intro ha
    have hc := h.neg ha
    rcases Int.lt_or_le (kB f far) 0 with z | z
    · exact z
    · have := Int.mul_nonneg (show 0 ≤ -(2 * f.2.2) by omega) z
      have e : -(2 * f.2.2) * kB f far = -(2 * f.2.2 * kB f far) := by grind
      omega
  · intro ha
    have hc := h.pos ha
    rcases Int.lt_or_le 0 (kB f far) with z | z
    · exact z
    · have := Int.mul_nonneg (show 0 ≤ 2 * f.2.2 by omega) (show 0 ≤ -kB f far by omega)
      have e : 2 * f.2.2 * -kB f far = -(2 * f.2.2 * kB f far) := by grind
      omega
theorem Vv {far : Int} {f : I3} (h : Lv far f) (ha : 0 < f.1) :
    ∃ N : Nat, 2 ≤ N ∧ nxs N f = aft far (aft far f) ∧ wd N f = Fq (Ao (Bx f far) (Bx (aft far f) far)) ∧ ∀ j, 0 < j → j < N → ¬ Lv far (nxs j f) := by
  have h' := h.next
  have h'' := h'.next
  have hc := h.neg ha
  have ⟨g1, g2, g3⟩ := Fd h
  have a' : (aft far f).1 < 0 := by rw [g1]; exact hc
  have he := h'.pos a'
  have ⟨q1, q2, q3⟩ := Fd h'
  have a'' : 0 < (aft far (aft far f)).1 := by rw [q1]; exact he
  have he'' := h''.neg a''
  have kn := h.k_sign.1 ha
  have kp := h'.k_sign.2 a'
  have hk1 := Ga (top := far) (FP h.S)
  have hk2 := Ga (top := far) (FP h'.S)
  have lb := h.L.1.2
  have ld' := h''.L.1.2
  rw [q2] at ld'
  rw [g2] at hk2
  rw [q3, g1, g2] at he''
  rw [g3] at he
  have hbeh1 : Bx f far = (0, -1, 1, kB f far) := rfl
  have hbeh2 : Bx (aft far f) far = (0, -1, 1, kB (aft far f) far) := rfl
  rw [hbeh1, hbeh2]
  have e22 : (aft far f).2.2 = f.1 - f.2.1 * kB f far + f.2.2 * (kB f far * kB f far) := g3
  generalize hF : aft far (aft far f) = F at *
  generalize hd' : dB (aft far f) far = d' at *
  generalize hk2' : kB (aft far f) far = k2 at *
  have hform : nxs 0 f = f := rfl
  generalize hg : aft far f = g at *
  generalize hd : dB f far = d at *
  generalize hk1' : kB f far = k1 at *
  obtain ⟨a, b, c⟩ := f
  have ha : 0 < a := ha
  have hc : c < 0 := hc
  have lb : b ≤ far := lb
  have he : 0 < a - b * k1 + c * (k1 * k1) := he
  have hk1 : 2 * c * k1 = b + d := hk1
  have he'' : c - d * k2 + g.2.2 * (k2 * k2) < 0 := he''
  have e22 : g.2.2 = a - b * k1 + c * (k1 * k1) := e22
  rw [e22] at he'' hk2
  obtain ⟨n1, hn1⟩ : ∃ n : Nat, -k1 = n := ⟨(-k1).toNat, by omega⟩
  obtain ⟨n2, hn2⟩ : ∃ n : Nat, k2 = n := ⟨k2.toNat, by omega⟩
  have hk1n : k1 = -(n1 : Int) := by omega
  have hw1 : ∀ i : Nat, i ≤ n1 → wd i (a, b, c) = (1, 0, (i : Int), 1) := fun i hi => Aec i a b c fun j j1 ji => by
    refine AdH (k := n1) (by omega) ha ?_ (by omega) (by omega) (by omega)
    have : a + b * (n1 : Int) + c * ((n1 : Int) * n1) = a - b * k1 + c * (k1 * k1) := by rw [hk1n]; grind
    omega
  have hF1 : nxs n1 (a, b, c) = (a - b * k1 + c * (k1 * k1), -d, c) := by
    rw [← Jc, hw1 n1 (Nat.le_refl _)]
    have e1 : -d = b + 2 * c * n1 := by
      have : 2 * c * (n1 : Int) = -(2 * c * k1) := by rw [hk1n]; grind
      omega
    rw [e1, hk1n]
    simp only [mov, val, mid, Prod.mk.injEq]
    refine ⟨?_, ?_, ?_⟩ <;> grind
  generalize hee : a - b * k1 + c * (k1 * k1) = e at *
  have hw2 : ∀ i : Nat, i ≤ n2 → wd i (e, -d, c) = (1, (i : Int), 0, 1) := fun i hi => AdO i e (-d) c fun j j1 ji => by
    have := AdH (a := -c) (b := d) (c := -e) (k := n2) (j := j) (by omega) (by omega) (by
      have : -c + d * (n2 : Int) + -e * ((n2 : Int) * n2) = -(c - d * k2 + e * (k2 * k2)) := by rw [hn2]; grind
      omega) (by omega) (by omega) (by omega)
    have e1 : e * ((j : Int) * j) + -d * j + c = -(-c + d * (j : Int) + -e * ((j : Int) * j)) := by grind
    omega
  have hF2 : ∀ i : Nat, i ≤ n2 → nxs (n1 + i) (a, b, c) = (e, -d + 2 * e * i, e * ((i : Int) * i) - d * i + c) := fun i hi => by
    rw [Ov, hF1, ← Jc, hw2 i hi]
    simp only [mov, val, mid, Prod.mk.injEq]
    refine ⟨?_, ?_, ?_⟩ <;> grind
  have hwd : wd (n1 + n2) (a, b, c) = Fq (Ao (0, -1, 1, k1) (0, -1, 1, k2)) := by
    rw [R5, hF1, hw1 n1 (Nat.le_refl _), hw2 n2 (Nat.le_refl _), hk1n, hn2]
    simp only [Ao, Fq, Prod.mk.injEq]
    refine ⟨?_, ?_, ?_, ?_⟩ <;> grind
  refine ⟨n1 + n2, by omega, ?_, hwd, ?_⟩
  · rw [← Jc, hwd, Ku, ← Ck, ← hF, ← hg]
    show mov (mov (a, b, c) (0, -1, 1, k1)) (0, -1, 1, k2) = _
    rw [← hk1', ← hk2', ← hg]; rfl
  · intro j j0 jn hL
    rcases Nat.lt_or_ge n1 j with z | z
    · obtain ⟨i, rfl⟩ : ∃ i, j = n1 + i := ⟨j - n1, by omega⟩
      rw [hF2 i (by omega)] at hL
      have l1 := hL.L.2.1
      have l1 : far - (-d + 2 * e * i) < 2 * ab e := l1
      rw [show ab e = e from if_neg (by omega)] at l1
      have hi : (i : Int) ≤ n2 - 1 := by omega
      have := Int.mul_le_mul_of_nonneg_left hi (show 0 ≤ 2 * e by omega)
      have e1 : 2 * e * ((n2 : Int) - 1) = 2 * e * k2 - 2 * e := by rw [hn2]; grind
      omega
    · have hj : nxs j (a, b, c) = (a + b * j + c * ((j : Int) * j), b + 2 * c * j, c) := by
        rw [← Jc, hw1 j z]
        simp only [mov, val, mid, Prod.mk.injEq]
        refine ⟨?_, ?_, ?_⟩ <;> grind
      rw [hj] at hL
      have l1 := (GR hL.r hL.S.no hL.L).1
      have l1 : far - (b + 2 * c * j) < 2 * ab c := l1
      rw [show ab c = -c from if_pos hc] at l1
      have := Int.mul_le_mul_of_nonneg_left (show (1 : Int) ≤ j by omega) (show 0 ≤ -(2 * c) by omega)
      have e1 : -(2 * c) * (j : Int) = -(2 * c * j) := by grind
      omega
noncomputable def Sg (t u : I4) : Prop := t = u ∨ t = Fq u
theorem Qa {t u : I4} : Ao (Fq t) u = Fq (Ao t u) := by
  obtain ⟨a, b, c, d⟩ := t; obtain ⟨e, f, g, h⟩ := u
  simp only [Ao, Fq, Prod.mk.injEq]
  refine ⟨?_, ?_, ?_, ?_⟩ <;> grind
theorem Qk {t u : I4} : Ao t (Fq u) = Fq (Ao t u) := by
  obtain ⟨a, b, c, d⟩ := t; obtain ⟨e, f, g, h⟩ := u
  simp only [Ao, Fq, Prod.mk.injEq]
  refine ⟨?_, ?_, ?_, ?_⟩ <;> grind
theorem Fi {t : I4} : Bo (Bo t) = t := by
  obtain ⟨a, b, c, d⟩ := t
  simp only [Bo, Prod.mk.injEq]
  refine ⟨trivial, ?_, ?_, trivial⟩ <;> omega
theorem Ld {t u : I4} : Bo (Ao t u) = Ao (Bo u) (Bo t) := by
  obtain ⟨a, b, c, d⟩ := t; obtain ⟨e, f, g, h⟩ := u
  simp only [Ao, Bo, Prod.mk.injEq]
  refine ⟨?_, ?_, ?_, ?_⟩ <;> grind
theorem Sg.refl {t : I4} : Sg t t := .inl rfl
theorem Sg.trans {t u v : I4} (h : Sg t u) (k : Sg u v) : Sg t v := by
  rcases h with rfl | rfl <;> rcases k with rfl | rfl
  · exact .inl rfl
  · exact .inr rfl
  · exact .inr rfl
  · exact .inl neg_neg
theorem Sg.then {t u t' u' : I4} (h : Sg t t') (k : Sg u u') : Sg (Ao t u) (Ao t' u') := by
  rcases h with rfl | rfl <;> rcases k with rfl | rfl
  · exact .inl rfl
  · exact .inr Qk
  · exact .inr Qa
  · exact .inl (by rw [Qa, Qk, neg_neg])
theorem Sg.back {t u : I4} (h : Sg t u) : Sg (Bo t) (Bo u) := by
  rcases h with rfl | rfl
  · exact .inl rfl
  · exact .inr Ra
theorem Sg.mov {f : I3} {t u : I4} (h : Sg t u) : mov f t = mov f u := by
  rcases h with rfl | rfl
  · rfl
  · exact Ku
noncomputable def rF (far : Int) : Nat → I3 → I3
  | 0, f => f
  | n + 1, f => rF far n (aft far f)
noncomputable def rT (far : Int) : Nat → I3 → I4
  | 0, _ => (1, 0, 0, 1)
  | n + 1, f => Ao (Bx f far) (rT far n (aft far f))
theorem Iz {far : Int} : ∀ (n : Nat) (f : I3), mov f (rT far n f) = rF far n f
  | 0, _ => Cu
  | n + 1, f => by rw [rT, ← Ck]; exact Iz n (aft far f)
theorem SN {far : Int} : ∀ (n : Nat) (f : I3), det (rT far n f) = 1
  | 0, _ => rfl
  | n + 1, f => by rw [rT, Jp, BP, SN n (aft far f)]; rfl
theorem CQ {far : Int} : ∀ (m n : Nat) (f : I3), rF far (m + n) f = rF far n (rF far m f)
  | 0, n, f => by rw [Nat.zero_add]; rfl
  | m + 1, n, f => by rw [show m + 1 + n = (m + n) + 1 by omega]; exact CQ m n (aft far f)
theorem Wh {far : Int} : ∀ (m n : Nat) (f : I3), rT far (m + n) f = Ao (rT far m f) (rT far n (rF far m f))
  | 0, n, f => by rw [Nat.zero_add]; exact HN.symm
  | m + 1, n, f => by rw [show m + 1 + n = (m + n) + 1 by omega, rT, Wh m n (aft far f), rT, then_assoc]; rfl
theorem Ur {far : Int} {n : Nat} {f : I3} : rF far (n + 1) f = aft far (rF far n f) := by rw [CQ]; rfl
theorem TY {far : Int} {n : Nat} {f : I3} : rT far (n + 1) f = Ao (rT far n f) (Bx (rF far n f) far) := by
  rw [Wh]
  show Ao _ (Ao _ (1, 0, 0, 1)) = _
  rw [Fl]
theorem Lv.rF {far : Int} : ∀ (n : Nat) {f : I3}, Lv far f → Lv far (rF far n f)
  | 0, _, h => h
  | n + 1, _, h => Lv.rF n h.next
theorem Ie {far : Int} (n : Nat) (f : I3) : meas (rF far n f) = meas f := by rw [← Iz, Cw (SN n f)]
theorem Uv {far : Int} : ∀ (n : Nat) (f : I3), Lv far f → 0 < f.1 → Lv far (nxs n f) → ∃ m, Sg (wd n f) (rT far m f) := by
  intro n
  induction n using Nat.strongRecOn with
  | ind n ih =>
    intro f hf ha hg
    by_cases h0 : n = 0
    · subst h0
      exact ⟨0, Sg.refl⟩
    · obtain ⟨N, hN, e1, e2, e3⟩ := Vv hf ha
      have hn : N ≤ n := by
        rcases Nat.lt_or_ge n N with z | z
        · exact absurd hg (e3 n (by omega) z)
        · exact z
      obtain ⟨k, rfl⟩ : ∃ k, n = N + k := ⟨n - N, by omega⟩
      have a2 : 0 < (aft far (aft far f)).1 := by
        rw [(Fd hf.next).1]
        exact hf.next.pos (by rw [(Fd hf).1]; exact hf.neg ha)
      rw [Ov, e1] at hg
      obtain ⟨m, hm⟩ := ih k (by omega) (aft far (aft far f)) hf.next.next a2 hg
      refine ⟨m + 2, ?_⟩
      rw [R5, e1, e2]
      show Sg _ (Ao (Bx f far) (Ao (Bx (aft far f) far) (rT far m (aft far (aft far f)))))
      rw [← then_assoc]
      exact Sg.then (.inr rfl) hm
noncomputable def Ring (far : Int) (f g : I3) (t : I4) : Prop := (∃ m, Sg t (rT far m f)) ∨ (∃ m, Sg (Bo t) (rT far m g))
theorem Ring.swap {far : Int} {f g : I3} {t : I4} (h : Ring far f g t) : Ring far g f (Bo t) := by
  rcases h with ⟨m, h⟩ | ⟨m, h⟩
  · exact .inr ⟨m, by rw [Fi]; exact h⟩
  · exact .inl ⟨m, h⟩
theorem Ui {far : Int} {f g : I3} {t : I4} (hf : Lv far f) (hg : Lv far g) (hd : det t = 1) (e : mov f t = g) (fa : 0 < f.1) (ga : 0 < g.1) : Ring far f g t := by
  have hr : Riv (mov f t) := by rw [e]; exact hg.riv ga
  rcases Aew (hf.riv fa) hd hr with ⟨n, h⟩ | ⟨n, h⟩
  · have hs : Sg t (wd n f) := h
    have hn : Lv far (nxs n f) := by rw [← Jc, ← hs.mov, e]; exact hg
    obtain ⟨m, hm⟩ := Uv n f hf fa hn
    exact .inl ⟨m, hs.trans hm⟩
  · rw [e] at h
    have hs : Sg (Bo t) (wd n g) := h
    have hn : Lv far (nxs n g) := by rw [← Jc, ← hs.mov, ← e, Gu hd]; exact hf
    obtain ⟨m, hm⟩ := Uv n g hg ga hn
    exact .inr ⟨m, hs.trans hm⟩
theorem Uw {far : Int} {f g : I3} {t : I4} {m : Nat} (hf : Lv far f) (hg : Lv far g) (hm : meas f = meas g) (h : Sg (Ao t (Bx g far)) (rT far m f)) (e : rF far m f = aft far g) : (∃ k, Sg t (rT far k f)) ∨ Sg t (Bo (Bx g far)) := by
  have cancel : ∀ {u : I4}, Sg (Ao t (Bx g far)) (Ao u (Bx g far)) → Sg t u := fun {u} h => by
    have := Sg.then h (Sg.refl (t := Bo (Bx g far)))
    rw [then_assoc, then_assoc, HF BP, Fl, Fl] at this
    exact this
  match m, h, e with
  | 0, h, e =>
    right
    refine cancel (h.trans ?_)
    rw [U3 BP]
    exact Sg.refl
  | m + 1, h, e =>
    left
    rw [Ur] at e
    have e' := Ue (Lv.rF m hf) hg (by rw [Ie]; exact hm) e
    rw [TY, e'] at h
    exact ⟨m, cancel h⟩
theorem Pq {far : Int} {f g : I3} {t : I4} (hf : Lv far f) (hg : Lv far g) (hd : det t = 1) (e : mov f t = g) (fa : 0 < f.1) (ga : g.1 < 0) : Ring far f g t := by
  have hm : meas f = meas g := by rw [← e, Cw hd]
  have hd' : det (Ao t (Bx g far)) = 1 := by rw [Jp, hd, BP]; rfl
  have e' : mov f (Ao t (Bx g far)) = aft far g := by rw [← Ck, e]
  have ga' : 0 < (aft far g).1 := by rw [(Fd hg).1]; exact hg.pos ga
  rcases Ui hf hg.next hd' e' fa ga' with ⟨m, h⟩ | ⟨m, h⟩
  · have er : rF far m f = aft far g := by rw [← Iz, ← h.mov, e']
    rcases Uw hf hg hm h er with h | h
    · exact .inl h
    · refine .inr ⟨1, ?_⟩
      have := h.back
      rw [Fi] at this
      show Sg _ (Ao (Bx g far) (1, 0, 0, 1))
      rw [Fl]
      exact this
  · refine .inr ⟨m + 1, ?_⟩
    have h2 := Sg.then (Sg.refl (t := Bx g far)) h
    rw [Ld, ← then_assoc, HF BP, HN] at h2
    exact h2
theorem Wz {far : Int} {f g : I3} {t : I4} (hf : Lv far f) (hg : Lv far g) (hd : det t = 1) (e : mov f t = g) : Ring far f g t := by
  have fa := Nz hf.S
  have ga := Nz hg.S
  have eb : mov g (Bo t) = f := by rw [← e, Gu hd]
  have hdb : det (Bo t) = 1 := K9.trans hd
  rcases Int.lt_or_lt_of_ne fa with fa | fa
  · rcases Int.lt_or_lt_of_ne ga with ga | ga
    ·
      have fa' : 0 < (aft far f).1 := by rw [(Fd hf).1]; exact hf.pos fa
      have hd' : det (Ao (Bo (Bx f far)) t) = 1 := by rw [Jp, K9, BP, hd]; rfl
      have e' : mov (aft far f) (Ao (Bo (Bx f far)) t) = g := by
        rw [← Ck, Gu BP, e]
      have hm : meas g = meas f := by rw [← e, Cw hd]
      rcases Pq hf.next hg hd' e' fa' ga with ⟨m, h⟩ | ⟨m, h⟩
      · refine .inl ⟨m + 1, ?_⟩
        have h2 := Sg.then (Sg.refl (t := Bx f far)) h
        rw [← then_assoc, HF BP, HN] at h2
        exact h2
      · rw [Ld, Fi] at h
        have er : rF far m g = aft far f := by rw [← Iz, ← h.mov, ← Ck, eb]
        rcases Uw hg hf hm h er with h | h
        · exact .inr h
        · refine .inl ⟨1, ?_⟩
          have := h.back
          rw [Fi, Fi] at this
          show Sg _ (Ao (Bx f far) (1, 0, 0, 1))
          rw [Fl]
          exact this
    · have := (Pq hg hf hdb eb ga fa).swap
      rw [Fi] at this
      exact this
  · rcases Int.lt_or_lt_of_ne ga with ga | ga
    · exact Pq hf hg hd e fa ga
    · exact Ui hf hg hd e fa ga
theorem AbO : ∀ (M : Nat) (x : Nat → Nat), (∀ i, i ≤ M → x i < M) → ∃ i j, i < j ∧ j ≤ M ∧ x i = x j := by
  intro M
  induction M with
  | zero => intro x h; exact absurd (h 0 (Nat.le_refl _)) (by omega)
  | succ M ih =>
    intro x h
    by_cases hex : ∃ i j, i < j ∧ j ≤ M + 1 ∧ x i = x j
    · exact hex
    · have ne : ∀ i j, i < j → j ≤ M + 1 → x i ≠ x j := fun i j h1 h2 h3 => hex ⟨i, j, h1, h2, h3⟩
      obtain ⟨i, j, h1, h2, h3⟩ := ih (fun i => if x i = M then x (M + 1) else x i) (fun i hi => by
        have h1 := h i (by omega)
        have h2 := h (M + 1) (Nat.le_refl _)
        have h3 := ne i (M + 1) (by omega) (Nat.le_refl _)
        show (if x i = M then x (M + 1) else x i) < M
        split <;> omega)
      exfalso
      have n1 := ne i j h1 (by omega)
      have n2 := ne i (M + 1) (by omega) (Nat.le_refl _)
      have n3 := ne j (M + 1) (by omega) (Nat.le_refl _)
      have h3 : (if x i = M then x (M + 1) else x i) = (if x j = M then x (M + 1) else x j) := h3
      split at h3 <;> split at h3 <;> omega
theorem J3 {far : Int} : ∀ (i : Nat) {f g : I3}, Lv far f → Lv far g → meas f = meas g → rF far i f = rF far i g → f = g
  | 0, _, _, _, _, _, h => h
  | i + 1, f, g, hf, hg, hm, h => Ue hf hg hm (J3 i hf.next hg.next (by rw [Cw BP, Cw BP]; exact hm) h)
noncomputable def Rn (f : I3) : Nat := ((f.1 + 63) * 64 + f.2.1).toNat
theorem Lv.range {far : Int} {f : I3} (h : Lv far f) : (-63 ≤ f.1 ∧ f.1 ≤ 63) ∧ (0 < f.2.1 ∧ f.2.1 ≤ 63) := by
  have h6 := Hs h.r h.S.most
  obtain ⟨⟨l1, l2⟩, _, l4⟩ := h.L
  have l4 : 2 * ab f.1 ≤ far + f.2.1 := l4
  rcases Aj f.1 with ⟨_, e⟩ | ⟨_, e⟩ <;> omega
theorem code_inj {far : Int} {f g : I3} (hf : Lv far f) (hg : Lv far g) (hm : meas f = meas g) (h : Rn f = Rn g) : f = g := by
  have rf := hf.range
  have rg := hg.range
  have ha := Nz hf.S
  obtain ⟨a, b, c⟩ := f
  obtain ⟨a', b', c'⟩ := g
  simp only [Rn] at h rf rg ha
  have e1 : a = a' := by omega
  have e2 : b = b' := by omega
  subst e1 e2
  have e3 : 4 * a * c = 4 * a * c' := by simp only [meas] at hm; omega
  have : c = c' := Int.eq_of_mul_eq_mul_left (show 4 * a ≠ 0 by omega) e3
  rw [this]
theorem FN {far : Int} {f : I3} (h : Lv far f) : ∃ N, 0 < N ∧ N ≤ 8128 ∧ rF far N f = f ∧ ∀ j, 0 < j → j < N → rF far j f ≠ f := by
  have ex : ∃ N, 0 < N ∧ N ≤ 8128 ∧ rF far N f = f := by
    obtain ⟨i, j, hij, hj, e⟩ := AbO 8128 (fun i => Rn (rF far i f)) (fun i _ => by
      have := (Lv.rF i h).range
      unfold Rn
      omega)
    have e' := code_inj (Lv.rF i h) (Lv.rF j h) (by rw [Ie, Ie]) e
    obtain ⟨k, rfl⟩ : ∃ k, j = k + i := ⟨j - i, by omega⟩
    rw [CQ k i f] at e'
    have := J3 i h (Lv.rF k h) (by rw [Ie]) e'
    exact ⟨k, by omega, by omega, this.symm⟩
  have least : ∀ M, (∃ N, 0 < N ∧ N ≤ M ∧ rF far N f = f) → ∃ N, 0 < N ∧ N ≤ M ∧ rF far N f = f ∧ ∀ j, 0 < j → j < N → rF far j f ≠ f := by
    intro M
    induction M with
    | zero => intro ⟨N, h1, h2, _⟩; omega
    | succ M ih =>
      intro hN
      by_cases hM : ∃ N, 0 < N ∧ N ≤ M ∧ rF far N f = f
      · obtain ⟨N, h1, h2, h3, h4⟩ := ih hM
        exact ⟨N, h1, by omega, h3, h4⟩
      · obtain ⟨N, h1, h2, h3⟩ := hN
        exact ⟨N, h1, h2, h3, fun j j0 jN e => hM ⟨j, j0, by omega, e⟩⟩
  exact least 8128 ex
theorem Uu {f : I3} {far : Int} (h : Lv far f) : Bt 9 (kB f far) := by
  have hc := FP h.S
  have hk := Ga (top := far) hc
  have ⟨d1, d2⟩ := G9 (top := far) hc
  have h6 := Hs h.r h.S.most
  have ⟨c1, c2⟩ := GR h.r h.S.no h.L
  obtain ⟨⟨l1, l2⟩, _, _⟩ := h.L
  have e1 : 2 * (ab f.2.2 * ab (kB f far)) = ab (f.2.1 + dB f far) := by
    rw [← hk, KC]
    have : 2 * f.2.2 * kB f far = 2 * (f.2.2 * kB f far) := by grind
    rw [this]
    rcases Aj (f.2.2 * kB f far) with ⟨h1, e1⟩ | ⟨h1, e1⟩
    · rw [e1, ab, if_neg (by omega)]
    · rw [e1, ab, if_pos (by omega)]; omega
  have c0 : 1 ≤ ab f.2.2 := by rcases Aj f.2.2 with ⟨_, e1⟩ | ⟨_, e1⟩ <;> omega
  have e2 := Int.mul_le_mul_of_nonneg_right c0 (Bm (kB f far))
  have e3 : ab (f.2.1 + dB f far) ≤ 252 := by rcases Aj (f.2.1 + dB f far) with ⟨_, e1⟩ | ⟨_, e1⟩ <;> omega
  have := Bm (kB f far)
  exact NQ (k := 252) (by omega) (by decide)
theorem Z2 {far : Int} : ∀ (n : Nat) {f : I3}, Lv far f → B4 (10 * n + 1) (rT far n f)
  | 0, _, _ => ⟨Bt.one, Bt.zero.le (by omega), Bt.zero.le (by omega), Bt.one⟩
  | n + 1, f, h => by
    have h1 := KN (Uu h) (by decide)
    exact (B4.then h1 (Z2 n h.next)).le (by omega)
noncomputable def tr (t : I4) : Int := t.1 + t.2.2.2
theorem AaH {f : I3} {d : Int} (h1 : d ∣ f.1) (h2 : d ∣ f.2.1) (h3 : d ∣ f.2.2) : d ∣ (g3 f : Int) := Int.dvd_coe_gcd (Int.dvd_coe_gcd h1 h2) h3
theorem Ma {f : I3} {t : I4} : (g3 f : Int) ∣ (g3 (mov f t) : Int) := by
  obtain ⟨⟨x, hx⟩, ⟨y, hy⟩, ⟨z, hz⟩⟩ := AbD f
  refine AaH ⟨val (x, y, z) (t.1, t.2.2.1), ?_⟩ ⟨mid (x, y, z) (t.1, t.2.2.1) (t.2.1, t.2.2.2), ?_⟩ ⟨val (x, y, z) (t.2.1, t.2.2.2), ?_⟩
  · show val f (t.1, t.2.2.1) = _
    simp only [val]; rw [hx, hy, hz]; grind
  · show mid f (t.1, t.2.2.1) (t.2.1, t.2.2.2) = _
    simp only [mid]; rw [hx, hy, hz]; grind
  · show val f (t.2.1, t.2.2.2) = _
    simp only [val]; rw [hx, hy, hz]; grind
theorem AbA {f : I3} {t : I4} (h : det t = 1) : g3 (mov f t) = g3 f := by
  have h1 : (g3 f : Int) ∣ (g3 (mov f t) : Int) := Ma
  have h2 : (g3 (mov f t) : Int) ∣ (g3 f : Int) := by
    have := Ma (f := mov f t) (t := Bo t)
    rw [Gu h] at this
    exact this
  exact Nat.dvd_antisymm (Int.ofNat_dvd.mp h2) (Int.ofNat_dvd.mp h1)
noncomputable def pl (f : I3) : I3 := (f.1 / (g3 f : Int), f.2.1 / (g3 f : Int), f.2.2 / (g3 f : Int))
noncomputable def AgG (n f : Int) (r : I3) : I3 := (r.2.2 * r.2.1 - r.1, (n - (r.2.2 * r.2.1 - r.1) * (r.2.2 * r.2.1 - r.1)).fdiv r.2.1, (f + (r.2.2 * r.2.1 - r.1)).fdiv ((n - (r.2.2 * r.2.1 - r.1) * (r.2.2 * r.2.1 - r.1)).fdiv r.2.1))
noncomputable def rowAt (n f : Int) : Nat → I3
  | 0 => (0, 1, f)
  | i + 1 => AgG n f (rowAt n f i)
noncomputable def prB (p : I2 × I2) (a : Int) : I2 × I2 := (p.2, (a * p.2.1 + p.1.1, a * p.2.2 + p.1.2))
noncomputable def AfG (n f : Int) : Nat → I2 × I2
  | 0 => ((1, 0), (f, 1))
  | k + 1 => prB (AfG n f k) (rowAt n f (k + 1)).2.2
noncomputable def sg : Nat → Int
  | 0 => 1
  | k + 1 => -sg k
noncomputable def above (n x1 y1 x2 y2 : Int) : Prop := (x1 * y2 + x2 * y1) * (x1 * y2 + x2 * y1) < n * (2 * y1 * y2) * (2 * y1 * y2)
theorem Abw {far : Int} {g : I3} {N : Nat} (e : rF far N g = g) (i : Nat) : rF far (N + i) g = rF far i g := by rw [CQ, e]
theorem rotate {far : Int} {g : I3} {N k : Nat} (e : rF far N g = g) (hk : k < N) :
    (((List.range N).map fun i => rF far (i + 1) g).drop k) ++ (((List.range N).map fun i => rF far (i + 1) g).take k) = (List.range N).map fun i => rF far i (rF far (k + 1) g) := by
  apply List.ext_getElem
  · simp only [List.length_append, List.length_drop, List.length_take, List.length_map, List.length_range]
    omega
  · intro i h1 h2
    rw [List.length_map, List.length_range] at h2
    rw [List.getElem_map, List.getElem_range, ← CQ]
    rcases Nat.lt_or_ge i (N - k) with z | z
    · rw [List.getElem_append_left (by simp only [List.length_drop, List.length_map, List.length_range]; exact z), List.getElem_drop, List.getElem_map, List.getElem_range]
      rw [show k + i + 1 = k + 1 + i by omega]
    · rw [List.getElem_append_right (by simp only [List.length_drop, List.length_map, List.length_range]; exact z), List.getElem_take, List.getElem_map, List.getElem_range]
      simp only [List.length_drop, List.length_map, List.length_range]
      rw [← Abw e, show N + (i - (N - k) + 1) = k + 1 + i by omega]
noncomputable def pw (s : I4) : Nat → I4
  | 0 => (1, 0, 0, 1)
  | n + 1 => Ao (pw s n) s
noncomputable def r4 (t : I4) : List Int := [t.1, t.2.1, t.2.2.1, t.2.2.2]
structure Gd (D : Int) (f : I3) : Prop where
  m : meas f = D
  p : g3 f = 1
  n : ¬ Ge D
section
variable {D : Int} {U f : I3} (u1 : U.1 = 1) (um : meas U = D) (hf : Gd D f)
end
noncomputable def hs (M : Nat) : Nat → Nat
  | 0 => 0
  | i + 1 => hs M i + 2 ^ (10 * (i * i % (4 * M)))
noncomputable def tbL : List Nat := [1, 2, 2, 2, 2, 4, 2, 4, 3, 4, 2, 4, 2, 4, 4, 4, 2, 6, 2, 4, 4, 4, 2, 8, 5, 4, 6, 4, 2, 8, 2, 8, 4, 4, 4, 6, 2, 4, 4, 8, 2, 8, 2, 4, 6, 4, 2, 8, 7, 10, 4, 4, 2, 12, 4, 8, 4, 4, 2, 8, 2, 4, 6, 8, 4, 8, 2, 4, 4, 8, 2, 12, 2, 4, 10, 4, 4, 8, 2, 8, 9, 4, 2, 8, 4, 4, 4, 8, 2, 12, 4, 4, 4, 4, 4, 16, 2, 14, 6, 10, 2, 8, 2, 8, 8, 4, 2, 12, 2, 8, 4, 8, 2, 8, 4, 4, 6, 4, 4, 16, 11, 4, 4, 4, 10, 12, 2, 16, 4, 8, 2, 8, 4, 4, 12, 8, 2, 8, 2, 8, 4, 4, 4, 12, 4, 4, 14, 4, 2, 20, 2, 8, 6, 8, 4, 8, 2, 4, 4, 16, 4, 18, 2, 4, 8, 4, 2, 16, 13, 8, 6, 4, 2, 8, 10, 8, 4, 4, 2, 12, 2, 8, 4, 8, 4, 8, 4, 4, 12, 8, 2, 16, 2, 4, 8, 14, 2, 12, 2, 20, 4, 4, 4, 8, 4, 4, 6, 8, 4, 16, 2, 4, 4, 4, 4, 24, 4, 4, 4, 8, 4, 8, 2, 16, 15, 4, 2, 8, 2, 8, 8, 8, 2, 12, 4, 4, 4, 8, 2, 16, 2, 22, 18, 4, 14, 8, 4, 8, 4, 20, 2, 12, 4, 4, 8, 16, 2, 8, 4, 8, 6, 4, 2, 16, 4, 8, 4, 4, 2, 24, 2, 8, 8, 4, 10, 8, 2, 4, 6, 16, 2, 8, 2, 4, 8, 8, 4, 24, 17, 8, 4, 4, 2, 28, 4, 8, 12, 4, 4, 20, 4, 4, 4, 8, 4, 12, 2, 8, 4, 8, 2, 16, 2, 4, 12, 4, 2, 8, 4, 16, 4, 8, 4, 18, 10, 4, 4, 8, 4, 16, 2, 4, 6, 4, 4, 16, 2, 26, 4, 8, 4, 12, 14, 8, 8, 4, 2, 8, 2, 20, 12, 16, 2, 8, 4, 4, 8, 4, 2, 24, 19, 4, 22, 8, 4, 8, 2, 8, 6, 8, 4, 8, 2, 8, 20, 8, 4, 24, 2, 8, 4, 4, 2, 32, 8, 4, 6, 4, 2, 16, 4, 28, 4, 4, 4, 12, 2, 4, 8, 20]
noncomputable def tb (M : Nat) : Nat := tbL.getD (M - 1) 0
noncomputable def lt3 (f g : I3) : Prop := f.1 < g.1 ∨ (f.1 = g.1 ∧ (f.2.1 < g.2.1 ∨ (f.2.1 = g.2.1 ∧ f.2.2 < g.2.2)))
noncomputable def rw3 (f : I3) : List Int := [f.1, f.2.1, f.2.2]
theorem Tq {f g : I3} (h : rw3 f = rw3 g) : f = g := by
  obtain ⟨a, b, c⟩ := f
  obtain ⟨x, y, z⟩ := g
  simp only [rw3, List.cons.injEq, and_true] at h
  obtain ⟨rfl, rfl, rfl⟩ := h
  rfl
theorem Hy {f : I3} : ¬ lt3 f f := by unfold lt3; omega
theorem Sh {f g h : I3} (a : lt3 f g) (b : lt3 g h) : lt3 f h := by unfold lt3 at *; omega
theorem Tn (f g : I3) : lt3 f g ∨ f = g ∨ lt3 g f := by
  obtain ⟨a, b, c⟩ := f
  obtain ⟨x, y, z⟩ := g
  unfold lt3
  simp only [Prod.mk.injEq]
  omega
noncomputable def Srt (fs : List I3) : Prop := fs.Pairwise lt3
theorem Srt.ext : ∀ {fs gs : List I3}, Srt fs → Srt gs → (∀ f, f ∈ fs ↔ f ∈ gs) → fs = gs
  | [], [], _, _, _ => rfl
  | [], g :: gs, _, _, h => by have := (h g).mpr List.mem_cons_self; cases this
  | f :: fs, [], _, _, h => by have := (h f).mp List.mem_cons_self; cases this
  | f :: fs, g :: gs, hf, hg, h => by
    obtain ⟨f1, f2⟩ := List.pairwise_cons.mp hf
    obtain ⟨g1, g2⟩ := List.pairwise_cons.mp hg
    have e : f = g := by
      rcases List.mem_cons.mp ((h f).mp List.mem_cons_self) with e | m
      · exact e
      · rcases List.mem_cons.mp ((h g).mpr List.mem_cons_self) with e' | m'
        · exact e'.symm
        · exact absurd (Sh (g1 f m) (f1 g m')) Hy
    subst e
    rw [Srt.ext f2 g2 fun x => ⟨fun m => ?_, fun m => ?_⟩]
    · rcases List.mem_cons.mp ((h x).mp (List.mem_cons_of_mem _ m)) with e | m'
      · subst e; exact absurd (f1 x m) Hy
      · exact m'
    · rcases List.mem_cons.mp ((h x).mpr (List.mem_cons_of_mem _ m)) with e | m'
      · subst e; exact absurd (g1 x m) Hy
      · exact m'
noncomputable def Rl (far : Int) (f g : I3) : Prop := ∃ m, rF far m f = g
theorem Rl.trans {far : Int} {f g h : I3} (a : Rl far f g) (b : Rl far g h) : Rl far f h := by
  obtain ⟨m, rfl⟩ := a
  obtain ⟨n, rfl⟩ := b
  exact ⟨m + n, CQ m n f⟩
theorem Mi {far : Int} {g : I3} {N : Nat} (e : rF far N g = g) : ∀ q, rF far (N * q) g = g
  | 0 => rfl
  | q + 1 => by rw [Nat.mul_succ, CQ, Mi e q, e]
theorem Z7 {far : Int} {g : I3} {N : Nat} (e : rF far N g = g) (n0 : 0 < N) (n : Nat) : ∃ i, i < N ∧ rF far n g = rF far i g := by
  have h1 := Nat.mod_lt n n0
  have h2 := Nat.div_add_mod n N
  refine ⟨n % N, h1, ?_⟩
  have : rF far (N * (n / N) + n % N) g = rF far (n % N) g := by rw [CQ, Mi e]
  rw [h2] at this
  exact this
theorem Rl.symm {far : Int} {f g : I3} (h : Lv far f) (a : Rl far f g) : Rl far g f := by
  obtain ⟨N, n0, _, e, _⟩ := FN h
  obtain ⟨m, rfl⟩ := a
  refine ⟨N * m - m, ?_⟩
  rw [← CQ]
  have : m ≤ N * m := Nat.le_mul_of_pos_left m n0
  rw [show m + (N * m - m) = N * m by omega, Mi e]
theorem Rl.lv {far : Int} {f g : I3} (h : Lv far f) (a : Rl far f g) : Lv far g := by
  obtain ⟨m, rfl⟩ := a
  exact Lv.rF m h
theorem Rl.meas {far : Int} {f g : I3} (a : Rl far f g) : My.meas g = My.meas f := by
  obtain ⟨m, rfl⟩ := a
  exact Ie m f
theorem Rl.g3 {far : Int} {f g : I3} (a : Rl far f g) : My.g3 g = My.g3 f := by
  obtain ⟨m, rfl⟩ := a
  rw [← Iz, AbA (SN m f)]
noncomputable def Tp (far : Int) (f : I3) : Prop := ∀ g, Rl far f g → ¬ lt3 g f
theorem Aas {far : Int} {f : I3} (h : Lv far f) : ∃ g, Tp far g ∧ Rl far f g := by
  obtain ⟨N, n0, _, e, _⟩ := FN h
  have key : ∀ k, ∃ i, ∀ j, j ≤ k → ¬ lt3 (rF far j f) (rF far i f) := fun k => by
    induction k with
    | zero => exact ⟨0, fun j hj => by rw [show j = 0 by omega]; exact Hy⟩
    | succ k ih =>
      obtain ⟨i, hi⟩ := ih
      by_cases z : lt3 (rF far (k + 1) f) (rF far i f)
      · refine ⟨k + 1, fun j hj w => ?_⟩
        rcases Nat.lt_or_ge j (k + 1) with y | y
        · exact hi j (by omega) (Sh w z)
        · rw [show j = k + 1 by omega] at w
          exact Hy w
      · refine ⟨i, fun j hj w => ?_⟩
        rcases Nat.lt_or_ge j (k + 1) with y | y
        · exact hi j (by omega) w
        · rw [show j = k + 1 by omega] at w
          exact z w
  obtain ⟨i, hi⟩ := key N
  refine ⟨rF far i f, fun g hg => ?_, ⟨i, rfl⟩⟩
  obtain ⟨m, rfl⟩ := (Rl.trans ⟨i, rfl⟩ hg : Rl far f g)
  obtain ⟨j, hj, ej⟩ := Z7 e n0 m
  rw [ej]
  exact hi j (by omega)
theorem YC {far : Int} {f g : I3} (h : Lv far f) (a : Tp far f) (b : Tp far g) (r : Rl far f g) : f = g := by
  rcases Tn f g with z | z | z
  · exact absurd z (b f (r.symm h))
  · exact z
  · exact absurd z (a g r)
structure PIn (far : Int) (fs : List I3) (k : Nat) (fnd : List I3) (ks : List (List Int)) : Prop where
  srt : Srt fnd
  mem : ∀ f, f ∈ fnd ↔ f ∈ fs.take k ∧ Lv far f ∧ Tp far f
  seen : ∀ x : I3, rw3 x ∈ ks ↔ ∃ g ∈ fnd, Rl far g x
theorem KD {α : Type} {fs : List α} {k : Nat} {f : α} (h : fs[k]? = some f) : fs.take (k + 1) = fs.take k ++ [f] := by
  rw [List.take_add_one, h]
  rfl
theorem PIn.start {far : Int} {fs : List I3} : PIn far fs 0 [] [] where
  srt := List.Pairwise.nil
  mem := fun f => by simp
  seen := fun x => by simp
theorem PIn.no {far : Int} {fs fnd : List I3} {k : Nat} {ks : List (List Int)} {f : I3} (I : PIn far fs k fnd ks) (hf : fs[k]? = some f) (h : ¬ Lv far f ∨ rw3 f ∈ ks) : PIn far fs (k + 1) fnd ks where
  srt := I.srt
  mem := fun x => by
    rw [KD hf, I.mem x, List.mem_append, List.mem_singleton]
    refine ⟨fun z => ⟨.inl z.1, z.2⟩, fun ⟨z, l, t⟩ => ?_⟩
    rcases z with z | rfl
    · exact ⟨z, l, t⟩
    · rcases h with h | h
      · exact absurd l h
      · obtain ⟨g, hg, r⟩ := (I.seen x).mp h
        obtain ⟨g1, g2, g3⟩ := (I.mem g).mp hg
        rw [← YC g2 g3 t r]
        exact ⟨g1, g2, g3⟩
  seen := I.seen
theorem PIn.yes {far : Int} {fs fnd : List I3} {k : Nat} {ks ks' : List (List Int)} {f : I3} (wk : Srt fs) (cl : ∀ f ∈ fs, Lv far f → ∀ g, Rl far f g → g ∈ fs) (I : PIn far fs k fnd ks) (hf : fs[k]? = some f) (L : Lv far f) (n : rw3 f ∉ ks)
    (hk : ∀ x, rw3 x ∈ ks' ↔ rw3 x ∈ ks ∨ Rl far f x) : PIn far fs (k + 1) (fnd ++ [f]) ks' := by
  have hm := List.mem_of_getElem? hf
  have sp : fs = fs.take k ++ f :: fs.drop (k + 1) := by
    obtain ⟨hl, e⟩ := List.getElem?_eq_some_iff.mp hf
    rw [← e, List.getElem_cons_drop hl, List.take_append_drop]
  have wk' := wk
  unfold Srt at wk'
  rw [sp] at wk'
  obtain ⟨_, w2, w3⟩ := List.pairwise_append.mp wk'
  have before : ∀ g ∈ fs, lt3 g f → g ∈ fs.take k := fun g hg l => by
    rw [sp] at hg
    rcases List.mem_append.mp hg with z | z
    · exact z
    · rcases List.mem_cons.mp z with rfl | z
      · exact absurd l Hy
      · exact absurd (Sh l ((List.pairwise_cons.mp w2).1 g z)) Hy
  have tp : Tp far f := by
    obtain ⟨g, tg, r⟩ := Aas L
    rcases Tn g f with z | z | z
    · have hg := before g (cl f hm L g r) z
      have lg := r.lv L
      have : g ∈ fnd := (I.mem g).mpr ⟨hg, lg, tg⟩
      exact absurd ((I.seen f).mpr ⟨g, this, r.symm L⟩) n
    · rw [← z]; exact tg
    · exact absurd z (tg f (r.symm L))
  refine ⟨List.pairwise_append.mpr ⟨I.srt, List.pairwise_singleton _ _, fun g hg x hx => ?_⟩, fun x => ?_, fun x => ?_⟩
  · rw [List.mem_singleton.mp hx]
    exact w3 g ((I.mem g).mp hg).1 f List.mem_cons_self
  · rw [List.mem_append, List.mem_singleton, KD hf, List.mem_append, List.mem_singleton, I.mem x]
    refine ⟨fun z => ?_, fun ⟨z, l, t⟩ => ?_⟩
    · rcases z with z | rfl
      · exact ⟨.inl z.1, z.2⟩
      · exact ⟨.inr rfl, L, tp⟩
    · rcases z with z | z
      · exact .inl ⟨z, l, t⟩
      · exact .inr z
  · rw [hk x, I.seen x]
    refine ⟨fun z => ?_, fun ⟨g, hg, r⟩ => ?_⟩
    · rcases z with ⟨g, hg, r⟩ | r
      · exact ⟨g, List.mem_append_left _ hg, r⟩
      · exact ⟨f, List.mem_append_right _ (List.mem_singleton.mpr rfl), r⟩
    · rcases List.mem_append.mp hg with hg | hg
      · exact .inl ⟨g, hg, r⟩
      · rw [List.mem_singleton.mp hg] at r
        exact .inr r
noncomputable def PF (n most : Int) (f : I3) : Prop := f.1 ≠ 0 ∧ (-most ≤ f.1 ∧ f.1 ≤ most) ∧ (-most ≤ f.2.1 ∧ f.2.1 ≤ most) ∧ meas f = n ∧ g3 f = 1
theorem Jw {far : Int} {f : I3} (h : Level f far) : (-far ≤ f.1 ∧ f.1 ≤ far) ∧ (-far ≤ f.2.1 ∧ f.2.1 ≤ far) := by
  obtain ⟨⟨h1, h2⟩, h3, h4⟩ := h
  split at h4 <;> omega
theorem Xl {n far : Int} {fs : List I3} (mem : ∀ f, f ∈ fs ↔ PF n far f) : ∀ f ∈ fs, Lv far f → ∀ g, Rl far f g → g ∈ fs := fun f hf L g r => by
  have P := (mem f).mp hf
  have lg := r.lv L
  have ⟨i1, i2⟩ := Jw lg.L
  exact (mem g).mpr ⟨Nz lg.S, i1, i2, by rw [r.meas]; exact P.2.2.2.1, by rw [r.g3]; exact P.2.2.2.2⟩
theorem XS {far : Int} {f : I3} {t0 : I4} {N k : Nat} (L : Lv far f) (d : det t0 = 1) (v : Lv far (mov f t0)) (e : rF far N (mov f t0) = mov f t0) (n0 : 0 < N) (x : I3) : (∃ i, i < N ∧ rF far i (rF far k (mov f t0)) = x) ↔ Rl far f x := by
  have r0 : Rl far f (mov f t0) := by
    rcases Wz L v d rfl with ⟨m, s⟩ | ⟨m, s⟩
    · exact ⟨m, by rw [← Iz, ← s.mov]⟩
    · have e2 : rF far m (mov f t0) = f := by rw [← Iz, ← s.mov, Gu d]
      exact Rl.symm v ⟨m, e2⟩
  have rz : Rl far f (rF far k (mov f t0)) := r0.trans ⟨k, rfl⟩
  have ez : rF far N (rF far k (mov f t0)) = rF far k (mov f t0) := by rw [← CQ, Nat.add_comm, CQ, e]
  constructor
  · rintro ⟨i, _, rfl⟩
    exact rz.trans ⟨i, rfl⟩
  · intro r
    obtain ⟨m, rfl⟩ := (rz.symm L).trans r
    obtain ⟨i, hi, ei⟩ := Z7 ez n0 m
    exact ⟨i, hi, ei.symm⟩
theorem IV {k x : List Int} {ks : List (List Int)} : x ∈ Gg k ks ↔ x ∈ ks ∨ x = k := by
  unfold Gg
  split
  · rename_i h
    refine ⟨.inl, fun z => ?_⟩
    rcases z with z | rfl
    · exact z
    · exact h
  · rw [List.mem_append, List.mem_singleton]
structure NdF (fs : List I3) (ks : List (List Int)) : Prop where
  nd : ks.Nodup
  mem : ∀ r ∈ ks, r ∈ fs.map rw3
theorem NdF.put {fs : List I3} {ks : List (List Int)} {f : I3} (h : NdF fs ks) (hf : f ∈ fs) : NdF fs (Gg (rw3 f) ks) := by
  refine ⟨?_, fun r hr => ?_⟩
  · unfold Gg
    split
    · exact h.nd
    · rename_i z
      exact List.nodup_append.mpr ⟨h.nd, List.pairwise_singleton _ _, fun a ha b hb e => z (by rw [← List.mem_singleton.mp hb, ← e]; exact ha)⟩
  · rcases IV.mp hr with z | rfl
    · exact h.mem r z
    · exact List.mem_map.mpr ⟨f, hf, rfl⟩
theorem Rf {α : Type} [DecidableEq α] : ∀ {ks ls : List α}, ks.Nodup → (∀ r ∈ ks, r ∈ ls) → ks.length ≤ ls.length
  | [], _, _, _ => Nat.zero_le _
  | k :: ks, ls, h, m => by
    obtain ⟨h1, h2⟩ := List.nodup_cons.mp h
    have hk := m k List.mem_cons_self
    have := Rf (ls := ls.erase k) h2 fun r hr => (List.mem_erase_of_ne fun e => h1 (by rw [← e]; exact hr)).mpr (m r (List.mem_cons_of_mem _ hr))
    rw [List.length_erase_of_mem hk] at this
    have := List.length_pos_of_mem hk
    rw [List.length_cons]
    omega
theorem NdF.len {fs : List I3} {ks : List (List Int)} (h : NdF fs ks) : ks.length ≤ fs.length := by
  have := Rf h.nd h.mem
  rw [List.length_map] at this
  exact this
theorem NdF.nil {fs : List I3} : NdF fs [] := ⟨List.nodup_nil, fun r hr => (nomatch hr)⟩
end My
namespace My
open PySem L2
local macro_rules | `(tactic| walk_at "sc") => `(tactic| (exact ⟨rfl, rfl, rfl, by decide +kernel, rfl, by decide +kernel, by decide +kernel⟩))
local macro_rules | `(tactic| walk_at "lE") => `(tactic| (exact fun ds Q ⟨p, e, _⟩ => by rw [e]; rfl))
local macro_rules | `(tactic| walk_at "b1") => `(tactic| (intro _ _ _ _ _ _ us hl; exact match us, hl with | [_], _ => rfl))
local macro_rules | `(tactic| walk_at "b2") => `(tactic| (intro _ _ _ _ _ _ us hl; exact match us, hl with | [_, _], _ => rfl))
local macro_rules | `(tactic| walk_at "b3") => `(tactic| (intro _ _ _ _ _ _ us hl; exact match us, hl with | [_, _, _], _ => rfl))
local macro_rules | `(tactic| walk_at "rd1") => `(tactic| dsimp only [Ady, Aea, XH, Aay, dIf, X7, AaB, Abp, Sy, Uz, Adh, WX, Uq, Oj, Z5, Aez, Adn, dIn, dOp, dUn, Xy, dC, dIx, Ae8, Agg, Agp, AfD, Afs, AgH, AgB, AeT, AdM, AdI, Aes, Ad5, Ad3, AeB, AdY, Afc, dI, dI0, dB0, dLt, dLe, dGt, dGe, dEq, dNe, dIs, AcZ, Adq, dOr, Vz, Kh, Aar, Aag, Aem, AeM, VP, Ni, dTup, Yu, dCall, dCB, Ww, V0, V9, AgQ, Oa, Adi, Xx, Ud, AaD, KR, Ug, Qy, inner, Aax, Aaj, AbW, Wl, AaK, Aai, dOf, Z9, Ub, Aat, AcH, Acb, Aby, Aep, AeS, Acf, Ac5, Ad0, Acm, Acn, Ag4, Xj, AeV, AcQ, Ag1, Aex, Ac7, Ac2, Agd, AdP, Z4, AcL, AdC, ownAt, Ad6, Aa5, Wr, AaY, Abt, Aa7, Aab, Aap, Td, Oq, SJ, AcM, Uc, tabOf,
  List.length_cons, List.length_nil, List.getElem?_cons_zero, List.getElem?_cons_succ, List.set_cons_zero, List.set_cons_succ, Nat.reduceAdd, List.map_cons, List.map_nil, Option.join_some])
local macro_rules | `(tactic| walk_at "rd2") => `(tactic| simp only [Aey, Adp, AcU, Ado, AbE, Ac6, AcW, Adm, Aek, Ac8, AdJ, AgK, Afw, AeH, Agy, Agi, AeX, AaG, AaR, AcI, AbC, Acp, Abq, AaT, AbB, Aci, AaQ, Nr, AdU, Aac, Adu, Ad9, AdW, AdV, Adf, AdN, AbF, AbI, Abu, Ab1, JH, Aa9, Abf, Yj, TX, YX, Y7, ZD, YH, ZG, if_true, if_false, Bool.and_true, Bool.true_and, Bool.false_and, Bool.and_false, Bool.not_true, Bool.not_false, Bool.false_eq_true, true_and, and_true, ite_true, ite_false, List.length_map])
local macro_rules | `(tactic| walk_at "rd") => `(tactic| ((try walk_at "rd1"); (try walk_at "rd2")))
local macro_rules | `(tactic| walk_at "go") => `(tactic| ((try simp only [Jx, Jk, JB]); walk_at "rd"))
local macro_rules | `(tactic| walk_at "bts") => `(tactic| first | assumption | (with_reducible apply Bt.mul <;> walk_at "bts") | (with_reducible apply Bt.add <;> walk_at "bts") | (with_reducible apply Bt.sub <;> walk_at "bts") | (with_reducible apply Bt.neg <;> walk_at "bts") | exact Bt.of_abs (n := 1) (by decide) | exact Bt.of_abs (n := 8) (by decide) | exact Bt.of_abs (n := 400) (by decide))
local macro_rules | `(tactic| walk_at "bt") => `(tactic| exact Bt.le (by walk_at "bts") (by decide))
local macro_rules | `(tactic| walk_at "mul") => `(tactic| exact Bt.mulOk (by walk_at "bts") (by walk_at "bts") (by decide) (by decide))
local macro_rules | `(tactic| walk_at "muls") => `(tactic| repeat (refine ⟨by first | walk_at "mul" | exact Bu (by decide) | decide | exact ⟨by decide, by decide⟩, ?_⟩))
noncomputable def top (i : Nat) : Stmt := PySem.Challenge.pw_formcycle_k46_classes.main.body.getD i (.Pass ⟨0, 0, 0, 0⟩)
noncomputable abbrev Fp : Stmt := top 8
theorem Gy : Al ["one", "other", "rest"] ["one", "other"] (Ai Fp) := by walk_at "sc"
noncomputable abbrev Gb : Stmt := top 9
theorem Ji : Al ["number", "guess", "better"] ["number"] (Ai Gb) := by walk_at "sc"
noncomputable abbrev CZ : Stmt := top 10
theorem Jo : Al ["number", "side"] ["number"] (Ai CZ) := by walk_at "sc"
noncomputable abbrev BX : Stmt := top 11
theorem JL : Al ["number", "most"] ["number", "most"] (Ai BX) := by walk_at "sc"
noncomputable abbrev Ci : Stmt := top 12
theorem Kq : Al ["number", "most"] ["number", "most"] (Ai Ci) := by walk_at "sc"
noncomputable abbrev Fj : Stmt := top 15
theorem S9 : Al ["turn"] ["turn"] (Ai Fj) := by walk_at "sc"
noncomputable abbrev Di : Stmt := top 16
theorem Nb : Al ["turn"] ["turn"] (Ai Di) := by walk_at "sc"
noncomputable abbrev Dj : Stmt := top 17
theorem MP : Al ["one", "other"] ["one", "other"] (Ai Dj) := by walk_at "sc"
noncomputable abbrev Dl : Stmt := top 19
theorem Tc : Al ["form"] ["form"] (Ai Dl) := by walk_at "sc"
noncomputable abbrev Ih : Stmt := top 20
theorem Mj : Al ["form", "point", "x", "y"] ["form", "point"] (Ai Ih) := by walk_at "sc"
noncomputable abbrev Fg : Stmt := top 21
theorem RL : Al ["form"] ["form"] (Ai Fg) := by walk_at "sc"
noncomputable abbrev Ib : Stmt := top 22
theorem Lb : Al ["form", "turn", "left", "right"] ["form", "turn"] (Ai Ib) := by walk_at "sc"
noncomputable abbrev Gj : Stmt := top 23
theorem NP : Al ["form", "left", "right", "crossed"] ["form", "left", "right"] (Ai Gj) := by walk_at "sc"
noncomputable abbrev HW : Stmt := top 24
theorem Qh : Al ["form", "number"] ["form"] (Ai HW) := by walk_at "sc"
noncomputable abbrev Cr : Stmt := top 26
theorem Du : Al ["form", "a", "b", "c"] ["form"] (Ai Cr) := by walk_at "sc"
noncomputable abbrev BL : Stmt := top 29
theorem Ka : Al ["form"] ["form"] (Ai BL) := by walk_at "sc"
noncomputable abbrev BK : Stmt := top 30
theorem GZ : Al ["form", "far", "b"] ["form", "far"] (Ai BK) := by walk_at "sc"
noncomputable abbrev CN : Stmt := top 31
theorem DX : Al ["form", "top", "b", "c", "d"] ["form", "top"] (Ai CN) := by walk_at "sc"
noncomputable abbrev Ce : Stmt := top 32
theorem Hl : Al ["stop", "top", "turn"] ["stop", "top"] (Ai Ce) := by walk_at "sc"
noncomputable abbrev Ig : Stmt := top 33
theorem Jz : Al ["form", "far", "stop"] ["form"] (Ai Ig) := by walk_at "sc"
noncomputable abbrev CJ : Stmt := top 34
theorem Cv : Al ["form", "far", "first", "stops", "stop"] ["form"] (Ai CJ) := by walk_at "sc"
noncomputable abbrev Dv : Stmt := top 35
theorem Hj : Al ["form", "forms", "place"] ["form"] (Ai Dv) := by walk_at "sc"
noncomputable abbrev BR : Stmt := top 37
theorem JW : Al ["number"] ["number"] (Ai BR) := by walk_at "sc"
noncomputable abbrev Fo : Stmt := top 38
theorem Rz : Al ["number"] ["number"] (Ai Fo) := by walk_at "sc"
noncomputable abbrev Cd : Stmt := top 39
theorem Mz : Al ["number"] ["number"] (Ai Cd) := by walk_at "sc"
noncomputable abbrev BW : Stmt := top 40
theorem BJ : Al ["number", "far", "found", "seen", "form", "other"] ["number"] (Ai BW) := by walk_at "sc"
noncomputable abbrev Bv : Stmt := top 41
theorem Ec : Al ["number", "most", "found", "a", "b"] ["number", "most"] (Ai Bv) := by walk_at "sc"
noncomputable abbrev Dy : Stmt := top 43
theorem Pk : Al ["_law_script", "_law_k"] ["_law_script", "_law_k"] (Ai Dy) := by walk_at "sc"
noncomputable abbrev Dk : Stmt := top 44
theorem MN : Al ["_law_found"] ["_law_found"] (Ai Dk) := by walk_at "sc"
noncomputable abbrev Ca : Stmt := top 45
theorem KY : Al ["_law_found", "_law_many"] ["_law_found", "_law_many"] (Ai Ca) := by walk_at "sc"
noncomputable abbrev Ek : Stmt := top 46
theorem Ri : Al ["_law_form"] ["_law_form"] (Ai Ek) := by walk_at "sc"
noncomputable abbrev Cz : Stmt := top 47
theorem GQ : Al ["_law_number_here", "_law_near"] ["_law_number_here"] (Ai Cz) := by walk_at "sc"
noncomputable abbrev CP : Stmt := top 49
theorem Dg : Al ["_law_form", "_law_top", "_law_a", "_law_b", "_law_c", "_law_d"] ["_law_form", "_law_top"] (Ai CP) := by walk_at "sc"
noncomputable abbrev Df : Stmt := top 50
theorem Jl : Al ["_law_one", "_law_other"] ["_law_one", "_law_other"] (Ai Df) := by walk_at "sc"
noncomputable abbrev CK : Stmt := top 51
theorem DY : Al ["_law_script", "_law_number_here"] ["_law_script"] (Ai CK) := by walk_at "sc"
noncomputable abbrev Dh : Stmt := top 52
theorem Dq : Al ["_law_number_here", "_law_found", "_law_a", "_law_b", "_law_c"] ["_law_number_here"] (Ai Dh) := by walk_at "sc"
noncomputable abbrev Cj : Stmt := top 53
theorem Bb : Al ["_law_number_here", "_law_far", "_law_found", "_law_b", "_law_a", "_law_c", "_law_tops", "_law_seen", "_law_form"] ["_law_number_here"] (Ai Cj) := by walk_at "sc"
noncomputable abbrev Ju : Stmt := top 54
theorem Jb : Al ["_law_script", "_law_number_here", "_law_due", "_law_found", "_law_form"] ["_law_script"] (Ai Ju) := by walk_at "sc"
structure Txt (K : PySem.W.Frag) (mg : Str → Option Value) : Prop where
  t_divisor : ∃ f fd, FnT K mg "divisor" Fp ["one", "other"] f fd
  t_root : ∃ f fd, FnT K mg "root" Gb ["number"] f fd
  t_is_square : ∃ f fd, FnT K mg "is_square" CZ ["number"] f fd
  t_check_at_most : ∃ f fd, FnT K mg "check_at_most" BX ["number", "most"] f fd
  t_check_within : ∃ f fd, FnT K mg "check_within" Ci ["number", "most"] f fd
  t_is_turn : ∃ f fd, FnT K mg "is_turn" Fj ["turn"] f fd
  t_check_turn : ∃ f fd, FnT K mg "check_turn" Di ["turn"] f fd
  t_put_behind : ∃ f fd, FnT K mg "put_behind" Dj ["one", "other"] f fd
  t_measure : ∃ f fd, FnT K mg "measure" Dl ["form"] f fd
  t_value : ∃ f fd, FnT K mg "value" Ih ["form", "point"] f fd
  t_content : ∃ f fd, FnT K mg "content" Fg ["form"] f fd
  t_moved : ∃ f fd, FnT K mg "moved" Ib ["form", "turn"] f fd
  t_middle : ∃ f fd, FnT K mg "middle" Gj ["form", "left", "right"] f fd
  t_shape : ∃ f fd, FnT K mg "shape" HW ["form"] f fd
  t_stands_least : ∃ f fd, FnT K mg "stands_least" Cr ["form"] f fd
  t_check_saddle : ∃ f fd, FnT K mg "check_saddle" BL ["form"] f fd
  t_stands_level : ∃ f fd, FnT K mg "stands_level" BK ["form", "far"] f fd
  t_turn_behind : ∃ f fd, FnT K mg "turn_behind" CN ["form", "top"] f fd
  t_stop_behind : ∃ f fd, FnT K mg "stop_behind" Ce ["stop", "top"] f fd
  t_eased : ∃ f fd, FnT K mg "eased" Ig ["form"] f fd
  t_stops_round : ∃ f fd, FnT K mg "stops_round" CJ ["form"] f fd
  t_round_of : ∃ f fd, FnT K mg "round_of" Dv ["form"] f fd
  t_check_measure : ∃ f fd, FnT K mg "check_measure" BR ["number"] f fd
  t_classes : ∃ f fd, FnT K mg "classes" Fo ["number"] f fd
  t_least_bowls : ∃ f fd, FnT K mg "least_bowls" Cd ["number"] f fd
  t_least_saddles : ∃ f fd, FnT K mg "least_saddles" BW ["number"] f fd
  t_plain_forms : ∃ f fd, FnT K mg "plain_forms" Bv ["number", "most"] f fd
  t__law_cell : ∃ f fd, FnT K mg "_law_cell" Dy ["_law_script", "_law_k"] f fd
  t__law_whole : ∃ f fd, FnT K mg "_law_whole" Dk ["_law_found"] f fd
  t__law_wholes : ∃ f fd, FnT K mg "_law_wholes" Ca ["_law_found", "_law_many"] f fd
  t__law_bar : ∃ f fd, FnT K mg "_law_bar" Ek ["_law_form"] f fd
  t__law_root : ∃ f fd, FnT K mg "_law_root" Cz ["_law_number_here"] f fd
  t__law_behind : ∃ f fd, FnT K mg "_law_behind" CP ["_law_form", "_law_top"] f fd
  t__law_rest : ∃ f fd, FnT K mg "_law_rest" Df ["_law_one", "_law_other"] f fd
  t__law_number : ∃ f fd, FnT K mg "_law_number" CK ["_law_script"] f fd
  t__law_bowls : ∃ f fd, FnT K mg "_law_bowls" Dh ["_law_number_here"] f fd
  t__law_saddles : ∃ f fd, FnT K mg "_law_saddles" Cj ["_law_number_here"] f fd
  t_law : ∃ f fd, FnT K mg "law" Ju ["_law_script"] f fd
  m_MOST_MEASURE : ∃ t, mg "MOST_MEASURE" = some (.int (4000) t)
  z_abs : mg "abs" = none
  z_bool : mg "bool" = none
  z_int : mg "int" = none
  z_isinstance : mg "isinstance" = none
  z_len : mg "len" = none
  z_list : mg "list" = none
  z_max : mg "max" = none
  z_min : mg "min" = none
  z_range : mg "range" = none
  z_sorted : mg "sorted" = none
  z_tuple : mg "tuple" = none
  k_SAME : ∃ a, mg "SAME" = some (.ref a) ∧ ∀ H, Rp K H (.tup [.int (1), .int (0), .int (0), .int (1)]) (.ref a)
noncomputable abbrev LK : DSp := CW (fun t : I4 => [t4 t]) (B4 300000) fun t => .bl (decide (det t = 1))
noncomputable abbrev Iv : DSp := CW (fun t : I4 => [t4 t]) (fun t => B4 300000 t ∧ det t = 1) fun _ => .non
noncomputable abbrev Il : DSp := CW (fun p : I4 × I4 => [t4 p.1, t4 p.2]) (fun p => B4 400000 p.1 ∧ B4 400000 p.2) fun p => t4 (Ao p.1 p.2)
section
variable (P : Program) (w : World) {K : PySem.W.Frag} {mg : Str → Option Value} (base : Heap)
theorem RT (T : Txt K mg)
    : Pm P w K mg base 1 "is_turn" Fj ["turn"] LK := by
  obtain ⟨f, fd, F⟩ := T.t_is_turn
  refine ⟨f, fd, F, F.fn.okD S9 (by walk_at "lE") fun cdv A outer s H E hr => ⟨_, (Ag (Ar (N7 hr.units (Cq (Am (Ad (dv 0) Ab) (Ad (dv 0) Ab)) (Am (Ad (dv 0) Ab) (Ad (dv 0) Ab))) Ab))), fun ds Q h => ?_⟩⟩
  obtain ⟨⟨a, b, c, d⟩, rfl, ⟨ha, hb, hc, hd⟩, q⟩ := h
  walk_at "go"
  exact ⟨by walk_at "mul", by walk_at "mul", q _ rfl⟩
theorem M9 (T : Txt K mg)
    (G_is_turn : Pm P w K mg base 1 "is_turn" Fj ["turn"] LK)
    : Pm P w K mg base 2 "check_turn" Di ["turn"] Iv := by
  obtain ⟨f, fd, F⟩ := T.t_check_turn
  refine ⟨f, fd, F, F.fn.okD Nb (by walk_at "lE") fun cdv A outer s H E hr => ⟨_, (Ag (Cg (Hr (Et (Ah Ae G_is_turn (hr.mono (by decide)) rfl (Aa (dv 0) Af)))) (Ag Gh) Bg)), fun ds Q h => ?_⟩⟩
  obtain ⟨t, rfl, ⟨hb, hd⟩, q⟩ := h
  walk_at "go"
  refine Ak t hb ?_
  walk_at "rd"
  rw [decide_eq_true hd]
  exact q _ rfl
theorem M6 (T : Txt K mg)
    : Pm P w K mg base 1 "put_behind" Dj ["one", "other"] Il := by
  obtain ⟨f, fd, F⟩ := T.t_put_behind
  refine ⟨f, fd, F, F.fn.okD MP (by walk_at "lE") fun cdv A outer s H E hr => ⟨_, (Ag (Ar (Es (Aa (Br (Am (Ad (dv 0) Ab) (Ad (dv 1) Ab)) (Am (Ad (dv 0) Ab) (Ad (dv 1) Ab))) (Aa (Br (Am (Ad (dv 0) Ab) (Ad (dv 1) Ab)) (Am (Ad (dv 0) Ab) (Ad (dv 1) Ab))) (Aa (Br (Am (Ad (dv 0) Ab) (Ad (dv 1) Ab)) (Am (Ad (dv 0) Ab) (Ad (dv 1) Ab))) (Aa (Br (Am (Ad (dv 0) Ab) (Ad (dv 1) Ab)) (Am (Ad (dv 0) Ab) (Ad (dv 1) Ab))) Af))))))), fun ds Q h => ?_⟩⟩
  obtain ⟨⟨⟨a, b, c, d⟩, e, f, g, i⟩, rfl, ⟨⟨ha, hb, hc, hd⟩, he, hf, hg, hi⟩, q⟩ := h
  walk_at "go"
  exact ⟨by walk_at "mul", by walk_at "mul", by walk_at "mul", by walk_at "mul", by walk_at "mul", by walk_at "mul", by walk_at "mul", by walk_at "mul", Bu (by decide), q _ rfl⟩
theorem ZV (T : Txt K mg)
    : Pm P w K mg base 1 "root" Gb ["number"] Ia := by
  obtain ⟨f, fd, F⟩ := T.t_root
  refine ⟨f, fd, F, F.fn.okD Ji (by walk_at "lE") fun cdv A outer s H E hr => ⟨_, (Ac (Cg (Lz (dv 0) Ab) (Ag Gh) Bg) (Ac (Cg (G3 hr.units (dv 0) Ab) (Ag (Ar Ab)) Bg) (Ac (Av 1 Ji.nd (Xf Ab (Dd (Br (Tw (dv 0)) Ab) Ab))) (Ac (Av 2 Ji.nd (Dd (Br (dv 1) (Dd (dv 0) (dv 1))) Ab)) (Ac (Er PassesOwn.never (Lz (dv 2) (dv 1)) (Ac (Av 1 Ji.nd (dv 2)) (Ag (Av 2 Ji.nd (Dd (Br (dv 1) (Dd (dv 0) (dv 1))) Ab))))) (Ag (Ar (dv 1)))))))), fun ds Q h => ?_⟩⟩
  obtain ⟨n, rfl, ⟨h0, hb⟩, q⟩ := h
  walk_at "go"
  refine Dn (decide_eq_false (by omega)) ?_
  by_cases hz : n = 0
  · subst hz
    exact ift rfl (q _ ⟨0, rfl, ⟨by omega, by omega, by omega⟩, Bt.zero.le (by decide)⟩)
  refine Dn (decide_eq_false hz) ?_
  obtain ⟨c1, c2, c3⟩ := J5 hb
  have hu := Q6 h0
  refine ⟨⟨by decide, by decide⟩, c1, ?_⟩
  generalize (1 * 2 ^ ((((Builtin.Int.intBits n : Nat) : Int) + 1).fdiv 2).toNat : Int) = g at *
  refine ⟨Bt.divOk c2 (by omega), ⟨by decide, by decide⟩, ?_⟩
  rw [Pz c3]
  refine Eo (fun m ρ => ∃ g : Int, ρ = [some (.is (.int n)), some (.is (.int g)), some (.is (.int ((g + n / g) / 2)))] ∧ 0 < g ∧ Bt 2001 g ∧ n < (g + 1) * (g + 1) ∧ m = g.toNat) _ ⟨g, rfl, c3, c2, hu, rfl⟩ ?_
  rintro m _ ⟨g, rfl, hg, hgb, hgu, rfl⟩
  walk_at "rd"
  refine Qu (fun hw => ?_) (fun hw => ?_)
  · have hw := of_decide_eq_true hw
    have hp := RM (show 1 ≤ n by omega) hg
    have hu' := NK h0 hg
    have hbb : Bt 2001 ((g + n / g) / 2) := by unfold Bt at *; omega
    generalize (g + n / g) / 2 = b at *
    refine ⟨Bt.divOk hbb (by omega), ⟨by decide, by decide⟩, ?_⟩
    rw [Pz hp]
    exact ⟨_, by omega, b, rfl, hp, hbb, hu', rfl⟩
  · have hw : ¬ (g + n / g) / 2 < g := fun z => hw (decide_eq_true z)
    exact q _ ⟨g, rfl, ⟨by omega, R6 hg (by omega), hgu⟩, hgb⟩
theorem OJ (T : Txt K mg)
    (G_root : Pm P w K mg base 1 "root" Gb ["number"] Ia)
    : Pm P w K mg base 2 "is_square" CZ ["number"] GC := by
  obtain ⟨f, fd, F⟩ := T.t_is_square
  refine ⟨f, fd, F, F.fn.okD Jo (by walk_at "lE") fun cdv A outer s H E hr => ⟨_, (Ac (Cg (Lz (dv 0) Ab) (Ag (Ar Js)) Bg) (Ac (Av 1 Jo.nd (Ah Ae G_root (hr.mono (by decide)) rfl (Aa (dv 0) Af))) (Ag (Ar (N7 hr.units (Am (dv 1) (dv 1)) (dv 0)))))), fun ds Q h => ?_⟩⟩
  obtain ⟨n, rfl, hb, q⟩ := h
  walk_at "go"
  refine Qu (fun hw => ?_) (fun hw => ?_)
  · have hw := of_decide_eq_true hw
    exact q _ ⟨false, rfl, by simp [La hw]⟩
  · have hw : ¬ n < 0 := fun z => hw (decide_eq_true z)
    refine Bh n ⟨by omega, hb⟩ ?_
    rintro _ ⟨r, rfl, hs, hr'⟩
    walk_at "rd"
    refine ⟨by walk_at "mul", q _ ⟨_, rfl, ?_⟩⟩
    rw [Mh hs]; simp
noncomputable abbrev Fw : DSp := CW (fun f : I3 => [t3 f]) (B3 20000) fun f => .int (meas f)
noncomputable abbrev QJ : DSp := CW (fun p : I3 × I2 => [t3 p.1, t2 p.2]) (fun p => B3 20000 p.1 ∧ B2 300000 p.2) fun p => .int (val p.1 p.2)
noncomputable abbrev Nx : DSp := CW (fun p : I3 × I2 × I2 => [t3 p.1, t2 p.2.1, t2 p.2.2]) (fun p => B3 20000 p.1 ∧ B2 300000 p.2.1 ∧ B2 300000 p.2.2) fun p => .int (mid p.1 p.2.1 p.2.2)
noncomputable abbrev P0 : DSp := CW (fun p : I3 × I4 => [t3 p.1, t4 p.2]) (fun p => B3 20000 p.1 ∧ B4 300000 p.2 ∧ det p.2 = 1) fun p => t3 (mov p.1 p.2)
theorem SX (T : Txt K mg)
    : Pm P w K mg base 1 "measure" Dl ["form"] Fw := by
  obtain ⟨f, fd, F⟩ := T.t_measure
  refine ⟨f, fd, F, F.fn.okD Tc (by walk_at "lE") fun cdv A outer s H E hr => ⟨_, (Ag (Ar (Cq (Am (Ad (dv 0) Ab) (Ad (dv 0) Ab)) (Am (Am Ab (Ad (dv 0) Ab)) (Ad (dv 0) Ab))))), fun ds Q h => ?_⟩⟩
  obtain ⟨⟨a, b, c⟩, rfl, ⟨ha, hb, hc⟩, q⟩ := h
  walk_at "go"
  have h2 : Bt 3 4 := Bt.of_abs (by decide)
  exact ⟨by walk_at "mul", by walk_at "mul", by walk_at "mul", q _ rfl⟩
theorem Xa (T : Txt K mg)
    : Pm P w K mg base 1 "value" Ih ["form", "point"] QJ := by
  obtain ⟨f, fd, F⟩ := T.t_value
  refine ⟨f, fd, F, F.fn.okD Mj (by walk_at "lE") fun cdv A outer s H E hr => ⟨_, (Ac (Av 2 Mj.nd (Ad (dv 1) Ab)) (Ac (Av 3 Mj.nd (Ad (dv 1) Ab)) (Ag (Ar (Br (Br (Am (Am (Ad (dv 0) Ab) (dv 2)) (dv 2)) (Am (Am (Ad (dv 0) Ab) (dv 2)) (dv 3))) (Am (Am (Ad (dv 0) Ab) (dv 3)) (dv 3))))))), fun ds Q h => ?_⟩⟩
  obtain ⟨⟨⟨a, b, c⟩, x, y⟩, rfl, ⟨⟨ha, hb, hc⟩, hx, hy⟩, q⟩ := h
  walk_at "go"
  exact ⟨by walk_at "mul", by walk_at "mul", by walk_at "mul", by walk_at "mul", by walk_at "mul", by walk_at "mul", q _ rfl⟩
theorem Vn (T : Txt K mg)
    : Pm P w K mg base 1 "middle" Gj ["form", "left", "right"] Nx := by
  obtain ⟨f, fd, F⟩ := T.t_middle
  refine ⟨f, fd, F, F.fn.okD NP (by walk_at "lE") fun cdv A outer s H E hr => ⟨_, (Ac (Av 3 NP.nd (Br (Am (Ad (dv 1) Ab) (Ad (dv 2) Ab)) (Am (Ad (dv 2) Ab) (Ad (dv 1) Ab)))) (Ag (Ar (Br (Br (Am (Am (Am Ab (Ad (dv 0) Ab)) (Ad (dv 1) Ab)) (Ad (dv 2) Ab)) (Am (Ad (dv 0) Ab) (dv 3))) (Am (Am (Am Ab (Ad (dv 0) Ab)) (Ad (dv 1) Ab)) (Ad (dv 2) Ab)))))), fun ds Q h => ?_⟩⟩
  obtain ⟨⟨⟨a, b, c⟩, ⟨x, y⟩, u, v⟩, rfl, ⟨⟨ha, hb, hc⟩, ⟨hx, hy⟩, hu, hv⟩, q⟩ := h
  walk_at "go"
  have h2 : Bt 2 2 := Bt.of_abs (by decide)
  walk_at "muls"
  exact q _ rfl
theorem X6 (T : Txt K mg)
    (G_check_turn : Pm P w K mg base 2 "check_turn" Di ["turn"] Iv)
    (G_value : Pm P w K mg base 1 "value" Ih ["form", "point"] QJ)
    (G_middle : Pm P w K mg base 1 "middle" Gj ["form", "left", "right"] Nx)
    : Pm P w K mg base 3 "moved" Ib ["form", "turn"] P0 := by
  obtain ⟨f, fd, F⟩ := T.t_moved
  refine ⟨f, fd, F, F.fn.okD Lb (by walk_at "lE") fun cdv A outer s H E hr => ⟨_, (Ac (Ii (Ah Ae G_check_turn (hr.mono (by decide)) rfl (Aa (dv 1) Af))) (Ac (Av 2 Lb.nd (Es (Aa (Ad (dv 1) Ab) (Aa (Ad (dv 1) Ab) Af)))) (Ac (Av 3 Lb.nd (Es (Aa (Ad (dv 1) Ab) (Aa (Ad (dv 1) Ab) Af)))) (Ag (Ar (Es (Aa (Ah Ae G_value (hr.mono (by decide)) rfl (Aa (dv 0) (Aa (dv 2) Af))) (Aa (Ah Ae G_middle (hr.mono (by decide)) rfl (Aa (dv 0) (Aa (dv 2) (Aa (dv 3) Af)))) (Aa (Ah Ae G_value (hr.mono (by decide)) rfl (Aa (dv 0) (Aa (dv 3) Af))) Af))))))))), fun ds Q h => ?_⟩⟩
  obtain ⟨⟨f, t⟩, rfl, ⟨hf, ht, hd⟩, q⟩ := h
  walk_at "go"
  have hl : B2 300000 (t.1, t.2.2.1) := ⟨ht.1.le (by decide), ht.2.2.1.le (by decide)⟩
  have hr' : B2 300000 (t.2.1, t.2.2.2) := ⟨ht.2.1.le (by decide), ht.2.2.2.le (by decide)⟩
  refine Ak t ⟨ht, hd⟩ ⟨Bu (by decide), Bu (by decide), ?_⟩
  refine Ak (f, (t.1, t.2.2.1)) ⟨hf, hl⟩ ?_
  refine Ak (f, (t.1, t.2.2.1), (t.2.1, t.2.2.2)) ⟨hf, hl, hr'⟩ ?_
  refine Ak (f, (t.2.1, t.2.2.2)) ⟨hf, hr'⟩ ⟨Bu (by decide), ?_⟩
  exact q _ rfl
noncomputable abbrev Ln : DSp := CW (fun p : I2 => [.int p.1, .int p.2]) (fun _ => True) fun p => .int ((Int.gcd p.1 p.2 : Nat) : Int)
theorem RB (T : Txt K mg)
    : Pm P w K mg base 1 "divisor" Fp ["one", "other"] Ln := by
  obtain ⟨f, fd, F⟩ := T.t_divisor
  refine ⟨f, fd, F, F.fn.okD Gy (by walk_at "lE") fun cdv A outer s H E hr => ⟨_, (Ac (Er PassesOwn.never (Ip hr.units (dv 1) Ab) (Ac (Av 2 Gy.nd (Ey (dv 0) (dv 1))) (Ac (Av 0 Gy.nd (dv 1)) (Ag (Av 1 Gy.nd (dv 2)))))) (Ag (Ar (IK T.z_abs (Aa (dv 0) Af))))), fun ds Q h => ?_⟩⟩
  obtain ⟨⟨a, b⟩, rfl, _, q⟩ := h
  simp only [Jx, Jk, JB]
  refine Eo (fun m ρ => ∃ x y z, ρ = [some (.is (.int x)), some (.is (.int y)), z] ∧ Int.gcd x y = Int.gcd a b ∧ m = y.natAbs) _ ⟨a, b, none, rfl, rfl, rfl⟩ ?_
  rintro m _ ⟨x, y, z, rfl, hg, rfl⟩
  walk_at "rd"
  by_cases hy : y = 0
  · subst hy
    simp only [decide_true, Bool.not_true]
    walk_at "rd"
    have q' := q _ rfl
    have e : (if x < 0 then -x else x) = ((Int.gcd a b : Nat) : Int) := by rw [← hg, Int.gcd_zero_right]; split <;> omega
    rw [e]
    exact q'
  · simp only [decide_eq_false hy, Bool.not_false, if_true]
    exact ⟨hy, _, Uk hy, y, x.fmod y, _, rfl, (Rb x y).trans hg, rfl⟩
noncomputable abbrev K8 : DSp := CW (fun f : I3 => [t3 f]) (fun _ => True) fun f => .int (g3 f)
theorem SM (T : Txt K mg)
    (G_divisor : Pm P w K mg base 1 "divisor" Fp ["one", "other"] Ln)
    : Pm P w K mg base 2 "content" Fg ["form"] K8 := by
  obtain ⟨f, fd, F⟩ := T.t_content
  refine ⟨f, fd, F, F.fn.okD RL (by walk_at "lE") fun cdv A outer s H E hr => ⟨_, (Ag (Ar (Ah Ae G_divisor (hr.mono (by decide)) rfl (Aa (Ah Ae G_divisor (hr.mono (by decide)) rfl (Aa (Ad (dv 0) Ab) (Aa (Ad (dv 0) Ab) Af))) (Aa (Ad (dv 0) Ab) Af))))), fun ds Q h => ?_⟩⟩
  obtain ⟨f, rfl, _, q⟩ := h
  walk_at "go"
  exact Ak (f.1, f.2.1) trivial (Ak (_, f.2.2) trivial (q _ rfl))
noncomputable abbrev Qg : DSp := spec (fun f : I3 => [t3 f]) (fun f => B3 1500 f) Xc
theorem Wb (T : Txt K mg)
    (G_measure : Pm P w K mg base 1 "measure" Dl ["form"] Fw)
    (G_is_square : Pm P w K mg base 2 "is_square" CZ ["number"] GC)
    : Pm P w K mg base 3 "shape" HW ["form"] Qg := by
  obtain ⟨f, fd, F⟩ := T.t_shape
  refine ⟨f, fd, F, F.fn.okD Qh (by walk_at "lE") fun cdv A outer s H E hr => ⟨_, (Ac (Av 1 Qh.nd (Ah Ae G_measure (hr.mono (by decide)) rfl (Aa (dv 0) Af))) (Ac (Cg (Et (Ah Ae G_is_square (hr.mono (by decide)) rfl (Aa (dv 1) Af))) (Ag (Ar Kz)) Bg) (Ac (Cg (LR (dv 1) Ab) (Ag (Ar Kz)) Bg) (Ac (Cg (LR (Ad (dv 0) Ab) Ab) (Ag (Ar Kz)) Bg) (Ag (Ar Kz)))))), fun ds Q h => ?_⟩⟩
  obtain ⟨f, rfl, hf, q⟩ := h
  walk_at "go"
  refine Ak f (hf.le (by decide)) ?_
  have hm : Bt 4000 (meas f) := by
    obtain ⟨h1, h2, h3⟩ := hf
    have h4 : Bt 3 4 := Bt.of_abs (by decide)
    exact ((h2.mul h2).sub ((h4.mul h1).mul h3)).le (by decide)
  refine Bh (meas f) hm ?_
  rintro _ ⟨b, rfl, hb⟩
  walk_at "rd"
  refine Qu (fun h => q _ (.flat (hb.mp h))) (fun h => ?_)
  have hn : ¬ Ge (meas f) := fun z => h (hb.mpr z)
  refine Qu (fun h => q _ (.saddle hn (of_decide_eq_true h))) (fun h => ?_)
  have hp : ¬ 0 < meas f := fun z => h (decide_eq_true z)
  refine Qu (fun h => q _ (.bowl hn hp (of_decide_eq_true h))) (fun h => q _ (.dome hn hp fun z => h (decide_eq_true z)))
noncomputable abbrev G5 : DSp := CW (fun f : I3 => [t3 f]) (fun _ => True) fun f => .bl (stands f)
theorem Km (T : Txt K mg)
    : Pm P w K mg base 1 "stands_least" Cr ["form"] G5 := by
  obtain ⟨f, fd, F⟩ := T.t_stands_least
  refine ⟨f, fd, F, F.fn.okD Du (by walk_at "lE") fun cdv A outer s H E hr => ⟨_, (Ac (Av 1 Du.nd (Ad (dv 0) Ab)) (Ac (Av 2 Du.nd (Ad (dv 0) Ab)) (Ac (Av 3 Du.nd (Ad (dv 0) Ab)) (Ac (Cg (Hr (Vu QT QT QT Fy Fy Fy  (FQ (dv 1)) (dv 2) (dv 1) (dv 3))) (Ag (Ar Js)) Bg) (Ag (Ar (Adw (AdT (dv 2) Ab) (Om (R7 (Aaa hr.units (dv 2) (FQ (dv 1))) (Om (Aaa hr.units (dv 1) (dv 3)))))))))))), fun ds Q h => ?_⟩⟩
  obtain ⟨⟨a, b, c⟩, rfl, _, q⟩ := h
  have q' := q _ rfl
  dsimp only [stands] at q'
  walk_at "go"
  simp only [Bool.decide_and, ne_eq, decide_not] at q'
  generalize decide (-a ≤ b) = x1 at *
  generalize decide (b ≤ a) = x2 at *
  generalize decide (a ≤ c) = x3 at *
  generalize decide (0 ≤ b) = x4 at *
  generalize decide (b = -a) = x5 at *
  generalize decide (a = c) = x6 at *
  cases x1 <;> cases x2 <;> cases x3 <;> cases x4 <;> cases x5 <;> cases x6 <;> exact q'
noncomputable abbrev Gs : DSp := CW (fun p : I2 => [.int p.1, .int p.2]) (fun p => p.1 ≤ p.2) fun _ => .non
theorem JK (T : Txt K mg)
    : Pm P w K mg base 1 "check_at_most" BX ["number", "most"] Gs := by
  obtain ⟨f, fd, F⟩ := T.t_check_at_most
  refine ⟨f, fd, F, F.fn.okD JL (by walk_at "lE") fun cdv A outer s H E hr => ⟨_, (Ag (Cg (LR (dv 0) (dv 1)) (Ag Gh) Bg)), fun ds Q h => ?_⟩⟩
  obtain ⟨⟨n, m⟩, rfl, h0, q⟩ := h
  have h0 : n ≤ m := h0
  walk_at "go"
  exact Dn (decide_eq_false (by omega)) (q _ rfl)
noncomputable abbrev Eu : DSp := CW (fun f : I3 => [t3 f]) (fun f => B3 1500 f ∧ Sad f) fun _ => .non
noncomputable abbrev Ew : DSp := CW (fun p : I3 × Int => [t3 p.1, .int p.2]) (fun p => B3 20000 p.1) fun p => .bl (decide (Level p.1 p.2))
theorem Kd (T : Txt K mg)
    (G_check_at_most : Pm P w K mg base 1 "check_at_most" BX ["number", "most"] Gs)
    (G_shape : Pm P w K mg base 3 "shape" HW ["form"] Qg)
    (G_measure : Pm P w K mg base 1 "measure" Dl ["form"] Fw)
    : Pm P w K mg base 4 "check_saddle" BL ["form"] Eu := by
  obtain ⟨f, fd, F⟩ := T.t_check_saddle
  obtain ⟨t_MOST_MEASURE, m_MOST_MEASURE⟩ := T.m_MOST_MEASURE
  refine ⟨f, fd, F, F.fn.okD Ka (by walk_at "lE") fun cdv A outer s H E hr => ⟨_, (Ac (Cg (Ip hr.units (Ah Ae G_shape (hr.mono (by decide)) rfl (Aa (dv 0) Af)) Kz) (Ag Gh) Bg) (Ag (Ii (Ah Ae G_check_at_most (hr.mono (by decide)) rfl (Aa (Ah Ae G_measure (hr.mono (by decide)) rfl (Aa (dv 0) Af)) (Aa (Pb (v := .int (4000)) (d := .int (4000)) rfl m_MOST_MEASURE ⟨_, rfl⟩ (fun _ => Ba.mpr rfl)) Af)))))), fun ds Q h => ?_⟩⟩
  obtain ⟨f, rfl, ⟨hb, hs⟩, q⟩ := h
  have hs : Sad f := hs
  have nb : Dt.flat 8 (.str "saddle") = true := by rw [Abe]; decide +kernel
  walk_at "go"
  refine Bh f hb ?_
  rintro _ hw
  have h0 := hs.pos
  cases hw with
  | flat z => exact absurd z hs.no
  | bowl _ z _ => exact absurd h0 z
  | dome _ z _ => exact absurd h0 z
  | saddle _ _ =>
    refine ⟨⟨nb, nb⟩, ifn (by rw [Aac]; rfl) (Ak f (hb.le (by decide)) (Ak (meas f, 4000) hs.most (q _ rfl)))⟩
theorem Kl (T : Txt K mg)
    : Pm P w K mg base 1 "stands_level" BK ["form", "far"] Ew := by
  obtain ⟨f, fd, F⟩ := T.t_stands_level
  refine ⟨f, fd, F, F.fn.okD GZ (by walk_at "lE") fun cdv A outer s H E hr => ⟨_, (Ac (Av 2 GZ.nd (Ad (dv 0) Ab)) (Ag (Ar (R7 (QV V1 QT Fy Fy Ab (dv 2) (dv 1)) (Om (QV V1 QT Fy Fy (Cq (dv 1) (dv 2)) (Am Ab (IK T.z_abs (Aa (Ad (dv 0) Ab) Af))) (Br (dv 1) (dv 2)))))))), fun ds Q h => ?_⟩⟩
  obtain ⟨⟨⟨a, b, c⟩, far⟩, rfl, hb, q⟩ := h
  have q' := q _ rfl
  obtain ⟨ha, _, _⟩ := (show B3 20000 (a, b, c) from hb)
  have ha : Bt 20000 a := ha
  have two : Bt 2 2 := Bt.of_abs (by decide)
  have ha' : Bt 20000 (if a < 0 then -a else a) := by split <;> first | exact ha.neg | exact ha
  have q' : Q (.bl (decide (Level (a, b, c) far))) := q'
  walk_at "go"
  have hL : Level (a, b, c) far ↔ (0 < b ∧ b ≤ far) ∧ far - b < 2 * (if a < 0 then -a else a) ∧ 2 * (if a < 0 then -a else a) ≤ far + b := Iff.rfl
  generalize (if a < 0 then -a else a) = A at *
  by_cases h1 : 0 < b
  · refine ift (decide_eq_true h1) ?_
    by_cases h2 : b ≤ far
    · refine ift (decide_eq_true h2) ⟨two.mulOk ha', ?_⟩
      by_cases h3 : far - b < 2 * A
      · refine ift (decide_eq_true h3) ?_
        have e : decide (Level (a, b, c) far) = decide (2 * A ≤ far + b) := decide_eq_decide.mpr (hL.trans ⟨fun z => z.2.2, fun z => ⟨⟨h1, h2⟩, h3, z⟩⟩)
        rw [e] at q'
        exact q'
      · refine Dn (decide_eq_false h3) ?_
        rw [decide_eq_false fun z => h3 (hL.mp z).2.1] at q'
        exact q'
    · refine Dn (decide_eq_false h2) ?_
      rw [decide_eq_false fun z => h2 (hL.mp z).1.2] at q'
      exact q'
  · refine Dn (decide_eq_false h1) ?_
    rw [decide_eq_false fun z => h1 (hL.mp z).1.1] at q'
    exact q'
noncomputable abbrev Hv : DSp := CW (fun p : I3 × Int => [t3 p.1, .int p.2]) (fun p => B3 8000 p.1 ∧ p.1.2.2 ≠ 0) fun p => t4 (Bx p.1 p.2)
theorem MJ (T : Txt K mg)
    : Pm P w K mg base 1 "turn_behind" CN ["form", "top"] Hv := by
  obtain ⟨f, fd, F⟩ := T.t_turn_behind
  refine ⟨f, fd, F, F.fn.okD DX (by walk_at "lE") fun cdv A outer s H E hr => ⟨_, (Ac (Av 2 DX.nd (Ad (dv 0) Ab)) (Ac (Av 3 DX.nd (Ad (dv 0) Ab)) (Ac (Av 4 DX.nd (Cq (dv 1) (Ey (Br (dv 1) (dv 2)) (Am Ab (IK T.z_abs (Aa (dv 3) Af)))))) (Ag (Ar (Es (Aa Ab (Aa (FQ Ab) (Aa Ab (Aa (Dd (Br (dv 2) (dv 4)) (Am Ab (dv 3))) Af)))))))))), fun ds Q h => ?_⟩⟩
  obtain ⟨⟨⟨a, b, c⟩, top⟩, rfl, ⟨⟨_, _, hc⟩, h0⟩, q⟩ := h
  have hc : Bt 8000 c := hc
  have h0 : c ≠ 0 := h0
  have two : Bt 2 2 := Bt.of_abs (by decide)
  have hac : 2 * ab c ≠ 0 := by rcases Aj c with ⟨_, e⟩ | ⟨_, e⟩ <;> omega
  walk_at "go"
  exact ⟨two.mulOk (Wa hc), hac, two.mulOk hc, Bt.divOk (two.mul hc) (by omega), Bu (by decide), q _ rfl⟩
noncomputable abbrev Im (f : I3) (t : I4) : Dt := .tup [t3 f, t4 t]
noncomputable abbrev Eb : DSp := CW (fun p : I3 × I4 × Int => [Im p.1 p.2.1, .int p.2.2]) (fun p => B3 8000 p.1 ∧ p.1.2.2 ≠ 0 ∧ B4 300000 p.2.1 ∧ B4 5000 (Bx p.1 p.2.2)) fun p => Im (mov p.1 (Bx p.1 p.2.2)) (Ao p.2.1 (Bx p.1 p.2.2))
theorem MF (T : Txt K mg)
    (G_turn_behind : Pm P w K mg base 1 "turn_behind" CN ["form", "top"] Hv)
    (G_moved : Pm P w K mg base 3 "moved" Ib ["form", "turn"] P0)
    (G_put_behind : Pm P w K mg base 1 "put_behind" Dj ["one", "other"] Il)
    : Pm P w K mg base 4 "stop_behind" Ce ["stop", "top"] Eb := by
  obtain ⟨f, fd, F⟩ := T.t_stop_behind
  refine ⟨f, fd, F, F.fn.okD Hl (by walk_at "lE") fun cdv A outer s H E hr => ⟨_, (Ac (Av 2 Hl.nd (Ah Ae G_turn_behind (hr.mono (by decide)) rfl (Aa (Ad (dv 0) Ab) (Aa (dv 1) Af)))) (Ag (Ar (Es (Aa (Ah Ae G_moved (hr.mono (by decide)) rfl (Aa (Ad (dv 0) Ab) (Aa (dv 2) Af))) (Aa (Ah Ae G_put_behind (hr.mono (by decide)) rfl (Aa (Ad (dv 0) Ab) (Aa (dv 2) Af))) Af)))))), fun ds Q h => ?_⟩⟩
  obtain ⟨⟨f, t, top⟩, rfl, ⟨hf, h0, ht, hb⟩, q⟩ := h
  walk_at "go"
  exact Ak (f, top) ⟨hf, h0⟩ (Ak (f, Bx f top) ⟨B3.le hf (by decide), B4.le hb (by decide), BP⟩ (Ak (t, Bx f top) ⟨B4.le ht (by decide), B4.le hb (by decide)⟩ ⟨Bu (by decide), q _ rfl⟩))
noncomputable def EI (far : Int) (f : I3) : Nat → I4
  | 0 => (1, 0, 0, 1)
  | k + 1 => Ao (EI far f k) (Bx (mov f (EI far f k)) (if far > ab (mov f (EI far f k)).2.2 then far else ab (mov f (EI far f k)).2.2))
noncomputable def V3 (far : Int) (f : I3) (t : I4) : Prop := ∃ k, t = EI far f k ∧ (∀ i, i < k → ¬ Level (mov f (EI far f i)) far) ∧ Level (mov f (EI far f k)) far
noncomputable def Aen (f : I3) (d : Dt) : Prop := ∃ (t : I4) (far : Int), d = Im (mov f t) t ∧ det t = 1 ∧ Sq (meas f) far ∧ Level (mov f t) far ∧ B4 7600 t ∧ V3 far f t
noncomputable abbrev Qz : DSp := spec (fun f : I3 => [t3 f]) (fun f => B3 1500 f ∧ Sad f) Aen
theorem Qx {f : I3} (S : Sad f) : 0 ≤ meas f ∧ Bt 4000 (meas f) := by
  have := S.pos
  have := S.most
  exact ⟨by omega, Bt.le (n := 13) (Bt.of (by omega) (by omega)) (by decide)⟩
theorem Yd (T : Txt K mg)
    (G_check_saddle : Pm P w K mg base 4 "check_saddle" BL ["form"] Eu)
    (G_root : Pm P w K mg base 1 "root" Gb ["number"] Ia)
    (G_measure : Pm P w K mg base 1 "measure" Dl ["form"] Fw)
    (G_stands_level : Pm P w K mg base 1 "stands_level" BK ["form", "far"] Ew)
    (G_stop_behind : Pm P w K mg base 4 "stop_behind" Ce ["stop", "top"] Eb)
    : Pm P w K mg base 5 "eased" Ig ["form"] Qz := by
  obtain ⟨f, fd, F⟩ := T.t_eased
  obtain ⟨a_SAME, m_SAME, q_SAME⟩ := T.k_SAME
  refine ⟨f, fd, F, F.fn.okD Jz (by walk_at "lE") fun cdv A outer s H E hr => ⟨_, (Ac (Ii (Ah Ae G_check_saddle (hr.mono (by decide)) rfl (Aa (dv 0) Af))) (Ac (Av 1 Jz.nd (Ah Ae G_root (hr.mono (by decide)) rfl (Aa (Ah Ae G_measure (hr.mono (by decide)) rfl (Aa (dv 0) Af)) Af))) (Ac (Av 2 Jz.nd (Es (Aa (dv 0) (Aa (Pb (v := .ref a_SAME) rfl m_SAME rfl q_SAME) Af)))) (Ac (Er PassesOwn.never (Hr (Et (Ah Ae G_stands_level (hr.mono (by decide)) rfl (Aa (Ad (dv 2) Ab) (Aa (dv 1) Af))))) (Ag (Av 2 Jz.nd (Ah Ae G_stop_behind (hr.mono (by decide)) rfl (Aa (dv 2) (Aa (AbM T.z_max (Aa (IK T.z_abs (Aa (Ad (Ad (dv 2) Ab) Ab) Af)) (Aa (dv 1) Af))) Af)))))) (Ag (Ar (dv 2))))))), fun ds Q h => ?_⟩⟩
  obtain ⟨f, rfl, ⟨hb, hS⟩, q⟩ := h
  have hS : Sad f := hS
  have hb : B3 1500 f := hb
  walk_at "go"
  refine Ak f ⟨hb, hS⟩ (Ak f (hb.le (by decide)) (Bh (meas f) (Qx hS) ?_))
  rintro _ ⟨far, rfl, hr', hfb⟩
  walk_at "rd"
  refine ⟨Bu (by decide), ?_⟩
  refine Eo (fun m ρ => ∃ k, (∀ i, i < k → ¬ Level (mov f (EI far f i)) far) ∧ ρ = [some (.is (t3 f)), some (.is (.int far)), some (.is (Im (mov f (EI far f k)) (EI far f k)))] ∧ Nh 1500 far f (EI far f k) ∧ m = eM far (mov f (EI far f k))) _ ⟨0, fun _ h => absurd h (by omega), by show _ = [_, _, some (En.is (Im (mov f (1, 0, 0, 1)) (1, 0, 0, 1)))]; rw [Cu], Nh.start (by decide) hb, rfl⟩ ?_
  rintro m _ ⟨k, nl, rfl, hI, rfl⟩
  have ek : EI far f (k + 1) = Ao (EI far f k) (Bx (mov f (EI far f k)) (if far > ab (mov f (EI far f k)).2.2 then far else ab (mov f (EI far f k)).2.2)) := rfl
  obtain ⟨t, et⟩ : ∃ t, t = EI far f k := ⟨_, rfl⟩
  rw [← et] at hI ek ⊢
  have hd := hI.1
  have hg := hI.2.1
  have ht := hI.b4
  walk_at "rd"
  refine Ak (mov f t, far) (hg.le (by decide)) ?_
  walk_at "rd"
  by_cases hL : Level (mov f t) far
  · exact Dn (by rw [decide_eq_true hL]; rfl) (q _ ⟨t, far, rfl, hd, hr', hL, ht.le (by decide), k, et, nl, by rw [← et]; exact hL⟩)
  · refine ift (by rw [decide_eq_false hL]; rfl) ?_
    have hst := Vd (by decide) hS hr' hI hL
    refine Ak (mov f t, t, _) ⟨hg.le (by decide), FP (hS.mov hd), ht.le (by decide), hst.2.2.le (by decide)⟩ ?_
    dsimp only
    rw [Ck]
    refine ⟨_, hst.2.1, k + 1, fun i hi => ?_, by rw [ek]; rfl, by rw [ek]; exact hst.1, by rw [ek]⟩
    rcases Nat.lt_or_ge i k with z | z
    · exact nl i z
    · rw [show i = k by omega, ← et]; exact hL
structure Hi (f : I3) (t0 : I4) (far : Int) (N : Nat) : Prop where
  d : det t0 = 1
  r : Sq (meas f) far
  v : Lv far (mov f t0)
  b : B4 7600 t0
  n : 0 < N
  m : N ≤ 8128
  e : rF far N (mov f t0) = mov f t0
  l : ∀ j, 0 < j → j < N → rF far j (mov f t0) ≠ mov f t0
  a : V3 far f t0
noncomputable abbrev DP (f : I3) (t0 : I4) (far : Int) (i : Nat) : Dt := Im (rF far i (mov f t0)) (Ao t0 (rT far i (mov f t0)))
theorem Hi.bt {f : I3} {t0 : I4} {far : Int} {N : Nat} (R : Hi f t0 far N) (i : Nat) (h : i ≤ N) : B4 90000 (Ao t0 (rT far i (mov f t0))) := by
  have := R.m
  exact (B4.then R.b (Z2 i R.v)).le (by omega)
noncomputable abbrev Hq : DSp := spec (fun f : I3 => [t3 f]) (fun f => B3 1500 f ∧ Sad f) fun f d => ∃ t0 far N, Hi f t0 far N ∧ d = .lst ((List.range (N + 1)).map (DP f t0 far))
theorem Ph {n : Nat} (h : n ≤ 9000) : n < PySem.sizeLine := by unfold PySem.sizeLine; omega
theorem Li (T : Txt K mg)
    (G_root : Pm P w K mg base 1 "root" Gb ["number"] Ia)
    (G_eased : Pm P w K mg base 5 "eased" Ig ["form"] Qz)
    (G_stop_behind : Pm P w K mg base 4 "stop_behind" Ce ["stop", "top"] Eb)
    (G_measure : Pm P w K mg base 1 "measure" Dl ["form"] Fw)
    : Pm P w K mg base 6 "stops_round" CJ ["form"] Hq := by
  obtain ⟨f, fd, F⟩ := T.t_stops_round
  refine ⟨f, fd, F, F.fn.okD Cv (by walk_at "lE") fun cdv A outer s H E hr => ⟨_, (Ac (Av 1 Cv.nd (Ah Ae G_root (hr.mono (by decide)) rfl (Aa (Ah Ae G_measure (hr.mono (by decide)) rfl (Aa (dv 0) Af)) Af))) (Ac (Av 2 Cv.nd (Ah Ae G_eased (hr.mono (by decide)) rfl (Aa (dv 0) Af))) (Ac (Lh 3 Cv.nd (Aa (dv 2) Af)) (Ac (Av 4 Cv.nd (Ah Ae G_stop_behind (hr.mono (by decide)) rfl (Aa (dv 2) (Aa (dv 1) Af)))) (Ac (Er PassesOwn.never (Ip hr.units (Ad (dv 4) Ab) (Ad (dv 2) Ab)) (Ac (JT 3 (dv 4)) (Ag (Av 4 Cv.nd (Ah Ae G_stop_behind (hr.mono (by decide)) rfl (Aa (dv 4) (Aa (dv 1) Af))))))) (Ac (JT 3 (dv 4)) (Ag (Mp 3 (Ar (dv 3)))))))))), fun ds Q h => ?_⟩⟩
  obtain ⟨f, rfl, ⟨hb, hS⟩, q⟩ := h
  have hS : Sad f := hS
  have hb : B3 1500 f := hb
  walk_at "go"
  refine Ak f (hb.le (by decide)) (Bh (meas f) (Qx hS) ?_)
  rintro _ ⟨far, rfl, hr', hfb⟩
  refine Bh f ⟨hb, hS⟩ ?_
  rintro _ ⟨t0, far', rfl, dt, hs, hL, bt, ea⟩
  obtain rfl := hs.uniq hr'
  have hv : Lv far' (mov f t0) := ⟨hS.mov dt, by rw [Cw dt]; exact hs, hL⟩
  obtain ⟨N, n0, nm, ne, nl⟩ := FN hv
  have R : Hi f t0 far' N := ⟨dt, hs, hv, bt, n0, nm, ne, nl, ea⟩
  walk_at "rd"
  refine ⟨Bu (by decide), ?_⟩
  have stp : ∀ {Q : Dt → Prop} (i : Nat), i ≤ N → Q (DP f t0 far' (i + 1)) → Eb [DP f t0 far' i, .int far'] Q := fun {Q} i hi h => by
    have hi' := Lv.rF i hv
    refine Ak (rF far' i (mov f t0), Ao t0 (rT far' i (mov f t0)), far') ⟨(W9 hi'.S hi'.r hi'.L).le (by decide), FP hi'.S, (R.bt i hi).le (by decide), (KN (Uu hi') (by decide)).le (by decide)⟩ ?_
    have h : Q (Im (rF far' (i + 1) (mov f t0)) (Ao t0 (rT far' (i + 1) (mov f t0)))) := h
    rw [Ur, TY, ← then_assoc] at h
    exact h
  have e0 : Im (mov f t0) t0 = DP f t0 far' 0 := by
    show Im (mov f t0) t0 = Im (mov f t0) (Ao t0 (1, 0, 0, 1))
    rw [Fl]
  rw [e0]
  refine stp 0 (by omega) ?_
  have last : (List.range (N + 1)).map (DP f t0 far') = (List.range N).map (DP f t0 far') ++ [DP f t0 far' N] := by rw [List.range_succ, List.map_append]; rfl
  refine Eo (fun m ρ => ∃ i : Nat, 1 ≤ i ∧ i ≤ N ∧ ρ = [some (.is (t3 f)), some (.is (.int far')), some (.is (DP f t0 far' 0)), some (.own ((List.range i).map (DP f t0 far'))), some (.is (DP f t0 far' i))] ∧ m = N - i) _ ⟨1, by omega, by omega, rfl, rfl⟩ ?_
  rintro m _ ⟨i, i1, iN, rfl, rfl⟩
  walk_at "rd"
  have hl : (List.range i).length < sizeLine := by rw [List.length_range]; exact Ph (by omega)
  refine Qu (fun hw => ?_) (fun hw => ?_)
  · have hi : i < N := by
      rcases Nat.lt_or_ge i N with z | z
      · exact z
      · exfalso
        have : i = N := by omega
        subst this
        rw [ne] at hw
        simp [rF] at hw
    refine ⟨hl, stp i iN ⟨N - (i + 1), by omega, i + 1, by omega, by omega, ?_, rfl⟩⟩
    rw [List.range_succ, List.map_append]; rfl
  · have hi : i = N := by
      rcases Nat.lt_or_ge i N with z | z
      · exfalso
        refine nl i (by omega) z ?_
        have hw : rF far' i (mov f t0) = rF far' 0 (mov f t0) := by
          generalize rF far' i (mov f t0) = g at *
          generalize rF far' 0 (mov f t0) = g' at *
          obtain ⟨a, b, c⟩ := g
          obtain ⟨a', b', c'⟩ := g'
          simp at hw
          obtain ⟨h1, h2, h3⟩ := hw
          rw [h1, h2, h3]
        exact hw
      · omega
    subst hi
    refine ⟨hl, q _ ⟨t0, far', i, R, ?_⟩⟩
    rw [last]
noncomputable def J0 (f : I3) : List Int := [f.1, f.2.1, f.2.2]
theorem Lx (bt : Nat → Nat → Bool) : ∀ k, argBest bt k ≤ k
  | 0 => Nat.le_refl _
  | k + 1 => by
    have := Lx bt k
    unfold argBest
    split <;> omega
theorem FZ (bt : Nat → Nat → Bool) (ir : ∀ i, bt i i = false) (tr : ∀ a b c, bt a b = true → bt b c = true → bt a c = true) : ∀ k j, j ≤ k → bt j (argBest bt k) = false
  | 0, j, h => by
    have : j = 0 := by omega
    subst this
    exact ir 0
  | k + 1, j, h => by
    unfold argBest
    split
    · rename_i hb
      rcases Nat.lt_or_ge j (k + 1) with z | z
      · cases q : bt j (k + 1) with
        | false => rfl
        | true =>
          have := FZ bt ir tr k j (by omega)
          rw [tr _ _ _ q hb] at this
          cases this
      · have : j = k + 1 := by omega
        subst this
        exact ir _
    · rename_i hb
      rcases Nat.lt_or_ge j (k + 1) with z | z
      · exact FZ bt ir tr k j (by omega)
      · have : j = k + 1 := by omega
        subst this
        simpa using hb
noncomputable def LF (f g : I3) : Prop := (AeR f ∧ ∃ t, det t = 1 ∧ Iu (mov f t) ∧ g = mov f t) ∨ (Sad f ∧ ∃ t0 far N j, Hi f t0 far N ∧ j ≤ N ∧ (∀ i, i ≤ N → HT.lexLt (J0 (rF far i (mov f t0))) (J0 (rF far j (mov f t0))) = false) ∧ g = rF far j (mov f t0))
theorem Mu {far : Int} {g : I3} {N : Nat} (e : rF far N g = g) : ∀ q, rF far (N * q) g = g
  | 0 => rfl
  | q + 1 => by rw [Nat.mul_succ, CQ, Mu e q, e]
theorem Zn {far : Int} {g : I3} {N : Nat} (e : rF far N g = g) (n0 : 0 < N) (n : Nat) : ∃ i, i ≤ N ∧ rF far n g = rF far i g := by
  have h1 := Nat.mod_lt n n0
  have h2 := Nat.div_add_mod n N
  refine ⟨n % N, by omega, ?_⟩
  have : rF far (N * (n / N) + n % N) g = rF far (n % N) g := by rw [CQ, Mu e]
  rw [h2] at this
  exact this
theorem Qj (ds : List Dt) (k : Nat) (h : k ≤ ds.length) : cutD ds (some (k : Int)) none = ds.drop k := by
  unfold cutD
  rw [HT.T8, HT.Qm, Nat.min_eq_left h, List.take_of_length_le (by rw [List.length_drop]; omega)]
theorem WD (ds : List Dt) (k : Nat) (h : k ≤ ds.length) : cutD ds none (some (k : Int)) = ds.take k := by
  unfold cutD
  rw [HT.T8, HT.Qm, Nat.min_eq_left h, List.drop_zero, Nat.sub_zero]
theorem Mf {sl : List Nat} {ti : DTI} {tt : DTT} {te : DTE} {ρ : Bj} {Q : Dt → Prop} (h : ti ρ fun items => Hg sl (fun _ R => R items) tt te ρ Q) : Hg sl ti tt te ρ Q := h
noncomputable def Aw (far : Int) (g : I3) (N : Nat) : List (List Int) := (List.range N).map fun i => J0 (rF far (i + 1) g)
theorem Ro {far : Int} {g : I3} {N : Nat} (hv : Lv far g) (l : ∀ j, 0 < j → j < N → rF far j g ≠ g) {i j : Nat} (hij : i < j) (hj : j < N) : rF far (i + 1) g ≠ rF far (j + 1) g := fun e => by
  have e2 : rF far (j + 1) g = rF far (i + 1) (rF far (j - i) g) := by rw [← CQ, show j - i + (i + 1) = j + 1 by omega]
  rw [e2] at e
  have := J3 (i + 1) hv (Lv.rF (j - i) hv) (Ie (j - i) g).symm e
  exact l (j - i) (by omega) (by omega) this.symm
theorem R8 (f g : I3) : HT.lexLt (J0 f) (J0 g) = true ↔ f.1 < g.1 ∨ (f.1 = g.1 ∧ (f.2.1 < g.2.1 ∨ (f.2.1 = g.2.1 ∧ f.2.2 < g.2.2))) := by
  unfold J0
  rw [HT.Fz, HT.Fz, HT.Fz, HT.Io]
  split
  · split
    · split
      · simp; omega
      · simp; omega
    · simp; omega
  · simp; omega
noncomputable abbrev Ab2 (far : Int) (z : I3) (N : Nat) : Dt := .lst ((List.range N).map fun i => t3 (rF far i z))
noncomputable abbrev J9 : DSp := spec (fun f : I3 => [t3 f]) (fun f => B3 1500 f ∧ Sad f) fun f d => ∃ t0 far N k, Hi f t0 far N ∧ k < N ∧ (∀ i, i < N → HT.lexLt (J0 (rF far (i + 1) (mov f t0))) (J0 (rF far (k + 1) (mov f t0))) = false) ∧ d = Ab2 far (rF far (k + 1) (mov f t0)) N
theorem Ru (T : Txt K mg)
    (G_check_saddle : Pm P w K mg base 4 "check_saddle" BL ["form"] Eu)
    (G_stops_round : Pm P w K mg base 6 "stops_round" CJ ["form"] Hq)
    : Pm P w K mg base 7 "round_of" Dv ["form"] J9 := by
  obtain ⟨f, fd, F⟩ := T.t_round_of
  refine ⟨f, fd, F, F.fn.okD Hj (by walk_at "lE") fun cdv A outer s H E hr => ⟨_, (Ac (Ii (Ah Ae G_check_saddle (hr.mono (by decide)) rfl (Aa (dv 0) Af))) (Ac (Y6 1 Hj.nd (HY (sc := Ai Dv) (NN := ["form", "forms", "place"]) (x := "stop") (N := []) (sl := []) rfl rfl (by decide +kernel)) rfl (Iw (Wn (Ah Ae G_stops_round (hr.mono (by decide)) rfl (Aa (dv 0) Af)) (OD Ab) Ow)) (fun cl C s0 H0 ex => (Ad (dv 0) Ab))) (Ac (Av 2 Hj.nd (VD 1 hr.units (AdZ hr.units) (ZX T.z_min (AbG hr.units) (Aa (dv 1) Af)))) (Ag (Ar (DF.de (Acx (Qi (dv 1) (OD (dv 2)) Ow) (Qi (dv 1) Ow (OD (dv 2)))))))))), fun ds Q h => ?_⟩⟩
  obtain ⟨f, rfl, ⟨hb, hS⟩, q⟩ := h
  have hS : Sad f := hS
  have hb : B3 1500 f := hb
  walk_at "go"
  refine Ak f ⟨hb, hS⟩ (Mf ?_)
  walk_at "rd"
  refine Bh f ⟨hb, hS⟩ ?_
  rintro _ ⟨t0, far, N, R, rfl⟩
  walk_at "rd"
  have n0 := R.n
  have nm := R.m
  have ec : cutD ((List.range (N + 1)).map (DP f t0 far)) (some 1) none = (List.range N).map fun i => DP f t0 far (i + 1) := by
    have := Qj ((List.range (N + 1)).map (DP f t0 far)) 1 (by rw [List.length_map, List.length_range]; omega)
    refine this.trans ?_
    rw [List.range_succ_eq_map, List.map_cons, List.drop_succ_cons, List.drop_zero, List.map_map]
    rfl
  rw [ec]
  have hl : ∀ {α : Type} (F : Nat → α), ((List.range N).map F).length = N := fun F => by rw [List.length_map, List.length_range]
  refine VF _ (fun d => match d with | .tup (a :: _) => a | _ => .non) (fun R h => h) (by rw [hl]; exact Nat.le_of_lt (Ph (by omega))) GP (fun d hd R hR => ?_) ?_
  · obtain ⟨i, _, rfl⟩ := List.mem_map.mp hd
    unfold inner
    walk_at "rd"
    exact hR
  have en : ((List.range N).map fun i => DP f t0 far (i + 1)).map (fun d => match d with | .tup (a :: _) => a | _ => .non) = (Aw far (mov f t0) N).map Bq := by
    unfold Aw
    rw [List.map_map, List.map_map]
    rfl
  rw [en]
  have lr : (Aw far (mov f t0) N).length = N := hl _
  have kl : Gx (Aw far (mov f t0) N) < N := by
    have := Lx (fun i j => HT.lexLt ((Aw far (mov f t0) N).getD i []) ((Aw far (mov f t0) N).getD j [])) ((Aw far (mov f t0) N).length - 1)
    rw [lr] at this
    unfold Gx
    rw [lr]
    omega
  have at' : ∀ i, i < N → (Aw far (mov f t0) N).getD i [] = J0 (rF far (i + 1) (mov f t0)) := fun i hi => by
    unfold Aw
    simp [List.getD, hi]
  have least : ∀ i, i < N → HT.lexLt (J0 (rF far (i + 1) (mov f t0))) (J0 (rF far (Gx (Aw far (mov f t0) N) + 1) (mov f t0))) = false := fun i hi => by
    have cs : ∀ n : Nat, (∃ h : I3, (Aw far (mov f t0) N).getD n [] = J0 h) ∨ (Aw far (mov f t0) N).getD n [] = [] := fun n => by
      rcases Nat.lt_or_ge n N with z | z
      · exact .inl ⟨_, at' n z⟩
      · exact .inr (by simp [Aw, List.getD, z])
    have un : Gx (Aw far (mov f t0) N) = argBest (fun i j => HT.lexLt ((Aw far (mov f t0) N).getD i []) ((Aw far (mov f t0) N).getD j [])) ((Aw far (mov f t0) N).length - 1) := rfl
    rw [← at' i hi, ← at' _ kl, un]
    refine FZ (fun i j => HT.lexLt ((Aw far (mov f t0) N).getD i []) ((Aw far (mov f t0) N).getD j [])) (fun a => ?_) (fun a b c h1 h2 => ?_) _ i (by omega)
    · rcases cs a with ⟨h, e⟩ | e
      · rw [e]
        exact Bool.eq_false_iff.mpr fun z => by have := (R8 h h).mp z; omega
      · rw [e]; rfl
    · rcases cs a with ⟨x, ea⟩ | ea <;> rcases cs b with ⟨y, eb⟩ | eb <;> rcases cs c with ⟨z, ec'⟩ | ec' <;> rw [ea, eb] at h1 <;> rw [eb, ec'] at h2 <;> rw [ea, ec']
      · have a1 := (R8 _ _).mp h1
        have a2 := (R8 _ _).mp h2
        exact (R8 _ _).mpr (by omega)
      all_goals first | rfl | (cases h1; done) | (cases h2; done)
  generalize hk : Gx (Aw far (mov f t0) N) = k at *
  refine ⟨Aw far (mov f t0) N, rfl, ?_⟩
  walk_at "rd"
  refine ⟨Aw far (mov f t0) N, rfl, by omega, by rw [hk, lr]; exact kl, ?_⟩
  rw [hk]
  have dl : ((Aw far (mov f t0) N).map Bq).length = N := by rw [List.length_map, lr]
  refine ⟨_, k, rfl, by omega, rfl, fun m hm e => ?_, ?_⟩
  · rw [at' m (by omega), at' k kl] at e
    unfold J0 at e
    simp only [List.cons.injEq, and_true] at e
    exact Ro R.v R.l hm kl (Prod.ext e.1 (Prod.ext e.2.1 e.2.2))
  · rw [Qj _ k (by omega), WD _ k (by omega)]
    have er := congrArg (List.map t3) (rotate R.e kl)
    have e5 : ((Aw far (mov f t0) N).map Bq).drop k ++ ((Aw far (mov f t0) N).map Bq).take k = (List.range N).map fun i => t3 (rF far i (rF far (k + 1) (mov f t0))) := by
      have e6 : (Aw far (mov f t0) N).map Bq = ((List.range N).map fun i => rF far (i + 1) (mov f t0)).map t3 := by
        unfold Aw
        rw [List.map_map, List.map_map]
        rfl
      rw [e6, ← List.map_drop, ← List.map_take, ← List.map_append, rotate R.e kl, List.map_map]
      rfl
    rw [e5]
    refine ⟨?_, q _ ⟨t0, far, N, k, R, kl, least, rfl⟩⟩
    rw [List.length_drop, List.length_take, dl]
    have := Ph (n := N) (by omega)
    omega
structure Acq (D : Int) : Prop where
  r : D % 4 = 0 ∨ D % 4 = 1
  n : ¬ Ge D
  m : D ≤ 4000
  b : Bt 600 D
noncomputable abbrev Gi : DSp := CW (fun D : Int => [.int D]) (fun D => Acq D) fun _ => .non
theorem JX (T : Txt K mg)
    (G_is_square : Pm P w K mg base 2 "is_square" CZ ["number"] GC)
    : Pm P w K mg base 3 "check_measure" BR ["number"] Gi := by
  obtain ⟨f, fd, F⟩ := T.t_check_measure
  refine ⟨f, fd, F, F.fn.okD JW (by walk_at "lE") fun cdv A outer s H E hr => ⟨_, (Ag (Cg (DW.dt (J6 (LR (Ey (dv 0) Ab) Ab) (HD (Et (Ah Ae G_is_square (hr.mono (by decide)) rfl (Aa (dv 0) Af)))))) (Ag Gh) Bg)), fun ds Q h => ?_⟩⟩
  obtain ⟨D, rfl, hD, q⟩ := h
  have hD : Acq D := hD
  have q' := q _ rfl
  have e : D.fmod 4 = D % 4 := Int.fmod_eq_emod_of_nonneg _ (by decide)
  walk_at "go"
  have hr := hD.r
  refine ⟨by decide, Dn (decide_eq_false (by omega)) (Bh D (hD.b.le (by decide)) ?_)⟩
  rintro _ ⟨k, rfl, hk⟩
  cases k with
  | true => exact absurd (hk.mp rfl) hD.n
  | false => exact Dn rfl q'
noncomputable abbrev G6 : DSp := CW (fun p : I2 => [.int p.1, .int p.2]) (fun p => (p.1.natAbs : Int) ≤ p.2) fun _ => .non
theorem Kf (T : Txt K mg)
    : Pm P w K mg base 1 "check_within" Ci ["number", "most"] G6 := by
  obtain ⟨f, fd, F⟩ := T.t_check_within
  refine ⟨f, fd, F, F.fn.okD Kq (by walk_at "lE") fun cdv A outer s H E hr => ⟨_, (Ag (Cg (LR (IK T.z_abs (Aa (dv 0) Af)) (dv 1)) (Ag Gh) Bg)), fun ds Q h => ?_⟩⟩
  obtain ⟨⟨n, m⟩, rfl, h0, q⟩ := h
  have h0 : (n.natAbs : Int) ≤ m := h0
  walk_at "go"
  exact Dn (decide_eq_false (by omega)) (q _ rfl)
theorem Ep {n : Nat} (h : n ≤ 20000) : n < PySem.sizeLine := by unfold PySem.sizeLine; omega
theorem Mt {sl : List Nat} {ti : DTI} {tt : DTT} {te : DTE} {ρ : Bj} {Q : Dt → Prop} (fs : List I3) (p : I3 → Bool) (hi : ∀ R : List Dt → Prop, R (fs.map t3) → ti ρ R) (hl : fs.length ≤ 20000) (hc : caught sl ρ)
    (ht : ∀ f ∈ fs, ∀ R : Bool → Prop, R (p f) → tt (inner sl ρ (t3 f)) R) (he : ∀ f ∈ fs, ∀ R : Dt → Prop, R (t3 f) → te (inner sl ρ (t3 f)) R) (hq : Q (.lst ((fs.filter p).map t3))) : Hg sl ti tt te ρ Q := by
  refine Jt (fs.map t3) (fun d => match d with | .tup [.int a, .int b, .int c] => p (a, b, c) | _ => false) id hi (by rw [List.length_map]; exact Nat.le_of_lt (Ep hl)) hc (fun d hd R hR => ?_) (fun d hd _ R hR => ?_) ?_
  · obtain ⟨f, hf, rfl⟩ := List.mem_map.mp hd
    exact ht f hf R hR
  · obtain ⟨f, hf, rfl⟩ := List.mem_map.mp hd
    exact he f hf R hR
  · rw [List.filter_map, List.map_id]
    exact hq
structure PG (n most : Int) (k j : Nat) (fs : List I3) : Prop where
  srt : Srt fs
  mem : ∀ f, f ∈ fs ↔ f.1 ≠ 0 ∧ -most ≤ f.1 ∧ (f.1 < -most + k ∨ (f.1 = -most + k ∧ f.2.1 < -most + j)) ∧ (-most ≤ f.2.1 ∧ f.2.1 ≤ most) ∧ meas f = n
  len : fs.length ≤ 127 * k + j
theorem PG.start {n most : Int} : PG n most 0 0 [] := ⟨List.Pairwise.nil, fun f => by
  constructor
  · intro z
    cases z
  · rintro ⟨_, h1, h2, h3, _⟩
    omega, Nat.zero_le _⟩
theorem PG.row {n most : Int} {k j : Nat} {fs : List I3} (h : PG n most k j fs) (hj : -most + j = most + 1) (hm : most ≤ 63) : PG n most (k + 1) 0 fs := ⟨h.srt, fun f => by
  rw [h.mem f]
  constructor
  · rintro ⟨h0, h1, h2, h3, h4⟩
    exact ⟨h0, h1, by omega, h3, h4⟩
  · rintro ⟨h0, h1, h2, h3, h4⟩
    exact ⟨h0, h1, by omega, h3, h4⟩, by have := h.len; omega⟩
theorem PG.skip {n most a b : Int} {k j : Nat} {fs : List I3} (h : PG n most k j fs) (ha : -most + k = a) (hb : -most + j = b) (no : ∀ c, a ≠ 0 → b * b - n = 4 * a * c → False) : PG n most k (j + 1) fs := ⟨h.srt, fun f => by
  rw [h.mem f]
  constructor
  · rintro ⟨h0, h1, h2, h3, h4⟩
    exact ⟨h0, h1, by omega, h3, h4⟩
  · rintro ⟨h0, h1, h2, h3, h4⟩
    refine ⟨h0, h1, ?_, h3, h4⟩
    rcases Int.lt_or_le f.1 a with z | z
    · exact .inl (by omega)
    · refine .inr ⟨by omega, ?_⟩
      rcases Int.lt_or_le f.2.1 b with y | y
      · omega
      · exfalso
        have e1 : f.1 = a := by omega
        have e2 : f.2.1 = b := by omega
        have h4 : f.2.1 * f.2.1 - 4 * f.1 * f.2.2 = n := h4
        rw [e1, e2] at h4
        exact no f.2.2 (by omega) (by omega), by have := h.len; omega⟩
theorem PG.add {n most a b c : Int} {k j : Nat} {fs : List I3} (h : PG n most k j fs) (ha : -most + k = a) (hb : -most + j = b) (hb2 : b ≤ most) (a0 : a ≠ 0) (e : b * b - n = 4 * a * c) : PG n most k (j + 1) (fs ++ [(a, b, c)]) := by
  refine ⟨List.pairwise_append.mpr ⟨h.srt, List.pairwise_singleton _ _, fun g hg x hx => ?_⟩, fun f => ?_, by rw [List.length_append, List.length_singleton]; have := h.len; omega⟩
  · rw [List.mem_singleton.mp hx]
    obtain ⟨_, _, h2, _⟩ := (h.mem g).mp hg
    unfold lt3
    show g.1 < a ∨ (g.1 = a ∧ (g.2.1 < b ∨ _))
    omega
  · rw [List.mem_append, List.mem_singleton, h.mem f]
    constructor
    · rintro (⟨h0, h1, h2, h3, h4⟩ | rfl)
      · exact ⟨h0, h1, by omega, h3, h4⟩
      · refine ⟨a0, by show -most ≤ a; omega, .inr ⟨by show a = _; omega, by show b < _; omega⟩, ⟨by show -most ≤ b; omega, hb2⟩, ?_⟩
        show b * b - 4 * a * c = n
        omega
    · rintro ⟨h0, h1, h2, h3, h4⟩
      by_cases z : f.1 = a ∧ f.2.1 = b
      · right
        have h4 : f.2.1 * f.2.1 - 4 * f.1 * f.2.2 = n := h4
        rw [z.1, z.2] at h4
        have e3 : 4 * a * f.2.2 = 4 * a * c := by omega
        have e4 := Int.eq_of_mul_eq_mul_left (by omega) e3
        exact Prod.ext z.1 (Prod.ext z.2 e4)
      · left
        exact ⟨h0, h1, by omega, h3, h4⟩
noncomputable abbrev Fx : DSp := spec (fun p : I2 => [.int p.1, .int p.2]) (fun p => Bt 20 p.1 ∧ 0 ≤ p.2 ∧ p.2 ≤ 63) fun p d => ∃ fs : List I3, d = .lst (fs.map t3) ∧ Srt fs ∧ (∀ f, f ∈ fs ↔ PF p.1 p.2 f) ∧ fs.length ≤ 16200
theorem LQ (T : Txt K mg)
    (G_content : Pm P w K mg base 2 "content" Fg ["form"] K8)
    : Pm P w K mg base 3 "plain_forms" Bv ["number", "most"] Fx := by
  obtain ⟨f, fd, F⟩ := T.t_plain_forms
  refine ⟨f, fd, F, F.fn.okD Ec (by walk_at "lE") fun cdv A outer s H E hr => ⟨_, (Ac (Lh 2 Ec.nd Af) (Ac (FW PassesOwn.never rfl (HJ rfl T.z_range (Aa (FQ (dv 1)) (Aa (Br (dv 1) Ab) Af))) (CT 3 Ec.nd) (Ag (FW PassesOwn.never rfl (HJ rfl T.z_range (Aa (FQ (dv 1)) (Aa (Br (dv 1) Ab) Af))) (CT 4 Ec.nd) (Ag (Cg (DW.dt (K3 (Ip hr.units (dv 3) Ab) (Jj (G3 hr.units (Ey (Cq (Am (dv 4) (dv 4)) (dv 0)) (Am Ab (dv 3))) Ab)))) (Ag (JT 2 (Es (Aa (dv 3) (Aa (dv 4) (Aa (Dd (Cq (Am (dv 4) (dv 4)) (dv 0)) (Am Ab (dv 3))) Af)))))) Bg))))) (Ag (Mp 2 (Ar (Lr (HY (sc := Ai Bv) (NN := ["number", "most", "found", "a", "b"]) (x := "form") (N := []) (sl := []) rfl rfl (by decide +kernel)) rfl (Iw (dv 2)) (fun cl C s0 H0 ex => (G3 hr.units (Ah Ae G_content (hr.mono (by decide)) rfl (Aa (dv 0) Af)) Ab)) (fun cl C s0 H0 ex => (dv 0)))))))), fun ds Q h => ?_⟩⟩
  obtain ⟨⟨n, most⟩, rfl, ⟨bn, m0, m6⟩, q⟩ := h
  have bn : Bt 20 n := bn
  have m0 : 0 ≤ most := m0
  have m6 : most ≤ 63 := m6
  have q : ∀ d, (∃ fs : List I3, d = .lst (fs.map t3) ∧ Srt fs ∧ (∀ f, f ∈ fs ↔ PF n most f) ∧ fs.length ≤ 16200) → Q d := q
  have four : Bt 3 4 := Bt.of_abs (by decide)
  have in7 : ∀ {k : Nat}, k < (most + 1 - -most).toNat → Bt 7 (-most + k) ∧ -most + (k : Int) ≤ most := fun {k} h => ⟨Bt.of (by omega) (by omega), by omega⟩
  have rng : (-(2 ^ 62) ≤ -most ∧ -most < 2 ^ 62 ∧ -(2 ^ 62) ≤ most + 1 ∧ most + 1 < 2 ^ 62) := by omega
  have cnt : ((most + 1 - -most).toNat : Int) = 2 * most + 1 := by omega
  walk_at "go"
  refine ⟨Nat.zero_le _, ?_⟩
  refine El (ups (-most) (most + 1 - -most).toNat) (fun R hR => ⟨rng, hR⟩) (fun k ρ => ∃ fs x y, ρ = [some (.is (.int n)), some (.is (.int most)), some (.own (fs.map t3)), x, y] ∧ PG n most k 0 fs) ⟨[], none, none, rfl, PG.start⟩ ?_ ?_
  · rintro k d _ hk ⟨fs, x, y, rfl, pg⟩
    obtain ⟨hk', rfl⟩ := GF hk
    obtain ⟨ba, ha⟩ := in7 hk'
    generalize ea : -most + (k : Int) = a at *
    walk_at "rd"
    refine El (ups (-most) (most + 1 - -most).toNat) (fun R hR => ⟨rng, hR⟩) (fun j ρ => ∃ fs y, ρ = [some (.is (.int n)), some (.is (.int most)), some (.own (fs.map t3)), some (.is (.int a)), y] ∧ PG n most k j fs) ⟨fs, y, rfl, pg⟩ ?_ ?_
    · rintro j d _ hj ⟨fs, y, rfl, pg⟩
      obtain ⟨hj', rfl⟩ := GF hj
      obtain ⟨bb, hb⟩ := in7 hj'
      generalize eb : -most + (j : Int) = b at *
      have len := pg.len
      have big : fs.length < sizeLine := Ep (by omega)
      walk_at "rd"
      by_cases a0 : a = 0
      · exact Dn (by simp [a0]) ⟨fs, _, rfl, pg.skip ea eb fun c z => absurd a0 z⟩
      · have hd := Int.fmod_add_mul_fdiv (b * b - n) (4 * a)
        refine ift (by simp [a0]) ⟨bb.mulOk bb, four.mulOk ba, by omega, ?_⟩
        by_cases hm : (b * b - n).fmod (4 * a) = 0
        · refine ift (decide_eq_true hm) ⟨bb.mulOk bb, four.mulOk ba, Bt.divOk (four.mul ba) (by omega), Bu (by decide), big, fs ++ [(a, b, (b * b - n).fdiv (4 * a))], _, by rw [List.map_append]; rfl, pg.add ea eb hb a0 (by omega)⟩
        · refine Dn (decide_eq_false hm) ⟨fs, _, rfl, pg.skip ea eb fun c _ e => hm ?_⟩
          rw [e, Int.mul_comm (4 * a) c, Int.mul_fmod_left]
    · rintro _ ⟨fs, y, rfl, pg⟩
      rw [Gw] at pg
      exact ⟨fs, _, _, rfl, pg.row (by omega) m6⟩
  · rintro _ ⟨fs, x, y, rfl, pg⟩
    rw [Gw] at pg
    have len := pg.len
    walk_at "rd"
    refine Mt fs (fun f => decide (g3 f = 1)) (fun R hR => hR) (by omega) GP (fun f hf R hR => ?_) (fun f hf R hR => hR) ?_
    · unfold inner
      walk_at "rd"
      refine Ak f trivial ⟨JH, ?_⟩
      rw [Nr]
      have e : decide (((g3 f : Nat) : Int) = 1) = decide (g3 f = 1) := decide_eq_decide.mpr ⟨fun z => by omega, fun z => by omega⟩
      rw [e]
      exact hR
    · exact q _ ⟨_, rfl, pg.srt.filter _, fun f => by
        rw [List.mem_filter, pg.mem f, decide_eq_true_eq]
        constructor
        · rintro ⟨⟨h0, h1, h2, h3, h4⟩, h5⟩
          exact ⟨h0, ⟨h1, by omega⟩, h3, h4, h5⟩
        · rintro ⟨h0, h1, h3, h4, h5⟩
          exact ⟨⟨h0, h1.1, by omega, h3, h4⟩, h5⟩, Nat.le_trans (List.length_filter_le _ _) (by omega)⟩
structure Ef (n : Int) (ls : List I3) : Prop where
  srt : Srt ls
  mem : ∀ f, f ∈ ls ↔ meas f = n ∧ g3 f = 1 ∧ LF f f
  len : ls.length ≤ 16200
theorem LF.bowl {f : I3} (h : meas f < 0) : LF f f ↔ Iu f := by
  constructor
  · rintro (⟨_, t, dt, L, e⟩ | ⟨S, _⟩)
    · rw [e]; exact L
    · have := S.pos; omega
  · intro L
    exact .inl ⟨⟨L.1, h⟩, (1, 0, 0, 1), rfl, by rw [Cu]; exact L, by rw [Cu]⟩
theorem LF.tp {f : I3} {far : Int} (S : Sad f) (r : Sq (meas f) far) : LF f f ↔ Lv far f ∧ Tp far f := by
  constructor
  · rintro (⟨b, _⟩ | ⟨_, t0, far', N, j, R, jl, lj, e⟩)
    · have := b.2; have := S.pos; omega
    · obtain rfl := R.r.uniq r
      have e : rF far' j (mov f t0) = f := e.symm
      have L : Lv far' f := by have := Lv.rF j R.v; rw [e] at this; exact this
      refine ⟨L, fun g ⟨m, hm⟩ z => ?_⟩
      have hg : rF far' (j + m) (mov f t0) = g := by rw [CQ, e]; exact hm
      obtain ⟨i, hi, ei⟩ := Zn R.e R.n (j + m)
      have := lj i hi
      rw [← ei, hg, e] at this
      rw [(R8 g f).mpr z] at this
      cases this
  · rintro ⟨L, t⟩
    obtain ⟨N, n0, nm, ne, nl⟩ := FN L
    have R : Hi f (1, 0, 0, 1) far N := ⟨rfl, r, by rw [Cu]; exact L, ⟨Bt.one.le (by decide), Bt.zero.le (by decide), Bt.zero.le (by decide), Bt.one.le (by decide)⟩, n0, nm, by rw [Cu]; exact ne, by rw [Cu]; exact nl, 0, rfl, fun i hi => absurd hi (by omega), by show Level (mov f (1, 0, 0, 1)) far; rw [Cu]; exact L.L⟩
    refine .inr ⟨S, (1, 0, 0, 1), far, N, 0, R, Nat.zero_le _, fun i _ => ?_, by show f = mov f _; rw [Cu]⟩
    rw [Cu]
    exact Bool.eq_false_iff.mpr fun z => t _ ⟨i, rfl⟩ ((R8 _ _).mp z)
noncomputable abbrev G8 : DSp := spec (fun n : Int => [.int n]) (fun n => n < 0 ∧ -4000 ≤ n) fun n d => ∃ ls, d = .lst (ls.map t3) ∧ Ef n ls
theorem K7 (T : Txt K mg)
    (G_plain_forms : Pm P w K mg base 3 "plain_forms" Bv ["number", "most"] Fx)
    (G_stands_least : Pm P w K mg base 1 "stands_least" Cr ["form"] G5)
    (G_root : Pm P w K mg base 1 "root" Gb ["number"] Ia)
    : Pm P w K mg base 4 "least_bowls" Cd ["number"] G8 := by
  obtain ⟨f, fd, F⟩ := T.t_least_bowls
  refine ⟨f, fd, F, F.fn.okD Mz (by walk_at "lE") fun cdv A outer s H E hr => ⟨_, (Ag (Ar (Lr (HY (sc := Ai Cd) (NN := ["number"]) (x := "form") (N := []) (sl := []) rfl rfl (by decide +kernel)) rfl (Iw (Ah Ae G_plain_forms (hr.mono (by decide)) rfl (Aa (dv 0) (Aa (Ah Ae G_root (hr.mono (by decide)) rfl (Aa (Dd (FQ (dv 0)) Ab) Af)) Af)))) (fun cl C s0 H0 ex => (Et (Ah Ae G_stands_least (hr.mono (by decide)) rfl (Aa (dv 0) Af)))) (fun cl C s0 H0 ex => (dv 0))))), fun ds Q h => ?_⟩⟩
  obtain ⟨n, rfl, ⟨n0, n4⟩, q⟩ := h
  have n0 : n < 0 := n0
  have n4 : -4000 ≤ n := n4
  have q : ∀ d, (∃ ls, d = .lst (ls.map t3) ∧ Ef n ls) → Q d := q
  have x0 : 0 ≤ (-n).fdiv 3 := by rw [Int.fdiv_eq_ediv_of_nonneg _ (by decide)]; omega
  have x1 : 3 * (-n).fdiv 3 ≤ -n ∧ -n < 3 * (-n).fdiv 3 + 3 := by rw [Int.fdiv_eq_ediv_of_nonneg _ (by decide)]; omega
  walk_at "go"
  refine Mf ?_
  walk_at "rd"
  refine ⟨⟨by decide, by decide⟩, Bh ((-n).fdiv 3) ⟨x0, (Bt.of (by omega) (by omega) : Bt 20 _).le (by decide)⟩ ?_⟩
  rintro _ ⟨r, rfl, hr', _⟩
  have hr' : Sq ((-n).fdiv 3) r := hr'
  have r0 := hr'.1
  have r6 : r ≤ 63 := Hs hr' (by omega)
  refine Bh (n, r) ⟨Bt.of (show -(2 ^ 20) < n by omega) (show n < 2 ^ 20 by omega), r0, r6⟩ ?_
  rintro _ ⟨fs, rfl, sr, mem, len⟩
  have mem : ∀ f, f ∈ fs ↔ PF n r f := mem
  refine Mt fs stands (fun R hR => hR) (by omega) GP (fun f hf R hR => ?_) (fun f hf R hR => hR) ?_
  · unfold inner
    walk_at "rd"
    exact Ak f trivial hR
  · refine q _ ⟨_, rfl, sr.filter _, fun f => ?_, Nat.le_trans (List.length_filter_le _ _) len⟩
    rw [List.mem_filter, mem f]
    constructor
    · rintro ⟨⟨h0, h1, h2, h3, h4⟩, h5⟩
      refine ⟨h3, h4, (LF.bowl (by omega)).mpr (Bl ?_ h5)⟩
      simp only [stands, Bool.and_eq_true, Bool.or_eq_true, decide_eq_true_eq] at h5
      omega
    · rintro ⟨h3, h4, h5⟩
      have L := (LF.bowl (by omega)).mp h5
      obtain ⟨a0, l1, l2, l3, _⟩ := L
      have ex : f.2.1 * f.2.1 - 4 * f.1 * f.2.2 = n := h3
      have y1 : f.2.1 * f.2.1 ≤ f.1 * f.1 := by
        rcases Int.le_total 0 f.2.1 with z | z
        · exact Int.mul_le_mul l2 l2 z (by omega)
        · have := Int.mul_le_mul (show -f.2.1 ≤ f.1 by omega) (show -f.2.1 ≤ f.1 by omega) (by omega) (by omega)
          have e : -f.2.1 * -f.2.1 = f.2.1 * f.2.1 := Int.neg_mul_neg _ _
          omega
      have y2 : f.1 * f.1 ≤ f.1 * f.2.2 := Int.mul_le_mul_of_nonneg_left l3 (by omega)
      have y3 : 4 * f.1 * f.2.2 = 4 * (f.1 * f.2.2) := Int.mul_assoc ..
      have ar : f.1 ≤ r := by
        rcases Int.lt_or_le r f.1 with z | z
        · have := Int.mul_le_mul (show r + 1 ≤ f.1 by omega) (show r + 1 ≤ f.1 by omega) (by omega) (by omega)
          have := hr'.2.2
          omega
        · exact z
      exact ⟨⟨by omega, by omega, by omega, h3, h4⟩, Iu.stands ((LF.bowl (by omega)).mp h5)⟩
theorem Zm {n : Nat} {t b : Int} (h : Bt n (t * b)) (hb : b ≠ 0) : Bt n t := by
  unfold Bt at *
  rw [Int.natAbs_mul] at h
  exact Nat.lt_of_le_of_lt (Nat.le_mul_of_pos_right _ (by omega)) h
theorem Aaq {n most : Int} {f : I3} (h : PF n most f) (hn : n.natAbs ≤ 4000) (m6 : most ≤ 63) : B3 14 f := by
  obtain ⟨h0, h1, h2, h3, _⟩ := h
  have ex : f.2.1 * f.2.1 - 4 * f.1 * f.2.2 = n := h3
  refine ⟨(Bt.of (by omega) (by omega) : Bt 7 _).le (by decide), (Bt.of (by omega) (by omega) : Bt 7 _).le (by decide), ?_⟩
  have b2 : Bt 7 f.2.1 := Bt.of (by omega) (by omega)
  have bn : Bt 13 n := Bt.of (by omega) (by omega)
  have e : f.2.2 * (4 * f.1) = f.2.1 * f.2.1 - n := by rw [Int.mul_comm]; omega
  have q0 := sq_nonneg f.2.1
  have q1 : f.2.1 * f.2.1 ≤ 63 * 63 := by
    rcases Int.le_total 0 f.2.1 with z | z
    · exact Int.mul_le_mul (by omega) (by omega) z (by decide)
    · have := Int.mul_le_mul (show -f.2.1 ≤ 63 by omega) (show -f.2.1 ≤ 63 by omega) (by omega) (by decide)
      rw [Int.neg_mul_neg] at this
      exact this
  refine (Zm (t := f.2.2) (b := 4 * f.1) ?_ (by omega) : Bt 14 _)
  rw [e]
  exact Bt.of (show -(2 ^ 14) < f.2.1 * f.2.1 - n by omega) (show f.2.1 * f.2.1 - n < 2 ^ 14 by omega)
noncomputable abbrev Gv : DSp := spec (fun n : Int => [.int n]) (fun n => 0 < n ∧ n ≤ 4000 ∧ ¬ Ge n) fun n d => ∃ ls, d = .lst (ls.map t3) ∧ Ef n ls
theorem JM (T : Txt K mg)
    (G_root : Pm P w K mg base 1 "root" Gb ["number"] Ia)
    (G_plain_forms : Pm P w K mg base 3 "plain_forms" Bv ["number", "most"] Fx)
    (G_stands_level : Pm P w K mg base 1 "stands_level" BK ["form", "far"] Ew)
    (G_round_of : Pm P w K mg base 7 "round_of" Dv ["form"] J9)
    : Pm P w K mg base 8 "least_saddles" BW ["number"] Gv := by
  obtain ⟨f, fd, F⟩ := T.t_least_saddles
  refine ⟨f, fd, F, F.fn.okD BJ (by walk_at "lE") fun cdv A outer s H E hr => ⟨_, (Ac (Av 1 BJ.nd (Ah Ae G_root (hr.mono (by decide)) rfl (Aa (dv 0) Af))) (Ac (Lh 2 BJ.nd Af) (Ac (Xn 3 BJ.nd) (Ac (FW PassesOwn.never rfl (Iw (Ah Ae G_plain_forms (hr.mono (by decide)) rfl (Aa (dv 0) (Aa (dv 1) Af)))) (CT 4 BJ.nd) (Ag (Cg (DW.dt (K3 (Et (Ah Ae G_stands_level (hr.mono (by decide)) rfl (Aa (dv 4) (Aa (dv 1) Af)))) (Jj (KH 3 (un1 hr.units) (dv 4))))) (Ac (JT 2 (dv 4)) (Ag (FW PassesOwn.never rfl (Iw (Ah Ae G_round_of (hr.mono (by decide)) rfl (Aa (dv 4) Af))) (CT 5 BJ.nd) (Ag (Nq 3 (un1 hr.units) Js (dv 5)))))) Bg))) (Ag (Mp 2 (Ar (dv 2)))))))), fun ds Q h => ?_⟩⟩
  obtain ⟨n, rfl, ⟨n0, n4, ns⟩, q⟩ := h
  have n0 : 0 < n := n0
  have n4 : n ≤ 4000 := n4
  have ns : ¬ Ge n := ns
  have q : ∀ d, (∃ ls, d = .lst (ls.map t3) ∧ Ef n ls) → Q d := q
  walk_at "go"
  refine Bh n ⟨by omega, (Bt.of (by omega) (by omega) : Bt 20 _).le (by decide)⟩ ?_
  rintro _ ⟨far, rfl, hr', _⟩
  have hr' : Sq n far := hr'
  have r0 := hr'.1
  have r6 : far ≤ 63 := Hs hr' n4
  walk_at "rd"
  refine ⟨Nat.zero_le _, Gp ?_⟩
  walk_at "rd"
  refine Bh (n, far) ⟨Bt.of (show -(2 ^ 20) < n by omega) (show n < 2 ^ 20 by omega), r0, r6⟩ ?_
  rintro _ ⟨fs, rfl, sr, mem, len⟩
  have mem : ∀ f, f ∈ fs ↔ PF n far f := mem
  have len : fs.length ≤ 16200 := len
  have cl := Xl mem
  have sad : ∀ {f : I3}, meas f = n → Sad f := fun {f} e => ⟨by rw [e]; exact ns, by rw [e]; exact n0, by rw [e]; exact n4⟩
  refine El (fs.map t3) (fun R h => h) (fun k ρ => ∃ fnd ks x y, ρ = [some (.is (.int n)), some (.is (.int far)), some (.own (fnd.map t3)), some (.tab ks), x, y] ∧ PIn far fs k fnd ks ∧ NdF fs ks ∧ fnd.length ≤ k) ⟨[], [], none, none, rfl, PIn.start, NdF.nil, Nat.le_refl _⟩ ?_ ?_
  · rintro k d _ hk ⟨fnd, ks, x, y, rfl, I, nd, lk⟩
    obtain ⟨f, hf, rfl⟩ : ∃ f, fs[k]? = some f ∧ d = t3 f := by
      rw [List.getElem?_map] at hk
      cases e : fs[k]? with
      | none => rw [e] at hk; cases hk
      | some f => rw [e] at hk; cases hk; exact ⟨f, rfl, rfl⟩
    have hm := List.mem_of_getElem? hf
    have P := (mem f).mp hm
    have kl : k < fs.length := (List.getElem?_eq_some_iff.mp hf).1
    have bf : B3 14 f := Aaq P (by omega) r6
    have S := sad P.2.2.2.1
    walk_at "rd"
    refine Ak (f, far) (bf.le (by decide)) ?_
    by_cases hL : Level f far
    · have L : Lv far f := ⟨S, by rw [P.2.2.2.1]; exact hr', hL⟩
      refine ift (decide_eq_true hL) ⟨rw3 f, rfl, ?_⟩
      by_cases hs : rw3 f ∈ ks
      · exact Dn (by rw [decide_eq_true hs]; rfl) ⟨fnd, ks, _, _, rfl, I.no hf (.inr hs), nd, by omega⟩
      · refine ift (by rw [decide_eq_false hs]; rfl) ⟨Ep (by omega), Gp ?_⟩
        walk_at "rd"
        refine Bh f ⟨bf.le (by decide), S⟩ ?_
        rintro _ ⟨t0, far', N, kk, R, kN, _, rfl⟩
        have R : Hi f t0 far' N := R
        have ef : far' = far := R.r.uniq L.r
        subst ef
        have rs := XS (k := kk + 1) L R.d R.v R.e R.n
        obtain ⟨z, ez⟩ : ∃ z, rF far' (kk + 1) (mov f t0) = z := ⟨_, rfl⟩
        rw [ez] at rs ⊢
        walk_at "rd"
        refine El ((List.range N).map fun i => t3 (rF far' i z)) (fun R h => h) (fun j ρ => ∃ ks' y, ρ = [some (.is (.int n)), some (.is (.int far')), some (.own (fnd.map t3 ++ [t3 f])), some (.tab ks'), some (.is (t3 f)), y] ∧ (∀ x, rw3 x ∈ ks' ↔ rw3 x ∈ ks ∨ ∃ i, i < j ∧ rF far' i z = x) ∧ NdF fs ks') ⟨ks, _, rfl, fun x => ⟨.inl, fun w => w.resolve_right fun ⟨i, hi, _⟩ => absurd hi (by omega)⟩, nd⟩ ?_ ?_
        · rintro j d _ hj ⟨ks', y, rfl, h1, nd'⟩
          rw [List.getElem?_map] at hj
          obtain ⟨hjN, rfl⟩ : j < N ∧ d = t3 (rF far' j z) := by
            rcases Nat.lt_or_ge j N with w | w
            · rw [List.getElem?_range w] at hj
              cases hj
              exact ⟨w, rfl⟩
            · rw [List.getElem?_eq_none (by rw [List.length_range]; exact w)] at hj
              cases hj
          have inn : rF far' j z ∈ fs := cl f hm L _ ((rs _).mp ⟨j, hjN, rfl⟩)
          have ln := nd'.len
          walk_at "rd"
          refine ⟨⟨true, rfl⟩, rw3 (rF far' j z), rfl, Nat.le_of_lt (Ep (by omega)), _, _, rfl, fun x => ?_, nd'.put inn⟩
          rw [IV, h1 x]
          constructor
          · rintro ((w | ⟨i, hi, e⟩) | w)
            · exact .inl w
            · exact .inr ⟨i, by omega, e⟩
            · exact .inr ⟨j, by omega, (Tq w).symm⟩
          · rintro (w | ⟨i, hi, e⟩)
            · exact .inl (.inl w)
            · rcases Nat.lt_or_ge i j with v | v
              · exact .inl (.inr ⟨i, v, e⟩)
              · have : i = j := by omega
                subst this
                exact .inr (by rw [e])
        · rintro _ ⟨ks', y, rfl, h1, nd'⟩
          rw [List.length_map, List.length_range] at h1
          refine ⟨fnd ++ [f], ks', _, _, by rw [List.map_append]; rfl, PIn.yes sr cl I hf L hs fun x => ?_, nd', by rw [List.length_append, List.length_singleton]; omega⟩
          rw [h1 x, rs x]
    · exact Dn (decide_eq_false hL) ⟨fnd, ks, _, _, rfl, I.no hf (.inl fun L => hL L.L), nd, by omega⟩
  · rintro _ ⟨fnd, ks, x, y, rfl, I, nd, lk⟩
    rw [List.length_map] at I lk
    refine q _ ⟨fnd, rfl, I.srt, fun f => ?_, by omega⟩
    rw [I.mem f, List.take_length, mem f]
    constructor
    · rintro ⟨⟨h0, h1, h2, h3, h4⟩, L, t⟩
      exact ⟨h3, h4, (LF.tp L.S L.r).mpr ⟨L, t⟩⟩
    · rintro ⟨h3, h4, h5⟩
      obtain ⟨L, t⟩ := (LF.tp (sad h3) (by rw [h3]; exact hr')).mp h5
      have ⟨i1, i2⟩ := Jw L.L
      exact ⟨⟨Nz L.S, i1, i2, h3, h4⟩, L, t⟩
structure Ja (n : Int) : Prop where
  r : n % 4 = 0 ∨ n % 4 = 1
  q : ¬ Ge n
  m : n.natAbs ≤ 4000
theorem Ja.u {n : Int} (h : Ja n) : Acq n := ⟨h.r, h.q, by have := h.m; omega, (by have := h.m; exact Bt.of (by omega) (by omega) : Bt 13 n).le (by decide)⟩
noncomputable abbrev GX : DSp := spec (fun n : Int => [.int n]) (fun n => Ja n) fun n d => ∃ ls, d = .lst (ls.map t3) ∧ Ef n ls
theorem SQ (T : Txt K mg)
    (G_check_measure : Pm P w K mg base 3 "check_measure" BR ["number"] Gi)
    (G_check_within : Pm P w K mg base 1 "check_within" Ci ["number", "most"] G6)
    (G_least_saddles : Pm P w K mg base 8 "least_saddles" BW ["number"] Gv)
    (G_least_bowls : Pm P w K mg base 4 "least_bowls" Cd ["number"] G8)
    : Pm P w K mg base 9 "classes" Fo ["number"] GX := by
  obtain ⟨f, fd, F⟩ := T.t_classes
  obtain ⟨t_MOST_MEASURE, m_MOST_MEASURE⟩ := T.m_MOST_MEASURE
  refine ⟨f, fd, F, F.fn.okD Rz (by walk_at "lE") fun cdv A outer s H E hr => ⟨_, (Ac (Ii (Ah Ae G_check_measure (hr.mono (by decide)) rfl (Aa (dv 0) Af))) (Ac (Ii (Ah Ae G_check_within (hr.mono (by decide)) rfl (Aa (dv 0) (Aa (Pb (v := .int (4000)) (d := .int (4000)) rfl m_MOST_MEASURE ⟨_, rfl⟩ (fun _ => Ba.mpr rfl)) Af)))) (Ac (Cg (Lz (dv 0) Ab) (Ag (Ar (Ah Ae G_least_bowls (hr.mono (by decide)) rfl (Aa (dv 0) Af)))) Bg) (Ag (Ar (Ah Ae G_least_saddles (hr.mono (by decide)) rfl (Aa (dv 0) Af))))))), fun ds Q h => ?_⟩⟩
  obtain ⟨n, rfl, hD, q⟩ := h
  have hD : Ja n := hD
  have m := hD.m
  walk_at "go"
  refine Ak n hD.u (Ak (n, 4000) (by show ((n.natAbs : Nat) : Int) ≤ 4000; omega) ?_)
  rcases Int.lt_or_le n 0 with z | z
  · exact ift (decide_eq_true z) (Bh n ⟨z, by show -4000 ≤ n; omega⟩ q)
  · exact Dn (decide_eq_false (by omega)) (Bh n ⟨by
      show 0 < n
      have : n ≠ 0 := fun e => hD.q ⟨0, by rw [e]; rfl⟩
      omega, by show n ≤ 4000; omega, hD.q⟩ q)
noncomputable abbrev GD : DSp := CW (fun p : List Int × Int => [.lst (p.1.map Dt.int), .int p.2]) (fun p => 0 ≤ p.2) fun p => .int (p.1.getD p.2.toNat 0)
theorem Pu {Q : Dt → Prop} (ns : List Int) (k : Int) (h : 0 ≤ k) (q : Q (.int (ns.getD k.toNat 0))) : GD [.lst (ns.map Dt.int), .int k] Q := Ak (ns, k) h q
theorem Oi (T : Txt K mg)
    : Pm P w K mg base 1 "_law_cell" Dy ["_law_script", "_law_k"] GD := by
  obtain ⟨f, fd, F⟩ := T.t__law_cell
  refine ⟨f, fd, F, F.fn.okD Pk (by walk_at "lE") fun cdv A outer s H E hr => ⟨_, (Ac (Cg (Lz (dv 1) (RK T.z_len (Aa (dv 0) Af))) (Ag (Ar (Ad (dv 0) (dv 1)))) Bg) (Ag (Ar Ab))), fun ds Q h => ?_⟩⟩
  obtain ⟨⟨ns, k⟩, rfl, h0, q⟩ := h
  walk_at "go"
  by_cases hk : k < ns.length
  · simp only [decide_eq_true hk, Ze h0 hk, if_true]
    exact q _ rfl
  · simp only [decide_eq_false hk]
    have e : ns.getD k.toNat 0 = 0 := by
      have : ns.length ≤ k.toNat := by have h0' : 0 ≤ k := h0; omega
      simp [this]
    have q' := q _ rfl
    dsimp only at q'
    rw [e] at q'
    exact q'
noncomputable abbrev Ik : DSp := CW (fun n : Int => [.int n]) (fun _ => True) fun _ => .bl true
theorem M8 (T : Txt K mg)
    : Pm P w K mg base 1 "_law_whole" Dk ["_law_found"] Ik := by
  obtain ⟨f, fd, F⟩ := T.t__law_whole
  refine ⟨f, fd, F, F.fn.okD MN (by walk_at "lE") fun cdv A outer s H E hr => ⟨_, (Ag (Ar (R7 (Ly T.z_isinstance T.z_int Zf (dv 0)) (Om (AbR (Ly T.z_isinstance T.z_bool Wc (dv 0))))))), fun ds Q h => ?_⟩⟩
  obtain ⟨n, rfl, _, q⟩ := h
  have q' : Q (.bl true) := q _ rfl
  walk_at "go"
  exact q'
noncomputable def isI : Dt → Bool
  | .int _ => true
  | _ => false
noncomputable abbrev Ea : DSp := CW (fun p : List Int × Int => [.tup (p.1.map Dt.int), .int p.2]) (fun p => p.1.length ≤ 1000) fun p => .bl (decide ((p.1.length : Int) = p.2))
theorem Va {Q : Dt → Prop} (ns : List Int) (k : Int) (h : (ns.length : Int) = k) (hl : ns.length ≤ 1000) (q : Q (.bl true)) : Ea [.tup (ns.map Dt.int), .int k] Q :=
  Ak (ns, k) hl (by dsimp only; rw [decide_eq_true h]; exact q)
theorem Zy {Q : Dt → Prop} (p : I3) (q : Q (.bl true)) : Ea [t3 p, .int 3] Q := Va [p.1, p.2.1, p.2.2] 3 rfl (by show 3 ≤ 1000; decide) q
theorem Lq (T : Txt K mg)
    (G__law_whole : Pm P w K mg base 1 "_law_whole" Dk ["_law_found"] Ik)
    : Pm P w K mg base 2 "_law_wholes" Ca ["_law_found", "_law_many"] Ea := by
  obtain ⟨f, fd, F⟩ := T.t__law_wholes
  refine ⟨f, fd, F, F.fn.okD KY (by walk_at "lE") fun cdv A outer s H E hr => ⟨_, (Ac (Cg (DW.dt (J6 (Hr (Et (Ly T.z_isinstance T.z_tuple U8 (dv 0)))) (HD (Ip hr.units (RK T.z_len (Aa (dv 0) Af)) (dv 1))))) (Ag (Ar Js)) Bg) (Ag (Ar (N7 hr.units (RK T.z_len (Aa (Lr (HY (sc := Ai Ca) (NN := ["_law_found", "_law_many"]) (x := "_law_one") (N := []) (sl := []) rfl rfl (by decide +kernel)) rfl (Abh (dv 0)) (fun cl C s0 H0 ex => (Et (Ah Ae G__law_whole (hr.mono (by decide)) rfl (Aa (dv 0) Af)))) (fun cl C s0 H0 ex => (dv 0))) Af)) (dv 1))))), fun ds Q h => ?_⟩⟩
  obtain ⟨⟨ns, k⟩, rfl, h0, q⟩ := h
  walk_at "go"
  have q' := q _ rfl
  dsimp only at q'
  by_cases hk : (ns.length : Int) = k
  · rw [decide_eq_true hk] at q'
    simp only [decide_eq_true hk]
    walk_at "rd"
    refine Jt (ns.map Dt.int) isI id (fun R h => h) (by rw [List.length_map]; exact Bu h0) GP (fun d hd R hR => ?_) (fun d hd hp R hR => hR) ?_
    · unfold inner
      walk_at "rd"
      obtain ⟨n, _, rfl⟩ := List.mem_map.mp hd
      exact Ak n trivial hR
    · have e : (List.filter isI (ns.map Dt.int)).map id = ns.map Dt.int := by
        rw [List.map_id, List.filter_eq_self]
        intro d hd
        obtain ⟨n, _, rfl⟩ := List.mem_map.mp hd
        rfl
      rw [e]
      walk_at "rd"
      rw [decide_eq_true hk]
      exact q'
  · rw [decide_eq_false hk] at q'
    simp only [decide_eq_false hk]
    exact q'
noncomputable abbrev J7 : DSp := CW (fun f : I3 => [t3 f]) (fun f => B3 2000 f) fun f => .int (meas f)
theorem Rm (T : Txt K mg)
    : Pm P w K mg base 1 "_law_bar" Ek ["_law_form"] J7 := by
  obtain ⟨f, fd, F⟩ := T.t__law_bar
  refine ⟨f, fd, F, F.fn.okD Ri (by walk_at "lE") fun cdv A outer s H E hr => ⟨_, (Ag (Ar (Cq (Am (Ad (dv 0) Ab) (Ad (dv 0) Ab)) (Am (Am Ab (Ad (dv 0) Ab)) (Ad (dv 0) Ab))))), fun ds Q h => ?_⟩⟩
  obtain ⟨f, rfl, hf, q⟩ := h
  have hf : B3 2000 f := hf
  have q' := q _ rfl
  have four : Bt 3 4 := Bt.of_abs (by decide)
  walk_at "go"
  exact ⟨hf.2.1.mulOk hf.2.1, four.mulOk hf.1, (four.mul hf.1).mulOk hf.2.2, q'⟩
noncomputable abbrev Fb : DSp := spec (fun n : Int => [.int n]) (fun n => 0 ≤ n ∧ Bt 4000 n) fun n d => ∃ r, d = .int r ∧ Sq n r ∧ Bt 2001 r
theorem Pr (T : Txt K mg)
    : Pm P w K mg base 1 "_law_root" Cz ["_law_number_here"] Fb := by
  obtain ⟨f, fd, F⟩ := T.t__law_root
  refine ⟨f, fd, F, F.fn.okD GQ (by walk_at "lE") fun cdv A outer s H E hr => ⟨_, (Ac (Av 1 GQ.nd (Xf Ab (Dd (Br (Tw (dv 0)) Ab) Ab))) (Ac (Er PassesOwn.never (LR (Am (dv 1) (dv 1)) (dv 0)) (Ag (Av 1 GQ.nd (Dd (Br (dv 1) (Dd (dv 0) (dv 1))) Ab)))) (Ag (Ar (dv 1))))), fun ds Q h => ?_⟩⟩
  obtain ⟨n, rfl, ⟨h0, hb⟩, q⟩ := h
  walk_at "go"
  obtain ⟨c1, c2, c3⟩ := J5 hb
  have hu := Q6 h0
  refine ⟨⟨by decide, by decide⟩, c1, ?_⟩
  generalize (1 * 2 ^ ((((Builtin.Int.intBits n : Nat) : Int) + 1).fdiv 2).toNat : Int) = g at *
  refine Eo (fun m ρ => ∃ g : Int, ρ = [some (.is (.int n)), some (.is (.int g))] ∧ 0 ≤ g ∧ Bt 2001 g ∧ n < (g + 1) * (g + 1) ∧ m = g.toNat) _ ⟨g, rfl, by omega, c2, hu, rfl⟩ ?_
  rintro m _ ⟨g, rfl, hg, hgb, hgu, rfl⟩
  walk_at "rd"
  refine ⟨hgb.mulOk hgb, Qu (fun hw => ?_) (fun hw => ?_)⟩
  · have hw := of_decide_eq_true hw
    have hg0 : 0 < g := by
      rcases Int.lt_or_le 0 g with z | z
      · exact z
      · have : g = 0 := by omega
        subst this
        omega
    have hd := Q5 hg0 hw
    have hu' := NK h0 hg0
    have hp : 0 ≤ (g + n / g) / 2 := by
      have := Int.ediv_nonneg h0 (show 0 ≤ g by omega)
      omega
    have hbb : Bt 2001 ((g + n / g) / 2) := by unfold Bt at *; omega
    refine ⟨Bt.divOk hgb (by omega), ⟨by decide, by decide⟩, ?_⟩
    rw [Pz hg0]
    exact ⟨_, by omega, _, rfl, hp, hbb, hu', rfl⟩
  · have hw : ¬ n < g * g := fun z => hw (decide_eq_true z)
    exact q _ ⟨g, rfl, ⟨by omega, by omega, hgu⟩, hgb⟩
noncomputable abbrev Hf : DSp := CW (fun p : I3 × Int => [t3 p.1, .int p.2]) (fun p => B3 2000 p.1 ∧ p.1.2.2 ≠ 0 ∧ Bt 2000 p.2) fun p => t3 (mov p.1 (Bx p.1 p.2))
theorem Lg (T : Txt K mg)
    (G__law_bar : Pm P w K mg base 1 "_law_bar" Ek ["_law_form"] J7)
    : Pm P w K mg base 2 "_law_behind" CP ["_law_form", "_law_top"] Hf := by
  obtain ⟨f, fd, F⟩ := T.t__law_behind
  refine ⟨f, fd, F, F.fn.okD Dg (by walk_at "lE") fun cdv A outer s H E hr => ⟨_, (Ac (Aa8 (dv 0) (Aba (n := 3) rfl (K5 (CT 2 Dg.nd) (K5 (CT 3 Dg.nd) (K5 (CT 4 Dg.nd) Zz))))) (Ac (Av 5 Dg.nd (Cq (dv 1) (Ey (Br (dv 1) (dv 3)) (Am Ab (IK T.z_abs (Aa (dv 4) Af)))))) (Ag (Ar (Es (Aa (dv 4) (Aa (dv 5) (Aa (Dd (Cq (Am (dv 5) (dv 5)) (Ah Ae G__law_bar (hr.mono (by decide)) rfl (Aa (dv 0) Af))) (Am Ab (dv 4))) Af)))))))), fun ds Q h => ?_⟩⟩
  obtain ⟨⟨f, top⟩, rfl, ⟨hf, h0, ht⟩, q⟩ := h
  have hf : B3 2000 f := hf
  have h0 : f.2.2 ≠ 0 := h0
  have ht : Bt 2000 top := ht
  have q' := q _ rfl
  dsimp only at q'
  obtain ⟨e, he⟩ := Jq (top := top) h0
  have hm := Cw (f := f) (t := Bx f top) BP
  rw [he] at q' hm
  have two : Bt 2 2 := Bt.of_abs (by decide)
  have four : Bt 3 4 := Bt.of_abs (by decide)
  have hac : 2 * ab f.2.2 ≠ 0 := by rcases Aj f.2.2 with ⟨_, e⟩ | ⟨_, e⟩ <;> omega
  have ⟨d1, d2⟩ := G9 (top := top) h0
  have hd : Bt 2005 (dB f top) := by
    have h1 := two.mul (Wa hf.2.2)
    have h2 := ht.sub h1
    have h3 : Bt 2004 (top - 2 * ab f.2.2) := h2.le (by decide)
    unfold Bt at *
    omega
  have em : dB f top * dB f top - meas f = 4 * f.2.2 * e := by rw [← hm]; simp only [meas]; omega
  obtain ⟨a, b, c⟩ := f
  walk_at "go"
  refine ⟨two.mulOk (Wa hf.2.2), hac, ?_⟩
  have edB : top - (top + b).fmod (2 * ab c) = dB (a, b, c) top := rfl
  rw [edB]
  refine ⟨hd.mulOk hd, Ak (a, b, c) (hf.le (by decide)) ⟨four.mulOk hf.2.2, Bt.divOk (four.mul hf.2.2) (by have : c ≠ 0 := h0; omega), Bu (by decide), ?_⟩⟩
  rw [em, Int.mul_fdiv_cancel_left _ (by have : c ≠ 0 := h0; show 4 * c ≠ 0; omega)]
  exact q'
noncomputable abbrev GK : DSp := CW (fun p : I2 => [.int p.1, .int p.2]) (fun _ => True) fun p => .int ((Int.gcd p.1 p.2 : Nat) : Int)
theorem Pn (T : Txt K mg)
    : Pm P w K mg base 1 "_law_rest" Df ["_law_one", "_law_other"] GK := by
  obtain ⟨f, fd, F⟩ := T.t__law_rest
  refine ⟨f, fd, F, F.fn.okD Jl (by walk_at "lE") fun cdv A outer s H E hr => ⟨_, (Ac (Er PassesOwn.never (Ip hr.units (dv 1) Ab) (Ag (YJ rfl Jl.nd 0 1 (Aa (dv 1) (Aa (Ey (dv 0) (dv 1)) Af))))) (Ag (Ar (IK T.z_abs (Aa (dv 0) Af))))), fun ds Q h => ?_⟩⟩
  obtain ⟨⟨a, b⟩, rfl, _, q⟩ := h
  have q' : Q (.int ((Int.gcd a b : Nat) : Int)) := q _ rfl
  walk_at "go"
  refine Eo (fun m ρ => ∃ x y, ρ = [some (.is (.int x)), some (.is (.int y))] ∧ Int.gcd x y = Int.gcd a b ∧ m = y.natAbs) _ ⟨a, b, rfl, rfl, rfl⟩ ?_
  rintro m _ ⟨x, y, rfl, hg, rfl⟩
  walk_at "rd"
  by_cases hy : y = 0
  · subst hy
    simp only [decide_true, Bool.not_true]
    walk_at "rd"
    have e : (if x < 0 then -x else x) = ((Int.gcd a b : Nat) : Int) := by rw [← hg, Int.gcd_zero_right]; split <;> omega
    rw [e]
    exact q'
  · simp only [decide_eq_false hy, Bool.not_false, if_true]
    exact ⟨hy, _, Uk hy, y, x.fmod y, rfl, (Rb x y).trans hg, rfl⟩
noncomputable abbrev HB : DSp := spec (fun ns : List Int => [.lst (ns.map Dt.int)]) (fun _ => True) fun _ d => ∃ n : Int, d = .int n ∧ Ja n
theorem Ls (T : Txt K mg)
    (G__law_cell : Pm P w K mg base 1 "_law_cell" Dy ["_law_script", "_law_k"] GD)
    (G__law_root : Pm P w K mg base 1 "_law_root" Cz ["_law_number_here"] Fb)
    : Pm P w K mg base 2 "_law_number" CK ["_law_script"] HB := by
  obtain ⟨f, fd, F⟩ := T.t__law_number
  refine ⟨f, fd, F, F.fn.okD DY (by walk_at "lE") fun cdv A outer s H E hr => ⟨_, (Ac (Av 1 DY.nd (Cq (Ey (Ah Ae G__law_cell (hr.mono (by decide)) rfl (Aa (dv 0) (Aa Ab Af))) Ab) Ab)) (Ac (Cg (G3 hr.units (Ey (Ah Ae G__law_cell (hr.mono (by decide)) rfl (Aa (dv 0) (Aa Ab Af))) Ab) Ab) (Ag (Av 1 DY.nd (Cq (Ey (Ah Ae G__law_cell (hr.mono (by decide)) rfl (Aa (dv 0) (Aa Ab Af))) Ab) Ab))) Bg) (Ac (Er PassesOwn.never (DW.dt (J6 (LR (Ey (dv 1) Ab) Ab) (HD (DW.dt (K3 (Aae (dv 1) Ab) (Jj (G3 hr.units (Am (Ah Ae G__law_root (hr.mono (by decide)) rfl (Aa (dv 1) Af)) (Ah Ae G__law_root (hr.mono (by decide)) rfl (Aa (dv 1) Af))) (dv 1)))))))) (Ag (Av 1 DY.nd (Br (dv 1) Ab)))) (Ag (Ar (dv 1)))))), fun ds Q h => ?_⟩⟩
  obtain ⟨ns, rfl, _, q⟩ := h
  have q : ∀ d, (∃ n : Int, d = .int n ∧ Ja n) → Q d := q
  simp only [Jx, Jk, JB]
  refine Rq (fun ρ => ∃ n : Int, -4000 ≤ n ∧ n ≤ 4000 ∧ ρ = [some (.is (.lst (ns.map Dt.int))), some (.is (.int n))]) (fun N hN => ?_) ?_
  · have r1 := Mq (ns.getD (Int.toNat 0) 0) (m := 8001) (by decide)
    have r2 := Mq (ns.getD (Int.toNat 0) 0) (m := 401) (by decide)
    walk_at "rd"
    exact Pu ns 0 (by decide) ⟨by decide, Pu ns 1 (by decide) ⟨by decide, Qu (fun _ => Pu ns 0 (by decide) ⟨by decide, hN _ ⟨_, by omega, by omega, rfl⟩⟩) (fun _ => hN _ ⟨_, by omega, by omega, rfl⟩)⟩⟩
  rintro _ ⟨n, lo, hi, rfl⟩
  refine Eo (fun m ρ => ∃ n : Int, -4000 ≤ n ∧ n ≤ 4000 ∧ ρ = [some (.is (.lst (ns.map Dt.int))), some (.is (.int n))] ∧ m = (4000 - n).toNat) _ ⟨n, lo, hi, rfl, rfl⟩ ?_
  rintro m _ ⟨n, lo, hi, rfl, rfl⟩
  have e4 : n.fmod 4 = n % 4 := Int.fmod_eq_emod_of_nonneg _ (by decide)
  have go : n ≠ 4000 → ∃ m', m' < (4000 - n).toNat ∧ ∃ n' : Int, -4000 ≤ n' ∧ n' ≤ 4000 ∧ [some (En.is (Dt.lst (ns.map Dt.int))), some (En.is (Dt.int (n + 1)))] = [some (En.is (Dt.lst (ns.map Dt.int))), some (En.is (Dt.int n'))] ∧ m' = (4000 - n').toNat := fun h => ⟨_, by omega, n + 1, by omega, by omega, rfl, rfl⟩
  walk_at "rd"
  refine ⟨by decide, ?_⟩
  by_cases h1 : 1 < n.fmod 4
  · exact ift (decide_eq_true h1) (go (by omega))
  · refine Dn (decide_eq_false h1) ?_
    by_cases h0 : 0 ≤ n
    · have bn : Bt 4000 n := (show Bt 13 n from Bt.of (by omega) (by omega)).le (by decide)
      refine ift (decide_eq_true h0) (Bh n ⟨h0, bn⟩ ?_)
      rintro _ ⟨r, rfl, hr, br⟩
      refine Bh n ⟨h0, bn⟩ ?_
      rintro _ ⟨r', rfl, hr', _⟩
      obtain rfl : r = r' := hr.uniq hr'
      walk_at "rd"
      refine ⟨br.mulOk br, ?_⟩
      by_cases h2 : r * r = n
      · refine ift (decide_eq_true h2) (go fun z => ?_)
        have e : r = 63 := hr.uniq (by rw [z]; exact ⟨by decide, by decide, by decide⟩)
        rw [e, z] at h2
        revert h2
        decide
      · refine Dn (decide_eq_false h2) (q _ ⟨n, rfl, by omega, fun z => h2 ((Mh hr).mp z), by omega⟩)
    · exact Dn (decide_eq_false h0) (q _ ⟨n, rfl, by omega, La (by omega), by omega⟩)
structure BG (n : Int) (k j : Nat) (fs : List I3) : Prop where
  srt : Srt fs
  mem : ∀ f, f ∈ fs ↔ (Iu f ∧ meas f = n ∧ g3 f = 1) ∧ (f.1 < 1 + (k : Int) ∨ (f.1 = 1 + (k : Int) ∧ f.2.1 < j - (k : Int)))
  len : fs.length ≤ 128 * k + j
theorem BG.start {n : Int} : BG n 0 0 [] := ⟨List.Pairwise.nil, fun f => by
  constructor
  · intro z
    cases z
  · rintro ⟨⟨L, _⟩, h⟩
    obtain ⟨a0, l1, l2, l3, _⟩ := L
    omega, Nat.zero_le _⟩
theorem BG.row {n : Int} {k j : Nat} {fs : List I3} (h : BG n k j fs) (hj : j = 2 * k + 2) (hk : k < 63) : BG n (k + 1) 0 fs := ⟨h.srt, fun f => by
  rw [h.mem f]
  constructor
  · rintro ⟨h1, h2⟩
    exact ⟨h1, .inl (by omega)⟩
  · rintro ⟨h1, h2⟩
    obtain ⟨a0, l1, l2, l3, _⟩ := h1.1
    exact ⟨h1, by omega⟩, by have := h.len; omega⟩
theorem BG.skip {n a b : Int} {k j : Nat} {fs : List I3} (h : BG n k j fs) (ha : 1 + (k : Int) = a) (hb : (j : Int) - k = b) (no : ∀ c, Iu (a, b, c) → b * b - n = 4 * a * c → g3 (a, b, c) = 1 → False) : BG n k (j + 1) fs := ⟨h.srt, fun f => by
  rw [h.mem f]
  constructor
  · rintro ⟨h1, h2⟩
    exact ⟨h1, by omega⟩
  · rintro ⟨h1, h2⟩
    refine ⟨h1, ?_⟩
    rcases Int.lt_or_le f.1 a with z | z
    · exact .inl (by omega)
    · refine .inr ⟨by omega, ?_⟩
      rcases Int.lt_or_le f.2.1 b with y | y
      · omega
      · exfalso
        have e1 : f.1 = a := by omega
        have e2 : f.2.1 = b := by omega
        obtain ⟨L, h4, h5⟩ := h1
        obtain ⟨x, y', z'⟩ := f
        obtain rfl : x = a := e1
        obtain rfl : y' = b := e2
        have h4 : y' * y' - 4 * x * z' = n := h4
        exact no z' L (by omega) h5, by have := h.len; omega⟩
theorem BG.add {n a b c : Int} {k j : Nat} {fs : List I3} (h : BG n k j fs) (ha : 1 + (k : Int) = a) (hb : (j : Int) - k = b) (L : Iu (a, b, c)) (e : b * b - n = 4 * a * c) (hg : g3 (a, b, c) = 1) : BG n k (j + 1) (fs ++ [(a, b, c)]) := by
  refine ⟨List.pairwise_append.mpr ⟨h.srt, List.pairwise_singleton _ _, fun g hg x hx => ?_⟩, fun f => ?_, by rw [List.length_append, List.length_singleton]; have := h.len; omega⟩
  · rw [List.mem_singleton.mp hx]
    obtain ⟨_, h2⟩ := (h.mem g).mp hg
    unfold lt3
    show g.1 < a ∨ (g.1 = a ∧ (g.2.1 < b ∨ _))
    omega
  · rw [List.mem_append, List.mem_singleton, h.mem f]
    constructor
    · rintro (⟨h1, h2⟩ | rfl)
      · exact ⟨h1, by omega⟩
      · refine ⟨⟨L, ?_, hg⟩, .inr ⟨by show a = _; omega, by show b < _; omega⟩⟩
        show b * b - 4 * a * c = n
        omega
    · rintro ⟨h1, h2⟩
      by_cases z : f.1 = a ∧ f.2.1 = b
      · right
        have h4 : f.2.1 * f.2.1 - 4 * f.1 * f.2.2 = n := h1.2.1
        rw [z.1, z.2] at h4
        have e3 : 4 * a * f.2.2 = 4 * a * c := by omega
        have e4 := Int.eq_of_mul_eq_mul_left (by omega) e3
        exact Prod.ext z.1 (Prod.ext z.2 e4)
      · left
        exact ⟨h1, by omega⟩
noncomputable abbrev Ir : DSp := spec (fun n : Int => [.int n]) (fun n => Ja n ∧ n < 0) fun n d => ∃ fs, d = .lst (fs.map t3) ∧ Ef n fs
theorem Ng (T : Txt K mg)
    (G__law_root : Pm P w K mg base 1 "_law_root" Cz ["_law_number_here"] Fb)
    (G__law_rest : Pm P w K mg base 1 "_law_rest" Df ["_law_one", "_law_other"] GK)
    : Pm P w K mg base 2 "_law_bowls" Dh ["_law_number_here"] Ir := by
  obtain ⟨f, fd, F⟩ := T.t__law_bowls
  refine ⟨f, fd, F, F.fn.okD Dq (by walk_at "lE") fun cdv A outer s H E hr => ⟨_, (Ac (Lh 1 Dq.nd Af) (Ac (FW PassesOwn.never rfl (HJ rfl T.z_range (Aa Ab (Aa (Br (Ah Ae G__law_root (hr.mono (by decide)) rfl (Aa (Dd (Cq Ab (dv 0)) Ab) Af)) Ab) Af))) (CT 2 Dq.nd) (Ag (FW PassesOwn.never rfl (HJ rfl T.z_range (Aa (Cq Ab (dv 2)) (Aa (Br (dv 2) Ab) Af))) (CT 3 Dq.nd) (Ag (Cg (G3 hr.units (Ey (Cq (Am (dv 3) (dv 3)) (dv 0)) (Am Ab (dv 2))) Ab) (Ac (Av 4 Dq.nd (Dd (Cq (Am (dv 3) (dv 3)) (dv 0)) (Am Ab (dv 2)))) (Ag (Cg (DW.dt (K3 (DW.dt (J6 (Lz (dv 2) (dv 4)) (HD (DW.dt (K3 (G3 hr.units (dv 2) (dv 4)) (Jj (Aae (dv 3) Ab))))))) (Jj (G3 hr.units (Ah Ae G__law_rest (hr.mono (by decide)) rfl (Aa (Ah Ae G__law_rest (hr.mono (by decide)) rfl (Aa (dv 2) (Aa (dv 3) Af))) (Aa (dv 4) Af))) Ab)))) (Ag (JT 1 (Es (Aa (dv 2) (Aa (dv 3) (Aa (dv 4) Af)))))) Bg))) Bg))))) (Ag (Mp 1 (Ar (dv 1)))))), fun ds Q h => ?_⟩⟩
  obtain ⟨n, rfl, ⟨hD, n0⟩, q⟩ := h
  have hD : Ja n := hD
  have n0 : n < 0 := n0
  have m4 := hD.m
  have q : ∀ d, (∃ fs, d = .lst (fs.map t3) ∧ Ef n fs) → Q d := q
  have x0 : 0 ≤ (0 - n).fdiv 3 := by rw [Int.fdiv_eq_ediv_of_nonneg _ (by decide)]; omega
  have x1 : 3 * (0 - n).fdiv 3 ≤ -n ∧ -n < 3 * (0 - n).fdiv 3 + 3 := by rw [Int.fdiv_eq_ediv_of_nonneg _ (by decide)]; omega
  have four : Bt 3 4 := Bt.of_abs (by decide)
  walk_at "go"
  refine ⟨Nat.zero_le _, Gp ?_⟩
  walk_at "rd"
  refine ⟨⟨by decide, by decide⟩, Bh ((0 - n).fdiv 3) ⟨x0, (Bt.of (by omega) (by omega) : Bt 20 _).le (by decide)⟩ ?_⟩
  rintro _ ⟨r, rfl, hr', _⟩
  have hr' : Sq ((0 - n).fdiv 3) r := hr'
  have r0 := hr'.1
  have r6 : r ≤ 63 := Hs hr' (by omega)
  walk_at "rd"
  refine ⟨by omega, ?_⟩
  refine El (ups 1 (r + 1 - 1).toNat) (fun R hR => hR) (fun k ρ => ∃ fs x y z, ρ = [some (.is (.int n)), some (.own (fs.map t3)), x, y, z] ∧ BG n k 0 fs) ⟨[], none, none, none, rfl, BG.start⟩ ?_ ?_
  · rintro k d _ hk ⟨fs, x, y, z, rfl, bg⟩
    obtain ⟨hk', rfl⟩ := GF hk
    generalize ea : (1 : Int) + (k : Int) = a at *
    have ba : Bt 7 a := Bt.of (by omega) (by omega)
    walk_at "rd"
    have rng : (-(2 ^ 62) ≤ 1 - a ∧ 1 - a < 2 ^ 62 ∧ -(2 ^ 62) ≤ a + 1 ∧ a + 1 < 2 ^ 62) := by omega
    refine El (ups (1 - a) (a + 1 - (1 - a)).toNat) (fun R hR => ⟨rng, hR⟩) (fun j ρ => ∃ fs y z, ρ = [some (.is (.int n)), some (.own (fs.map t3)), some (.is (.int a)), y, z] ∧ BG n k j fs) ⟨fs, y, z, rfl, bg⟩ ?_ ?_
    · rintro j d _ hj ⟨fs, y, z, rfl, bg⟩
      obtain ⟨hj', rfl⟩ := GF hj
      generalize eb : 1 - a + (j : Int) = b at *
      have bb : Bt 7 b := Bt.of (by omega) (by omega)
      have len := bg.len
      have big : fs.length < sizeLine := Ep (by omega)
      have hd := Int.fmod_add_mul_fdiv (b * b - n) (4 * a)
      have eb' : (j : Int) - k = b := by omega
      walk_at "rd"
      refine ⟨bb.mulOk bb, four.mulOk ba, by omega, ?_⟩
      by_cases hm : (b * b - n).fmod (4 * a) = 0
      · refine ift (decide_eq_true hm) ⟨bb.mulOk bb, four.mulOk ba, Bt.divOk (four.mul ba) (by omega), ?_⟩
        generalize ec : (b * b - n).fdiv (4 * a) = c at *
        have e4 : b * b - n = 4 * a * c := by omega
        have same : ∀ c', b * b - n = 4 * a * c' → c' = c := fun c' e => Int.eq_of_mul_eq_mul_left (a := 4 * a) (by omega) (by omega)
        have hL : (a < c ∨ (a = c ∧ 0 ≤ b)) → Iu (a, b, c) := fun h => ⟨by show 0 < a; omega, by show -a ≤ b; omega, by show b ≤ a; omega, by show a ≤ c; omega, by show b = -a ∨ a = c → 0 ≤ b; omega⟩
        have no : ¬ (a < c ∨ (a = c ∧ 0 ≤ b)) → BG n k (j + 1) fs := fun h => bg.skip ea eb' fun c' L e _ => by
          rw [same c' e] at L
          have l3 : a ≤ c := L.ac
          have l4 : b = -a ∨ a = c → 0 ≤ b := L.edge
          omega
        have eg : decide ((((Int.gcd ((Int.gcd a b : Nat) : Int) c : Nat) : Int)) = 1) = decide (g3 (a, b, c) = 1) := decide_eq_decide.mpr ⟨fun z => by show Int.gcd ((Int.gcd a b : Nat) : Int) c = 1; omega, fun z => by have z : Int.gcd ((Int.gcd a b : Nat) : Int) c = 1 := z; omega⟩
        walk_at "rd"
        by_cases h1 : a < c
        · refine ift (decide_eq_true h1) (Ak (a, b) trivial (Ak (((Int.gcd a b : Nat) : Int), c) trivial ⟨JH, ?_⟩))
          rw [Nr, eg]
          by_cases hg : g3 (a, b, c) = 1
          · exact ift (decide_eq_true hg) ⟨Bu (by decide), big, fs ++ [(a, b, c)], _, _, by rw [List.map_append]; rfl, bg.add ea eb' (hL (.inl h1)) e4 hg⟩
          · exact Dn (decide_eq_false hg) ⟨fs, _, _, rfl, bg.skip ea eb' fun c' _ e hg' => hg (by rw [same c' e] at hg'; exact hg')⟩
        · refine Dn (decide_eq_false h1) ?_
          by_cases h2 : a = c
          · refine ift (decide_eq_true h2) ?_
            by_cases h3 : 0 ≤ b
            · refine ift (decide_eq_true h3) (Ak (a, b) trivial (Ak (((Int.gcd a b : Nat) : Int), c) trivial ⟨JH, ?_⟩))
              rw [Nr, eg]
              by_cases hg : g3 (a, b, c) = 1
              · exact ift (decide_eq_true hg) ⟨Bu (by decide), big, fs ++ [(a, b, c)], _, _, by rw [List.map_append]; rfl, bg.add ea eb' (hL (.inr ⟨h2, h3⟩)) e4 hg⟩
              · exact Dn (decide_eq_false hg) ⟨fs, _, _, rfl, bg.skip ea eb' fun c' _ e hg' => hg (by rw [same c' e] at hg'; exact hg')⟩
            · exact Dn (decide_eq_false h3) ⟨fs, _, _, rfl, no (by omega)⟩
          · exact Dn (decide_eq_false h2) ⟨fs, _, _, rfl, no (by omega)⟩
      · refine Dn (decide_eq_false hm) ⟨fs, _, _, rfl, bg.skip ea eb' fun c _ e _ => hm ?_⟩
        rw [e, Int.mul_comm (4 * a) c, Int.mul_fmod_left]
    · rintro _ ⟨fs, y, z, rfl, bg⟩
      rw [Gw] at bg
      exact ⟨fs, _, _, _, rfl, bg.row (by omega) (by omega)⟩
  · rintro _ ⟨fs, x, y, z, rfl, bg⟩
    rw [Gw] at bg
    refine q _ ⟨fs, rfl, bg.srt, fun f => ?_, by have := bg.len; omega⟩
    rw [bg.mem f]
    constructor
    · rintro ⟨⟨L, h3, h4⟩, _⟩
      exact ⟨h3, h4, (LF.bowl (by omega)).mpr L⟩
    · rintro ⟨h3, h4, h5⟩
      have L := (LF.bowl (by omega)).mp h5
      refine ⟨⟨L, h3, h4⟩, ?_⟩
      obtain ⟨a0, l1, l2, l3, _⟩ := L
      have ex : f.2.1 * f.2.1 - 4 * f.1 * f.2.2 = n := h3
      have y1 : f.2.1 * f.2.1 ≤ f.1 * f.1 := by
        rcases Int.le_total 0 f.2.1 with z | z
        · exact Int.mul_le_mul l2 l2 z (by omega)
        · have := Int.mul_le_mul (show -f.2.1 ≤ f.1 by omega) (show -f.2.1 ≤ f.1 by omega) (by omega) (by omega)
          have e : -f.2.1 * -f.2.1 = f.2.1 * f.2.1 := Int.neg_mul_neg _ _
          omega
      have y2 : f.1 * f.1 ≤ f.1 * f.2.2 := Int.mul_le_mul_of_nonneg_left l3 (by omega)
      have y3 : 4 * f.1 * f.2.2 = 4 * (f.1 * f.2.2) := Int.mul_assoc ..
      have ar : f.1 ≤ r := by
        rcases Int.lt_or_le r f.1 with z | z
        · have := Int.mul_le_mul (show r + 1 ≤ f.1 by omega) (show r + 1 ≤ f.1 by omega) (by omega) (by omega)
          have := hr'.2.2
          omega
        · exact z
      exact .inl (by omega)
structure SG (n far : Int) (k : Nat) (A : Int) (m : Nat) (fs : List I3) : Prop where
  nd : fs.Nodup
  mem : ∀ f, f ∈ fs ↔ (Level f far ∧ meas f = n ∧ g3 f = 1) ∧ (f.2.1 < 1 + (k : Int) ∨ (f.2.1 = 1 + (k : Int) ∧ ab f.1 < A))
  len : fs.length ≤ m
theorem WK (x : Int) : 0 ≤ ab x := by rcases Aj x with ⟨_, e⟩ | ⟨_, e⟩ <;> omega
theorem SG.le {n far A : Int} {k m m' : Nat} {fs : List I3} (h : SG n far k A m fs) (hm : m ≤ m') : SG n far k A m' fs := ⟨h.nd, h.mem, Nat.le_trans h.len hm⟩
theorem SG.start {n far : Int} : SG n far 0 0 0 [] := ⟨List.nodup_nil, fun f => by
  constructor
  · intro z
    cases z
  · rintro ⟨⟨⟨⟨l1, _⟩, _⟩, _⟩, h⟩
    have := WK f.1
    omega, Nat.le_refl _⟩
theorem SG.low {n far A : Int} {k m : Nat} {fs : List I3} (h : SG n far k 0 m fs) (hA : 2 * A ≤ far - (1 + (k : Int)) + 2) : SG n far k A m fs := ⟨h.nd, fun f => by
  rw [h.mem f]
  have := WK f.1
  constructor
  · rintro ⟨h1, h2⟩
    exact ⟨h1, by omega⟩
  · rintro ⟨h1, h2⟩
    have l3 : far - f.2.1 < 2 * ab f.1 := h1.1.2.1
    exact ⟨h1, by omega⟩, h.len⟩
theorem SG.high {n far A : Int} {k m : Nat} {fs : List I3} (h : SG n far k A m fs) (hA : far + (1 + (k : Int)) < 2 * A) : SG n far (k + 1) 0 m fs := ⟨h.nd, fun f => by
  rw [h.mem f]
  have := WK f.1
  constructor
  · rintro ⟨h1, h2⟩
    exact ⟨h1, by omega⟩
  · rintro ⟨h1, h2⟩
    have l4 : 2 * ab f.1 ≤ far + f.2.1 := h1.1.2.2
    exact ⟨h1, by omega⟩, h.len⟩
theorem SG.skip {n far a b : Int} {k m : Nat} {fs : List I3} (h : SG n far k a m fs) (hb : 1 + (k : Int) = b) (no : ∀ x c, ab x = a → meas (x, b, c) = n → g3 (x, b, c) = 1 → False) : SG n far k (a + 1) m fs := ⟨h.nd, fun f => by
  rw [h.mem f]
  constructor
  · rintro ⟨h1, h2⟩
    exact ⟨h1, by omega⟩
  · rintro ⟨h1, h2⟩
    refine ⟨h1, ?_⟩
    rcases h2 with h2 | ⟨h2, h3⟩
    · exact .inl h2
    · refine .inr ⟨h2, ?_⟩
      rcases Int.lt_or_le (ab f.1) a with y | y
      · exact y
      · exfalso
        obtain ⟨x, y', c⟩ := f
        obtain rfl : y' = b := by rw [← hb]; exact h2
        exact no x c (by show ab x = a; have h3 : ab x < a + 1 := h3; have y : a ≤ ab x := y; omega) h1.2.1 h1.2.2, h.len⟩
theorem SG.add {n far a b c : Int} {k m : Nat} {fs : List I3} (h : SG n far k a m fs) (hb : 1 + (k : Int) = b) (a0 : 0 < a) (L : Level (a, b, c) far) (e : b * b - n = 4 * a * c) (hg : g3 (a, b, c) = 1) : SG n far k (a + 1) (m + 2) (fs ++ [(a, b, c), (0 - a, b, 0 - c)]) := by
  have aa : ab a = a := by rcases Aj a with ⟨_, e⟩ | ⟨_, e⟩ <;> omega
  have an : ab (0 - a) = a := by rcases Aj (0 - a) with ⟨_, e⟩ | ⟨_, e⟩ <;> omega
  have m1 : meas (a, b, c) = n := by show b * b - 4 * a * c = n; omega
  have m2 : meas (0 - a, b, 0 - c) = n := by
    show b * b - 4 * (0 - a) * (0 - c) = n
    have : 4 * (0 - a) * (0 - c) = 4 * a * c := by grind
    omega
  have L2 : Level (0 - a, b, 0 - c) far := by
    obtain ⟨l1, l3, l4⟩ := L
    have l3 : far - b < 2 * ab a := l3
    have l4 : 2 * ab a ≤ far + b := l4
    exact ⟨l1, by show far - b < 2 * ab (0 - a); omega, by show 2 * ab (0 - a) ≤ far + b; omega⟩
  have g2 : g3 (0 - a, b, 0 - c) = 1 := by
    show Int.gcd ((Int.gcd (0 - a) b : Nat) : Int) (0 - c) = 1
    have hg : Int.gcd ((Int.gcd a b : Nat) : Int) c = 1 := hg
    rw [Int.zero_sub, Int.zero_sub, Int.neg_gcd, Int.gcd_neg]; exact hg
  have out : ∀ f ∈ fs, ¬ (f.2.1 = b ∧ ab f.1 = a) := fun f hf ⟨z1, z2⟩ => by
    have := ((h.mem f).mp hf).2
    omega
  refine ⟨List.nodup_append.mpr ⟨h.nd, ?_, fun f hf g hg' => ?_⟩, fun f => ?_, by rw [List.length_append]; have := h.len; show _ + 2 ≤ _; omega⟩
  · refine List.nodup_cons.mpr ⟨fun z => ?_, List.nodup_cons.mpr ⟨by simp, List.nodup_nil⟩⟩
    have := congrArg Prod.fst (List.mem_singleton.mp z)
    have : a = 0 - a := this
    omega
  · rintro rfl
    rcases List.mem_cons.mp hg' with rfl | hg'
    · exact out _ hf ⟨rfl, aa⟩
    · rw [List.mem_singleton.mp hg'] at hf
      exact out _ hf ⟨rfl, an⟩
  · rw [List.mem_append, h.mem f]
    constructor
    · rintro (⟨h1, h2⟩ | hf)
      · exact ⟨h1, by omega⟩
      · rcases List.mem_cons.mp hf with rfl | hf
        · exact ⟨⟨L, m1, hg⟩, .inr ⟨hb.symm, by show ab a < a + 1; omega⟩⟩
        · rw [List.mem_singleton.mp hf]
          exact ⟨⟨L2, m2, g2⟩, .inr ⟨hb.symm, by show ab (0 - a) < a + 1; omega⟩⟩
    · rintro ⟨h1, h2⟩
      by_cases z : f.2.1 = b ∧ ab f.1 = a
      · right
        obtain ⟨x, y, w⟩ := f
        obtain ⟨rfl, z2⟩ : y = b ∧ ab x = a := z
        have h4 : y * y - 4 * x * w = n := h1.2.1
        rcases Aj x with ⟨_, ex⟩ | ⟨_, ex⟩
        · have ea : x = a := by omega
          rw [ea] at h4 ⊢
          have e4 : w = c := Int.eq_of_mul_eq_mul_left (a := 4 * a) (by omega) (by omega)
          rw [e4]; exact .head _
        · have ea : x = 0 - a := by omega
          rw [ea] at h4 ⊢
          have e5 : 4 * (0 - a) * w = 4 * a * (0 - w) := by grind
          have e4 : 0 - w = c := Int.eq_of_mul_eq_mul_left (a := 4 * a) (by omega) (by omega)
          have e6 : w = 0 - c := by omega
          rw [e6]; exact .tail _ (.head _)
      · left
        exact ⟨h1, by omega⟩
theorem LC {fs : List I3} {out : List (List Int)} (nd : fs.Nodup) (p : out.Perm (fs.map rw3)) (o : out.Pairwise fun a b => HT.lexLt b a = false) : ∃ gs : List I3, out = gs.map rw3 ∧ Srt gs ∧ gs.Perm fs := by
  obtain ⟨gs, pg, e⟩ := Nt p fs rfl
  refine ⟨gs, e, ?_, pg⟩
  rw [e, List.pairwise_map] at o
  have ng : gs.Pairwise (· ≠ ·) := pg.nodup_iff.mpr nd
  refine (List.pairwise_and_iff.mpr ⟨o, ng⟩).imp fun {a b} h => ?_
  obtain ⟨h1, h2⟩ := h
  have h1 : ¬ lt3 b a := fun z => Bool.noConfusion (h1.symm.trans (show HT.lexLt (rw3 b) (rw3 a) = true from (R8 b a).mpr z))
  unfold lt3 at h1 ⊢
  obtain ⟨a1, a2, a3⟩ := a
  obtain ⟨b1, b2, b3⟩ := b
  dsimp only at h1 ⊢
  have h3 : ¬ (a1 = b1 ∧ a2 = b2 ∧ a3 = b3) := fun ⟨x, y, z⟩ => h2 (by rw [x, y, z])
  omega
noncomputable abbrev G4 : DSp := spec (fun n : Int => [.int n]) (fun n => Ja n ∧ 0 ≤ n) fun n d => ∃ fs, d = .lst (fs.map t3) ∧ Ef n fs
theorem Kg (T : Txt K mg)
    (G__law_root : Pm P w K mg base 1 "_law_root" Cz ["_law_number_here"] Fb)
    (G__law_behind : Pm P w K mg base 2 "_law_behind" CP ["_law_form", "_law_top"] Hf)
    (G__law_rest : Pm P w K mg base 1 "_law_rest" Df ["_law_one", "_law_other"] GK)
    : Pm P w K mg base 3 "_law_saddles" Cj ["_law_number_here"] G4 := by
  obtain ⟨f, fd, F⟩ := T.t__law_saddles
  refine ⟨f, fd, F, F.fn.okD Bb (by walk_at "lE") fun cdv A outer s H E hr => ⟨_, (Ac (Av 1 Bb.nd (Ah Ae G__law_root (hr.mono (by decide)) rfl (Aa (dv 0) Af))) (Ac (Av 2 Bb.nd (Ky Af)) (Ac (FW PassesOwn.never rfl (HJ rfl T.z_range (Aa Ab (Aa (Br (dv 1) Ab) Af))) (CT 3 Bb.nd) (Ag (FW PassesOwn.never rfl (HJ rfl T.z_range (Aa (Br (Dd (Cq (dv 1) (dv 3)) Ab) Ab) (Aa (Br (Dd (Br (dv 1) (dv 3)) Ab) Ab) Af))) (CT 4 Bb.nd) (Ag (Cg (G3 hr.units (Ey (Cq (Am (dv 3) (dv 3)) (dv 0)) (Am Ab (dv 4))) Ab) (Ac (Av 5 Bb.nd (Dd (Cq (Am (dv 3) (dv 3)) (dv 0)) (Am Ab (dv 4)))) (Ag (Cg (G3 hr.units (Ah Ae G__law_rest (hr.mono (by decide)) rfl (Aa (Ah Ae G__law_rest (hr.mono (by decide)) rfl (Aa (dv 4) (Aa (dv 3) Af))) (Aa (dv 5) Af))) Ab) (Ag (Av 2 Bb.nd (DF.de (Zi (dv 2) (Ab9 (Aa (Es (Aa (dv 4) (Aa (dv 3) (Aa (dv 5) Af)))) (Aa (Es (Aa (Cq Ab (dv 4)) (Aa (dv 3) (Aa (Cq Ab (dv 5)) Af)))) Af))))))) Bg))) Bg))))) (Ac (Lh 6 Bb.nd Af) (Ac (Xn 7 Bb.nd) (Ac (FW PassesOwn.never rfl (Iw (Qf T.z_sorted (Aa (dv 2) Af))) (CT 8 Bb.nd) (Ag (Cg (KH 7 (un1 hr.units) (dv 8)) (Ac (JT 6 (dv 8)) (Ag (Er PassesOwn.never (KH 7 (un1 hr.units) (dv 8)) (Ac (Nq 7 (un1 hr.units) Js (dv 8)) (Ag (Av 8 Bb.nd (Ah Ae G__law_behind (hr.mono (by decide)) rfl (Aa (dv 8) (Aa (dv 1) Af))))))))) Bg))) (Ag (Mp 6 (Ar (dv 6)))))))))), fun ds Q h => ?_⟩⟩
  obtain ⟨n, rfl, ⟨hD, n0⟩, q⟩ := h
  have hD : Ja n := hD
  have n0 : 0 ≤ n := n0
  have q : ∀ d, (∃ fs, d = .lst (fs.map t3) ∧ Ef n fs) → Q d := q
  have m4 := hD.m
  have ns : ¬ Ge n := hD.q
  have n1 : 0 < n := by
    rcases Int.lt_or_le 0 n with z | z
    · exact z
    · exact absurd ⟨0, by omega⟩ ns
  have sad : ∀ {f : I3}, meas f = n → Sad f := fun {f} e => ⟨by rw [e]; exact ns, by rw [e]; exact n1, by rw [e]; omega⟩
  have four : Bt 3 4 := Bt.of_abs (by decide)
  walk_at "go"
  refine Bh n ⟨n0, (Bt.of (by omega) (by omega) : Bt 20 _).le (by decide)⟩ ?_
  rintro _ ⟨far, rfl, hr', _⟩
  have hr' : Sq n far := hr'
  have r0 := hr'.1
  have r6 : far ≤ 63 := Hs hr' (by omega)
  refine ⟨Nat.zero_le _, ?_⟩
  have rng : (-(2 ^ 62) ≤ (1 : Int) ∧ (1 : Int) < 2 ^ 62 ∧ -(2 ^ 62) ≤ far + 1 ∧ far + 1 < 2 ^ 62) := by omega
  refine El (ups 1 (far + 1 - 1).toNat) (fun R hR => ⟨rng, hR⟩) (fun k ρ => ∃ fs x y z, ρ = [some (.is (.int n)), some (.is (.int far)), some (.is (.lst (fs.map t3))), x, y, z, none, none, none] ∧ SG n far k 0 (130 * k) fs) ⟨[], none, none, none, rfl, SG.start⟩ ?_ ?_
  · rintro k d _ hk ⟨fs, x, y, z, rfl, sg⟩
    obtain ⟨hk', rfl⟩ := GF hk
    generalize eb : (1 : Int) + (k : Int) = b at *
    have bb : Bt 7 b := Bt.of (by omega) (by omega)
    have f1 : 2 * (far - b).fdiv 2 ≤ far - b ∧ far - b < 2 * (far - b).fdiv 2 + 2 := by rw [Int.fdiv_eq_ediv_of_nonneg _ (by decide)]; omega
    have f2 : 2 * (far + b).fdiv 2 ≤ far + b ∧ far + b < 2 * (far + b).fdiv 2 + 2 := by rw [Int.fdiv_eq_ediv_of_nonneg _ (by decide)]; omega
    walk_at "rd"
    refine Gp ?_
    walk_at "rd"
    refine ⟨⟨by decide, by decide⟩, ⟨by decide, by decide⟩, by omega, ?_⟩
    generalize e1 : (far - b).fdiv 2 + 1 = lo at *
    generalize e2 : (far + b).fdiv 2 + 1 = hi at *
    refine El (ups lo (hi - lo).toNat) (fun R hR => hR) (fun j ρ => ∃ fs y z, ρ = [some (.is (.int n)), some (.is (.int far)), some (.is (.lst (fs.map t3))), some (.is (.int b)), y, z, none, none, none] ∧ SG n far k (lo + j) (130 * k + 2 * j) fs) ⟨fs, y, z, rfl, sg.low (by omega)⟩ ?_ ?_
    · rintro j d _ hj ⟨fs, y, z, rfl, sg⟩
      obtain ⟨hj', rfl⟩ := GF hj
      generalize ea : lo + (j : Int) = a at *
      have ba : Bt 7 a := Bt.of (by omega) (by omega)
      have a0 : 0 < a := by omega
      have aa : ab a = a := by rcases Aj a with ⟨_, e⟩ | ⟨_, e⟩ <;> omega
      have len := sg.len
      have nx : lo + ((j + 1 : Nat) : Int) = a + 1 := by omega
      have hd := Int.fmod_add_mul_fdiv (b * b - n) (4 * a)
      walk_at "rd"
      refine ⟨bb.mulOk bb, four.mulOk ba, by omega, ?_⟩
      by_cases hm : (b * b - n).fmod (4 * a) = 0
      · refine ift (decide_eq_true hm) ⟨bb.mulOk bb, four.mulOk ba, Bt.divOk (four.mul ba) (by omega), ?_⟩
        generalize ec : (b * b - n).fdiv (4 * a) = c at *
        have e4 : b * b - n = 4 * a * c := by omega
        have same : ∀ c', b * b - n = 4 * a * c' → c' = c := fun c' e => Int.eq_of_mul_eq_mul_left (a := 4 * a) (by omega) (by omega)
        have hL : Level (a, b, c) far := ⟨⟨by show 0 < b; omega, by show b ≤ far; omega⟩, by show far - b < 2 * ab a; omega, by show 2 * ab a ≤ far + b; omega⟩
        have eg : decide ((((Int.gcd ((Int.gcd a b : Nat) : Int) c : Nat) : Int)) = 1) = decide (g3 (a, b, c) = 1) := decide_eq_decide.mpr ⟨fun z => by show Int.gcd ((Int.gcd a b : Nat) : Int) c = 1; omega, fun z => by have z : Int.gcd ((Int.gcd a b : Nat) : Int) c = 1 := z; omega⟩
        walk_at "rd"
        refine Ak (a, b) trivial (Ak (((Int.gcd a b : Nat) : Int), c) trivial ⟨JH, ?_⟩)
        rw [Nr, eg]
        by_cases hg : g3 (a, b, c) = 1
        · refine ift (decide_eq_true hg) ?_
          have big : fs.length + 2 ≤ sizeLine := Nat.le_of_lt (Ep (by omega))
          refine ⟨Bu (by decide), Bu (by decide), Bu (by decide), big, fs ++ [(a, b, c), (0 - a, b, 0 - c)], _, _, by rw [List.map_append]; rfl, ?_⟩
          rw [nx]
          exact (sg.add eb a0 hL e4 hg).le (by omega)
        · refine Dn (decide_eq_false hg) ⟨fs, _, _, rfl, ?_⟩
          rw [nx]
          refine (sg.skip eb fun x c' hx hm' hg' => hg ?_).le (by omega)
          have hm' : b * b - 4 * x * c' = n := hm'
          have hg' : Int.gcd ((Int.gcd x b : Nat) : Int) c' = 1 := hg'
          show Int.gcd ((Int.gcd a b : Nat) : Int) c = 1
          rcases Aj x with ⟨_, ex⟩ | ⟨_, ex⟩
          · obtain rfl : x = a := by omega
            rw [← same c' (by omega)]; exact hg'
          · obtain rfl : x = -a := by omega
            have e5 : 4 * -a * c' = 4 * a * -c' := by grind
            have e6 := same (-c') (by omega)
            rw [Int.neg_gcd (a := a)] at hg'
            rw [← e6, Int.gcd_neg]; exact hg'
      · refine Dn (decide_eq_false hm) ⟨fs, _, _, rfl, ?_⟩
        rw [nx]
        refine (sg.skip eb fun x c' hx hm' _ => hm ?_).le (by omega)
        have hm' : b * b - 4 * x * c' = n := hm'
        rcases Aj x with ⟨_, ex⟩ | ⟨_, ex⟩
        · obtain rfl : x = a := by omega
          rw [show b * b - n = c' * (4 * x) by rw [Int.mul_comm c']; omega, Int.mul_fmod_left]
        · obtain rfl : x = -a := by omega
          have e5 : 4 * -a * c' = -c' * (4 * a) := by grind
          rw [show b * b - n = -c' * (4 * a) by omega, Int.mul_fmod_left]
    · rintro _ ⟨fs, y, z, rfl, sg⟩
      rw [Gw] at sg
      exact ⟨fs, _, _, _, rfl, sg.high (by omega) |>.le (by omega)⟩
  · rintro _ ⟨fs, x, y, z, rfl, sg⟩
    rw [Gw] at sg
    have mem : ∀ f, f ∈ fs ↔ Level f far ∧ meas f = n ∧ g3 f = 1 := fun f => by
      rw [sg.mem f]
      constructor
      · exact fun h => h.1
      · intro h
        have l2 : f.2.1 ≤ far := h.1.1.2
        exact ⟨h, .inl (by omega)⟩
    have len := sg.len
    walk_at "rd"
    refine ⟨Nat.zero_le _, Gp ?_⟩
    walk_at "rd"
    refine ⟨fs.map rw3, by rw [List.map_map]; rfl, by rw [List.length_map]; omega, fun r hr => by obtain ⟨f, _, rfl⟩ := List.mem_map.mp hr; exact List.cons_ne_nil _ _, fun out po oo => ?_⟩
    obtain ⟨gs, rfl, srt, pg⟩ := LC sg.nd po oo
    have eg : (gs.map rw3).map Bq = gs.map t3 := by rw [List.map_map]; rfl
    rw [eg]
    have mem' : ∀ f, f ∈ gs ↔ Level f far ∧ meas f = n ∧ g3 f = 1 := fun f => (pg.mem_iff).trans (mem f)
    have lv : ∀ f ∈ gs, Lv far f := fun f hf => ⟨sad ((mem' f).mp hf).2.1, by rw [((mem' f).mp hf).2.1]; exact hr', ((mem' f).mp hf).1⟩
    have cl : ∀ f ∈ gs, Lv far f → ∀ g, Rl far f g → g ∈ gs := fun f hf L g r => (mem' g).mpr ⟨(r.lv L).L, by rw [r.meas]; exact ((mem' f).mp hf).2.1, by rw [r.g3]; exact ((mem' f).mp hf).2.2⟩
    have lg : gs.length ≤ 8190 := by rw [pg.length_eq]; omega
    walk_at "rd"
    refine El (gs.map t3) (fun R h => h) (fun k ρ => ∃ fnd ks v, ρ = [some (.is (.int n)), some (.is (.int far)), some (.is (.lst (fs.map t3))), x, y, z, some (.own (fnd.map t3)), some (.tab ks), v] ∧ PIn far gs k fnd ks ∧ NdF gs ks ∧ fnd.length ≤ k) ⟨[], [], none, rfl, PIn.start, NdF.nil, Nat.le_refl _⟩ ?_ ?_
    · rintro k d _ hk ⟨fnd, ks, v, rfl, I, nd, lk⟩
      obtain ⟨f, hf, rfl⟩ : ∃ f, gs[k]? = some f ∧ d = t3 f := by
        rw [List.getElem?_map] at hk
        cases e : gs[k]? with
        | none => rw [e] at hk; cases hk
        | some f => rw [e] at hk; cases hk; exact ⟨f, rfl, rfl⟩
      have hm := List.mem_of_getElem? hf
      have L := lv f hm
      have kl : k < gs.length := (List.getElem?_eq_some_iff.mp hf).1
      walk_at "rd"
      refine ⟨rw3 f, rfl, ?_⟩
      by_cases hs : rw3 f ∈ ks
      · exact Dn (by rw [decide_eq_true hs]; rfl) ⟨fnd, ks, _, rfl, I.no hf (.inr hs), nd, by omega⟩
      · refine ift (by rw [decide_eq_false hs]; rfl) ⟨Ep (by omega), ?_⟩
        walk_at "rd"
        refine Eo (fun m ρ => ∃ j ks', ρ = [some (.is (.int n)), some (.is (.int far)), some (.is (.lst (fs.map t3))), x, y, z, some (.own (fnd.map t3 ++ [t3 f])), some (.tab ks'), some (.is (t3 (rF far j f)))] ∧ (∀ x, rw3 x ∈ ks' ↔ rw3 x ∈ ks ∨ ∃ i, i < j ∧ rF far i f = x) ∧ NdF gs ks' ∧ m = gs.length - ks'.length) _ ⟨0, ks, rfl, fun x => ⟨.inl, fun w => w.resolve_right fun ⟨i, hi, _⟩ => absurd hi (by omega)⟩, nd, rfl⟩ ?_
        rintro m _ ⟨j, ks', rfl, h1, nd', rfl⟩
        have rj : Rl far f (rF far j f) := ⟨j, rfl⟩
        have inn : rF far j f ∈ gs := cl f hm L _ rj
        have Lj := lv _ inn
        have ln := nd'.len
        walk_at "rd"
        refine ⟨rw3 (rF far j f), rfl, ?_⟩
        by_cases hj : rw3 (rF far j f) ∈ ks'
        · refine Dn (by rw [decide_eq_true hj]; rfl) ⟨fnd ++ [f], ks', _, by rw [List.map_append]; rfl, PIn.yes srt cl I hf L hs fun x => ?_, nd', by rw [List.length_append, List.length_singleton]; omega⟩
          rw [h1 x]
          have nk : ∀ g, Rl far f g → rw3 g ∉ ks := fun g r z => by
            obtain ⟨h, hh, rh⟩ := (I.seen g).mp z
            exact hs ((I.seen f).mpr ⟨h, hh, rh.trans (r.symm L)⟩)
          obtain ⟨i0, hi0, ei⟩ := ((h1 _).mp hj).resolve_left (nk _ rj)
          constructor
          · rintro (w | ⟨i, _, e⟩)
            · exact .inl w
            · exact .inr ⟨i, e⟩
          · rintro (w | ⟨m, rfl⟩)
            · exact .inl w
            · right
              induction m with
              | zero => exact ⟨0, by omega, rfl⟩
              | succ m ih =>
                obtain ⟨i, hi, e⟩ := ih
                have nx : rF far (i + 1) f = rF far (m + 1) f := by rw [CQ i 1 f, CQ m 1 f, e]
                rcases Nat.lt_or_ge (i + 1) j with w | w
                · exact ⟨i + 1, w, nx⟩
                · rw [show i + 1 = j by omega] at nx
                  exact ⟨i0, hi0, ei.trans nx⟩
        · refine ift (by rw [decide_eq_false hj]; rfl) ⟨⟨true, rfl⟩, rw3 (rF far j f), rfl, Nat.le_of_lt (Ep (by omega)), ?_⟩
          have P : PF n far (rF far j f) := ⟨Nz Lj.S, (Jw Lj.L).1, (Jw Lj.L).2, ((mem' _).mp inn).2.1, ((mem' _).mp inn).2.2⟩
          have bf : B3 14 (rF far j f) := Aaq P (by omega) r6
          refine Ak (rF far j f, far) ⟨bf.le (by decide), FP Lj.S, (Bt.of (by omega) (by omega) : Bt 7 far).le (by decide)⟩ ?_
          have nd2 := nd'.put inn
          have l2 := nd2.len
          have l3 : (Gg (rw3 (rF far j f)) ks').length = ks'.length + 1 := by unfold Gg; rw [if_neg hj, List.length_append, List.length_singleton]
          refine ⟨_, by omega, j + 1, _, by rw [CQ j 1 f]; rfl, fun x => ?_, nd2, rfl⟩
          rw [IV, h1 x]
          constructor
          · rintro ((w | ⟨i, hi, e⟩) | w)
            · exact .inl w
            · exact .inr ⟨i, by omega, e⟩
            · exact .inr ⟨j, by omega, (Tq w).symm⟩
          · rintro (w | ⟨i, hi, e⟩)
            · exact .inl (.inl w)
            · rcases Nat.lt_or_ge i j with v | v
              · exact .inl (.inr ⟨i, v, e⟩)
              · have : i = j := by omega
                subst this
                exact .inr (by rw [e])
    · rintro _ ⟨fnd, ks, v, rfl, I, nd, lk⟩
      rw [List.length_map] at I lk
      refine q _ ⟨fnd, rfl, I.srt, fun f => ?_, by omega⟩
      rw [I.mem f, List.take_length, mem' f]
      constructor
      · rintro ⟨⟨_, h3, h4⟩, L, t⟩
        exact ⟨h3, h4, (LF.tp L.S L.r).mpr ⟨L, t⟩⟩
      · rintro ⟨h3, h4, h5⟩
        obtain ⟨L, t⟩ := (LF.tp (sad h3) (by rw [h3]; exact hr')).mp h5
        exact ⟨⟨L.L, h3, h4⟩, L, t⟩
theorem Ef.uniq {n : Int} {ls ms : List I3} (A : Ef n ls) (B : Ef n ms) : ls = ms := Srt.ext A.srt B.srt fun f => by rw [A.mem, B.mem]
theorem Jg (ls : List I3) : ls.map t3 = (ls.map rw3).map Bq := by rw [List.map_map]; rfl
theorem AcP : Ja (-23) := ⟨.inr rfl, La (by decide), by decide⟩
theorem Acl {m r : Int} (h0 : 0 ≤ r) (h1 : r * r < m) (h2 : m < (r + 1) * (r + 1)) : ¬ Ge m := by
  rw [Mh (r := r) ⟨h0, by omega, h2⟩]
  omega
theorem Aau : Ja 12 := ⟨.inl rfl, Acl (r := 3) (by decide) (by decide) (by decide), by decide⟩
theorem Aev {ls : List I3} (C : Ef (-23) ls) : ls ≠ [] := fun z => by
  have : (1, 1, 6) ∈ ls := (C.mem _).mpr ⟨rfl, by decide, (LF.bowl (by decide)).mpr ⟨by decide, by decide, by decide, by decide, by decide⟩⟩
  rw [z] at this
  cases this
theorem AdD {ls : List I3} (C : Ef 12 ls) : ls ≠ [] := fun z => by
  have r : Sq 12 3 := ⟨by decide, by decide, by decide⟩
  have S : ∀ {f : I3}, meas f = 12 → Sad f := fun {f} e => ⟨by rw [e]; exact Aau.q, by rw [e]; decide, by rw [e]; decide⟩
  have L : Lv 3 (1, 2, -2) := ⟨S rfl, r, ⟨by decide, by decide⟩, by decide, by decide⟩
  obtain ⟨g, tg, rg⟩ := Aas L
  have eg : meas g = 12 := rg.meas
  have : g ∈ ls := (C.mem _).mpr ⟨eg, by rw [rg.g3]; decide, (LF.tp (S eg) (by rw [eg]; exact r)).mpr ⟨rg.lv L, tg⟩⟩
  rw [z] at this
  cases this
theorem AaS (T : Txt K mg)
    (G__law_number : Pm P w K mg base 2 "_law_number" CK ["_law_script"] HB)
    (G_classes : Pm P w K mg base 9 "classes" Fo ["number"] GX)
    (G__law_saddles : Pm P w K mg base 3 "_law_saddles" Cj ["_law_number_here"] G4)
    (G__law_bowls : Pm P w K mg base 2 "_law_bowls" Dh ["_law_number_here"] Ir)
    (G__law_wholes : Pm P w K mg base 2 "_law_wholes" Ca ["_law_found", "_law_many"] Ea)
    : Pm P w K mg base 10 "law" Ju ["_law_script"] O7 := by
  obtain ⟨f, fd, F⟩ := T.t_law
  refine ⟨f, fd, F, F.fn.okD Jb (by walk_at "lE") fun cdv A outer s H E hr => ⟨_, (Ac (Av 1 Jb.nd (Ah Ae G__law_number (hr.mono (by decide)) rfl (Aa (dv 0) Af))) (Ac (Cg (Lz (dv 1) Ab) (Ag (Av 2 Jb.nd (Qf T.z_sorted (Aa (Ah Ae G__law_bowls (hr.mono (by decide)) rfl (Aa (dv 1) Af)) Af)))) (Ag (Av 2 Jb.nd (Ah Ae G__law_saddles (hr.mono (by decide)) rfl (Aa (dv 1) Af))))) (Ac (Vf 3 Jb.nd Ae G_classes (hr.mono (by decide)) rfl (Aa (dv 1) Af)) (Ac (Cg (X8 (U0 3 (DW.dt (J6 (Hr (Et (Ly T.z_isinstance T.z_list QZ (dv 3)))) (HD (Ip hr.units (dv 3) (dv 2)))))) (DW.dt (J6 (Hr (Et (Ly T.z_isinstance T.z_list QZ (dv 3)))) (HD (Ip hr.units (dv 3) (dv 2)))))) (Ag (Ar Js)) Bg) (Ac (W8 (Yk 3 PassesOwn.never rfl (CT 4 Jb.nd) (Ag (Cg (Hr (Et (Ah Ae G__law_wholes (hr.mono (by decide)) rfl (Aa (dv 4) (Aa Ab Af))))) (Ag (Ar Js)) Bg))) (FW PassesOwn.never rfl (Iw (dv 3)) (CT 4 Jb.nd) (Ag (Cg (Hr (Et (Ah Ae G__law_wholes (hr.mono (by decide)) rfl (Aa (dv 4) (Aa Ab Af))))) (Ag (Ar Js)) Bg)))) (Ac (Cg (X8 (U0 3 (DW.dt (J6 (G3 hr.units (Ah Ae G_classes (hr.mono (by decide)) rfl (Aa (Ad (Ky (Aa (FQ Ab) (Aa Ab Af))) (Ua T.z_int (Aa (N7 hr.units (dv 1) (FQ Ab)) Af))) Af)) (Ky Af)) (HD (Ip hr.units (dv 3) (dv 2)))))) (DW.dt (J6 (G3 hr.units (Ah Ae G_classes (hr.mono (by decide)) rfl (Aa (Ad (Ky (Aa (FQ Ab) (Aa Ab Af))) (Ua T.z_int (Aa (N7 hr.units (dv 1) (FQ Ab)) Af))) Af)) (Ky Af)) (HD (Ip hr.units (dv 3) (dv 2)))))) (Ag (Ar Js)) Bg) (Ac (W8 (AbK 3) (ZR 3)) (Ag (Ar (N7 hr.units (Ah Ae G_classes (hr.mono (by decide)) rfl (Aa (dv 1) Af)) (dv 2))))))))))), fun ds Q h => ?_⟩⟩
  obtain ⟨ns, rfl, hn, q⟩ := h
  have q' : Q (.bl true) := q _ rfl
  simp only [Jx, Jk, JB]
  refine Rq (fun ρ => ∃ n ls, (Ja n ∧ Ef n ls) ∧ ρ = [some (.is (.lst (ns.map Dt.int))), some (.is (.int n)), some (.is (.lst (ls.map t3))), none, none]) (fun N hN => ?_) ?_
  · walk_at "rd"
    refine Bh ns trivial ?_
    rintro _ ⟨n, rfl, hD⟩
    have hD : Ja n := hD
    walk_at "rd"
    rcases Int.lt_or_le n 0 with z | z
    · refine ift (decide_eq_true z) (Bh n ⟨hD, z⟩ ?_)
      rintro _ ⟨fs, rfl, C⟩
      have C : Ef n fs := C
      have nd : fs.Nodup := C.srt.imp fun {a b} h e => by rw [e] at h; exact Hy h
      have len := C.len
      refine ⟨fs.map rw3, by rw [Jg], by rw [List.length_map]; omega, fun r hr => by obtain ⟨f, _, rfl⟩ := List.mem_map.mp hr; exact List.cons_ne_nil _ _, fun out po oo => ?_⟩
      obtain ⟨gs, rfl, srt, pg⟩ := LC nd po oo
      rw [← Jg]
      exact hN _ ⟨n, gs, ⟨hD, srt, fun f => by rw [pg.mem_iff, C.mem], by rw [pg.length_eq]; exact C.len⟩, rfl⟩
    · refine Dn (decide_eq_false (by omega)) (Bh n ⟨hD, z⟩ ?_)
      rintro _ ⟨fs, rfl, C⟩
      exact hN _ ⟨n, fs, ⟨hD, C⟩, rfl⟩
  rintro _ ⟨n, ls, ⟨hD, C⟩, rfl⟩
  walk_at "rd"
  refine ⟨by simp only [Pa, RJ, Aao, Bool.and_true], Bh n hD ?_⟩
  rintro _ ⟨ls', rfl, C'⟩
  obtain rfl : ls = ls' := C.uniq C'
  have again : ∀ d : Dt, (∃ fs, d = Dt.lst (List.map t3 fs) ∧ Ef n fs) → d = .lst ((ls.map rw3).map Bq) := by
    rintro _ ⟨fs, rfl, D⟩
    rw [C.uniq D, Jg]
  have other : ∀ (y : Option En) (z : En) (P : Bool → Prop), P false → Kh (dOp dEq (dCall GX (Ni (dOp dIx (Yu (Ni (dUn Vz (dC (.int 23))) (Ni (dC (.int 12)) VP))) (dCB Oa (Ni (dOp dEq (Xy 1) (dUn Vz (dC (.int 23)))) VP))) VP)) (Yu VP)) [some (.is (.lst (ns.map Dt.int))), some (.is (.int n)), some (.is (.lst ((ls.map rw3).map Bq))), some z, y] P := fun y z P hP => by
    walk_at "rd"
    refine ⟨Bu (by decide), ?_⟩
    have ne : ∀ m : Int, Ja m → (∀ ms, Ef m ms → ms ≠ []) → GX [.int m] fun a => 0 ≤ sizeLine ∧ Dt.flat 8 a = true ∧ P (a.eq (.lst [])) := fun m hm hne => by
      refine Bh m hm ?_
      rintro _ ⟨ms, rfl, Cm⟩
      have hne := hne ms Cm
      rw [Jg]
      cases ms with
      | nil => exact absurd rfl hne
      | cons f ms => exact ⟨Nat.zero_le _, by rw [TX]; exact Dc _ _, hP⟩
    by_cases e : n = -23
    · rw [decide_eq_true e]
      exact ne 12 Aau fun ms => AdD
    · rw [decide_eq_false e]
      exact ne (-23) AcP fun ms => Aev
  have row : ∀ x ∈ ls.map rw3, ∃ p : I3, Bq x = t3 p := fun x hx => by
    obtain ⟨p, _, rfl⟩ := List.mem_map.mp hx
    exact ⟨p, rfl⟩
  rw [Jg]
  generalize ls.map rw3 = S at *
  by_cases hS : S = []
  · refine .inr ⟨by rw [hS]; rfl, ?_⟩
    subst hS
    refine Aam ?_
    walk_at "rd"
    refine ⟨rfl, Dn rfl (alt2 (El [] (fun R h => h) (fun _ ρ => ρ = [some (.is (.lst (ns.map Dt.int))), some (.is (.int n)), some (.is (.lst [])), some (.is (.lst [])), none]) rfl (fun k d ρ' hk _ => (by cases hk)) fun ρ' e => ?_))⟩
    subst e
    walk_at "rd"
    refine Aam ?_
    refine other _ _ _ ?_
    walk_at "rd"
    refine alt2 ⟨rfl, ?_⟩
    walk_at "rd"
    refine Bh n hD fun d hd => ?_
    rw [again d hd]
    exact ⟨rfl, q'⟩
  · refine .inl ⟨_, rfl, ?_, Np _ _, ?_⟩
    · cases S with
      | nil => exact absurd rfl hS
      | cons r S => exact ⟨_, .head _⟩
    refine Aal ?_
    walk_at "rd"
    refine ⟨⟨Dc _ _, Dc _ _⟩, Dn (by rw [JC, decide_eq_true rfl]; rfl) (alt1 (Wk (S.map Bq) rfl (fun v _ ρ => ∃ y, ρ = [some (.is (.lst (ns.map Dt.int))), some (.is (.int n)), some (.is (.lst (S.map Bq))), some (.raw v), y]) (fun v => ⟨_, rfl⟩) (fun v k d ρ' hk hr => ?_) fun v ρ' hr => ?_))⟩
    · obtain ⟨y, rfl⟩ := hr
      rw [List.getElem?_map] at hk
      obtain ⟨x, hx, rfl⟩ := Option.map_eq_some_iff.mp hk
      obtain ⟨p, ep⟩ := row x (List.mem_of_getElem? hx)
      rw [ep]
      walk_at "rd"
      exact Zy p (Dn rfl ⟨_, rfl⟩)
    obtain ⟨y, rfl⟩ := hr
    refine ⟨rfl, ?_⟩
    walk_at "rd"
    refine Aal ?_
    refine other _ _ _ ?_
    walk_at "rd"
    refine ⟨⟨Dc _ _, Dc _ _⟩, Dn (by rw [JC, decide_eq_true rfl]; rfl) (alt1 ?_)⟩
    walk_at "rd"
    refine Bh n hD fun d hd => ?_
    rw [again d hd]
    walk_at "rd"
    refine ⟨⟨Dc _ _, Dc _ _⟩, ?_⟩
    rw [JC, decide_eq_true rfl]
    exact q'
end
noncomputable abbrev nF (K : PySem.W.Frag) (n : Str) (s : Stmt) : Prop := ∃ (f : Addr) (oc : Value) (od : Option Addr) (kV dc pm : Value) (an : Option Addr) (cd ct : Value) (sl : Array (Option Value)), PySem.W.nsIn K mainGlobals n = some (some (.ref f)) ∧ K.lookup f = some ⟨oc, od, .func (PySem.W.fnOf n n (Fe s) (DR s) (Ai s) .none kV dc pm an cd ct), sl⟩ ∧ PySem.W.codeIn K cd n = true ∧ PySem.W.keepIn K (.ref f) = true
theorem Z0 {K : PySem.W.Frag} {n : Str} {s : Stmt} {f : Addr} {od an : Option Addr} {sl : Array (Option Value)} {oc kV dc pm cd ct : Value} (a : PySem.W.nsIn K mainGlobals n = some (some (.ref f))) (l : K.lookup f = some ⟨oc, od, .func (PySem.W.fnOf n n (Fe s) (DR s) (Ai s) .none kV dc pm an cd ct), sl⟩) (c : PySem.W.codeIn K cd n = true) (k : PySem.W.keepIn K (.ref f) = true) : nF K n s := ⟨f, oc, od, kV, dc, pm, an, cd, ct, sl, a, l, c, k⟩
theorem tM {K : PySem.W.Frag} {h : Heap} {mg : Str → Option Value} {n : Str} {s : Stmt} {ps : List Str} (X : K.In h) (G : h.Ns mainGlobals mg) (H : nF K n s)
    (hb : ∀ (kV doc pm : Value) (an : Option Addr) (cdv ct : Value) (us : List Value), us.length = ps.length → bindArgs (PySem.W.fnOf n n (Fe s) (DR s) (Ai s) .none kV doc pm an cdv ct) ⟨us, []⟩ = pure (ps.zip us)) : ∃ f fd, FnT K mg n s ps f fd := by
  obtain ⟨f, oc, od, kV, dc, pm, an, cd, ct, sl, a, l, c, k⟩ := H
  have F := Wf (st := s) l c k
  exact ⟨_, _, F, PySem.W.mg_of X G a, F.binds hb⟩
set_option maxHeartbeats 8000000 in
theorem all_mk {l : PySem.W.OpenLaw} {w : World} {K : PySem.W.Frag} {h : Heap} {mg : Str → Option Value} {fa : Addr} (X : K.In h) (G : h.Ns mainGlobals mg) (hfa : mg "law" = some (.ref fa))
    (h0 : nF K "divisor" Fp)
    (h1 : nF K "root" Gb)
    (h2 : nF K "is_square" CZ)
    (h3 : nF K "check_at_most" BX)
    (h4 : nF K "check_within" Ci)
    (h5 : nF K "is_turn" Fj)
    (h6 : nF K "check_turn" Di)
    (h7 : nF K "put_behind" Dj)
    (h8 : nF K "measure" Dl)
    (h9 : nF K "value" Ih)
    (h10 : nF K "content" Fg)
    (h11 : nF K "moved" Ib)
    (h12 : nF K "middle" Gj)
    (h13 : nF K "shape" HW)
    (h14 : nF K "stands_least" Cr)
    (h15 : nF K "check_saddle" BL)
    (h16 : nF K "stands_level" BK)
    (h17 : nF K "turn_behind" CN)
    (h18 : nF K "stop_behind" Ce)
    (h19 : nF K "eased" Ig)
    (h20 : nF K "stops_round" CJ)
    (h21 : nF K "round_of" Dv)
    (h22 : nF K "check_measure" BR)
    (h23 : nF K "classes" Fo)
    (h24 : nF K "least_bowls" Cd)
    (h25 : nF K "least_saddles" BW)
    (h26 : nF K "plain_forms" Bv)
    (h27 : nF K "_law_cell" Dy)
    (h28 : nF K "_law_whole" Dk)
    (h29 : nF K "_law_wholes" Ca)
    (h30 : nF K "_law_bar" Ek)
    (h31 : nF K "_law_root" Cz)
    (h32 : nF K "_law_behind" CP)
    (h33 : nF K "_law_rest" Df)
    (h34 : nF K "_law_number" CK)
    (h35 : nF K "_law_bowls" Dh)
    (h36 : nF K "_law_saddles" Cj)
    (h37 : nF K "law" Ju)
    (z_abs : PySem.W.nsIn K mainGlobals "abs" = some none)
    (z_bool : PySem.W.nsIn K mainGlobals "bool" = some none)
    (z_int : PySem.W.nsIn K mainGlobals "int" = some none)
    (z_isinstance : PySem.W.nsIn K mainGlobals "isinstance" = some none)
    (z_len : PySem.W.nsIn K mainGlobals "len" = some none)
    (z_list : PySem.W.nsIn K mainGlobals "list" = some none)
    (z_max : PySem.W.nsIn K mainGlobals "max" = some none)
    (z_min : PySem.W.nsIn K mainGlobals "min" = some none)
    (z_range : PySem.W.nsIn K mainGlobals "range" = some none)
    (z_sorted : PySem.W.nsIn K mainGlobals "sorted" = some none)
    (z_tuple : PySem.W.nsIn K mainGlobals "tuple" = some none)
    {C_SAME : Addr} {od_SAME : Option Addr} {sl_SAME : Array (Option Value)} {n_SAME : Nat} {t_SAME_0 : Tok} {t_SAME_1 : Tok} {t_SAME_2 : Tok} {t_SAME_3 : Tok}
    (a_SAME : PySem.W.nsIn K mainGlobals "SAME" = some (some (.ref C_SAME))) (l_SAME : K.lookup C_SAME = some ⟨.type "tuple", od_SAME, .seq #[.int (1) t_SAME_0, .int (0) t_SAME_1, .int (0) t_SAME_2, .int (1) t_SAME_3] n_SAME, sl_SAME⟩)
    {t_MOST_MEASURE : Tok} (a_MOST_MEASURE : PySem.W.nsIn K mainGlobals "MOST_MEASURE" = some (some (.int (4000) t_MOST_MEASURE)))
    : ∃ fd : FuncData, (∀ (s : Shared) (v : Value), BindsTo s fd ⟨[v], []⟩ [("_law_script", v)]) ∧ ∀ base : Heap, K.In base → base.Ns mainGlobals mg → Kc l.prog w K mg base CX0 10 fa fd ["_law_script"] (lSp K O7) := by
  obtain ⟨f37, oc37, od37, kV37, dc37, pm37, an37, cd37, ct37, sl37, a37, l37, c37, k37⟩ := h37
  have e := hfa.symm.trans (PySem.W.mg_of X G a37)
  cases e
  have F37 := Wf (st := Ju) l37 c37 k37
  have T : Txt K mg := {
    t_divisor := tM X G h0 (by walk_at "b2")
    t_root := tM X G h1 (by walk_at "b1")
    t_is_square := tM X G h2 (by walk_at "b1")
    t_check_at_most := tM X G h3 (by walk_at "b2")
    t_check_within := tM X G h4 (by walk_at "b2")
    t_is_turn := tM X G h5 (by walk_at "b1")
    t_check_turn := tM X G h6 (by walk_at "b1")
    t_put_behind := tM X G h7 (by walk_at "b2")
    t_measure := tM X G h8 (by walk_at "b1")
    t_value := tM X G h9 (by walk_at "b2")
    t_content := tM X G h10 (by walk_at "b1")
    t_moved := tM X G h11 (by walk_at "b2")
    t_middle := tM X G h12 (by walk_at "b3")
    t_shape := tM X G h13 (by walk_at "b1")
    t_stands_least := tM X G h14 (by walk_at "b1")
    t_check_saddle := tM X G h15 (by walk_at "b1")
    t_stands_level := tM X G h16 (by walk_at "b2")
    t_turn_behind := tM X G h17 (by walk_at "b2")
    t_stop_behind := tM X G h18 (by walk_at "b2")
    t_eased := tM X G h19 (by walk_at "b1")
    t_stops_round := tM X G h20 (by walk_at "b1")
    t_round_of := tM X G h21 (by walk_at "b1")
    t_check_measure := tM X G h22 (by walk_at "b1")
    t_classes := tM X G h23 (by walk_at "b1")
    t_least_bowls := tM X G h24 (by walk_at "b1")
    t_least_saddles := tM X G h25 (by walk_at "b1")
    t_plain_forms := tM X G h26 (by walk_at "b2")
    t__law_cell := tM X G h27 (by walk_at "b2")
    t__law_whole := tM X G h28 (by walk_at "b1")
    t__law_wholes := tM X G h29 (by walk_at "b2")
    t__law_bar := tM X G h30 (by walk_at "b1")
    t__law_root := tM X G h31 (by walk_at "b1")
    t__law_behind := tM X G h32 (by walk_at "b2")
    t__law_rest := tM X G h33 (by walk_at "b2")
    t__law_number := tM X G h34 (by walk_at "b1")
    t__law_bowls := tM X G h35 (by walk_at "b1")
    t__law_saddles := tM X G h36 (by walk_at "b1")
    t_law := ⟨_, _, F37, PySem.W.mg_of X G a37, F37.binds (ps := ["_law_script"]) fun _ _ _ _ _ _ us hl => match us, hl with | [_], _ => rfl⟩
    z_abs := PySem.W.mg_none_of X G z_abs
    z_bool := PySem.W.mg_none_of X G z_bool
    z_int := PySem.W.mg_none_of X G z_int
    z_isinstance := PySem.W.mg_none_of X G z_isinstance
    z_len := PySem.W.mg_none_of X G z_len
    z_list := PySem.W.mg_none_of X G z_list
    z_max := PySem.W.mg_none_of X G z_max
    z_min := PySem.W.mg_none_of X G z_min
    z_range := PySem.W.mg_none_of X G z_range
    z_sorted := PySem.W.mg_none_of X G z_sorted
    z_tuple := PySem.W.mg_none_of X G z_tuple
    k_SAME := ⟨_, PySem.W.mg_of X G a_SAME, fun H => Dm.mpr ⟨_, [.int (1), .int (0), .int (0), .int (1)], rfl, .inr ⟨_, _, _, l_SAME, rfl, rfl, Bu (by show 4 ≤ 1000; decide), .cons ⟨_, rfl⟩ (.cons ⟨_, rfl⟩ (.cons ⟨_, rfl⟩ (.cons ⟨_, rfl⟩ (.nil))))⟩, RpL.cons (Ba.mpr rfl) (RpL.cons (Ba.mpr rfl) (RpL.cons (Ba.mpr rfl) (RpL.cons (Ba.mpr rfl) (RpL.nil))))⟩⟩
    m_MOST_MEASURE := ⟨_, PySem.W.mg_of X G a_MOST_MEASURE⟩
  }
  refine ⟨PySem.W.fnOf "law" "law" (Fe Ju) (DR Ju) (Ai Ju) .none kV37 dc37 pm37 an37 cd37 ct37, fun s v => .of_eq rfl, fun base kb nb => ?_⟩
  have g_divisor := RB l.prog w base T 
  have g_root := ZV l.prog w base T 
  have g_check_at_most := JK l.prog w base T 
  have g_check_within := Kf l.prog w base T 
  have g_is_turn := RT l.prog w base T 
  have g_put_behind := M6 l.prog w base T 
  have g_measure := SX l.prog w base T 
  have g_value := Xa l.prog w base T 
  have g_middle := Vn l.prog w base T 
  have g_stands_least := Km l.prog w base T 
  have g_stands_level := Kl l.prog w base T 
  have g_turn_behind := MJ l.prog w base T 
  have g__law_cell := Oi l.prog w base T 
  have g__law_whole := M8 l.prog w base T 
  have g__law_bar := Rm l.prog w base T 
  have g__law_root := Pr l.prog w base T 
  have g__law_rest := Pn l.prog w base T 
  have g_is_square := OJ l.prog w base T g_root
  have g_check_turn := M9 l.prog w base T g_is_turn
  have g_content := SM l.prog w base T g_divisor
  have g__law_wholes := Lq l.prog w base T g__law_whole
  have g__law_behind := Lg l.prog w base T g__law_bar
  have g__law_number := Ls l.prog w base T g__law_cell g__law_root
  have g__law_bowls := Ng l.prog w base T g__law_root g__law_rest
  have g_moved := X6 l.prog w base T g_check_turn g_value g_middle
  have g_shape := Wb l.prog w base T g_measure g_is_square
  have g_check_measure := JX l.prog w base T g_is_square
  have g_plain_forms := LQ l.prog w base T g_content
  have g__law_saddles := Kg l.prog w base T g__law_root g__law_behind g__law_rest
  have g_check_saddle := Kd l.prog w base T g_check_at_most g_shape g_measure
  have g_stop_behind := MF l.prog w base T g_turn_behind g_moved g_put_behind
  have g_least_bowls := K7 l.prog w base T g_plain_forms g_stands_least g_root
  have g_eased := Yd l.prog w base T g_check_saddle g_root g_measure g_stands_level g_stop_behind
  have g_stops_round := Li l.prog w base T g_root g_eased g_stop_behind g_measure
  have g_round_of := Ru l.prog w base T g_check_saddle g_stops_round
  have g_least_saddles := JM l.prog w base T g_root g_plain_forms g_stands_level g_round_of
  have g_classes := SQ l.prog w base T g_check_measure g_check_within g_least_saddles g_least_bowls
  have g_law := AaS l.prog w base T g__law_number g_classes g__law_saddles g__law_bowls g__law_wholes
  obtain ⟨f, fd, FT, GG⟩ := g_law
  have e1 := FT.mg.symm.trans (PySem.W.mg_of X G a37)
  cases e1
  have e2 := FT.fn.uniq F37
  subst e2
  exact GG
theorem walk {l : PySem.W.OpenLaw} {q : Program} {loose : List Str} {XP : (Str → Option Value) → Heap → Prop} {YP : World → Heap → Prop} {d : DefRec} {K : Params → PySem.W.Frag} (hn : l.most = some 63) (hdf : d.params.defaults = [])
    (hY : ∀ (w : World) (h : Heap), YP w h → (K w.params).In h)
    (F : ∀ (w : World) (mg : Str → Option Value) (fa : Addr) (h : Heap), (K w.params).In h → h.Ns mainGlobals mg → mg d.name = some (.ref fa) →
      ∃ fd : FuncData, (∀ (s : Shared) (u : Value), BindsTo s fd ⟨[u], []⟩ [("_law_script", u)]) ∧ ∀ base : Heap, (K w.params).In base → base.Ns mainGlobals mg → Kc l.prog w (K w.params) mg base CX0 10 fa fd ["_law_script"] (lSp (K w.params) O7)) :
    PySem.W.WalkO q loose XP YP l.row.toRowW d [] (fun f vs => PySem.call f vs) :=
  L2.Yr (n := 63) (k := 10) (x := "_law_script") (CX := fun _ => CX0) (sp := fun w => lSp (K w.params) O7) hn (by decide) hdf ⟨rfl, by decide, by decide⟩ hY F (fun w H a ns hl _ hS => U4 hl hS) fun _ _ _ _ _ z => z
end My
open PySem PySem.W PyProof.Rows
local macro_rules | `(tactic| walk_at "nF") => `(tactic| (refine' My.Z0 ?qa ?ql ?qc ?qk; (case qa => k_is); (case ql => k_is); (case qc => k_is); (case qk => k_is)))
theorem My.hFk {K : PySem.W.Frag} {n : PySem.Str} {s : PySem.Stmt} (f : PySem.Addr) (m : String) (t c : Nat) (a : PySem.W.nsIn K PySem.mainGlobals n = some (some (.ref f)) := by kernel_rfl) (l : K.lookup f = some ⟨.type "function", none, .func (PySem.W.fnOf n n (L2.Fe s) (L2.DR s) (L2.Ai s) .none .none .none (.str (.ofString m) t) none (.ref c) .none), #[]⟩ := by kernel_rfl) (d : PySem.W.codeIn K (.ref c) n = true := by kernel_rfl) (k : PySem.W.keepIn K (.ref f) = true := by kernel_rfl) : My.nF K n s := My.Z0 a l d k
theorem My.hF0 (P : PySem.Params) : My.nF (My.KK P) "divisor" My.Fp := My.hFk 129 "formcycle.wholes" 334 128
theorem My.hF1 (P : PySem.Params) : My.nF (My.KK P) "root" My.Gb := My.hFk 136 "formcycle.wholes" 334 135
theorem My.hF2 (P : PySem.Params) : My.nF (My.KK P) "is_square" My.CZ := My.hFk 143 "formcycle.wholes" 334 142
theorem My.hF3 (P : PySem.Params) : My.nF (My.KK P) "check_at_most" My.BX := My.hFk 150 "formcycle.wholes" 334 149
theorem My.hF4 (P : PySem.Params) : My.nF (My.KK P) "check_within" My.Ci := My.hFk 157 "formcycle.wholes" 334 156
theorem My.hF5 (P : PySem.Params) : My.nF (My.KK P) "is_turn" My.Fj := My.hFk 165 "formcycle.turns" 378 164
theorem My.hF6 (P : PySem.Params) : My.nF (My.KK P) "check_turn" My.Di := My.hFk 172 "formcycle.turns" 378 171
theorem My.hF7 (P : PySem.Params) : My.nF (My.KK P) "put_behind" My.Dj := My.hFk 179 "formcycle.turns" 378 178
theorem My.hF8 (P : PySem.Params) : My.nF (My.KK P) "measure" My.Dl := My.hFk 186 "formcycle.forms" 407 185
theorem My.hF9 (P : PySem.Params) : My.nF (My.KK P) "value" My.Ih := My.hFk 193 "formcycle.forms" 407 192
theorem My.hF10 (P : PySem.Params) : My.nF (My.KK P) "content" My.Fg := My.hFk 200 "formcycle.forms" 407 199
theorem My.hF11 (P : PySem.Params) : My.nF (My.KK P) "moved" My.Ib := My.hFk 207 "formcycle.forms" 407 206
theorem My.hF12 (P : PySem.Params) : My.nF (My.KK P) "middle" My.Gj := My.hFk 214 "formcycle.forms" 407 213
theorem My.hF13 (P : PySem.Params) : My.nF (My.KK P) "shape" My.HW := My.hFk 221 "formcycle.forms" 407 220
theorem My.hF14 (P : PySem.Params) : My.nF (My.KK P) "stands_least" My.Cr := My.hFk 228 "formcycle.bowls" 461 227
theorem My.hF15 (P : PySem.Params) : My.nF (My.KK P) "check_saddle" My.BL := My.hFk 235 "formcycle.saddles" 473 234
theorem My.hF16 (P : PySem.Params) : My.nF (My.KK P) "stands_level" My.BK := My.hFk 242 "formcycle.saddles" 473 241
theorem My.hF17 (P : PySem.Params) : My.nF (My.KK P) "turn_behind" My.CN := My.hFk 249 "formcycle.saddles" 473 248
theorem My.hF18 (P : PySem.Params) : My.nF (My.KK P) "stop_behind" My.Ce := My.hFk 256 "formcycle.saddles" 473 255
theorem My.hF19 (P : PySem.Params) : My.nF (My.KK P) "eased" My.Ig := My.hFk 263 "formcycle.saddles" 473 262
theorem My.hF20 (P : PySem.Params) : My.nF (My.KK P) "stops_round" My.CJ := My.hFk 270 "formcycle.saddles" 473 269
theorem My.hF21 (P : PySem.Params) : My.nF (My.KK P) "round_of" My.Dv := My.hFk 275 "formcycle.saddles" 473 274
theorem My.hF22 (P : PySem.Params) : My.nF (My.KK P) "check_measure" My.BR := My.hFk 282 "formcycle.classes" 539 281
theorem My.hF23 (P : PySem.Params) : My.nF (My.KK P) "classes" My.Fo := My.hFk 289 "formcycle.classes" 539 288
theorem My.hF24 (P : PySem.Params) : My.nF (My.KK P) "least_bowls" My.Cd := My.hFk 294 "formcycle.classes" 539 293
theorem My.hF25 (P : PySem.Params) : My.nF (My.KK P) "least_saddles" My.BW := My.hFk 301 "formcycle.classes" 539 300
theorem My.hF26 (P : PySem.Params) : My.nF (My.KK P) "plain_forms" My.Bv := My.hFk 306 "formcycle.classes" 539 305
theorem My.hF27 (P : PySem.Params) : My.nF (My.KK P) "_law_cell" My.Dy := My.hFk 313 "law_formcycle_k46_classes" 579 312
theorem My.hF28 (P : PySem.Params) : My.nF (My.KK P) "_law_whole" My.Dk := My.hFk 320 "law_formcycle_k46_classes" 579 319
theorem My.hF29 (P : PySem.Params) : My.nF (My.KK P) "_law_wholes" My.Ca := My.hFk 325 "law_formcycle_k46_classes" 579 324
theorem My.hF30 (P : PySem.Params) : My.nF (My.KK P) "_law_bar" My.Ek := My.hFk 332 "law_formcycle_k46_classes" 579 331
theorem My.hF31 (P : PySem.Params) : My.nF (My.KK P) "_law_root" My.Cz := My.hFk 339 "law_formcycle_k46_classes" 579 338
theorem My.hF32 (P : PySem.Params) : My.nF (My.KK P) "_law_behind" My.CP := My.hFk 353 "law_formcycle_k46_classes" 579 352
theorem My.hF33 (P : PySem.Params) : My.nF (My.KK P) "_law_rest" My.Df := My.hFk 360 "law_formcycle_k46_classes" 579 359
theorem My.hF34 (P : PySem.Params) : My.nF (My.KK P) "_law_number" My.CK := My.hFk 367 "law_formcycle_k46_classes" 579 366
theorem My.hF35 (P : PySem.Params) : My.nF (My.KK P) "_law_bowls" My.Dh := My.hFk 374 "law_formcycle_k46_classes" 579 373
theorem My.hF36 (P : PySem.Params) : My.nF (My.KK P) "_law_saddles" My.Cj := My.hFk 381 "law_formcycle_k46_classes" 579 380
theorem My.hF37 (P : PySem.Params) : My.nF (My.KK P) "law" My.Ju := My.hFk 388 "law_formcycle_k46_classes" 579 387
set_option maxRecDepth 100000 in
set_option maxHeartbeats 0 in
theorem PySem.Challenge.cw_formcycle_k46_classes_holds : PySem.Challenge.rw_formcycle_k46_classes.Holds := by
  w_on
  refine holds_law My.said0 fun said => ?_
  refine holds_open (r := PySem.Challenge.rw_formcycle_k46_classes.row) (q := My.vw) (loose := []) (Xt := fun s => xlAt My.vw [] s && recOk (RowW.records (PySem.Challenge.rw_formcycle_k46_classes.row.toRowW)) s) (XP := XL My.vw []) (Yf := Hook.obs (kHook My.KK My.asK (fun _ => by kernel_rfl))) (Ya := Hook.val (kHook My.KK My.asK (fun _ => by kernel_rfl))) (YP := Hook.says (kHook My.KK My.asK (fun _ => by kernel_rfl))) (N := 2758) My.hl (Hook.of (kHook My.KK My.asK (fun _ => by kernel_rfl))) (Hook.keeps (kHook My.KK My.asK (fun _ => by kernel_rfl))) (fun s e => xl_of s (Bool.and_eq_true_iff.mp e).1) XL.keeps (by rfl) (by rfl) (by rfl) (fun s e => recFacts_of (Bool.and_eq_true_iff.mp e).2) (by rfl) said (by decide +kernel) ⟨rfl, rfl, rfl, rfl, rfl, by decide +kernel⟩ ?hw ?hc
  (case hw => w_witness2)
  k_fill
  refine My.walk (l := PySem.Challenge.rw_formcycle_k46_classes) rfl rfl (fun w h Y => PySem.W.kIn_of Y) ?F
  case F =>
    intro w mg fa h KX G hmg
    refine' My.all_mk KX G hmg ?h0 ?h1 ?h2 ?h3 ?h4 ?h5 ?h6 ?h7 ?h8 ?h9 ?h10 ?h11 ?h12 ?h13 ?h14 ?h15 ?h16 ?h17 ?h18 ?h19 ?h20 ?h21 ?h22 ?h23 ?h24 ?h25 ?h26 ?h27 ?h28 ?h29 ?h30 ?h31 ?h32 ?h33 ?h34 ?h35 ?h36 ?h37 ?z_abs ?z_bool ?z_int ?z_isinstance ?z_len ?z_list ?z_max ?z_min ?z_range ?z_sorted ?z_tuple ?a_SAME ?l_SAME ?a_MOST_MEASURE
    (case h0 => exact My.hF0 _)
    (case h1 => exact My.hF1 _)
    (case h2 => exact My.hF2 _)
    (case h3 => exact My.hF3 _)
    (case h4 => exact My.hF4 _)
    (case h5 => exact My.hF5 _)
    (case h6 => exact My.hF6 _)
    (case h7 => exact My.hF7 _)
    (case h8 => exact My.hF8 _)
    (case h9 => exact My.hF9 _)
    (case h10 => exact My.hF10 _)
    (case h11 => exact My.hF11 _)
    (case h12 => exact My.hF12 _)
    (case h13 => exact My.hF13 _)
    (case h14 => exact My.hF14 _)
    (case h15 => exact My.hF15 _)
    (case h16 => exact My.hF16 _)
    (case h17 => exact My.hF17 _)
    (case h18 => exact My.hF18 _)
    (case h19 => exact My.hF19 _)
    (case h20 => exact My.hF20 _)
    (case h21 => exact My.hF21 _)
    (case h22 => exact My.hF22 _)
    (case h23 => exact My.hF23 _)
    (case h24 => exact My.hF24 _)
    (case h25 => exact My.hF25 _)
    (case h26 => exact My.hF26 _)
    (case h27 => exact My.hF27 _)
    (case h28 => exact My.hF28 _)
    (case h29 => exact My.hF29 _)
    (case h30 => exact My.hF30 _)
    (case h31 => exact My.hF31 _)
    (case h32 => exact My.hF32 _)
    (case h33 => exact My.hF33 _)
    (case h34 => exact My.hF34 _)
    (case h35 => exact My.hF35 _)
    (case h36 => exact My.hF36 _)
    (case h37 => exact My.hF37 _)
    (case z_abs => as_aux_lemma => k_is)
    (case z_bool => as_aux_lemma => k_is)
    (case z_int => as_aux_lemma => k_is)
    (case z_isinstance => as_aux_lemma => k_is)
    (case z_len => as_aux_lemma => k_is)
    (case z_list => as_aux_lemma => k_is)
    (case z_max => as_aux_lemma => k_is)
    (case z_min => as_aux_lemma => k_is)
    (case z_range => as_aux_lemma => k_is)
    (case z_sorted => as_aux_lemma => k_is)
    (case z_tuple => as_aux_lemma => k_is)
    (case a_SAME => as_aux_lemma => k_is)
    (case l_SAME => as_aux_lemma => k_is)
    (case a_MOST_MEASURE => as_aux_lemma => k_is)
