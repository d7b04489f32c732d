import PyProof.Rows.All
import Wide.All
import OpenK.AllK
import Wide.FinOn
import Lean
import PyProof.EqAt
import PyProof.EqKinds
import PyProof.TupleCall
import PySem.Challenge.RW_formcycle_k24_rings
set_option Elab.async false
set_option linter.all false
set_option maxRecDepth 100000
set_option maxRecDepth 1000000
set_option maxHeartbeats 0
theorem My.said0 : PySem.Challenge.rw_formcycle_k24_rings.wellSaid = true := by kernel_rfl
namespace My
open PySem PySem.W
noncomputable def NT (tb : String → Option Builtin) (p : Program) (w : World) (m : Nat) (ann : Option Value) : Nat → SharedT → Thread → Option SharedT
  | 0, _, _ => none
  | k + 1, s, t => match through t with
    | true => some s
    | false => match stepOk m ann t with
      | false => none
      | true => match stepT (denote tb) p w s t with
        | some (s', t') => NT tb p w m ann k s' t'
        | none => none
theorem Ln {tb : String → Option Builtin} {p : Program} {w : World} {m : Nat} {ann : Option Value} : ∀ (k : Nat) {s r : SharedT} {t : Thread}, NT tb p w m ann k s t = some r → topRun tb p w m ann k s.abs t = some r.abs
  | 0, s, r, t, h => by cases h
  | k + 1, s, r, t, h => by
    unfold NT at h
    unfold topRun
    cases e : through t with
    | true =>
      rw [e] at h
      cases h
      rfl
    | false =>
      rw [e] at h
      dsimp only at h ⊢
      cases e2 : stepOk m ann t with
      | false => rw [e2] at h; cases h
      | true =>
        rw [e2] at h
        dsimp only at h ⊢
        cases e3 : stepT (denote tb) p w s t with
        | none => rw [e3] at h; cases h
        | some st =>
          obtain ⟨s', t'⟩ := st
          rw [e3] at h
          rw [stepT_spec e3]
          exact Ln k h
noncomputable def Yl : List Obj → Nat → BT → BT
  | [], _, t => t
  | o :: os, n, t => Yl os (n + 1) (t.ins n o)
noncomputable def KN (w : World) (os : OsState) : SharedT := ⟨Yl (boot_heap w.params).objs.toList 0 .nil, (boot_heap w.params).objs.size, (boot_heap w.params).life, Array.mk [], boot_drawn, boot_toks, os⟩
noncomputable def Bc (w : World) (os : OsState) : Shared := ⟨boot_heap w.params, Array.mk [], boot_drawn, boot_toks, os⟩
noncomputable def stays (p : Program) (s₀ s₁ : Shared) : Bool := staticsOk (importedModules p.main.body) s₀.heap s₁.heap && namesBound p s₁.heap && gensDone s₁ && laidKept s₀.heap s₁.heap
theorem boot_abs : ∀ w os, (KN w os).abs = Bc w os := fun w os => by kernel_rfl
theorem V6 {p : Program} {w : World} {N : Nat} {α : Type} {F : Shared → α} {g : α} (e : opening p = plainProg p.main.scope.names) (hN : Nat.ble 600 N = true) (f : ∀ s, fenceModules? p s = some s)
    (h : ∀ os, (NT treeTable p w (Bc w os).heap.objs.size ((Bc w os).heap.nsMap mainGlobals "__annotations__") N (KN w os) (topStub p)).map (fun r => (stays p (Bc w os) r.abs, F r.abs)) = some (true, g))
    (h0 : ∀ os, ((Bc w os).heap.isNs mainGlobals && (Bc w os).gens.size == 0) = true) : (openEnds treeTable p w N).map F = some g := by
  have hb := boot_open e hN f w
  unfold openEnds
  cases q : fencedOpening treeTable p w N with
  | none => rw [q] at hb; cases hb
  | some s =>
    rw [q] at hb
    have hs : s = Bc w s.os := by
      obtain ⟨a, b, c, d, o⟩ := s
      simp only [Option.map_some, Option.some.injEq, Prod.mk.injEq] at hb
      obtain ⟨rfl, rfl, rfl, rfl⟩ := hb
      rfl
    generalize s.os = o at hs
    subst hs
    show (topFrom treeTable p w N (Bc w o)).map F = some g
    unfold topFrom
    rw [h0 o]
    have hh := h o
    cases q2 : NT treeTable p w (Bc w o).heap.objs.size ((Bc w o).heap.nsMap mainGlobals "__annotations__") N (KN w o) (topStub p) with
    | none => rw [q2] at hh; cases hh
    | some r =>
      rw [q2] at hh
      have hr := Ln N q2
      rw [boot_abs] at hr
      simp only [Option.map_some, Option.some.injEq, Prod.mk.injEq] at hh
      obtain ⟨h1, h2⟩ := hh
      unfold stays at h1
      dsimp only
      rw [hr]
      show (match staticsOk (importedModules p.main.body) (Bc w o).heap r.abs.heap && namesBound p r.abs.heap && gensDone r.abs && laidKept (Bc w o).heap r.abs.heap with
        | true => some r.abs
        | false => none).map F = some g
      rw [h1]
      exact congrArg some h2
noncomputable def TR (p : Program) (w : World) (os : OsState) (N : Nat) : Option SharedT := NT treeTable p w (Bc w os).heap.objs.size ((Bc w os).heap.nsMap mainGlobals "__annotations__") N (KN w os) (topStub p)
theorem AcS {p : Program} {w : World} {N : Nat} {α β : Type} {F : Shared → α} {G : Shared → β} {f' : α} {g' : β} (e : opening p = plainProg p.main.scope.names) (hN : Nat.ble 600 N = true) (f : ∀ s, fenceModules? p s = some s)
    (h1 : ∀ os, (TR p w os N).map (fun r => stays p (Bc w os) r.abs) = some true) (h2 : ∀ os, (TR p w os N).map (fun r => F r.abs) = some f') (h3 : ∀ os, (TR p w os N).map (fun r => G r.abs) = some g')
    (h0 : ∀ os, ((Bc w os).heap.isNs mainGlobals && (Bc w os).gens.size == 0) = true) : (openEnds treeTable p w N).map (fun s => (F s, G s)) = some (f', g') :=
  V6 (F := fun s => (F s, G s)) e hN f (fun os => by
    have a := h1 os
    have b := h2 os
    have c := h3 os
    unfold TR at a b c
    revert a b c
    generalize NT treeTable p w (Bc w os).heap.objs.size ((Bc w os).heap.nsMap mainGlobals "__annotations__") N (KN w os) (topStub p) = o
    intro a b c
    cases o with
    | none => cases a
    | some r =>
      simp only [Option.map_some, Option.some.injEq] at a b c ⊢
      rw [a, b, c]) h0
end My
namespace My
open PySem PySem.W
noncomputable def goT (tb : String → Option Builtin) (p : Program) (w : World) (m : Nat) (ann : Option Value) : Nat → SharedT → Thread → Option (SharedT × Thread)
  | 0, s, t => some (s, t)
  | k + 1, s, t => match through t with
    | true => none
    | false => match stepOk m ann t with
      | false => none
      | true => match stepT (denote tb) p w s t with
        | some (s', t') => goT tb p w m ann k s' t'
        | none => none
theorem U9 {tb : String → Option Builtin} {p : Program} {w : World} {m : Nat} {ann : Option Value} : ∀ (k : Nat) {s s' : SharedT} {t t' : Thread}, goT tb p w m ann k s t = some (s', t') → topGo tb p w m ann k s.abs t = some (s'.abs, t')
  | 0, s, s', t, t', h => by cases h; rfl
  | k + 1, s, s', t, t', h => by
    unfold goT at h
    unfold topGo
    cases e : through t with
    | true => rw [e] at h; cases h
    | false =>
      rw [e] at h
      dsimp only at h ⊢
      cases e2 : stepOk m ann t with
      | false => rw [e2] at h; cases h
      | true =>
        rw [e2] at h
        dsimp only at h ⊢
        cases e3 : stepT (denote tb) p w s t with
        | none => rw [e3] at h; cases h
        | some st =>
          obtain ⟨s2, t2⟩ := st
          rw [e3] at h
          rw [stepT_spec e3]
          exact U9 k h
theorem SN {p : Program} {w : World} {N : Nat} {α : Type} {F : Shared → α} {g : α} (e : opening p = plainProg p.main.scope.names) (hN : Nat.ble 600 N = true) (f : ∀ s, fenceModules? p s = some s)
    (h : ∀ os, ∃ r : Shared, topRun treeTable p w (Bc w os).heap.objs.size ((Bc w os).heap.nsMap mainGlobals "__annotations__") N (Bc w os) (topStub p) = some r ∧ stays p (Bc w os) r = true ∧ F r = g)
    (h0 : ∀ os, ((Bc w os).heap.isNs mainGlobals && (Bc w os).gens.size == 0) = true) : (openEnds treeTable p w N).map F = some g := by
  have hb := boot_open e hN f w
  unfold openEnds
  cases q : fencedOpening treeTable p w N with
  | none => rw [q] at hb; cases hb
  | some s =>
    rw [q] at hb
    have hs : s = Bc w s.os := by
      obtain ⟨a, b, c, d, o⟩ := s
      simp only [Option.map_some, Option.some.injEq, Prod.mk.injEq] at hb
      obtain ⟨rfl, rfl, rfl, rfl⟩ := hb
      rfl
    generalize s.os = o at hs
    subst hs
    show (topFrom treeTable p w N (Bc w o)).map F = some g
    unfold topFrom
    rw [h0 o]
    obtain ⟨r, hr, h1, h2⟩ := h o
    unfold stays at h1
    dsimp only
    rw [hr]
    show (match staticsOk (importedModules p.main.body) (Bc w o).heap r.heap && namesBound p r.heap && gensDone r && laidKept (Bc w o).heap r.heap with
      | true => some r
      | false => none).map F = some g
    rw [h1]
    exact congrArg some h2
theorem VL {p : Program} {w : World} {N : Nat} {α β : Type} {F : Shared → α} {G : Shared → β} {f' : α} {g' : β} {TL : OsState → Option SharedT} (e : opening p = plainProg p.main.scope.names) (hN : Nat.ble 600 N = true) (f : ∀ s, fenceModules? p s = some s)
    (hr : ∀ os r, TL os = some r → topRun treeTable p w (Bc w os).heap.objs.size ((Bc w os).heap.nsMap mainGlobals "__annotations__") N (Bc w os) (topStub p) = some r.abs)
    (h1 : ∀ os, (TL os).map (fun r => stays p (Bc w os) r.abs) = some true) (h2 : ∀ os, (TL os).map (fun r => F r.abs) = some f') (h3 : ∀ os, (TL os).map (fun r => G r.abs) = some g')
    (h0 : ∀ os, ((Bc w os).heap.isNs mainGlobals && (Bc w os).gens.size == 0) = true) : (openEnds treeTable p w N).map (fun s => (F s, G s)) = some (f', g') :=
  SN (F := fun s => (F s, G s)) e hN f (fun os => by
    have a := h1 os
    have b := h2 os
    have c := h3 os
    have d := hr os
    cases q : TL os with
    | none => rw [q] at a; cases a
    | some r =>
      rw [q] at a b c
      simp only [Option.map_some, Option.some.injEq] at a b c
      exact ⟨_, d r q, a, by rw [b, c]⟩) h0
end My
set_option maxRecDepth 1000000
set_option maxHeartbeats 0
namespace My
open PySem PySem.W
noncomputable def tp (i : Nat) : Stmt := PySem.Challenge.pw_formcycle_k24_rings.main.body.getD i (.Pass ⟨0, 0, 0, 0⟩)
noncomputable def fA (s : Stmt) : Arguments := match s with
  | .FunctionDef _ a _ _ _ _ _ _ _ _ => a
  | _ => ⟨[], [], none, [], [], none, []⟩
noncomputable def fB (s : Stmt) : List Stmt := match s with
  | .FunctionDef _ _ b _ _ _ _ _ _ _ => b
  | _ => []
noncomputable def fS (s : Stmt) : Scope := match s with
  | .FunctionDef _ _ _ _ _ _ c _ _ _ => c
  | _ => ⟨.function, [], false, false, []⟩
noncomputable def inC (s : Stmt) (j : Nat) : Stmt := match s with
  | .ClassDef _ _ _ b _ _ _ _ _ _ _ => b.getD j (.Pass ⟨0, 0, 0, 0⟩)
  | _ => .Pass ⟨0, 0, 0, 0⟩
noncomputable section
noncomputable abbrev O := Obj
noncomputable abbrev sT (s : String) (t : Nat) : Value := .str (.ofString s) t
noncomputable abbrev iZ (n : Int) : Value := .int n 0
noncomputable abbrev dE (P : Params) (s : String) (t : Nat) (v : Value) : DictEntry := .mk (PyData.keyHash P (.ofString s)) (.str (.ofString s) t) v
noncomputable abbrev fO (n q : String) (w : Stmt) (m : String) (t c : Nat) : Obj := .mk (.type "function") none (Data.func (FuncData.mk (.ofString n) (.ofString q) (fA w) (.stmts (fB w)) (fS w) 3 [] .none .none .none (.str (.ofString m) t) none (.ref c) .none 0)) #[]
noncomputable abbrev tO (a : Array Value) : Obj := .mk (.type "tuple") none (Data.seq a) #[]
noncomputable abbrev cO (a : Array Value) : Obj := .mk (.type "code") none (Data.fields a) #[]
noncomputable abbrev nO (a : Array Value) : Obj := .mk .none none (Data.fields a) #[]
noncomputable abbrev mO (a : Array DictEntry) : Obj := .mk (.type "dict") none (Data.dict a) #[]
noncomputable abbrev bO (a : Array Value) : Obj := .mk (.type "builtin_function_or_method") none (Data.fields a) #[]
noncomputable abbrev Lf (o : Obj) : BT := .node o .nil .nil
noncomputable abbrev Nd (o : Obj) (l r : BT) : BT := .node o l r
noncomputable abbrev sF (t : Nat) : Value := .str (.ofString "/claim/cut.py") t
noncomputable def tE : Obj := .mk (.type "tuple") none (Data.seq #[]) #[]
noncomputable abbrev cF (n q : String) (a l k r t : Nat) : Obj := .mk (.type "code") none (Data.fields #[.str (.ofString n) a, .str (.ofString q) (a + 1), .str (.ofString "/claim/cut.py") (a + 2), .int l 0, .int k 0, .int 0 0, .int 0 0, .int 3 0, .ref r, .bool true, .int 181 0, .ref (r + 1), .none, .ref (r + 2), .ref (r + 3), .ref (r + 4), .int t 0, .int l 0, .str (.ofString "/claim/cut.py") (t + 1)]) #[]
noncomputable abbrev pO (n q : String) (w : Stmt) (c : Nat) : Obj := .mk .none none (Data.func (FuncData.mk (.ofString n) (.ofString q) (fA w) (.stmts (fB w)) (fS w) 3 [] .none .none .none .none none (.ref c) .none 0)) #[]
noncomputable abbrev rO (c l : Nat) (m : String) (t : Nat) : Obj := .mk (.type "frame") none Data.plain #[some (.ref c), some (.ref 3), some (.ref l), none, some (.str (.ofString m) t), none, some (.ref 0)]
noncomputable abbrev sO (c : Nat) : Obj := .mk (.type "super") none (Data.fields #[.ref c, .ref c, .ref c]) #[]
noncomputable abbrev dO (a : Array DictEntry) (n : Nat) : Obj := .mk (.type "dict") none (Data.dict a n) #[]
noncomputable abbrev xO (n : String) (b c d e t u : Nat) : Obj := .mk (.type "type") none (Data.cls (ClassData.mk (.ofString n) [.ref b] [.ref c, .ref b, .type "ValueError", .type "Exception", .type "BaseException", .type "object"] d (.ofString n) true [] [] false none false)) #[some (.ref e), none, some (.str (.ofString n) t), some (.str (.ofString n) u), some (.builtin "ValueError.__new__"), some (.bool true)]
noncomputable def o2:O:=.mk .none none (Data.dict #[]) #[]
noncomputable def o3 (P:Params):O:=dO #[dE P "__name__" 165 (sT "law_formcycle_k24_rings" 478),dE P "__doc__" 166 .none,dE P "__package__" 167 .none,dE P "__loader__" 168 (.builtin "__main__.__loader__#opaque"),dE P "__spec__" 169 .none,dE P "__annotations__" 170 (.ref 6),dE P "__builtins__" 171 (.ref 4),dE P "__file__" 173 (sF 172),dE P "__cached__" 174 .none,dE P "FormError" 206 (.ref 24),dE P "NoTurn" 231 (.ref 44),dE P "NoShape" 256 (.ref 63),dE P "TooGreat" 283 (.ref 82),dE P "NoRoot" 308 (.ref 101),dE P "root" 319 (.ref 110),dE P "is_square" 327 (.ref 117),dE P "check_at_most" 335 (.ref 124),dE P "SAME" 342 (.ref 125),dE P "is_turn" 349 (.ref 132),dE P "check_turn" 356 (.ref 139),dE P "put_behind" 364 (.ref 146),dE P "measure" 373 (.ref 153),dE P "value" 383 (.ref 160),dE P "moved" 393 (.ref 167),dE P "middle" 403 (.ref 174),dE P "shape" 411 (.ref 181),dE P "MOST_MEASURE" 415 (.int 4000 414),dE P "check_saddle" 422 (.ref 188),dE P "stands_level" 431 (.ref 195),dE P "turn_behind" 442 (.ref 202),dE P "stop_behind" 451 (.ref 209),dE P "eased" 460 (.ref 216),dE P "stops_round" 471 (.ref 223),dE P "round_of" 477 (.ref 228),dE P "_law_cell" 487 (.ref 235),dE P "_law_whole" 494 (.ref 242),dE P "_law_wholes" 500 (.ref 247),dE P "_law_bar" 507 (.ref 254),dE P "_law_root" 515 (.ref 261),dE P "_law_flat" 524 (.ref 268),dE P "_law_level" 532 (.ref 275),dE P "_law_behind" 544 (.ref 282),dE P "_law_saddle" 561 (.ref 289),dE P "_law_eased" 569 (.ref 296),dE P "_law_good" 579 (.ref 303),dE P "law" 591 (.ref 310)] 46
noncomputable def o15:O:=tO #[.type "ValueError"]
noncomputable def o23 (P:Params):O:=dO #[dE P "__module__" 196 (sT "formcycle.errors" 187),dE P "__firstlineno__" 200 (.int 2 199),dE P "__static_attributes__" 201 (.ref 22),dE P "__weakref__" 203 (.ref 25),dE P "__doc__" 204 .none] 3
noncomputable def o24:O:=.mk (.type "type") none (Data.cls (ClassData.mk (.ofString "FormError") [.type "ValueError"] [.ref 24, .type "ValueError", .type "Exception", .type "BaseException", .type "object"] 23 (.ofString "FormError") Bool.true [] [.ref 44,.ref 63,.ref 82,.ref 101] Bool.false none Bool.false)) #[some (.ref 15), none, some (sT "FormError" 189), some (sT "FormError" 197), some (.builtin "ValueError.__new__"), some (.bool true)]
noncomputable def o25:O:=.mk (.type "getset_descriptor") none (Data.fields #[sT "__weakref__" 202,.ref 24, .builtin "ExceptionGroup.__weakref__", .none]) #[]
noncomputable def o28:O:=tO #[.ref 24]
noncomputable def o37:O:=tO #[sT "self" 222,sT "turn" 223]
noncomputable def o40:O:=cF "__init__" "NoTurn.__init__" 219 6 2 35 224
noncomputable def o41:O:=fO "__init__" "NoTurn.__init__" (inC (tp 2) 0) "formcycle.errors" 187 40
noncomputable def o42:O:=tO #[sT "turn" 227]
noncomputable def o43 (P:Params):O:=dO #[dE P "__module__" 214 (sT "formcycle.errors" 187),dE P "__firstlineno__" 218 (.int 4 217),dE P "__init__" 226 (.ref 41),dE P "__static_attributes__" 228 (.ref 42),dE P "__doc__" 229 .none] 2
noncomputable def o44:O:=xO "NoTurn" 24 44 43 28 207 215
noncomputable def o47:O:=tO #[.ref 24]
noncomputable def o56:O:=tO #[sT "self" 247,sT "form" 248]
noncomputable def o59:O:=cF "__init__" "NoShape.__init__" 244 10 2 54 249
noncomputable def o60:O:=fO "__init__" "NoShape.__init__" (inC (tp 3) 0) "formcycle.errors" 187 59
noncomputable def o61:O:=tO #[sT "form" 252]
noncomputable def o62 (P:Params):O:=dO #[dE P "__module__" 239 (sT "formcycle.errors" 187),dE P "__firstlineno__" 243 (.int 8 242),dE P "__init__" 251 (.ref 60),dE P "__static_attributes__" 253 (.ref 61),dE P "__doc__" 254 .none] 2
noncomputable def o63:O:=xO "NoShape" 24 63 62 47 232 240
noncomputable def o66:O:=tO #[.ref 24]
noncomputable def o75:O:=tO #[sT "self" 272,sT "number" 273,sT "most" 274]
noncomputable def o78:O:=cF "__init__" "TooGreat.__init__" 269 14 3 73 275
noncomputable def o79:O:=fO "__init__" "TooGreat.__init__" (inC (tp 4) 0) "formcycle.errors" 187 78
noncomputable def o80:O:=tO #[sT "most" 278,sT "number" 279]
noncomputable def o81 (P:Params):O:=dO #[dE P "__module__" 264 (sT "formcycle.errors" 187),dE P "__firstlineno__" 268 (.int 12 267),dE P "__init__" 277 (.ref 79),dE P "__static_attributes__" 280 (.ref 80),dE P "__doc__" 281 .none] 2
noncomputable def o82:O:=xO "TooGreat" 24 82 81 66 257 265
noncomputable def o85:O:=tO #[.ref 24]
noncomputable def o94:O:=tO #[sT "self" 299,sT "number" 300]
noncomputable def o97:O:=cF "__init__" "NoRoot.__init__" 296 19 2 92 301
noncomputable def o98:O:=fO "__init__" "NoRoot.__init__" (inC (tp 5) 0) "formcycle.errors" 187 97
noncomputable def o99:O:=tO #[sT "number" 304]
noncomputable def o100 (P:Params):O:=dO #[dE P "__module__" 291 (sT "formcycle.errors" 187),dE P "__firstlineno__" 295 (.int 17 294),dE P "__init__" 303 (.ref 98),dE P "__static_attributes__" 305 (.ref 99),dE P "__doc__" 306 .none] 2
noncomputable def AcV:O:=xO "NoRoot" 24 101 100 85 284 292
noncomputable def AcG:O:=tO #[sT "number" 314,sT "guess" 315,sT "better" 316]
noncomputable def Aco:O:=cF "root" "root" 311 22 1 104 317
noncomputable def Abt:O:=fO "root" "root" (tp 7) "formcycle.wholes" 309 109
noncomputable def AcC:O:=tO #[sT "number" 323,sT "side" 324]
noncomputable def AcU:O:=cF "is_square" "is_square" 320 33 1 111 325
noncomputable def Abi:O:=fO "is_square" "is_square" (tp 8) "formcycle.wholes" 309 116
noncomputable def Abl:O:=tO #[sT "number" 331,sT "most" 332]
noncomputable def Abq:O:=cF "check_at_most" "check_at_most" 328 38 2 118 333
noncomputable def AcX:O:=fO "check_at_most" "check_at_most" (tp 9) "formcycle.wholes" 309 123
noncomputable def Acj:O:=tO #[.int 1 338, .int 0 339, .int 0 340, .int 1 341]
noncomputable def AbV:O:=tO #[sT "turn" 346]
noncomputable def Ab2:O:=cF "is_turn" "is_turn" 343 43 1 126 347
noncomputable def Aa8:O:=fO "is_turn" "is_turn" (tp 12) "formcycle.turns" 336 131
noncomputable def AcP:O:=tO #[sT "turn" 353]
noncomputable def AcA:O:=cF "check_turn" "check_turn" 350 45 1 133 354
noncomputable def AbL:O:=fO "check_turn" "check_turn" (tp 13) "formcycle.turns" 336 138
noncomputable def Acs:O:=tO #[sT "one" 360,sT "other" 361]
noncomputable def Abp:O:=cF "put_behind" "put_behind" 357 48 2 140 362
noncomputable def Ab8:O:=fO "put_behind" "put_behind" (tp 14) "formcycle.turns" 336 145
noncomputable def Abj:O:=tO #[sT "form" 370]
noncomputable def Ac4:O:=cF "measure" "measure" 367 51 1 147 371
noncomputable def AcR:O:=fO "measure" "measure" (tp 16) "formcycle.forms" 365 152
noncomputable def Ab0:O:=tO #[sT "form" 377,sT "point" 378,sT "x" 379,sT "y" 380]
noncomputable def Ab3:O:=cF "value" "value" 374 53 2 154 381
noncomputable def Ab9:O:=fO "value" "value" (tp 17) "formcycle.forms" 365 159
noncomputable def Aba:O:=tO #[sT "form" 387,sT "turn" 388,sT "left" 389,sT "right" 390]
noncomputable def Ach:O:=cF "moved" "moved" 384 57 2 161 391
noncomputable def Ab4:O:=fO "moved" "moved" (tp 18) "formcycle.forms" 365 166
noncomputable def AbO:O:=tO #[sT "form" 397,sT "left" 398,sT "right" 399,sT "crossed" 400]
noncomputable def Abh:O:=cF "middle" "middle" 394 62 3 168 401
noncomputable def AcL:O:=fO "middle" "middle" (tp 19) "formcycle.forms" 365 173
noncomputable def AdM:O:=tO #[sT "form" 407,sT "number" 408]
noncomputable def Aeo:O:=cF "shape" "shape" 404 65 1 175 409
noncomputable def Aed:O:=fO "shape" "shape" (tp 20) "formcycle.forms" 365 180
noncomputable def Adp:O:=tO #[sT "form" 419]
noncomputable def AeL:O:=cF "check_saddle" "check_saddle" 416 76 1 182 420
noncomputable def Adm:O:=fO "check_saddle" "check_saddle" (tp 23) "formcycle.saddles" 412 187
noncomputable def Aee:O:=tO #[sT "form" 426,sT "far" 427,sT "b" 428]
noncomputable def AdW:O:=cF "stands_level" "stands_level" 423 80 2 189 429
noncomputable def AdR:O:=fO "stands_level" "stands_level" (tp 24) "formcycle.saddles" 412 194
noncomputable def AdY:O:=tO #[sT "form" 435,sT "top" 436,sT "b" 437,sT "c" 438,sT "d" 439]
noncomputable def AeK:O:=cF "turn_behind" "turn_behind" 432 83 2 196 440
noncomputable def AeM:O:=fO "turn_behind" "turn_behind" (tp 25) "formcycle.saddles" 412 201
noncomputable def AeW:O:=tO #[sT "stop" 446,sT "top" 447,sT "turn" 448]
noncomputable def Aei:O:=cF "stop_behind" "stop_behind" 443 88 2 203 449
noncomputable def Ado:O:=fO "stop_behind" "stop_behind" (tp 26) "formcycle.saddles" 412 208
noncomputable def AdI:O:=tO #[sT "form" 455,sT "far" 456,sT "stop" 457]
noncomputable def AeP:O:=cF "eased" "eased" 452 91 1 210 458
noncomputable def AdO:O:=fO "eased" "eased" (tp 27) "formcycle.saddles" 412 215
noncomputable def Adn:O:=tO #[sT "form" 464,sT "far" 465,sT "first" 466,sT "stops" 467,sT "stop" 468]
noncomputable def Aew:O:=cF "stops_round" "stops_round" 461 98 1 217 469
noncomputable def Ads:O:=fO "stops_round" "stops_round" (tp 28) "formcycle.saddles" 412 222
noncomputable def AdA:O:=cO #[sT "round_of" 472,sT "round_of" 473, sF 474,iZ 108,iZ 1,iZ 0,iZ 0,iZ 3,.ref 224, .bool true,iZ 181,.ref 225, .none, .none, .none,.ref 226,iZ 475,iZ 108, sF 476]
noncomputable def Aet:O:=fO "round_of" "round_of" (tp 29) "formcycle.saddles" 412 227
noncomputable def AeH:O:=tO #[sT "_law_script" 483,sT "_law_k" 484]
noncomputable def Aer:O:=cF "_law_cell" "_law_cell" 480 114 2 229 485
noncomputable def AdH:O:=fO "_law_cell" "_law_cell" (tp 31) "law_formcycle_k24_rings" 478 234
noncomputable def Aea:O:=tO #[sT "_law_found" 491]
noncomputable def Adf:O:=cF "_law_whole" "_law_whole" 488 118 1 236 492
noncomputable def Adw:O:=fO "_law_whole" "_law_whole" (tp 32) "law_formcycle_k24_rings" 478 241
noncomputable def Ad8:O:=cO #[sT "_law_wholes" 495,sT "_law_wholes" 496, sF 497,iZ 120,iZ 2,iZ 0,iZ 0,iZ 3,.ref 243, .bool true,iZ 181,.ref 244, .none, .none, .none,.ref 245,iZ 498,iZ 120, sF 499]
noncomputable def AeA:O:=fO "_law_wholes" "_law_wholes" (tp 33) "law_formcycle_k24_rings" 478 246
noncomputable def AdN:O:=tO #[sT "_law_form" 504]
noncomputable def Aex:O:=cF "_law_bar" "_law_bar" 501 124 1 248 505
noncomputable def Adk:O:=fO "_law_bar" "_law_bar" (tp 34) "law_formcycle_k24_rings" 478 253
noncomputable def Aek:O:=tO #[sT "_law_number" 511,sT "_law_near" 512]
noncomputable def Aes:O:=cF "_law_root" "_law_root" 508 126 1 255 513
noncomputable def Aef:O:=fO "_law_root" "_law_root" (tp 35) "law_formcycle_k24_rings" 478 260
noncomputable def AeT:O:=tO #[sT "_law_form" 519,sT "_law_bar_here" 520,sT "_law_far" 521]
noncomputable def AeR:O:=cF "_law_flat" "_law_flat" 516 131 1 262 522
noncomputable def Adi:O:=fO "_law_flat" "_law_flat" (tp 36) "law_formcycle_k24_rings" 478 267
noncomputable def Ada:O:=tO #[sT "_law_form" 528,sT "_law_far" 529]
noncomputable def Ad1:O:=cF "_law_level" "_law_level" 525 135 2 269 530
noncomputable def Ady:O:=fO "_law_level" "_law_level" (tp 37) "law_formcycle_k24_rings" 478 274
noncomputable def Aeq:O:=tO #[sT "_law_form" 536,sT "_law_top" 537,sT "_law_a" 538,sT "_law_b" 539,sT "_law_c" 540,sT "_law_d" 541]
noncomputable def AdG:O:=cF "_law_behind" "_law_behind" 533 137 2 276 542
noncomputable def AeJ:O:=fO "_law_behind" "_law_behind" (tp 38) "law_formcycle_k24_rings" 478 281
noncomputable def Aeg:O:=tO #[sT "_law_one" 548,sT "_law_two" 549,sT "_law_three" 550,sT "_law_often" 551,sT "_law_size" 552,sT "_law_m" 553,sT "_law_b" 554,sT "_law_rest" 555,sT "_law_most" 556,sT "_law_bar_here" 557,sT "_law_sign" 558]
noncomputable def AdV:O:=cF "_law_saddle" "_law_saddle" 545 141 3 283 559
noncomputable def AeU:O:=fO "_law_saddle" "_law_saddle" (tp 39) "law_formcycle_k24_rings" 478 288
noncomputable def AeO:O:=tO #[sT "_law_form" 565,sT "_law_far" 566]
noncomputable def Aeu:O:=cF "_law_eased" "_law_eased" 562 151 2 290 567
noncomputable def Adu:O:=fO "_law_eased" "_law_eased" (tp 40) "law_formcycle_k24_rings" 478 295
noncomputable def Ad5:O:=tO #[sT "_law_form" 573,sT "_law_found" 574,sT "_law_far" 575,sT "_law_k" 576]
noncomputable def Adz:O:=cF "_law_good" "_law_good" 570 155 2 297 577
noncomputable def Ad0:O:=fO "_law_good" "_law_good" (tp 41) "law_formcycle_k24_rings" 478 302
noncomputable def Aez:O:=tO #[sT "_law_script" 583,sT "_law_one" 584,sT "_law_other" 585,sT "_law_found" 586,sT "_law_kept" 587,sT "_law_beside" 588]
noncomputable def Aep:O:=cF "law" "law" 580 165 1 304 589
noncomputable def AeE:O:=fO "law" "law" (tp 42) "law_formcycle_k24_rings" 478 309
noncomputable def KK : Params → Frag :=
fun P => (nat_lit 2,o2)::(nat_lit 3,o3 P)::(nat_lit 15,o15)::(nat_lit 22,tE)::(nat_lit 23,o23 P)::(nat_lit 24,o24)::(nat_lit 25,o25)::(nat_lit 28,o28)::(nat_lit 35,tE)::(nat_lit 37,o37)::(nat_lit 38,tE)::(nat_lit 40,o40)::(nat_lit 41,o41)::(nat_lit 42,o42)::(nat_lit 43,o43 P)::(nat_lit 44,o44)::(nat_lit 47,o47)::(nat_lit 54,tE)::(nat_lit 56,o56)::(nat_lit 57,tE)::(nat_lit 59,o59)::(nat_lit 60,o60)::(nat_lit 61,o61)::(nat_lit 62,o62 P)::(nat_lit 63,o63)::(nat_lit 66,o66)::(nat_lit 73,tE)::(nat_lit 75,o75)::(nat_lit 76,tE)::(nat_lit 78,o78)::(nat_lit 79,o79)::(nat_lit 80,o80)::(nat_lit 81,o81 P)::(nat_lit 82,o82)::(nat_lit 85,o85)::(nat_lit 92,tE)::(nat_lit 94,o94)::(nat_lit 95,tE)::(nat_lit 97,o97)::(nat_lit 98,o98)::(nat_lit 99,o99)::(nat_lit 100,o100 P)::(nat_lit 101,AcV)::(nat_lit 104,tE)::(nat_lit 106,AcG)::(nat_lit 107,tE)::(nat_lit 109,Aco)::(nat_lit 110,Abt)::(nat_lit 111,tE)::(nat_lit 113,AcC)::(nat_lit 114,tE)::(nat_lit 116,AcU)::(nat_lit 117,Abi)::(nat_lit 118,tE)::(nat_lit 120,Abl)::(nat_lit 121,tE)::(nat_lit 123,Abq)::(nat_lit 124,AcX)::(nat_lit 125,Acj)::(nat_lit 126,tE)::(nat_lit 128,AbV)::(nat_lit 129,tE)::(nat_lit 131,Ab2)::(nat_lit 132,Aa8)::(nat_lit 133,tE)::(nat_lit 135,AcP)::(nat_lit 136,tE)::(nat_lit 138,AcA)::(nat_lit 139,AbL)::(nat_lit 140,tE)::(nat_lit 142,Acs)::(nat_lit 143,tE)::(nat_lit 145,Abp)::(nat_lit 146,Ab8)::(nat_lit 147,tE)::(nat_lit 149,Abj)::(nat_lit 150,tE)::(nat_lit 152,Ac4)::(nat_lit 153,AcR)::(nat_lit 154,tE)::(nat_lit 156,Ab0)::(nat_lit 157,tE)::(nat_lit 159,Ab3)::(nat_lit 160,Ab9)::(nat_lit 161,tE)::(nat_lit 163,Aba)::(nat_lit 164,tE)::(nat_lit 166,Ach)::(nat_lit 167,Ab4)::(nat_lit 168,tE)::(nat_lit 170,AbO)::(nat_lit 171,tE)::(nat_lit 173,Abh)::(nat_lit 174,AcL)::(nat_lit 175,tE)::(nat_lit 177,AdM)::(nat_lit 178,tE)::(nat_lit 180,Aeo)::(nat_lit 181,Aed)::(nat_lit 182,tE)::(nat_lit 184,Adp)::(nat_lit 185,tE)::(nat_lit 187,AeL)::(nat_lit 188,Adm)::(nat_lit 189,tE)::(nat_lit 191,Aee)::(nat_lit 192,tE)::(nat_lit 194,AdW)::(nat_lit 195,AdR)::(nat_lit 196,tE)::(nat_lit 198,AdY)::(nat_lit 199,tE)::(nat_lit 201,AeK)::(nat_lit 202,AeM)::(nat_lit 203,tE)::(nat_lit 205,AeW)::(nat_lit 206,tE)::(nat_lit 208,Aei)::(nat_lit 209,Ado)::(nat_lit 210,tE)::(nat_lit 212,AdI)::(nat_lit 213,tE)::(nat_lit 215,AeP)::(nat_lit 216,AdO)::(nat_lit 217,tE)::(nat_lit 219,Adn)::(nat_lit 220,tE)::(nat_lit 222,Aew)::(nat_lit 223,Ads)::(nat_lit 224,tE)::(nat_lit 227,AdA)::(nat_lit 228,Aet)::(nat_lit 229,tE)::(nat_lit 231,AeH)::(nat_lit 232,tE)::(nat_lit 234,Aer)::(nat_lit 235,AdH)::(nat_lit 236,tE)::(nat_lit 238,Aea)::(nat_lit 239,tE)::(nat_lit 241,Adf)::(nat_lit 242,Adw)::(nat_lit 243,tE)::(nat_lit 246,Ad8)::(nat_lit 247,AeA)::(nat_lit 248,tE)::(nat_lit 250,AdN)::(nat_lit 251,tE)::(nat_lit 253,Aex)::(nat_lit 254,Adk)::(nat_lit 255,tE)::(nat_lit 257,Aek)::(nat_lit 258,tE)::(nat_lit 260,Aes)::(nat_lit 261,Aef)::(nat_lit 262,tE)::(nat_lit 264,AeT)::(nat_lit 265,tE)::(nat_lit 267,AeR)::(nat_lit 268,Adi)::(nat_lit 269,tE)::(nat_lit 271,Ada)::(nat_lit 272,tE)::(nat_lit 274,Ad1)::(nat_lit 275,Ady)::(nat_lit 276,tE)::(nat_lit 278,Aeq)::(nat_lit 279,tE)::(nat_lit 281,AdG)::(nat_lit 282,AeJ)::(nat_lit 283,tE)::(nat_lit 285,Aeg)::(nat_lit 286,tE)::(nat_lit 288,AdV)::(nat_lit 289,AeU)::(nat_lit 290,tE)::(nat_lit 292,AeO)::(nat_lit 293,tE)::(nat_lit 295,Aeu)::(nat_lit 296,Adu)::(nat_lit 297,tE)::(nat_lit 299,Ad5)::(nat_lit 300,tE)::(nat_lit 302,Adz)::(nat_lit 303,Ad0)::(nat_lit 304,tE)::(nat_lit 306,Aez)::(nat_lit 307,tE)::(nat_lit 309,Aep)::(nat_lit 310,AeE)::[]
noncomputable def DQ:O:=nO #[]
noncomputable def X6:O:=cO #[sT "<module>" 182,sT "<module>" 183, sF 184,iZ 1,iZ 0,iZ 0,iZ 0,iZ 0,.ref 11, .bool false,iZ 181,.ref 12, .none, .none, .none, .none,iZ 185,iZ 1, sF 186]
noncomputable def Yy:O:=rO 13 3 "__main__" 164
noncomputable def Acq (P:Params):O:=dO #[dE P "__name__" 165 (sT "formcycle.forms" 365),dE P "__doc__" 166 .none,dE P "__package__" 167 .none,dE P "__loader__" 168 (.builtin "__main__.__loader__#opaque"),dE P "__spec__" 169 .none,dE P "__annotations__" 170 (.ref 6),dE P "__builtins__" 171 (.ref 4),dE P "__file__" 173 (sF 172),dE P "__cached__" 174 .none,dE P "FormError" 206 (.ref 24),dE P "NoTurn" 231 (.ref 44),dE P "NoShape" 256 (.ref 63),dE P "TooGreat" 283 (.ref 82),dE P "NoRoot" 308 (.ref 101),dE P "root" 319 (.ref 110),dE P "is_square" 327 (.ref 117),dE P "check_at_most" 335 (.ref 124),dE P "SAME" 342 (.ref 125),dE P "is_turn" 349 (.ref 132),dE P "check_turn" 356 (.ref 139),dE P "put_behind" 364 (.ref 146),dE P "measure" 373 (.ref 153),dE P "value" 383 (.ref 160),dE P "moved" 393 (.ref 167),dE P "middle" 403 (.ref 174)] 25
noncomputable def ZJ:O:=nO #[iZ 2,iZ 0,.ref 20,iZ 4,iZ 0,.ref 33,iZ 8,iZ 0,.ref 52,iZ 12,iZ 0,.ref 71,iZ 17,iZ 0,.ref 90,iZ 22,iZ 0,.ref 109,iZ 33,iZ 0,.ref 116,iZ 38,iZ 0,.ref 123,iZ 43,iZ 0,.ref 131,iZ 45,iZ 0,.ref 138,iZ 48,iZ 0,.ref 145,iZ 51,iZ 0,.ref 152,iZ 53,iZ 0,.ref 159,iZ 57,iZ 0,.ref 166,iZ 62,iZ 0,.ref 173]
noncomputable def JV:O:=bO #[.builtin "type.__prepare__", .type "type"]
noncomputable def Aag (P:Params):O:=dO #[dE P "__module__" 196 (sT "formcycle.errors" 187),dE P "__qualname__" 198 (sT "FormError" 197),dE P "__firstlineno__" 200 (.int 2 199),dE P "__static_attributes__" 201 (.ref 22)] 4
noncomputable def Aac:O:=cO #[sT "FormError" 191,sT "FormError" 192, sF 193,iZ 2,iZ 0,iZ 0,iZ 0,iZ 0,.ref 18, .bool false,iZ 181,.ref 19, .none, .none, .none, .none,iZ 194,iZ 2, sF 195]
noncomputable def Zt:O:=rO 20 17 "formcycle.errors" 187
noncomputable def Aat:O:=sO 24
noncomputable def ZG:O:=bO #[.builtin "object.__init_subclass__",.ref 24]
noncomputable def AaZ (P:Params):O:=dO #[dE P "__module__" 214 (sT "formcycle.errors" 187),dE P "__qualname__" 216 (sT "NoTurn" 215),dE P "__firstlineno__" 218 (.int 4 217),dE P "__init__" 226 (.ref 41),dE P "__static_attributes__" 228 (.ref 42)] 5
noncomputable def AaT:O:=nO #[iZ 6,iZ 4,.ref 40]
noncomputable def Aa2:O:=cO #[sT "NoTurn" 209,sT "NoTurn" 210, sF 211,iZ 4,iZ 0,iZ 0,iZ 0,iZ 0,.ref 31, .bool false,iZ 181,.ref 32, .none, .none, .none, .none,iZ 212,iZ 4, sF 213]
noncomputable def Y5:O:=rO 33 30 "formcycle.errors" 187
noncomputable def AaN:O:=.mk .none none (Data.func (FuncData.mk (.ofString "__init__") (.ofString "NoTurn.__init__") (fA (inC (tp 2) 0)) (.stmts (fB (inC (tp 2) 0))) (fS (inC (tp 2) 0)) 0 [] .none .none .none .none none .none .none 0)) #[]
noncomputable def Y9:O:=sO 44
noncomputable def AaB:O:=bO #[.builtin "object.__init_subclass__",.ref 44]
noncomputable def Z8 (P:Params):O:=dO #[dE P "__module__" 239 (sT "formcycle.errors" 187),dE P "__qualname__" 241 (sT "NoShape" 240),dE P "__firstlineno__" 243 (.int 8 242),dE P "__init__" 251 (.ref 60),dE P "__static_attributes__" 253 (.ref 61)] 5
noncomputable def Z1:O:=nO #[iZ 10,iZ 4,.ref 59]
noncomputable def YM:O:=cO #[sT "NoShape" 234,sT "NoShape" 235, sF 236,iZ 8,iZ 0,iZ 0,iZ 0,iZ 0,.ref 50, .bool false,iZ 181,.ref 51, .none, .none, .none, .none,iZ 237,iZ 8, sF 238]
noncomputable def Z4:O:=rO 52 49 "formcycle.errors" 187
noncomputable def Z2:O:=.mk .none none (Data.func (FuncData.mk (.ofString "__init__") (.ofString "NoShape.__init__") (fA (inC (tp 3) 0)) (.stmts (fB (inC (tp 3) 0))) (fS (inC (tp 3) 0)) 0 [] .none .none .none .none none .none .none 0)) #[]
noncomputable def AaS:O:=sO 63
noncomputable def ZW:O:=bO #[.builtin "object.__init_subclass__",.ref 63]
noncomputable def Zb (P:Params):O:=dO #[dE P "__module__" 264 (sT "formcycle.errors" 187),dE P "__qualname__" 266 (sT "TooGreat" 265),dE P "__firstlineno__" 268 (.int 12 267),dE P "__init__" 277 (.ref 79),dE P "__static_attributes__" 280 (.ref 80)] 5
noncomputable def Aas:O:=nO #[iZ 14,iZ 4,.ref 78]
noncomputable def AaK:O:=cO #[sT "TooGreat" 259,sT "TooGreat" 260, sF 261,iZ 12,iZ 0,iZ 0,iZ 0,iZ 0,.ref 69, .bool false,iZ 181,.ref 70, .none, .none, .none, .none,iZ 262,iZ 12, sF 263]
noncomputable def Aau:O:=rO 71 68 "formcycle.errors" 187
noncomputable def Aa5:O:=.mk .none none (Data.func (FuncData.mk (.ofString "__init__") (.ofString "TooGreat.__init__") (fA (inC (tp 4) 0)) (.stmts (fB (inC (tp 4) 0))) (fS (inC (tp 4) 0)) 0 [] .none .none .none .none none .none .none 0)) #[]
noncomputable def Zc:O:=sO 82
noncomputable def ZS:O:=bO #[.builtin "object.__init_subclass__",.ref 82]
noncomputable def Aa0 (P:Params):O:=dO #[dE P "__module__" 291 (sT "formcycle.errors" 187),dE P "__qualname__" 293 (sT "NoRoot" 292),dE P "__firstlineno__" 295 (.int 17 294),dE P "__init__" 303 (.ref 98),dE P "__static_attributes__" 305 (.ref 99)] 5
noncomputable def ZF:O:=nO #[iZ 19,iZ 4,.ref 97]
noncomputable def Zj:O:=cO #[sT "NoRoot" 286,sT "NoRoot" 287, sF 288,iZ 17,iZ 0,iZ 0,iZ 0,iZ 0,.ref 88, .bool false,iZ 181,.ref 89, .none, .none, .none, .none,iZ 289,iZ 17, sF 290]
noncomputable def AaW:O:=rO 90 87 "formcycle.errors" 187
noncomputable def Z5:O:=.mk .none none (Data.func (FuncData.mk (.ofString "__init__") (.ofString "NoRoot.__init__") (fA (inC (tp 5) 0)) (.stmts (fB (inC (tp 5) 0))) (fS (inC (tp 5) 0)) 0 [] .none .none .none .none none .none .none 0)) #[]
noncomputable def V7:O:=sO 101
noncomputable def WM:O:=bO #[.builtin "object.__init_subclass__",.ref 101]
noncomputable def V3:O:=.mk .none none (Data.func (FuncData.mk (.ofString "root") (.ofString "root") (fA (tp 7)) (.stmts (fB (tp 7))) (fS (tp 7)) 0 [] .none .none .none .none none .none .none 0)) #[]
noncomputable def XR:O:=.mk .none none (Data.func (FuncData.mk (.ofString "is_square") (.ofString "is_square") (fA (tp 8)) (.stmts (fB (tp 8))) (fS (tp 8)) 0 [] .none .none .none .none none .none .none 0)) #[]
noncomputable def Wi:O:=.mk .none none (Data.func (FuncData.mk (.ofString "check_at_most") (.ofString "check_at_most") (fA (tp 9)) (.stmts (fB (tp 9))) (fS (tp 9)) 0 [] .none .none .none .none none .none .none 0)) #[]
noncomputable def W6:O:=.mk .none none (Data.func (FuncData.mk (.ofString "is_turn") (.ofString "is_turn") (fA (tp 12)) (.stmts (fB (tp 12))) (fS (tp 12)) 0 [] .none .none .none .none none .none .none 0)) #[]
noncomputable def Wj:O:=.mk .none none (Data.func (FuncData.mk (.ofString "check_turn") (.ofString "check_turn") (fA (tp 13)) (.stmts (fB (tp 13))) (fS (tp 13)) 0 [] .none .none .none .none none .none .none 0)) #[]
noncomputable def Wf:O:=.mk .none none (Data.func (FuncData.mk (.ofString "put_behind") (.ofString "put_behind") (fA (tp 14)) (.stmts (fB (tp 14))) (fS (tp 14)) 0 [] .none .none .none .none none .none .none 0)) #[]
noncomputable def Xg:O:=.mk .none none (Data.func (FuncData.mk (.ofString "measure") (.ofString "measure") (fA (tp 16)) (.stmts (fB (tp 16))) (fS (tp 16)) 0 [] .none .none .none .none none .none .none 0)) #[]
noncomputable def Xw:O:=.mk .none none (Data.func (FuncData.mk (.ofString "value") (.ofString "value") (fA (tp 17)) (.stmts (fB (tp 17))) (fS (tp 17)) 0 [] .none .none .none .none none .none .none 0)) #[]
noncomputable def W7:O:=.mk .none none (Data.func (FuncData.mk (.ofString "moved") (.ofString "moved") (fA (tp 18)) (.stmts (fB (tp 18))) (fS (tp 18)) 0 [] .none .none .none .none none .none .none 0)) #[]
noncomputable def Wv:O:=.mk .none none (Data.func (FuncData.mk (.ofString "middle") (.ofString "middle") (fA (tp 19)) (.stmts (fB (tp 19))) (fS (tp 19)) 0 [] .none .none .none .none none .none .none 0)) #[]
noncomputable def tr0 (P : Params) : BT := Nd (boot_o_0 P) (Nd (boot_o_1 P) (Nd (boot_o_3 P) (Lf (boot_o_7 P)) (Lf tE)) (Nd (boot_o_5 P) (Lf (boot_o_9 P)) (Lf X6))) (Nd (boot_o_2 P) (Nd (boot_o_4 P) (Lf (boot_o_8 P)) (Lf DQ)) (Nd (boot_o_6 P) (Lf (boot_o_10 P)) (Lf Yy)))
noncomputable def St0 (w : World) (os : OsState) : SharedT := ⟨tr0 w.params, 15, Life.mk [] [] [] 0 [] [] Bool.false #[] [] 0 Bool.false Bool.false Bool.false 0 [2000, 10, 10] Bool.false 0 Bool.true [] [] 0 Bool.false, Array.mk [], Drawn.mk 0 0 0 0, 187, os⟩
noncomputable def ps0 : Pos := ⟨0, 0, 0, 0⟩
noncomputable def Adh (P : Params) : BT := Nd (boot_o_0 P) (Nd (boot_o_1 P) (Nd (Acq P) (Nd (boot_o_7 P) (Nd o15 (Nd tE (Nd o63 (Lf DQ) .nil) (Nd tE (Lf Ab3) .nil)) (Nd o47 (Nd o79 (Lf tE) .nil) (Lf tE))) (Nd (o23 P) (Nd AaN (Nd AaK (Lf AcP) .nil) (Nd WM (Lf Ab4) .nil)) (Nd DQ (Nd (Aa0 P) (Lf Xg) .nil) (Lf DQ)))) (Nd tE (Nd DQ (Nd tE (Nd JV (Lf Ab2) .nil) (Nd o99 (Lf Aba) .nil)) (Nd Z1 (Nd Zc (Lf tE) .nil) (Lf XR))) (Nd ZG (Nd (o43 P) (Nd o75 (Lf AbL) .nil) (Nd tE (Lf tE) .nil)) (Nd o59 (Nd AaW (Lf DQ) .nil) (Lf Abq))))) (Nd (boot_o_5 P) (Nd (boot_o_9 P) (Nd (Aag P) (Nd Aa2 (Nd ZW (Lf tE) .nil) (Nd o97 (Lf tE) .nil)) (Nd (Z8 P) (Nd (o81 P) (Lf Abp) .nil) (Lf AcC))) (Nd o25 (Nd o41 (Nd tE (Lf Wj) .nil) (Nd DQ (Lf DQ) .nil)) (Nd tE (Nd ZF (Lf AcR) .nil) (Lf tE)))) (Nd X6 (Nd Zt (Nd o37 (Nd tE (Lf tE) .nil) (Nd AcV (Lf W7) .nil)) (Nd Z4 (Nd o85 (Lf Abj) .nil) (Lf Abi))) (Nd JV (Nd Y9 (Nd Aa5 (Lf DQ) .nil) (Nd Aco (Lf Abh) .nil)) (Nd o61 (Nd DQ (Lf tE) .nil) (Lf Acj)))))) (Nd (boot_o_2 P) (Nd (boot_o_4 P) (Nd (boot_o_8 P) (Nd JV (Nd AaT (Nd AaS (Lf AbV) .nil) (Nd Z5 (Lf Ab9) .nil)) (Nd JV (Nd o80 (Lf Wf) .nil) (Lf DQ))) (Nd o24 (Nd o40 (Nd Aau (Lf tE) .nil) (Nd tE (Lf tE) .nil)) (Nd o56 (Nd tE (Lf Ac4) .nil) (Lf Abl)))) (Nd ZJ (Nd Aac (Nd DQ (Nd (Zb P) (Lf Aa8) .nil) (Nd (o100 P) (Lf tE) .nil)) (Nd YM (Nd ZS (Lf DQ) .nil) (Lf AcU))) (Nd o28 (Nd o44 (Nd tE (Lf tE) .nil) (Nd V3 (Lf Wv) .nil)) (Nd o60 (Nd tE (Lf Ab0) .nil) (Lf AcX))))) (Nd (boot_o_6 P) (Nd (boot_o_10 P) (Nd tE (Nd Y5 (Nd o66 (Lf W6) .nil) (Nd o98 (Lf DQ) .nil)) (Nd tE (Nd o82 (Lf Ab8) .nil) (Lf tE))) (Nd Aat (Nd o42 (Nd DQ (Lf AcA) .nil) (Nd AcG (Lf AbO) .nil)) (Nd Z2 (Nd Zj (Lf tE) .nil) (Lf Wi)))) (Nd Yy (Nd tE (Nd tE (Nd Aas (Lf DQ) .nil) (Nd V7 (Lf Ach) .nil)) (Nd tE (Nd JV (Lf tE) .nil) (Lf tE))) (Nd (AaZ P) (Nd AaB (Nd o78 (Lf Acs) .nil) (Nd Abt (Lf AcL) .nil)) (Nd (o62 P) (Nd o94 (Lf Xw) .nil) (Lf tE))))))
noncomputable def AbI (w : World) (os : OsState) : SharedT := ⟨Adh w.params, 175, Life.mk [] [] [] 0 [] [] Bool.false #[] [] 0 Bool.false Bool.false Bool.false 0 [2000, 10, 10] Bool.false 0 Bool.true [] [] 0 Bool.false, Array.mk [], Drawn.mk 0 0 0 0, 404, os⟩
noncomputable def Acg : Pos := ⟨62, 0, 64, 98⟩
end
noncomputable def vw : Program := { PySem.Challenge.pw_formcycle_k24_rings with main := { PySem.Challenge.pw_formcycle_k24_rings.main with body := [tp 1, tp 2, tp 3, tp 4, tp 5, tp 7, tp 8, tp 9, tp 11, tp 12, tp 13, tp 14, tp 16, tp 17, tp 18, tp 19, tp 20, tp 22, tp 23, tp 24, tp 25, tp 26, tp 27, tp 28, tp 29, tp 31, tp 32, tp 33, tp 34, tp 35, tp 36, tp 37, tp 38, tp 39, tp 40, tp 41, tp 42] } }
noncomputable def asK : List Nat := [2, 3, 15, 22, 23, 24, 25, 28, 35, 37, 38, 40, 41, 42, 43, 44, 47, 54, 56, 57, 59, 60, 61, 62, 63, 66, 73, 75, 76, 78, 79, 80, 81, 82, 85, 92, 94, 95, 97, 98, 99, 100, 101, 104, 106, 107, 109, 110, 111, 113, 114, 116, 117, 118, 120, 121, 123, 124, 125, 126, 128, 129, 131, 132, 133, 135, 136, 138, 139, 140, 142, 143, 145, 146, 147, 149, 150, 152, 153, 154, 156, 157, 159, 160, 161, 163, 164, 166, 167, 168, 170, 171, 173, 174, 175, 177, 178, 180, 181, 182, 184, 185, 187, 188, 189, 191, 192, 194, 195, 196, 198, 199, 201, 202, 203, 205, 206, 208, 209, 210, 212, 213, 215, 216, 217, 219, 220, 222, 223, 224, 227, 228, 229, 231, 232, 234, 235, 236, 238, 239, 241, 242, 243, 246, 247, 248, 250, 251, 253, 254, 255, 257, 258, 260, 261, 262, 264, 265, 267, 268, 269, 271, 272, 274, 275, 276, 278, 279, 281, 282, 283, 285, 286, 288, 289, 290, 292, 293, 295, 296, 297, 299, 300, 302, 303, 304, 306, 307, 309, 310]
noncomputable def bE : List Stmt := behindTheImports PySem.Challenge.rw_formcycle_k24_rings.row.prog
noncomputable def ev : Env := { scope := PySem.Challenge.rw_formcycle_k24_rings.row.prog.main.scope, locals := mainNs, globals := mainNs, cells := [], code := .ref 13, frame := some 14 }
noncomputable def cc : Code := .body bE ev
noncomputable def qq : Pos := .mk 0 0 0 0
noncomputable def pp : Pos := ⟨0, 0, 0, 0⟩
theorem AbN : ∀ w os, goT treeTable PySem.Challenge.rw_formcycle_k24_rings.row.prog w 11 (some (.ref 6)) 12 (KN w os) (topStub PySem.Challenge.rw_formcycle_k24_rings.row.prog) = some (St0 w os, ⟨denote treeTable cc, cc, pp, [topFrame qq]⟩) := fun w os => by kernel_rfl
theorem AbC : ∀ w os, segRunT treeTable PySem.Challenge.rw_formcycle_k24_rings.row.prog w 11 (some (.ref 6)) 1 1 (St0 w os) (blockOf bE ev cc pp [topFrame qq]) = some (.next, St0 w os, cc, ps0) := fun w os => by kernel_rfl
noncomputable def l20 : List Stmt := List.take 20 bE
noncomputable def r20 : List Stmt := List.drop 20 bE
theorem Adq : ∀ w os, segRunT treeTable PySem.Challenge.rw_formcycle_k24_rings.row.prog w 11 (some (.ref 6)) 1 1523 (St0 w os) (piecesOf l20 ev cc ps0 [topFrame qq]) = some (.next, AbI w os, cc, Acg) := fun w os => by kernel_rfl
noncomputable def TL (w : World) (os : OsState) : Option SharedT := NT treeTable PySem.Challenge.rw_formcycle_k24_rings.row.prog w 11 (some (.ref 6)) 696 (AbI w os) (restOf r20 ev cc Acg [topFrame qq])
theorem hr : ∀ w os r, TL w os = some r → topRun treeTable PySem.Challenge.rw_formcycle_k24_rings.row.prog w (Bc w os).heap.objs.size ((Bc w os).heap.nsMap mainGlobals "__annotations__") 2232 (Bc w os) (topStub PySem.Challenge.rw_formcycle_k24_rings.row.prog) = some r.abs := fun w os r h => by
  rw [show (Bc w os).heap.objs.size = 11 by kernel_rfl, show (Bc w os).heap.nsMap mainGlobals "__annotations__" = some (.ref 6) by kernel_rfl]
  have k := Ln _ h
  have k := piece_app (segRun_of (Adq w os)) k
  rw [show l20 ++ r20 = bE from List.take_append_drop _ _] at k
  have k := piece_block (segRun_of (AbC w os)) k
  have k := go_top (U9 _ (AbN w os)) k
  rw [boot_abs] at k
  exact k
noncomputable def sA0 (s : Shared) := PyProof.Rows.seen ((PyProof.Rows.recsOf vw).map (·.name)) (PyProof.Rows.ownsOf vw) [] { s with gens := #[] }
noncomputable def sA1 (s : Shared) := s.heap.bltView
noncomputable def sA2 (s : Shared) := s.heap.keysOk (looseW vw []) ((PyProof.Rows.recsOf vw).map (·.name)) ((PyProof.Rows.litsOf vw).map (·.1)) ((PyProof.Rows.clssOf vw (looseW vw [])).map (·.name)) && s.heap.accountedOkI (importedModules PySem.Challenge.rw_formcycle_k24_rings.row.prog.main.body) && s.heap.isNs mainGlobals && s.heap.isNs builtinsNs && PyProof.Rows.tablesOk vw s.heap && (xlAt vw [] s && recOk (RowW.records PySem.Challenge.rw_formcycle_k24_rings.row.toRowW) s) && (if true then s.gens.size == 0 else !leftWithCleanup s.gens)
noncomputable def sA3 (s : Shared) := PyProof.Rows.tabsOk vw s
noncomputable def sA4 (s : Shared) := pinSeenD vw (PyProof.Rows.drecsOf vw) s
noncomputable def sA5 (s : Shared) := PyProof.Rows.plainSeenE vw (looseW vw []) s
noncomputable def sA6 (s : Shared) := PyProof.Rows.plainSeenD vw [] s
noncomputable def sA7 (s : Shared) := wideSeen vw s
noncomputable def sA8 (s : Shared) := clsSeenW vw [] s
theorem hA : ∀ (w : World) (os : OsState), (TL w os).map (fun r => stays PySem.Challenge.rw_formcycle_k24_rings.row.prog (Bc w os) r.abs) = some true := fun w os => by kernel_rfl
theorem hB0 : ∀ (w : World) (os : OsState), (TL w os).map (fun r => sA0 r.abs) = some (PyProof.Rows.expectedOf vw) := fun w os => by kernel_rfl
theorem hB1 : ∀ (w : World) (os : OsState), (TL w os).map (fun r => (sA1 r.abs, sA3 r.abs, sA4 r.abs, sA6 r.abs, sA8 r.abs)) = some (bltViewBooted, true, pinGoodD (PyProof.Rows.drecsOf vw), PyProof.Rows.plainGoodD vw [], clsGoodW vw []) := fun w os => by kernel_rfl
theorem hB2 : ∀ (w : World) (os : OsState), (TL w os).map (fun r => sA2 r.abs) = some true := fun w os => by kernel_rfl
theorem hB5 : ∀ (w : World) (os : OsState), (TL w os).map (fun r => sA5 r.abs) = some (PyProof.Rows.plainGoodE vw (looseW vw [])) := fun w os => by kernel_rfl
theorem hB7 : ∀ (w : World) (os : OsState), (TL w os).map (fun r => sA7 r.abs) = some (wideGood vw) := fun w os => by kernel_rfl
theorem nine {α0 α1 α2 α3 α4 α5 α6 α7 α8 : Type} {o : Option SharedT} {A0 : Shared → α0} {A1 : Shared → α1} {A2 : Shared → α2} {A3 : Shared → α3} {A4 : Shared → α4} {A5 : Shared → α5} {A6 : Shared → α6} {A7 : Shared → α7} {A8 : Shared → α8} {a0 : α0} {a1 : α1} {a2 : α2} {a3 : α3} {a4 : α4} {a5 : α5} {a6 : α6} {a7 : α7} {a8 : α8}
    (h0 : o.map (fun r => A0 r.abs) = some a0) (h1 : o.map (fun r => (A1 r.abs, A3 r.abs, A4 r.abs, A6 r.abs, A8 r.abs)) = some (a1, a3, a4, a6, a8)) (h2 : o.map (fun r => A2 r.abs) = some a2) (h5 : o.map (fun r => A5 r.abs) = some a5) (h7 : o.map (fun r => A7 r.abs) = some a7) :
    o.map (fun r => (A0 r.abs, A1 r.abs, A2 r.abs, A3 r.abs, A4 r.abs, A5 r.abs, A6 r.abs, A7 r.abs, A8 r.abs)) = some (a0, a1, a2, a3, a4, a5, a6, a7, a8) := by
  cases o with
  | none => cases h0
  | some r =>
    simp only [Option.map_some, Option.some.injEq, Prod.mk.injEq] at h0 h1 h2 h5 h7 ⊢
    exact ⟨h0, h1.1, h2, h1.2.1, h1.2.2.1, h5, h1.2.2.2.1, h7, h1.2.2.2.2⟩
theorem hB : ∀ (w : World) (os : OsState), (TL w os).map (fun r => openSeen vw [] (importedModules PySem.Challenge.rw_formcycle_k24_rings.row.prog.main.body) (fun s => xlAt vw [] s && recOk (RowW.records PySem.Challenge.rw_formcycle_k24_rings.row.toRowW) s) true r.abs) = some (openGood vw []) := fun w os => nine (A0 := sA0) (A1 := sA1) (A2 := sA2) (A3 := sA3) (A4 := sA4) (A5 := sA5) (A6 := sA6) (A7 := sA7) (A8 := sA8) (hB0 w os) (hB1 w os) (hB2 w os) (hB5 w os) (hB7 w os)
theorem hC : ∀ (w : World) (os : OsState), (TL w os).map (fun r => Hook.obs (kHook My.KK My.asK (fun _ => by kernel_rfl)) r.abs) = some (Hook.val (kHook My.KK My.asK (fun _ => by kernel_rfl)) w) := fun w os => by kernel_rfl
theorem hl : LeftO PySem.Challenge.rw_formcycle_k24_rings.row.prog vw [] (fun s => xlAt vw [] s && recOk (RowW.records PySem.Challenge.rw_formcycle_k24_rings.row.toRowW) s) (Hook.obs (kHook My.KK My.asK (fun _ => by kernel_rfl))) (Hook.val (kHook My.KK My.asK (fun _ => by kernel_rfl))) 2232 := fun w => VL (TL := TL w) (by kernel_rfl) (by decide) (fun _ => by kernel_rfl) (hr w) (hA w) (hB w) (hC w) (fun os => by kernel_rfl)
end My
namespace L2
open PySem PySem.Spec PyProof.Rows
noncomputable abbrev Key := Sum Int Str
noncomputable def Qe : Key → Value → Bool
  | .inl k, v => Value.isInt k v
  | .inr x, v => Value.isStrOf x v
noncomputable def AdS (w : World) : Key → Int
  | .inl k => hashInt k
  | .inr x => hashStr w x
theorem Bw : ∀ {k : Key} {v : Value}, Qe k v = true → (∃ i t, k = Sum.inl i ∧ v = Value.int i t) ∨ (∃ x t, k = Sum.inr x ∧ v = Value.str x t)
  | .inl i, v, h => by
    obtain ⟨t, e⟩ := Value.isInt_shape (k := i) (v := v) h
    exact .inl ⟨i, t, rfl, e⟩
  | .inr x, v, h => by
    obtain ⟨t, e⟩ := Value.isStrOf_shape (x := x) (v := v) h
    exact .inr ⟨x, t, rfl, e⟩
theorem RV (i : Int) (t : Tok) : Qe (.inl i) (.int i t) = true := by simp [Qe, Value.isInt]
theorem YK (a b : Int) : decide ((Sum.inl a : Key) = Sum.inl b) = (a == b) := by
  by_cases e : a = b
  · subst e; simp
  · have h : ¬ (Sum.inl a : Key) = Sum.inl b := fun q => e (Sum.inl.inj q)
    rw [decide_eq_false h]
    exact (beq_eq_false_iff_ne.mpr e).symm
theorem Zy (a b : Str) : decide ((Sum.inr a : Key) = Sum.inr b) = decide (a = b) := by
  by_cases e : a = b
  · subst e; simp
  · have h : ¬ (Sum.inr a : Key) = Sum.inr b := fun q => e (Sum.inr.inj q)
    rw [decide_eq_false h, decide_eq_false e]
theorem ZX (a : Int) (b : Str) : decide ((Sum.inl a : Key) = Sum.inr b) = false := decide_eq_false (fun q => nomatch q)
theorem Aa3 (a : Str) (b : Int) : decide ((Sum.inr a : Key) = Sum.inl b) = false := decide_eq_false (fun q => nomatch q)
noncomputable def Cg (prog : Program) (w : World) : PySem.KeyKind prog w Key where
  is := Qe
  hash := AdS w
  inj := fun v a b ha hb => by
    rcases Bw ha with ⟨i, t, rfl, rfl⟩ | ⟨x, t, rfl, rfl⟩
    · rcases Bw hb with ⟨j, u, rfl, e⟩ | ⟨y, u, rfl, e⟩
      · injection e with e1 _; rw [e1]
      · exact nomatch e
    · rcases Bw hb with ⟨j, u, rfl, e⟩ | ⟨y, u, rfl, e⟩
      · exact nomatch e
      · injection e with e1 _; rw [e1]
  byValue := fun k v h => by
    rcases Bw h with ⟨i, t, rfl, rfl⟩ | ⟨x, t, rfl, rfl⟩ <;> rfl
  pyHash := fun hv h => by
    rcases Bw hv with ⟨i, t, rfl, rfl⟩ | ⟨x, t, rfl, rfl⟩
    · exact wpAny_pyHash_int h
    · exact wpAny_pyHash_str h
  eqBool := fun hu hv h => by
    rcases Bw hu with ⟨i, t, rfl, rfl⟩ | ⟨x, t, rfl, rfl⟩
    · rcases Bw hv with ⟨j, u, rfl, rfl⟩ | ⟨y, u, rfl, rfl⟩
      · rw [YK] at h; exact wpAny_eqBool_int h
      · rw [ZX] at h; exact SeqAt.EqAt.int_str i t y u _ _ _ _ h
    · rcases Bw hv with ⟨j, u, rfl, rfl⟩ | ⟨y, u, rfl, rfl⟩
      · rw [Aa3] at h; exact SeqAt.EqAt.str_int x t j u _ _ _ _ h
      · rw [Zy] at h; exact wpAny_eqBool_str h
  «strs» := fun k x t v h => by
    rcases Bw h with ⟨i, u, rfl, e⟩ | ⟨y, u, rfl, e⟩
    · exact nomatch e
    · injection e with e1 _
      subst e1
      cases v <;> rfl
theorem Mx (prog : Program) (w : World) (i : Int) (t : Tok) : (Cg prog w).is (.inl i) (.int i t) = true := RV i t
end L2
namespace L2
open PySem PySem.Spec PyProof.Rows
inductive V where
  | non | bl (b : Bool) | int (i : Int) | str (x : Str) | byt (b : Array UInt8) | flt (b : UInt64) | ref (a : Addr) | ty (n : String)
  deriving DecidableEq
noncomputable def RelV : V → Value → Prop
  | .non, u => u = Value.none
  | .bl b, u => u = Value.bool b
  | .int i, u => ∃ t, u = Value.int i t
  | .str x, u => ∃ t, u = Value.str x t
  | .byt b, u => ∃ t, u = Value.bytes b t
  | .flt b, u => ∃ t, u = Value.float b t
  | .ref a, u => u = Value.ref a
  | .ty n, u => u = Value.type n
noncomputable abbrev Vals : List V → List Value → Prop := Paired RelV
theorem Vals.length {xs : List V} {us : List Value} (r : Vals xs us) : xs.length = us.length := Paired.length r
theorem Vals.get : ∀ {xs : List V} {us : List Value} {i : Nat} {x : V}, Vals xs us → xs[i]? = some x → ∃ u, us[i]? = some u ∧ RelV x u
  | _, _, _, _, .nil, e => by simp at e
  | _, _, 0, _, .cons r _, e => by simp at e; subst e; exact ⟨_, rfl, r⟩
  | _, _, i + 1, x, .cons _ t, e => by
    obtain ⟨u, h1, h2⟩ := Vals.get (i := i) (x := x) t (by simpa using e)
    exact ⟨u, by simpa using h1, h2⟩
theorem Vals.append : ∀ {xs ys : List V} {us ws : List Value}, Vals xs us → Vals ys ws → Vals (xs ++ ys) (us ++ ws)
  | _, _, _, _, .nil, s => s
  | _, _, _, _, .cons r t, s => .cons r (Vals.append t s)
theorem Vals.take : ∀ {xs : List V} {us : List Value} (n : Nat), Vals xs us → Vals (xs.take n) (us.take n)
  | _, _, 0, _ => .nil
  | _, _, _ + 1, .nil => .nil
  | _, _, n + 1, .cons r t => .cons r (Vals.take n t)
theorem Vals.drop : ∀ {xs : List V} {us : List Value} (n : Nat), Vals xs us → Vals (xs.drop n) (us.drop n)
  | _, _, 0, r => r
  | _, _, _ + 1, .nil => .nil
  | _, _, n + 1, .cons _ t => Vals.drop n t
noncomputable def Abg : Option V → Option Value → Prop
  | some v, some u => RelV v u
  | none, none => True
  | _, _ => False
noncomputable def KV {κ : Type} : List (κ × V) → List (κ × Value) → Prop := Paired fun (p : κ × V) (q : κ × Value) => p.1 = q.1 ∧ RelV p.2 q.2
noncomputable def kV : Key → V
  | .inl i => .int i
  | .inr x => .str x
inductive HO where
    | lst (xs : List V)
    | tup (xs : List V)
    | dK (kvs : List (Key × V)) | dT (kvs : List (List Key × V))
    | set (S : Int → Bool) (n : Nat)
    | ins (C dx : Addr) (fs : List (Str × V))
    | own (x : Addr)
    | xd (fs : List (Str × V))
    | met (f x : Addr)
    | rng (lo hi : Int)
    | frz (o : Obj) (u : HO)
    | tbl (ps : Array Value)
    | ext (φ : Heap → Prop)
noncomputable abbrev Hp := Addr → Option HO
noncomputable def upd (H : Hp) (a : Addr) (o : HO) : Hp := fun b => if b = a then some o else H b
theorem BR {H : Hp} {a : Addr} {o : HO} : upd H a o a = some o := by unfold upd; rw [if_pos rfl]
theorem Bd {H : Hp} {a b : Addr} {o : HO} (h : b ≠ a) : upd H a o b = H b := by unfold upd; rw [if_neg h]
theorem CN {H : Hp} {a b : Addr} {o : HO} (h : H a = some o) (h' : H b = none) : a ≠ b := by
  intro e; subst e; rw [h] at h'; cases h'
section
variable (P : Program) (w : World)
noncomputable def Ey (H : Hp) (h : Heap) (a : Addr) : HO → Prop
  | .lst xs => xs.length ≤ sizeLine ∧ ∃ (its : List Value) (n : Nat), Vals xs its ∧ h.get? a = some { cls := .type "list", data := .seq its.toArray n }
  | .tup xs => xs.length ≤ sizeLine ∧ ∃ its : List Value, Vals xs its ∧ IsTup h a its.toArray
  | .dK kvs => kvs.length ≤ sizeLine ∧ (a == sysModules) = false ∧ ∃ vs, KV kvs vs ∧ h.DictOf (Cg P w) a vs
  | .dT kvs => kvs.length ≤ sizeLine ∧ (a == sysModules) = false ∧ ∃ xs : List (List Key × Addr × Value),
      Paired (fun (p : List Key × V) (q : List Key × Addr × Value) => p.1 = q.1 ∧ H q.2.1 = some (.tup (p.1.map kV)) ∧ RelV p.2 q.2.2) kvs xs ∧
      ∃ o es ep, h.get? a = some o ∧ o.ExactDict ∧ o.data = .dict es ep ∧ es.toList = xs.map (entryOfKey (tupleKind (Cg P w))) ∧ (xs.map (·.1)).Nodup
  | .set S n => h.SetOf (intKind P w) a S n
  | .ins C dx fs => H dx = some (.own a) ∧ fs.length ≤ 1000 ∧ dx ≠ a ∧ h.get? a = some (PySem.W.instObj C dx) ∧
      ∃ mA, h.Ns1 dx mA ∧ (∀ f, Abg (fs.lookup f) (mA f)) ∧ PySem.Within mA (fs.map (·.1))
  | .own _ => ∃ o, h.get? a = some o
  | .xd fs => ∃ mA, h.Ns1 a mA ∧ ∀ f, Abg (fs.lookup f) (mA f)
  | .rng lo hi => ∃ t u v, h.get? a = some { cls := .type "range", data := .fields #[.int lo t, .int hi u, .int 1 v] }
  | .frz o u => h.get? a = some o ∧ Ey H h a u
  | .tbl ps => h.get? a = some { cls := .none, data := .fields ps }
  | .met f x => h.get? a = some (PySem.W.methodObj (.ref f) (.ref x))
  | .ext φ => φ h ∧ (∃ o, h.get? a = some o) ∧ ∀ h1 h2 : Heap, φ h1 → (∀ o, h1.get? a = some o → h2.get? a = some o) → φ h2
noncomputable def HOk (H : Hp) (h : Heap) : Prop := ∀ a o, H a = some o → Ey P w H h a o
end
section
variable {P : Program} {w : World} {H H' : Hp} {h h' : Heap} {a : Addr} {o : HO}
theorem Ey.lt (x : Ey P w H h a o) : a < h.objs.size := by
  cases o with
  | lst xs => obtain ⟨_, _, _, _, e⟩ := x; exact Heap.lt_size e
  | tup xs => obtain ⟨_, _, _, p⟩ := x; exact p.lt
  | dK kvs => obtain ⟨_, _, _, _, o, _, _, e, _⟩ := x; exact Heap.lt_size e
  | dT kvs => obtain ⟨_, _, _, _, o, _, _, e, _⟩ := x; exact Heap.lt_size e
  | set S n => obtain ⟨o, _, _, _, e, _⟩ := x; exact Heap.lt_size e
  | ins C dx fs => obtain ⟨_, _, _, e, _⟩ := x; exact Heap.lt_size e
  | own y => obtain ⟨_, e⟩ := x; exact Heap.lt_size e
  | xd fs => obtain ⟨_, ⟨_, _, _, e, _⟩, _⟩ := x; exact Heap.lt_size e
  | rng lo hi => obtain ⟨_, _, _, e⟩ := x; exact Heap.lt_size e
  | frz ob u => obtain ⟨e, _⟩ := x; exact Heap.lt_size e
  | tbl ps => exact Heap.lt_size (show h.get? a = some _ from x)
  | met f y => exact Heap.lt_size (show h.get? a = some _ from x)
  | ext φ => obtain ⟨_, ⟨_, e⟩, _⟩ := x; exact Heap.lt_size e
theorem Paired.mapP {α β : Type} {F G : α → β → Prop} : ∀ {l₁ : List α} {l₂ : List β}, Paired F l₁ l₂ → (∀ a b, F a b → G a b) → Paired G l₁ l₂
  | _, _, .nil, _ => .nil
  | _, _, .cons r t, f => .cons (f _ _ r) (Paired.mapP t f)
theorem Ey.stay (x : Ey P w H h a o) (k : ∀ b u, (b = a ∨ H b = some (.own a)) → h.get? b = some u → h'.get? b = some u)
    (ho : ∀ b, H b = some (.own a) → H' b = some (.own a)) (ht : ∀ b xs, H b = some (.tup xs) → H' b = some (.tup xs)) : Ey P w H' h' a o := by
  induction o with
  | lst xs => obtain ⟨z, its, n, r, e⟩ := x; exact ⟨z, its, n, r, k _ _ (.inl rfl) e⟩
  | tup xs => obtain ⟨z, its, r, ob, e, c⟩ := x; exact ⟨z, its, r, ob, k _ _ (.inl rfl) e, c⟩
  | dK kvs => obtain ⟨z, y, vs, r, ob, es, ep, e, c⟩ := x; exact ⟨z, y, vs, r, ob, es, ep, k _ _ (.inl rfl) e, c⟩
  | dT kvs =>
    obtain ⟨z, y, xs, r, ob, es, ep, e, c⟩ := x
    exact ⟨z, y, xs, Paired.mapP r fun p q z => ⟨z.1, ht _ _ z.2.1, z.2.2⟩, ob, es, ep, k _ _ (.inl rfl) e, c⟩
  | set S n => obtain ⟨ob, es, ep, t, e, c⟩ := x; exact ⟨ob, es, ep, t, k _ _ (.inl rfl) e, c⟩
  | ins C dx fs =>
    obtain ⟨d, z, ne, e, mA, ⟨od, es, ep, e2, c⟩, r⟩ := x
    exact ⟨ho _ d, z, ne, k _ _ (.inl rfl) e, mA, ⟨od, es, ep, k _ _ (.inr d) e2, c⟩, r⟩
  | own y => obtain ⟨ob, e⟩ := x; exact ⟨ob, k _ _ (.inl rfl) e⟩
  | xd fs => obtain ⟨mA, ⟨od, es, ep, e, c⟩, r⟩ := x; exact ⟨mA, ⟨od, es, ep, k _ _ (.inl rfl) e, c⟩, r⟩
  | rng lo hi => obtain ⟨t, u, v, e⟩ := x; exact ⟨t, u, v, k _ _ (.inl rfl) e⟩
  | frz ob u ih => obtain ⟨e, q⟩ := x; exact ⟨k _ _ (.inl rfl) e, ih q⟩
  | tbl ps =>
    have e : h.get? a = some { cls := .none, data := .fields ps } := x
    show h'.get? a = some { cls := .none, data := .fields ps }
    exact k a _ (.inl rfl) e
  | met f y =>
    have e : h.get? a = some (PySem.W.methodObj (.ref f) (.ref y)) := x
    show h'.get? a = some (PySem.W.methodObj (.ref f) (.ref y))
    exact k a _ (.inl rfl) e
  | ext φ => obtain ⟨p, ⟨o, e⟩, st⟩ := x; exact ⟨st _ _ p fun o q => k _ _ (.inl rfl) q, ⟨o, k _ _ (.inl rfl) e⟩, st⟩
theorem HOk.lt (x : HOk P w H h) (e : H a = some o) : a < h.objs.size := (x a o e).lt
theorem HOk.fresh (x : HOk P w H h) (e : h.objs.size ≤ a) : H a = none := by
  cases q : H a with
  | none => rfl
  | some u => exact absurd (Nat.lt_of_lt_of_le (x.lt q) e) (Nat.lt_irrefl _)
theorem HOk.kept (x : HOk P w H h) (k : ∀ b u, h.get? b = some u → h'.get? b = some u) : HOk P w H h' := fun a o e =>
  (x a o e).stay (fun b u _ q => k b u q) (fun _ q => q) fun _ _ q => q
theorem HOk.laid (x : HOk P w H h) (k : ∀ b u, h.get? b = some u → h'.get? b = some u) (hp : h.objs.size ≤ a) (new : Ey P w (upd H a o) h' a o) : HOk P w (upd H a o) h' := fun b u e => by
  have hn := x.fresh hp
  by_cases hb : b = a
  · subst hb; rw [BR] at e; cases e; exact new
  · rw [Bd hb] at e
    exact (x b u e).stay (fun c v _ q => k c v q) (fun c q => by rw [Bd (CN q hn)]; exact q) fun c xs q => by rw [Bd (CN q hn)]; exact q
end
noncomputable def Rd (H : Hp) (a : Addr) (u : HO) : Prop := H a = some u ∨ ∃ o, H a = some (.frz o u)
theorem Rd.ok {P : Program} {w : World} {H : Hp} {h : Heap} {a : Addr} {u : HO} (r : Rd H a u) (x : HOk P w H h) : Ey P w H h a u := by
  rcases r with r | ⟨o, r⟩
  · exact x a u r
  · obtain ⟨_, q⟩ := x a _ r
    exact q
noncomputable def Mut : Option HO → Prop
  | some (.lst _) => True
  | some (.dK _) => True
  | some (.dT _) => True
  | some (.set _ _) => True
  | some (.ins _ _ _) => True
  | some (.ext _) => True
  | _ => False
section
variable {P : Program} {w : World} {H : Hp} {h h' : Heap} {x e : Addr} {o' : HO}
theorem HOk.write (ok : HOk P w H h) (mu : Mut (H x)) (he : e = x ∨ H e = some (.own x)) (k : ∀ b u, b ≠ e → h.get? b = some u → h'.get? b = some u) (heo : ∃ u, h'.get? e = some u)
    (new : Ey P w (upd H x o') h' x o') : HOk P w (upd H x o') h' := fun b u q => by
  have nown : ∀ c y, H c = some (.own y) → c ≠ x := fun c y r z => by subst z; rw [r] at mu; exact mu
  have ntup : ∀ c xs, H c = some (.tup xs) → c ≠ x := fun c xs r z => by subst z; rw [r] at mu; exact mu
  by_cases hb : b = x
  · subst hb; rw [BR] at q; cases q; exact new
  · rw [Bd hb] at q
    by_cases hbe : b = e
    · have q' : H b = some (.own x) := by
        rcases he with z | z
        · exact absurd (hbe.trans z) hb
        · rw [hbe]; exact z
      rw [q] at q'; cases q'
      obtain ⟨v, hv⟩ := heo
      exact ⟨v, by rw [hbe]; exact hv⟩
    · refine (ok b u q).stay (fun c v hc r => k c v ?_ r) (fun c r => by rw [Bd (nown c b r)]; exact r) fun c xs r => by rw [Bd (ntup c xs r)]; exact r
      rcases hc with rfl | hc
      · exact hbe
      · rintro rfl
        rcases he with z | z
        · exact nown c b hc z
        · rw [hc] at z; cases z; exact hb rfl
end
structure Un (fs ex : List Addr) (H H' : Hp) (h h' : Heap) : Prop where
  keep : ∀ b o, h.get? b = some o → H b = none → b ∉ fs → b ∉ ex → h'.get? b = some o
  slot : ∀ b o, h.get? b = some o → H b = none → b ∈ fs → b ∉ ex → ∃ sl, h'.get? b = some { o with slots := sl }
  free : ∀ b o, h.get? b = some o → H b = none → b ∉ ex → H' b = none
  there : ∀ b o, h.get? b = some o → b ∉ ex → ∃ o', h'.get? b = some o'
  tups : ∀ b xs, H b = some (.tup xs) → H' b = some (.tup xs)
  frzs : ∀ b o u, H b = some (.frz o u) → H' b = some (.frz o u)
  tbls : ∀ b ps, H b = some (.tbl ps) → ∃ more, H' b = some (.tbl (ps ++ more))
section
variable {fs fs' ex ex' : List Addr} {H H1 H2 : Hp} {h h1 h2 h' : Heap} {a x e : Addr} {o : HO}
theorem Un.any (u : Un fs ex H H1 h h1) {b : Addr} {ob : Obj} (q : h.get? b = some ob) (n : H b = none) (hx : b ∉ ex) : ∃ sl, h1.get? b = some { ob with slots := sl } := by
  by_cases hb : b ∈ fs
  · exact u.slot b ob q n hb hx
  · exact ⟨ob.slots, u.keep b ob q n hb hx⟩
theorem Un.trans (a : Un fs ex H H1 h h1) (b : Un fs ex H1 H2 h1 h2) : Un fs ex H H2 h h2 where
  keep := fun c ob q n hc hx => b.keep c ob (a.keep c ob q n hc hx) (a.free c ob q n hx) hc hx
  slot := fun c ob q n hc hx => by
    obtain ⟨sl, e1⟩ := a.slot c ob q n hc hx
    obtain ⟨sl', e2⟩ := b.slot c _ e1 (a.free c ob q n hx) hc hx
    exact ⟨sl', e2⟩
  free := fun c ob q n hx => by
    obtain ⟨o', e1⟩ := a.there c ob q hx
    exact b.free c o' e1 (a.free c ob q n hx) hx
  there := fun c ob q hx => by
    obtain ⟨o', e1⟩ := a.there c ob q hx
    exact b.there c o' e1 hx
  tups := fun c xs q => b.tups c xs (a.tups c xs q)
  frzs := fun c ob xs q => b.frzs c ob xs (a.frzs c ob xs q)
  tbls := fun c ps q => by
    obtain ⟨m1, e1⟩ := a.tbls c ps q
    obtain ⟨m2, e2⟩ := b.tbls c _ e1
    exact ⟨m1 ++ m2, by rw [e2, Array.append_assoc]⟩
theorem Un.kept (k : ∀ b u, h.get? b = some u → h'.get? b = some u) : Un fs ex H H h h' :=
  ⟨fun b ob q _ _ _ => k b ob q, fun b ob q _ _ _ => ⟨ob.slots, k b ob q⟩, fun _ _ _ n _ => n, fun b ob q _ => ⟨ob, k b ob q⟩, fun _ _ q => q, fun _ _ _ q => q, fun _ ps q => ⟨#[], by rw [q]; simp⟩⟩
theorem Un.refl : Un fs ex H H h h := Un.kept fun _ _ q => q
theorem Un.laid (k : ∀ b u, h.get? b = some u → h'.get? b = some u) (hp : h.objs.size ≤ a) (hn : H a = none) : Un fs ex H (upd H a o) h h' where
  keep := fun b u q _ _ _ => k b u q
  slot := fun b u q _ _ _ => ⟨u.slots, k b u q⟩
  free := fun b u q n _ => by rw [Bd (Nat.ne_of_lt (Nat.lt_of_lt_of_le (Heap.lt_size q) hp))]; exact n
  there := fun b u q _ => ⟨u, k b u q⟩
  tups := fun b xs q => by rw [Bd (CN q hn)]; exact q
  frzs := fun b u xs q => by rw [Bd (CN q hn)]; exact q
  tbls := fun b ps q => ⟨#[], by rw [Bd (CN q hn), q]; simp⟩
theorem Un.write (mu : Mut (H x)) (he : e = x ∨ H e = some (.own x)) (k : ∀ b u, b ≠ e → h.get? b = some u → h'.get? b = some u) (heo : ∃ u, h'.get? e = some u) : Un fs ex H (upd H x o) h h' := by
  have hx : ∀ b, H b = none → b ≠ x := fun b n z => by subst z; rw [n] at mu; exact mu
  have hb : ∀ b, H b = none → b ≠ e := fun b n z => by
    subst z
    rcases he with r | r
    · exact hx b n r
    · rw [n] at r; cases r
  have hm : ∀ b u, H b = some u → ¬ Mut (some u) → b ≠ x := fun b u q nm z => by subst z; rw [q] at mu; exact nm mu
  refine ⟨fun b u q n _ _ => k b u (hb b n) q, fun b u q n _ _ => ⟨u.slots, k b u (hb b n) q⟩, fun b u q n _ => by rw [Bd (hx b n)]; exact n, fun b u q _ => ?_,
    fun b xs q => by rw [Bd (hm b _ q fun z => z)]; exact q, fun b u xs q => by rw [Bd (hm b _ q fun z => z)]; exact q, fun b ps q => ⟨#[], by rw [Bd (hm b _ q fun z => z), q]; simp⟩⟩
  by_cases hbe : b = e
  · subst hbe; exact heo
  · exact ⟨u, k b u hbe q⟩
end
noncomputable def trk (h : Heap) (H : Hp) : List Addr := (List.range h.objs.size).filter fun a => (H a).isSome
noncomputable def Ld (h : Heap) (H : Hp) : Heap := PySem.W.hideAll h (trk h H)
theorem Rv (h : Heap) (H : Hp) : (Ld h H).objs.size = h.objs.size := PySem.W.hideAll_size _ _
theorem VJ {h : Heap} {H : Hp} {b : Addr} {o : Obj} (e : h.get? b = some o) (n : H b = none) : (Ld h H).get? b = some o :=
  PySem.W.hideAll_get _ e fun hm => by
    have q : (H b).isSome = true := (List.mem_filter.mp hm).2
    rw [n] at q; simp at q
theorem XQ {h : Heap} {H : Hp} {b : Addr} {o : Obj} (e : (Ld h H).get? b = some o) : h.get? b = some o ∧ H b = none := by
  have e' : h.get? b = some o := PySem.W.of_hideAll (trk h H) e
  refine ⟨e', ?_⟩
  cases q : H b with
  | none => rfl
  | some x =>
    have hm : b ∈ trk h H := List.mem_filter.mpr ⟨List.mem_range.mpr (Heap.lt_size e'), by simp [q]⟩
    have z : (Ld h H).get? b = none := PySem.W.hideAll_none (trk h H) hm
    rw [z] at e; cases e
noncomputable def WT (g h : Heap) (L : Addr) : List (Addr × Obj) := (List.range h.objs.size).filterMap fun a => if a = L ∨ (g.get? a).isSome = true then none else (h.get? a).map fun o => (a, o)
noncomputable def rest (g h : Heap) (L d : Addr) : List (Addr × Obj) := (WT g h L).filter fun p => decide (p.1 ≠ d)
end L2
namespace L2
open PySem PySem.Spec PyProof.Rows
structure Mod (K : PySem.W.Frag) (mg : Str → Option Value) (base : Heap) : Prop where
  kin : K.In base
  glob : base.Ns mainGlobals mg
  blt : ∃ mb, base.Ns builtinsNs mb ∧ ∀ x : Str, x ≠ "__name__" → mb x = bootBuiltins x
  nolimit : base.NoLimit
structure Cx where
  prog : Program
  w : World
  K : PySem.W.Frag
  mg : Str → Option Value
  base : Heap
  A : Around
  N : List Str
  s₀ : Shared
  H₀ : Hp
  env : Env
  outer : List Env
  stack : List Env
  ex : List Addr
  fn : Str → Bool
  calm : Bool
  pn : List (Addr × Obj)
  xe : Value → Shared → Prop
noncomputable def frs (l : List Env) : List Addr := l.filterMap (·.frame)
noncomputable abbrev Cx.fs (X : Cx) : List Addr := frs X.outer
noncomputable def Vis (sc : Scope) (x : Str) : Prop := sc.names.lookup x = some .local ∨ sc.names.lookup x = some .cell ∨ sc.names.lookup x = some .free
noncomputable def Loc (sc : Scope) (x : Str) : Prop := sc.names.lookup x = some .local ∨ sc.names.lookup x = some .cell
noncomputable def Look (env : Env) (h : Heap) (m : Str → Option Value) (x : Str) (u : Value) : Prop :=
  (env.kindOf x = some .local ∧ m x = some u) ∨ ((env.kindOf x = some .cell ∨ env.kindOf x = some .free) ∧ ∃ c, env.cells.lookup x = some c ∧ h.IsCell c (some u))
structure Cx.Ok (X : Cx) : Prop where
  mod : Mod X.K X.mg X.base
  kind : X.env.scope.kind = .function
  glob : X.env.globals = mainGlobals
  blt : X.env.builtins = builtinsNs
  above : X.s₀.heap.objs.size ≤ X.env.locals
  inj : ∀ x y c, X.env.cells.lookup x = some c → X.env.cells.lookup y = some c → x = y
  has : ∀ x, (X.env.kindOf x = some .cell ∨ X.env.kindOf x = some .free) → ∃ c, X.env.cells.lookup x = some c
  cab : ∀ x c, X.fn x = true → X.env.cells.lookup x = some c → X.s₀.heap.objs.size ≤ c
  hd : X.calm = true → X.A.handled = none
  frames : X.A.frames = some X.stack
  stk : X.stack = X.outer ∨ (X.stack = X.env :: X.outer ∧ X.env.frame = some X.env.locals)
  exf : ∀ b ∈ X.ex, b ≠ X.env.locals ∧ ∀ x c, X.env.cells.lookup x = some c → c ≠ b
  bs : ∀ b o, X.base.get? b = some o → X.s₀.heap.get? b = some o ∧ X.H₀ b = none
  bsz : X.base.objs.size ≤ X.s₀.heap.objs.size
  noex : ∀ b o, X.base.get? b = some o → b ∉ X.ex
  exfs : ∀ b ∈ X.ex, b ∉ X.fs
  funs : X.s₀.heap.FunFrames X.base X.outer
  frf : ∀ b ∈ X.fs, X.H₀ b = none
structure Inv (X : Cx) (pins : List (Addr × Obj)) (σ : List (Option V)) (H : Hp) (s : Shared) : Prop where
  ok : X.Ok
  os : s.os = X.s₀.os
  bare : AllBare s.gens
  base : Un X.fs X.ex X.H₀ H X.s₀.heap s.heap
  loc : ∃ m, s.heap.Ns X.env.locals m ∧ ∀ (i : Nat) (x : Str) (v : V), X.N[i]? = some x → σ[i]? = some (some v) → Vis X.env.scope x → ∃ u, RelV v u ∧ Look X.env s.heap m x u
  cell : ∀ x c, X.env.cells.lookup x = some c → ∃ v, s.heap.IsCell c v
  free : H X.env.locals = none
  freeC : ∀ x c, X.env.cells.lookup x = some c → H c = none
  pin : ∀ p ∈ X.pn ++ pins, s.heap.get? p.1 = some p.2 ∧ H p.1 = none ∧ p.1 ≠ X.env.locals ∧ p.1 ∉ X.fs ∧ ∀ v, p.2.data ≠ .cell v
  hok : HOk X.prog X.w H s.heap
  len : σ.length = X.N.length
section
variable {X : Cx} {pins : List (Addr × Obj)} {σ : List (Option V)} {H H' : Hp} {s : Shared} {h' : Heap}
theorem Cx.Ok.nofr (ok : X.Ok) {b : Addr} {o : Obj} (e : X.base.get? b = some o) : b ∉ X.fs := fun hb => by
  have := (ok.funs.mem hb).1
  rw [e] at this; cases this
theorem Inv.bs (I : Inv X pins σ H s) : ∀ b o, X.base.get? b = some o → s.heap.get? b = some o ∧ H b = none := fun b o e =>
  ⟨I.base.keep b o (I.ok.bs b o e).1 (I.ok.bs b o e).2 (I.ok.nofr e) (I.ok.noex b o e), I.base.free b o (I.ok.bs b o e).1 (I.ok.bs b o e).2 (I.ok.noex b o e)⟩
theorem Inv.bk (I : Inv X pins σ H s) : ∀ b o, X.base.get? b = some o → s.heap.get? b = some o := fun b o e => (I.bs b o e).1
theorem Inv.mod (I : Inv X pins σ H s) : Mod X.K X.mg X.base := I.ok.mod
theorem Inv.kIn (I : Inv X pins σ H s) : X.K.In s.heap := I.ok.mod.kin.keeps I.bk
theorem Inv.lt (I : Inv X pins σ H s) : X.env.locals < s.heap.objs.size := let ⟨_, hn, _⟩ := I.loc; hn.lt
theorem Inv.sz (I : Inv X pins σ H s) : X.s₀.heap.objs.size ≤ s.heap.objs.size := Nat.le_trans I.ok.above (Nat.le_of_lt I.lt)
theorem Inv.nofs (I : Inv X pins σ H s) {a : Addr} (h : s.heap.objs.size ≤ a) : a ∉ X.fs := fun hb => by
  obtain ⟨_, o, ho, _⟩ := I.ok.funs.mem hb
  exact absurd (Nat.lt_of_lt_of_le (Heap.lt_size ho) (Nat.le_trans I.sz h)) (Nat.lt_irrefl _)
theorem Inv.cne (I : Inv X pins σ H s) : ∀ x c, X.env.cells.lookup x = some c → c ≠ X.env.locals := fun x c e z => by
  obtain ⟨v, o, ho, hd⟩ := I.cell x c e
  obtain ⟨m, ⟨o', es, ep, ho', hd', _⟩, _⟩ := I.loc
  rw [z, ho'] at ho; cases ho; rw [hd'] at hd; cases hd
theorem Inv.funs (I : Inv X pins σ H s) : s.heap.FunFrames X.base X.outer := by
  have all : ∀ (l : List Env), (∀ b ∈ frs l, b ∈ X.fs) → X.s₀.heap.FunFrames X.base l → s.heap.FunFrames X.base l := by
    intro l
    induction l with
    | nil => intro _ _; trivial
    | cons env r ih =>
      intro hs hl
      obtain ⟨hk, ⟨L, o, hf, hn, ho, hd⟩, hr⟩ := hl
      have hL : L ∈ X.fs := hs L (by unfold frs; rw [List.filterMap_cons, hf]; exact List.mem_cons_self)
      obtain ⟨sl, e⟩ := I.base.slot L o ho (I.ok.frf L hL) hL fun z => I.ok.exfs L z hL
      exact ⟨hk, ⟨L, _, hf, hn, e, hd⟩, ih (fun b hb => hs b (by unfold frs; rw [List.filterMap_cons, hf]; exact List.mem_cons_of_mem _ hb)) hr⟩
  exact all X.outer (fun _ hb => hb) I.ok.funs
theorem Inv.stack (I : Inv X pins σ H s) : s.heap.FunFrames X.base X.stack := by
  rcases I.ok.stk with e | ⟨e, hf⟩
  · rw [e]; exact I.funs
  · rw [e]
    obtain ⟨m, hn, _⟩ := I.loc
    refine .cons (by rw [I.ok.kind]; decide) hf hn ?_ I.funs
    exact Heap.get?_none_of_le (Nat.le_trans I.ok.bsz I.ok.above)
theorem Inv.stkSub (I : Inv X pins σ H s) : ∀ b ∈ frs X.stack, b ∈ X.env.locals :: X.fs := fun b hb => by
  rcases I.ok.stk with e | ⟨e, hf⟩
  · rw [e] at hb; exact List.mem_cons_of_mem _ hb
  · rw [e] at hb
    unfold frs at hb
    rw [List.filterMap_cons, hf] at hb
    exact hb
theorem Inv.stkFree (I : Inv X pins σ H s) : ∀ b ∈ frs X.stack, H b = none := fun b hb => by
  rcases List.mem_cons.mp (I.stkSub b hb) with e | hb
  · rw [e]; exact I.free
  · obtain ⟨_, o, ho, _⟩ := I.ok.funs.mem hb
    exact I.base.free b o ho (I.ok.frf b hb) fun z => I.ok.exfs b z hb
theorem Inv.step {g' : Array GenState} {t' : Nat} {d' : Drawn} {ch : List Addr} (I : Inv X pins σ H s)
    (hch : ∀ b ∈ ch, (b ∈ X.ex ∨ X.s₀.heap.objs.size ≤ b) ∧ b ≠ X.env.locals ∧ (∀ x c, X.env.cells.lookup x = some c → c ≠ b) ∧ ∀ p ∈ X.pn ++ pins, p.1 ≠ b)
    (keep : ∀ b o, b ≠ X.env.locals → b ∉ X.fs → b ∉ ch → s.heap.get? b = some o → H b = none → h'.get? b = some o)
    (slot : ∀ b o, b ≠ X.env.locals → b ∈ X.fs → b ∉ ch → s.heap.get? b = some o → H b = none → ∃ sl, h'.get? b = some { o with slots := sl }) (free : ∀ b o, b ∉ ch → s.heap.get? b = some o → H b = none → H' b = none)
    (there : ∀ b o, b ∉ ch → s.heap.get? b = some o → ∃ o', h'.get? b = some o')
    (tups : ∀ b xs, H b = some (.tup xs) → H' b = some (.tup xs)) (frzs : ∀ b o u, H b = some (.frz o u) → H' b = some (.frz o u)) (tbls : ∀ b ps, H b = some (.tbl ps) → ∃ more, H' b = some (.tbl (ps ++ more)))
    (ns : ∀ m, s.heap.Ns X.env.locals m → h'.Ns X.env.locals m) (hok : HOk X.prog X.w H' h') (hg : AllBare g') :
    Inv X pins σ H' { s with heap := h', gens := g', drawn := d', toks := t' } := by
  have neL : ∀ b o, X.s₀.heap.get? b = some o → b ≠ X.env.locals := fun b o e => Nat.ne_of_lt (Nat.lt_of_lt_of_le (Heap.lt_size e) I.ok.above)
  have neC : ∀ b o, X.s₀.heap.get? b = some o → b ∉ X.ex → b ∉ ch := fun b o e hx hb => by
    rcases (hch b hb).1 with z | z
    · exact hx z
    · exact absurd (Nat.lt_of_lt_of_le (Heap.lt_size e) z) (Nat.lt_irrefl _)
  have cellK : ∀ x c, X.env.cells.lookup x = some c → ∀ v, s.heap.IsCell c v → h'.IsCell c v := fun x c e v ⟨o, ho, hd⟩ => by
    have nch : c ∉ ch := fun z => (hch c z).2.2.1 x c e rfl
    by_cases hc : c ∈ X.fs
    · obtain ⟨sl, q⟩ := slot c o (I.cne x c e) hc nch ho (I.freeC x c e)
      exact ⟨_, q, hd⟩
    · exact ⟨o, keep c o (I.cne x c e) hc nch ho (I.freeC x c e), hd⟩
  refine ⟨I.ok, I.os, hg, ⟨fun b o e n hb hx => ?_, fun b o e n hb hx => ?_, fun b o e n hx => ?_, fun b o e hx => ?_, fun b xs e => tups b xs (I.base.tups b xs e), fun b o xs e => frzs b o xs (I.base.frzs b o xs e), fun b ps e => ?_⟩, ?_, fun x c e => ?_, ?_, fun x c e => ?_, fun p hp => ?_, hok, I.len⟩
  · exact keep b o (neL b o e) hb (neC b o e hx) (I.base.keep b o e n hb hx) (I.base.free b o e n hx)
  · obtain ⟨sl, e1⟩ := I.base.slot b o e n hb hx
    obtain ⟨sl', e2⟩ := slot b _ (neL b o e) hb (neC b o e hx) e1 (I.base.free b o e n hx)
    exact ⟨sl', e2⟩
  · obtain ⟨o', e1⟩ := I.base.there b o e hx
    exact free b o' (neC b o e hx) e1 (I.base.free b o e n hx)
  · obtain ⟨o', e1⟩ := I.base.there b o e hx
    exact there b o' (neC b o e hx) e1
  · obtain ⟨m1, e1⟩ := I.base.tbls b ps e
    obtain ⟨m2, e2⟩ := tbls b _ e1
    exact ⟨m1 ++ m2, by rw [e2, Array.append_assoc]⟩
  · obtain ⟨m, hn, hl⟩ := I.loc
    refine ⟨m, ns m hn, fun i x v e1 e2 e3 => ?_⟩
    obtain ⟨u, r, l⟩ := hl i x v e1 e2 e3
    refine ⟨u, r, ?_⟩
    rcases l with l | ⟨k, c, e, z⟩
    · exact .inl l
    · exact .inr ⟨k, c, e, cellK x c e _ z⟩
  · obtain ⟨v, z⟩ := I.cell x c e
    exact ⟨v, cellK x c e v z⟩
  · obtain ⟨m, ⟨o, _, _, ho, _⟩, _⟩ := I.loc
    exact free _ o (fun z => (hch _ z).2.1 rfl) ho I.free
  · obtain ⟨v, o, ho, hd⟩ := I.cell x c e
    exact free c o (fun z => (hch c z).2.2.1 x c e rfl) ho (I.freeC x c e)
  · obtain ⟨e, n, ne, nf, d⟩ := I.pin p hp
    have nch : p.1 ∉ ch := fun z => (hch p.1 z).2.2.2 p hp rfl
    exact ⟨keep p.1 p.2 ne nf nch e n, free p.1 p.2 nch e n, ne, nf, d⟩
theorem Inv.un {t' : Nat} (I : Inv X pins σ H s) (u : Un X.fs [] H H' s.heap h') (hok : HOk X.prog X.w H' h') : Inv X pins σ H' { s with heap := h', toks := t' } := by
  obtain ⟨m, ⟨o, es, ep, ho, r⟩, _⟩ := id I.loc
  obtain ⟨sl, hL⟩ := u.any ho I.free (by simp)
  exact I.step (g' := s.gens) (d' := s.drawn) (ch := []) (fun _ z => nomatch z) (fun b o _ hb _ e n => u.keep b o e n hb (by simp)) (fun b o _ hb _ e n => u.slot b o e n hb (by simp)) (fun b o _ e n => u.free b o e n (by simp)) (fun b o _ e => u.there b o e (by simp)) u.tups u.frzs u.tbls (fun m' hm => by
    obtain ⟨o', es', ep', ho', r'⟩ := hm
    rw [ho] at ho'; cases ho'
    exact ⟨_, es', ep', hL, r'⟩) hok I.bare
theorem Inv.call {g' : Array GenState} {t' : Nat} {d' : Drawn} {ch : List Addr} (I : Inv X pins σ H s) (u : Un (frs X.stack) ch H H' s.heap h') (hok : HOk X.prog X.w H' h') (hg : AllBare g')
    (hch : ∀ b ∈ ch, (b ∈ X.ex ∨ X.s₀.heap.objs.size ≤ b) ∧ b ≠ X.env.locals ∧ (∀ x c, X.env.cells.lookup x = some c → c ≠ b) ∧ ∀ p ∈ X.pn ++ pins, p.1 ≠ b) :
    Inv X pins σ H' { s with heap := h', gens := g', drawn := d', toks := t' } := by
  obtain ⟨m, ⟨o, es, ep, ho, r⟩, _⟩ := id I.loc
  obtain ⟨sl, hL⟩ := u.any ho I.free fun z => (hch _ z).2.1 rfl
  exact I.step (ch := ch) hch (fun b o hL hb hc e n => u.keep b o e n (fun z => (List.mem_cons.mp (I.stkSub b z)).elim hL hb) hc) (fun b o _ _ hc e n => u.any e n hc) (fun b o hc e n => u.free b o e n hc) (fun b o hc e => u.there b o e hc) u.tups u.frzs u.tbls (fun m' hm => by
    obtain ⟨o', es', ep', ho', r'⟩ := hm
    rw [ho] at ho'; cases ho'
    exact ⟨_, es', ep', hL, r'⟩) hok hg
theorem Inv.turned {t' : Nat} {it : Addr} (I : Inv X pins σ H s) (k : ∀ b o, b ≠ it → s.heap.get? b = some o → h'.get? b = some o) (hn : H it = none) (hL : it ≠ X.env.locals)
    (h1 : it ∈ X.ex ∨ X.s₀.heap.objs.size ≤ it) (h2 : ∀ x c, X.env.cells.lookup x = some c → c ≠ it) (h3 : ∀ p ∈ X.pn ++ pins, p.1 ≠ it) : Inv X pins σ H { s with heap := h', toks := t' } := by
  have nit : ∀ b u, H b = some u → b ≠ it := fun b u e z => by rw [z, hn] at e; cases e
  refine I.step (g' := s.gens) (d' := s.drawn) (ch := [it]) (fun b hb => ?_) (fun b o _ _ hc e _ => k b o (fun z => hc (by simp [z])) e) (fun b o _ _ hc e _ => ⟨o.slots, k b o (fun z => hc (by simp [z])) e⟩) (fun _ _ _ _ n => n)
    (fun b o hc e => ⟨o, k b o (fun z => hc (by simp [z])) e⟩) (fun _ _ e => e) (fun _ _ _ e => e) (fun b ps e => ⟨#[], by rw [e]; simp⟩) (fun m hm => ?_) (fun b u e => ?_) I.bare
  · have e : b = it := by simpa using hb
    subst e
    exact ⟨h1, hL, h2, h3⟩
  · obtain ⟨o, es, ep, ho, r⟩ := hm
    exact ⟨o, es, ep, k _ o (Ne.symm hL) ho, r⟩
  · refine (I.hok b u e).stay (fun c v hc q => k c v ?_ q) (fun _ q => q) fun _ _ q => q
    rcases hc with z | z
    · rw [z]; exact nit b u e
    · exact nit c _ z
theorem Inv.tok (I : Inv X pins σ H s) (t : Nat) : Inv X pins σ H { s with toks := t } := I.un (h' := s.heap) (t' := t) Un.refl I.hok
theorem Inv.kept {t' : Nat} (I : Inv X pins σ H s) (k : ∀ b u, s.heap.get? b = some u → h'.get? b = some u) : Inv X pins σ H { s with heap := h', toks := t' } := I.un (Un.kept k) (I.hok.kept k)
theorem Inv.laid {a : Addr} {o : HO} {t' : Nat} (I : Inv X pins σ H s) (k : ∀ b u, s.heap.get? b = some u → h'.get? b = some u) (hp : s.heap.objs.size ≤ a) (new : Ey X.prog X.w (upd H a o) h' a o) :
    Inv X pins σ (upd H a o) { s with heap := h', toks := t' } := I.un (Un.laid k hp (I.hok.fresh hp)) (I.hok.laid k hp new)
theorem Inv.write {x e : Addr} {o : HO} {t' : Nat} (I : Inv X pins σ H s) (mu : Mut (H x)) (he : e = x ∨ H e = some (.own x)) (k : ∀ b u, b ≠ e → s.heap.get? b = some u → h'.get? b = some u) (heo : ∃ u, h'.get? e = some u)
    (new : Ey X.prog X.w (upd H x o) h' x o) : Inv X pins σ (upd H x o) { s with heap := h', toks := t' } := I.un (Un.write mu he k heo) (I.hok.write mu he k heo new)
theorem Inv.pins_of {pins' : List (Addr × Obj)} (I : Inv X pins σ H s) (h : ∀ p ∈ pins', s.heap.get? p.1 = some p.2 ∧ H p.1 = none ∧ p.1 ≠ X.env.locals ∧ p.1 ∉ X.fs ∧ ∀ v, p.2.data ≠ .cell v) : Inv X pins' σ H s :=
  ⟨I.ok, I.os, I.bare, I.base, I.loc, I.cell, I.free, I.freeC, fun p hp => (List.mem_append.mp hp).elim (fun z => I.pin p (List.mem_append_left _ z)) (h p), I.hok, I.len⟩
theorem M5 {N : List Str} (hN : N.Nodup) {i j : Nat} {x : Str} (a : N[i]? = some x) (b : N[j]? = some x) : i = j := by
  obtain ⟨h1, e1⟩ := List.getElem?_eq_some_iff.mp a
  obtain ⟨h2, e2⟩ := List.getElem?_eq_some_iff.mp b
  exact (List.getElem_inj hN).mp (e1.trans e2.symm)
theorem Ku {M : Model} {A : Around} {E : Value → Shared → Prop} {i : Nat} {x : Str} {v : V} {u : Value} {Q : Unit → Shared → Prop} (I : Inv X pins σ H s) (hN : X.N.Nodup) (hi : X.N[i]? = some x) (hx : Loc X.env.scope x) (r : RelV v u)
    (h : ∀ s', Inv X pins (σ.set i (some v)) H s' → (∃ a, Heap.SameBut a s.heap s'.heap ∧ (a = X.env.locals ∨ X.env.cells.lookup x = some a)) → Q () s') (hf : X.fn x = true ∨ X.env.scope.names.lookup x = some .local := by first | exact .inl rfl | exact .inr rfl | assumption) : wpAny M A (storeName X.env x u) Q E s := by
  obtain ⟨m, hn, hl⟩ := id I.loc
  have hcls : (X.env.scope.kind == .class || (X.env.scope.kind == .module && X.env.locals != X.env.globals)) = false := by rw [I.ok.kind]; rfl
  have hiσ : i < σ.length := by rw [I.len]; exact (List.getElem?_eq_some_iff.mp hi).1
  have cne := I.cne
  have tracked : ∀ {a : Addr} {h' : Heap}, (∃ o, s.heap.get? a = some o ∧ H a = none) → Heap.SameBut a s.heap h' → HOk X.prog X.w H h' := fun {a h'} ha hs b ob e => by
    obtain ⟨_, _, hfree⟩ := ha
    refine (I.hok b ob e).stay (fun c w' hc q => (hs.2 c ?_).trans q) (fun _ q => q) fun _ _ q => q
    rintro rfl
    rcases hc with rfl | hc
    · rw [hfree] at e; cases e
    · rw [hfree] at hc; cases hc
  rcases hx with hk | hk
  · refine wpAny_storeName_local hk hn (fun h' hn' hs => ?_) hcls
    obtain ⟨oL, _, _, hoL, _⟩ := id hn
    refine h _ ⟨I.ok, I.os, I.bare, ⟨fun b o e n hb hx => ?_, fun b o e n hb hx => ?_, I.base.free, fun b o e hx => ?_, I.base.tups, I.base.frzs, I.base.tbls⟩, ⟨_, hn', fun j y v' e1 e2 e3 => ?_⟩, fun y c e => ?_, I.free, I.freeC, fun p hp => ?_, tracked ⟨oL, hoL, I.free⟩ hs, by simpa using I.len⟩ ⟨_, hs, .inl rfl⟩
    · exact (hs.2 b (Nat.ne_of_lt (Nat.lt_of_lt_of_le (Heap.lt_size e) I.ok.above))).trans (I.base.keep b o e n hb hx)
    · obtain ⟨sl, e1⟩ := I.base.slot b o e n hb hx
      exact ⟨sl, (hs.2 b (Nat.ne_of_lt (Nat.lt_of_lt_of_le (Heap.lt_size e) I.ok.above))).trans e1⟩
    · obtain ⟨o', e1⟩ := I.base.there b o e hx
      exact ⟨o', (hs.2 b (Nat.ne_of_lt (Nat.lt_of_lt_of_le (Heap.lt_size e) I.ok.above))).trans e1⟩
    · by_cases hj : j = i
      · subst hj
        rw [hi] at e1; cases e1
        rw [List.getElem?_set_self hiσ] at e2
        cases e2
        exact ⟨u, r, .inl ⟨hk, by simp⟩⟩
      · rw [List.getElem?_set_ne (Ne.symm hj)] at e2
        obtain ⟨u', r', q⟩ := hl j y v' e1 e2 e3
        refine ⟨u', r', ?_⟩
        rcases q with ⟨k, e⟩ | ⟨k, c, e, z⟩
        · refine .inl ⟨k, ?_⟩
          have : y ≠ x := fun e => hj (M5 hN e1 (e ▸ hi))
          simp [this, e]
        · exact .inr ⟨k, c, e, z.sameBut hs (cne y c e)⟩
    · obtain ⟨w', z⟩ := I.cell y c e
      exact ⟨w', z.sameBut hs (cne y c e)⟩
    · obtain ⟨e, n, ne, nf, d⟩ := I.pin p hp
      exact ⟨(hs.2 p.1 ne).trans e, n, ne, nf, d⟩
  · have hfn : X.fn x = true := by
      rcases hf with z | z
      · exact z
      · rw [z] at hk; cases hk
    obtain ⟨c, hc⟩ := I.ok.has x (.inl hk)
    obtain ⟨w', z⟩ := I.cell x c hc
    refine wpAny_storeName_cell I.ok.kind hk hc z (fun h' hc' hs => ?_)
    obtain ⟨oc, hoc, hocd⟩ := id z
    refine h { s with heap := h' } ⟨I.ok, I.os, I.bare, ⟨fun b o e n hb hx => ?_, fun b o e n hb hx => ?_, I.base.free, fun b o e hx => ?_, I.base.tups, I.base.frzs, I.base.tbls⟩, ⟨m, hn.sameBut hs (Ne.symm (cne x c hc)), fun j y v' e1 e2 e3 => ?_⟩, fun y c' e => ?_, I.free, I.freeC, fun p hp => ?_, tracked ⟨oc, hoc, I.freeC x c hc⟩ hs, by simpa using I.len⟩ ⟨c, hs, .inr hc⟩
    · exact (hs.2 b (Nat.ne_of_lt (Nat.lt_of_lt_of_le (Heap.lt_size e) (I.ok.cab x c hfn hc)))).trans (I.base.keep b o e n hb hx)
    · obtain ⟨sl, e1⟩ := I.base.slot b o e n hb hx
      exact ⟨sl, (hs.2 b (Nat.ne_of_lt (Nat.lt_of_lt_of_le (Heap.lt_size e) (I.ok.cab x c hfn hc)))).trans e1⟩
    · obtain ⟨o', e1⟩ := I.base.there b o e hx
      exact ⟨o', (hs.2 b (Nat.ne_of_lt (Nat.lt_of_lt_of_le (Heap.lt_size e) (I.ok.cab x c hfn hc)))).trans e1⟩
    · by_cases hj : j = i
      · subst hj
        rw [hi] at e1; cases e1
        rw [List.getElem?_set_self hiσ] at e2
        cases e2
        exact ⟨u, r, .inr ⟨.inl hk, c, hc, hc'⟩⟩
      · rw [List.getElem?_set_ne (Ne.symm hj)] at e2
        obtain ⟨u', r', q⟩ := hl j y v' e1 e2 e3
        refine ⟨u', r', ?_⟩
        rcases q with q | ⟨k, c', e, z'⟩
        · exact .inl q
        · refine .inr ⟨k, c', e, z'.sameBut hs ?_⟩
          rintro rfl
          exact hj (M5 hN e1 (I.ok.inj _ _ _ e hc ▸ hi))
    · by_cases hcc : c' = c
      · subst hcc; exact ⟨_, hc'⟩
      · obtain ⟨w2, z2⟩ := I.cell y c' e
        exact ⟨w2, z2.sameBut hs hcc⟩
    · obtain ⟨e, n, ne, nf, d⟩ := I.pin p hp
      refine ⟨(hs.2 p.1 ?_).trans e, n, ne, nf, d⟩
      intro q
      rw [q, hoc] at e
      have q' : oc = p.2 := Option.some.inj e
      exact d w' (by rw [← q']; exact hocd)
theorem MF {M : Model} {A : Around} {E : Value → Shared → Prop} {i : Nat} {x : Str} {v : V} {u : Value} {Q : Unit → Shared → Prop} (I : Inv X pins σ H s) (hN : X.N.Nodup) (hi : X.N[i]? = some x) (hx : Loc X.env.scope x) (r : RelV v u)
    (h : ∀ s', Inv X pins (σ.set i (some v)) H s' → Q () s') (hf : X.fn x = true ∨ X.env.scope.names.lookup x = some .local := by first | exact .inl rfl | exact .inr rfl | assumption) : wpAny M A (storeName X.env x u) Q E s :=
  Ku I hN hi hx r (fun s' I' _ => h s' I') hf
theorem Inv.call' {s' : Shared} {ch : List Addr} (I : Inv X pins σ H s) (ho : s'.os = s.os) (u : Un (frs X.stack) ch H H' s.heap s'.heap) (hok : HOk X.prog X.w H' s'.heap) (hg : AllBare s'.gens)
    (hch : ∀ b ∈ ch, (b ∈ X.ex ∨ X.s₀.heap.objs.size ≤ b) ∧ b ≠ X.env.locals ∧ (∀ x c, X.env.cells.lookup x = some c → c ≠ b) ∧ ∀ p ∈ X.pn ++ pins, p.1 ≠ b) : Inv X pins σ H' s' := by
  obtain ⟨h', g', d', t', o'⟩ := s'
  have e : o' = s.os := ho
  subst e
  exact I.call (g' := g') (t' := t') (d' := d') u hok hg hch
end
noncomputable abbrev XK := Value → Option Addr → Hp → Prop
noncomputable abbrev St := List (Option V)
noncomputable abbrev VK := V → Hp → Prop
noncomputable abbrev TE := St → Hp → VK → Prop
noncomputable abbrev TT := St → Hp → (Bool → Hp → Prop) → Prop
noncomputable abbrev TA := St → Hp → (List V → Hp → Prop) → Prop
structure Ends where
  nx : St → Hp → Prop
  rt : VK
  bk : St → Hp → Prop := fun _ _ => False
  ct : St → Hp → Prop := fun _ _ => False
noncomputable abbrev TS := Ends → St → Hp → Prop
noncomputable def EP (X : Cx) (pins : List (Addr × Obj)) (σ : St) (Q : VK) (u : Value) (s' : Shared) : Prop := ∃ v H', Inv X pins σ H' s' ∧ RelV v u ∧ Q v H'
noncomputable def TP (X : Cx) (pins : List (Addr × Obj)) (σ : St) (Q : Bool → Hp → Prop) (b : Bool) (s' : Shared) : Prop := ∃ H', Inv X pins σ H' s' ∧ Q b H'
noncomputable def AP (X : Cx) (pins : List (Addr × Obj)) (σ : St) (Q : List V → Hp → Prop) (us : List Value) (s' : Shared) : Prop := ∃ vs H', Inv X pins σ H' s' ∧ Vals vs us ∧ Q vs H'
noncomputable def SP (X : Cx) (pins : List (Addr × Obj)) (D : Ends) (f : Flow) (s' : Shared) : Prop :=
  match f with
  | .next => ∃ σ' H', Inv X pins σ' H' s' ∧ D.nx σ' H'
  | .brk => ∃ σ' H', Inv X pins σ' H' s' ∧ D.bk σ' H'
  | .cont => ∃ σ' H', Inv X pins σ' H' s' ∧ D.ct σ' H'
  | .ret u => ∃ v σ' H', Inv X pins σ' H' s' ∧ RelV v u ∧ D.rt v H'
noncomputable def PE (X : Cx) (e : Expr) (t : TE) : Prop :=
  ∀ (pins : List (Addr × Obj)) (s : Shared) (σ : St) (H : Hp) (Q : VK), Inv X pins σ H s → t σ H Q → wpAny (model X.prog X.w) X.A (eval e X.env) (EP X pins σ Q) X.xe s
noncomputable def PT (X : Cx) (e : Expr) (t : TT) : Prop :=
  ∀ (pins : List (Addr × Obj)) (s : Shared) (σ : St) (H : Hp) (Q : Bool → Hp → Prop), Inv X pins σ H s → t σ H Q → wpAny (model X.prog X.w) X.A (isTrue e X.env (eval e X.env)) (TP X pins σ Q) X.xe s
noncomputable def PW (X : Cx) (e : Expr) (t : TT) : Prop :=
  ∀ (whole : Sem Value) (pins : List (Addr × Obj)) (s : Shared) (σ : St) (H : Hp) (Q : Bool → Hp → Prop), Inv X pins σ H s → t σ H Q → wpAny (model X.prog X.w) X.A (isTrue e X.env whole) (TP X pins σ Q) X.xe s
theorem PW.pt {X : Cx} {e : Expr} {t : TT} (h : PW X e t) : PT X e t := h _
noncomputable def PA (X : Cx) (es : List Expr) (t : TA) : Prop :=
  ∀ (pos : Pos) (pins : List (Addr × Obj)) (s : Shared) (σ : St) (H : Hp) (Q : List V → Hp → Prop), Inv X pins σ H s → t σ H Q → wpAny (model X.prog X.w) X.A (spliced (backTo pos (starEach es X.env))) (AP X pins σ Q) X.xe s
noncomputable def PS (X : Cx) (st : Stmt) (t : TS) : Prop :=
  ∀ (pins : List (Addr × Obj)) (s : Shared) (σ : St) (H : Hp) (D : Ends), Inv X pins σ H s → t D σ H → wpAny (model X.prog X.w) X.A (exec st X.env) (SP X pins D) X.xe s
noncomputable def PSs (X : Cx) (st : List Stmt) (t : TS) : Prop :=
  ∀ (pins : List (Addr × Obj)) (s : Shared) (σ : St) (H : Hp) (D : Ends), Inv X pins σ H s → t D σ H → wpAny (model X.prog X.w) X.A (execs st X.env) (SP X pins D) X.xe s
theorem thn {α : Type} {t : Sem α} {Q Q' : α → Shared → Prop} {M : Model} {A : Around} {E : Value → Shared → Prop} {s : Shared} (h : wpAny M A t Q E s) (hQ : ∀ a s, Q a s → Q' a s) : wpAny M A t Q' E s := wpAny_mono h hQ fun _ _ x => x
end L2
namespace L2
open PySem PySem.Spec PyProof.Rows
section
variable {X : Cx}
theorem bin {a b : Expr} {ta tb : TE} (ha : PE X a ta) (hb : PE X b tb) {pins : List (Addr × Obj)} {s : Shared} {σ : St} {H : Hp} {R : V → V → Hp → Prop} (I : Inv X pins σ H s) (h : ta σ H fun x H1 => tb σ H1 fun y H2 => R x y H2)
    {α : Type} {Q : α → Shared → Prop} {f : Value → Value → Sem α}
    (hf : ∀ v u s2 x y H2, Inv X pins σ H2 s2 → RelV x v → RelV y u → R x y H2 → wpAny (model X.prog X.w) X.A (f v u) Q X.xe s2) :
    wpAny (model X.prog X.w) X.A (eval a X.env) (fun v s₁ => wpAny (model X.prog X.w) X.A (eval b X.env) (fun u s₂ => wpAny (model X.prog X.w) X.A (f v u) Q X.xe s₂) X.xe s₁) X.xe s := by
  refine thn (ha pins s σ H _ I h) fun v s1 ⟨x, H1, I1, r1, q1⟩ => ?_
  refine thn (hb pins s1 σ H1 _ I1 q1) fun u s2 ⟨y, H2, I2, r2, q2⟩ => ?_
  exact hf v u s2 x y H2 I2 r1 r2 q2
noncomputable def Aej (i : Nat) : TE := fun σ H Q => ∃ v, σ[i]? = some (some v) ∧ Q v H
noncomputable def tC (v : V) : TE := fun _ H Q => Q v H
theorem Lr {i : Nat} {x : Str} {pos : Pos} (hN : X.N[i]? = some x) (hv : Vis X.env.scope x) (hd : (x == ("__debug__" : Str)) = false := by decide) (hcd : (x == ("__classdict__" : Str)) = false := by decide) : PE X (.Name x pos) (Aej i) := by
  intro pins s σ H Q I h
  obtain ⟨v, e, h⟩ := h
  obtain ⟨m, hn, hl⟩ := I.loc
  obtain ⟨u, r, l⟩ := hl i x v hN e hv
  have fin : EP X pins σ Q u s := ⟨v, H, I, r, h⟩
  rcases l with ⟨hk, hm⟩ | ⟨hk, c, hc, hcell⟩
  · exact wpAny_Name (wpAny_loadName_local I.ok.kind hk hn hm fin) hd
  · rcases hk with hk | hk
    · exact wpAny_Name (wpAny_loadName_cell I.ok.kind hk hc hcell fin) hd
    · exact wpAny_Name (wpAny_loadName_free I.ok.kind hk hc hcell fin hcd) hd
theorem Aab {i j pos} : PE X (.Constant (.int i) j pos) (tC (.int i)) := fun _ _ _ H _ I h => wpAny_Constant_int ⟨.int i, H, I.tok _, ⟨_, rfl⟩, h⟩
theorem AcH {b j pos} : PE X (.Constant (.bool b) j pos) (tC (.bl b)) := fun _ _ _ H _ I h => Constant_bool ⟨.bl b, H, I, rfl, h⟩
theorem AaH {x j pos} : PE X (.Constant (.str x) j pos) (tC (.str x)) := fun _ _ _ H _ I h => Calls.Constant_str ⟨.str x, H, I.tok _, ⟨_, rfl⟩, h⟩
noncomputable def Gl (X : Cx) (x : Str) : Prop := X.env.kindOf x = some .globalImplicit
theorem Q8 {E : Value → Shared → Prop} {pins : List (Addr × Obj)} {s : Shared} {σ : St} {H : Hp} {x : Str} {u : Value} {pos : Pos} {Q : Value → Shared → Prop} (I : Inv X pins σ H s) (hg : Gl X x) (hm : X.mg x = some u) (h : Q u s)
    (hd : (x == ("__debug__" : Str)) = false := by decide) : wpAny (model X.prog X.w) X.A (eval (.Name x pos) X.env) Q E s :=
  Calls.Name_function_global I.ok.kind hg (Calls.loadGlobal_global (by rw [I.ok.glob]; exact I.mod.glob.keeps I.bk) hm h) hd
theorem K3 {E : Value → Shared → Prop} {pins : List (Addr × Obj)} {s : Shared} {σ : St} {H : Hp} {x : Str} {u : Value} {pos : Pos} {Q : Value → Shared → Prop} (I : Inv X pins σ H s) (hg : Gl X x) (hm : X.mg x = none) (hv : bootBuiltins x = some u) (h : Q u s)
    (hn : x ≠ "__name__" := by decide) (hd : (x == ("__debug__" : Str)) = false := by decide) : wpAny (model X.prog X.w) X.A (eval (.Name x pos) X.env) Q E s := by
  obtain ⟨mb, h1, h2⟩ := I.mod.blt
  exact Calls.Name_function_global I.ok.kind hg (Calls.loadGlobal_builtin (by rw [I.ok.glob]; exact I.mod.glob.keeps I.bk) hm (by rw [I.ok.blt]; exact h1.keeps I.bk) ((h2 x hn).trans hv) h) hd
theorem Xx {x : Str} {v : V} {u : Value} {pos : Pos} (hg : Gl X x) (hm : X.mg x = some u) (r : RelV v u) (hd : (x == ("__debug__" : Str)) = false := by decide) : PE X (.Name x pos) (tC v) :=
  fun _ _ _ H _ I h => Q8 I hg hm ⟨v, H, I, r, h⟩ hd
theorem X3 {x : Str} {v : V} {u : Value} {pos : Pos} (hg : Gl X x) (hm : X.mg x = none) (hv : bootBuiltins x = some u) (r : RelV v u) (hn : x ≠ "__name__" := by decide) (hd : (x == ("__debug__" : Str)) = false := by decide) : PE X (.Name x pos) (tC v) :=
  fun _ _ _ H _ I h => K3 I hg hm hv ⟨v, H, I, r, h⟩ hn hd
variable {a b : Expr} {ta tb : TE} {pos : Pos}
noncomputable def PC (X : Cx) (op : CmpOp) (a b : Expr) (t : TE) : Prop :=
  ∀ (pins : List (Addr × Obj)) (s : Shared) (σ : St) (H : Hp) (Q : VK), Inv X pins σ H s → t σ H Q →
    wpAny (model X.prog X.w) X.A (eval a X.env) (fun v s₁ => wpAny (model X.prog X.w) X.A (eval b X.env) (fun u s₂ => wpAny (model X.prog X.w) X.A (compareOp op v u) (EP X pins σ Q) X.xe s₂) X.xe s₁) X.xe s
noncomputable def tB (t : TE) : TT := fun σ H Q => t σ H fun x H1 => ∃ c, x = .bl c ∧ Q c H1
theorem Ad7 {op : CmpOp} {t : TE} (h : PC X op a b t) (h1 : behindInMarks op b = false := by first | exact nobehind _ (by decide) (by decide) | rfl) : PT X (.Compare a [op] [b] pos) (tB t) := by
  intro pins s σ H Q I hw
  refine wpAny_isTrue_Compare1 (thn (h pins s σ H _ I hw) fun v s1 h1 => thn h1 fun u s2 h2 => thn h2 fun c s3 ⟨x, H1, I1, r1, q1⟩ => ?_) h1
  obtain ⟨d, rfl, q⟩ := q1
  cases r1
  exact wpAny_truthy_bool ⟨H1, I1, q⟩
theorem Zk {e : Expr} {t : TE} (h : PE X e t) (he : ∀ whole, isTrue e X.env whole = (do let v ← whole; standAt e.pos; holding [v] (truthy v)) := by intro _; rfl) : PT X e (tB t) := by
  intro pins s σ H Q I hw
  refine isTrue_plain (thn (h pins s σ H _ I hw) fun v s1 ⟨x, H1, I1, r1, q1⟩ => ?_) (he _)
  obtain ⟨d, rfl, q⟩ := q1
  cases r1
  exact wpAny_truthy_bool ⟨H1, I1, q⟩
variable {tA tB' : TT} {rest : List Expr}
noncomputable def AeC (t u : TT) : TT := fun σ H Q => t σ H fun c H1 => if c = true then u σ H1 Q else Q false H1
noncomputable def tOr (t u : TT) : TT := fun σ H Q => t σ H fun c H1 => if c = true then Q true H1 else u σ H1 Q
noncomputable def Aeb (t : TT) : TT := fun σ H Q => t σ H fun c H1 => Q (!c) H1
theorem Wu (ha : PT X a tA) : PW X (.BoolOp .And [a] pos) tA := by
  intro wh pins s σ H Q I h
  refine isTrue_and (thn (ha pins s σ H Q I h) fun c s1 e => ?_)
  cases c with
  | true => exact isTrue_and_nil e
  | false => exact e
theorem Y6 (ha : PT X a tA) : PW X (.BoolOp .Or [a] pos) tA := by
  intro wh pins s σ H Q I h
  refine isTrue_or (thn (ha pins s σ H Q I h) fun c s1 e => ?_)
  cases c with
  | false => exact isTrue_or_nil e
  | true => exact e
theorem Aal (ha : PT X a tA) (hb : PW X (.BoolOp .And (b :: rest) pos) tB') : PW X (.BoolOp .And (a :: b :: rest) pos) (AeC tA tB') := by
  intro wh pins s σ H Q I h
  refine isTrue_and (thn (ha pins s σ H _ I h) fun c s1 ⟨H1, I1, q1⟩ => ?_)
  cases c with
  | true => exact hb wh pins s1 σ H1 Q I1 q1
  | false => exact ⟨H1, I1, q1⟩
theorem AcE (ha : PT X a tA) (hb : PW X (.BoolOp .Or (b :: rest) pos) tB') : PW X (.BoolOp .Or (a :: b :: rest) pos) (tOr tA tB') := by
  intro wh pins s σ H Q I h
  refine isTrue_or (thn (ha pins s σ H _ I h) fun c s1 ⟨H1, I1, q1⟩ => ?_)
  cases c with
  | true => exact ⟨H1, I1, q1⟩
  | false => exact hb wh pins s1 σ H1 Q I1 q1
theorem ZP (ha : PT X a tA) : PT X (.UnaryOp .Not a pos) (Aeb tA) := by
  intro pins s σ H Q I h
  exact isTrue_not (ha pins s σ H (fun c H1 => Q (!c) H1) I h)
noncomputable def Acu (ta tb : TE) : TE := fun σ H Q => ta σ H fun x H1 => ∃ c, x = .bl c ∧ if c = true then tb σ H1 Q else Q (.bl false) H1
noncomputable def AdX (ta tb : TE) : TE := fun σ H Q => ta σ H fun x H1 => ∃ c, x = .bl c ∧ if c = true then Q (.bl true) H1 else tb σ H1 Q
noncomputable def Abm (ta : TE) : TE := fun σ H Q => ta σ H fun x H1 => ∃ c, x = .bl c ∧ Q (.bl (!c)) H1
theorem Aay {op} {t : TE} (h : PE X a t) : PE X (.BoolOp op [a] pos) t := fun pins s σ H Q I hw => BoolOp_one (h pins s σ H Q I hw)
theorem Zx (ha : PE X a ta) (hb : PE X (.BoolOp .And (b :: rest) pos) tb) : PE X (.BoolOp .And (a :: b :: rest) pos) (Acu ta tb) := by
  intro pins s σ H Q I h
  refine BoolOp_and (thn (ha pins s σ H _ I h) fun v s1 ⟨x, H1, I1, r1, q1⟩ => ?_)
  obtain ⟨c, rfl, q1⟩ := q1
  cases r1
  refine wpAny_truthy_bool ?_
  cases c with
  | true => exact hb pins s1 σ H1 Q I1 q1
  | false => exact ⟨.bl false, H1, I1, rfl, q1⟩
theorem AcY (ha : PE X a ta) (hb : PE X (.BoolOp .Or (b :: rest) pos) tb) : PE X (.BoolOp .Or (a :: b :: rest) pos) (AdX ta tb) := by
  intro pins s σ H Q I h
  refine BoolOp_or (thn (ha pins s σ H _ I h) fun v s1 ⟨x, H1, I1, r1, q1⟩ => ?_)
  obtain ⟨c, rfl, q1⟩ := q1
  cases r1
  refine wpAny_truthy_bool ?_
  cases c with
  | false => exact hb pins s1 σ H1 Q I1 q1
  | true => exact ⟨.bl true, H1, I1, rfl, q1⟩
theorem AaP (ha : PE X a ta) : PE X (.UnaryOp .Not a pos) (Abm ta) := by
  intro pins s σ H Q I h
  refine UnaryOp_ (thn (ha pins s σ H _ I h) fun v s1 ⟨x, H1, I1, r1, q1⟩ => ?_)
  obtain ⟨c, rfl, q1⟩ := q1
  cases r1
  exact not_of (wpAny_truthy_bool ⟨.bl (!c), H1, I1, rfl, q1⟩)
end
end L2
namespace L2
open PySem PySem.Spec PyProof.Rows
noncomputable def SqL (K : PySem.W.Frag) (H : Hp) (a : Addr) (xs : List V) : Prop :=
  Rd H a (.lst xs) ∨
    ∃ (o : Obj) (its : Array Value) (n : Nat), K.lookup a = some o ∧ o.cls = .type "list" ∧ o.dict = none ∧ o.data = .seq its n ∧ its.size ≤ sizeLine ∧ Vals xs its.toList
noncomputable def SqT (K : PySem.W.Frag) (H : Hp) (a : Addr) (xs : List V) : Prop :=
  Rd H a (.tup xs) ∨
    ∃ (o : Obj) (its : Array Value) (n : Nat), K.lookup a = some o ∧ o.cls = .type "tuple" ∧ o.data = .seq its n ∧ its.size ≤ sizeLine ∧ Vals xs its.toList
noncomputable def Aec : Value → Option V
  | .none => some .non
  | .bool b => some (.bl b)
  | .int i _ => some (.int i)
  | .str x _ => some (.str x)
  | .bytes b _ => some (.byt b)
  | .float b _ => some (.flt b)
  | .ref a => some (.ref a)
  | .type n => some (.ty n)
  | _ => none
theorem RelV.abs {x : V} {u : Value} (r : RelV x u) : Aec u = some x := by
  cases x with
  | non => cases r; rfl
  | bl _ => cases r; rfl
  | int _ => obtain ⟨t, rfl⟩ := r; rfl
  | str _ => obtain ⟨t, rfl⟩ := r; rfl
  | byt _ => obtain ⟨t, rfl⟩ := r; rfl
  | flt _ => obtain ⟨t, rfl⟩ := r; rfl
  | ref _ => cases r; rfl
  | ty _ => cases r; rfl
theorem RelV.inj {x y : V} {u : Value} (r : RelV x u) (q : RelV y u) : x = y := Option.some.inj (r.abs.symm.trans q.abs)
theorem Vals.inj : ∀ {xs ys : List V} {us : List Value}, Vals xs us → Vals ys us → xs = ys
  | _, _, _, .nil, .nil => rfl
  | _, _, _, .cons r t, .cons r' t' => by rw [r.inj r', Vals.inj t t']
section
variable {X : Cx} {pins : List (Addr × Obj)} {σ : St} {H : Hp} {s : Shared} {a : Addr} {xs ys : List V}
theorem SqL.of {K : PySem.W.Frag} (h : H a = some (.lst xs)) : SqL K H a xs := .inl (.inl h)
theorem SqT.of {K : PySem.W.Frag} (h : H a = some (.tup xs)) : SqT K H a xs := .inl (.inl h)
theorem Inv.list (I : Inv X pins σ H s) (h : SqL X.K H a xs) : ∃ its : List Value, Vals xs its ∧ PlainL s.heap a its.toArray ∧ xs.length ≤ sizeLine := by
  rcases h with h | ⟨o, its, n, hk, hc, hd, hs, hz, r⟩
  · obtain ⟨z, its, n, r, e⟩ := h.ok I.hok
    exact ⟨its, r, ⟨_, n, e, rfl, rfl, rfl⟩, z⟩
  · refine ⟨its.toList, r, ⟨o, n, I.kIn a o hk, hc, hd, by simpa using hs⟩, ?_⟩
    have e := r.length
    simp only [Array.length_toList] at e
    omega
theorem Inv.tuple (I : Inv X pins σ H s) (h : SqT X.K H a xs) : ∃ its : List Value, Vals xs its ∧ IsTup s.heap a its.toArray ∧ xs.length ≤ sizeLine := by
  rcases h with h | ⟨o, its, n, hk, hc, hs, hz, r⟩
  · obtain ⟨z, its, r, p⟩ := h.ok I.hok
    exact ⟨its, r, p, z⟩
  · refine ⟨its.toList, r, ⟨o, I.kIn a o hk, hc, n, by simpa using hs⟩, ?_⟩
    have e := r.length
    simp only [Array.length_toList] at e
    omega
theorem Inv.list_inj (I : Inv X pins σ H s) (h : SqL X.K H a xs) (h' : SqL X.K H a ys) : xs = ys := by
  obtain ⟨its, r, ⟨o, n, e, _, _, d⟩, _⟩ := I.list h
  obtain ⟨its', r', ⟨o', n', e', _, _, d'⟩, _⟩ := I.list h'
  rw [e] at e'; cases e'
  rw [d] at d'
  injection d' with d1 _
  have : its = its' := by simpa using congrArg Array.toList d1
  subst this
  exact r.inj r'
theorem Inv.tuple_inj (I : Inv X pins σ H s) (h : SqT X.K H a xs) (h' : SqT X.K H a ys) : xs = ys := by
  obtain ⟨its, r, ⟨o, e, _, n, d⟩, _⟩ := I.tuple h
  obtain ⟨its', r', ⟨o', e', _, n', d'⟩, _⟩ := I.tuple h'
  rw [e] at e'; cases e'
  rw [d] at d'
  injection d' with d1 _
  have : its = its' := by simpa using congrArg Array.toList d1
  subst this
  exact r.inj r'
end
noncomputable abbrev Cx.wish (X : Cx) (E : Value → Shared → Prop) : Cx := { X with xe := E }
noncomputable abbrev Cx.nox (X : Cx) : Cx := X.wish fun _ _ => False
theorem Cx.Ok.wish {X : Cx} (ok : X.Ok) (E : Value → Shared → Prop) : (X.wish E).Ok :=
  ⟨ok.mod, ok.kind, ok.glob, ok.blt, ok.above, ok.inj, ok.has, ok.cab, ok.hd, ok.frames, ok.stk, ok.exf, ok.bs, ok.bsz, ok.noex, ok.exfs, ok.funs, ok.frf⟩
theorem Cx.Ok.unwish {X : Cx} {E : Value → Shared → Prop} (ok : (X.wish E).Ok) : X.Ok :=
  ⟨ok.mod, ok.kind, ok.glob, ok.blt, ok.above, ok.inj, ok.has, ok.cab, ok.hd, ok.frames, ok.stk, ok.exf, ok.bs, ok.bsz, ok.noex, ok.exfs, ok.funs, ok.frf⟩
section
variable {X : Cx} {pins : List (Addr × Obj)} {σ : St} {H : Hp} {s : Shared} {E : Value → Shared → Prop}
theorem Inv.wish (I : Inv X pins σ H s) (E : Value → Shared → Prop) : Inv (X.wish E) pins σ H s := ⟨I.ok.wish E, I.os, I.bare, I.base, I.loc, I.cell, I.free, I.freeC, I.pin, I.hok, I.len⟩
theorem Inv.unwish (I : Inv (X.wish E) pins σ H s) : Inv X pins σ H s := ⟨I.ok.unwish, I.os, I.bare, I.base, I.loc, I.cell, I.free, I.freeC, I.pin, I.hok, I.len⟩
theorem SP.unwish {D : Ends} {f : Flow} {s' : Shared} (h : SP (X.wish E) pins D f s') : SP X pins D f s' := by
  cases f with
  | next => obtain ⟨σ', H', I, q⟩ := h; exact ⟨σ', H', I.unwish, q⟩
  | brk => obtain ⟨σ', H', I, q⟩ := h; exact ⟨σ', H', I.unwish, q⟩
  | cont => obtain ⟨σ', H', I, q⟩ := h; exact ⟨σ', H', I.unwish, q⟩
  | ret u => obtain ⟨v, σ', H', I, r, q⟩ := h; exact ⟨v, σ', H', I.unwish, r, q⟩
theorem PSs.nox {st : List Stmt} {t : TS} (h : PSs X.nox st t) : PSs X st t := fun pins s σ H D I hw =>
  wpAny_mono (h pins s σ H D (I.wish _) hw) (fun _ _ q => q.unwish) fun _ _ z => False.elim z
end
section
variable {X : Cx} {st : Stmt} {rest : List Stmt} {t u : TS} {e : Expr} {te : TE} {pos : Pos}
noncomputable def Abe : TS := fun D σ H => D.nx σ H
noncomputable def AdL (t u : TS) : TS := fun D σ H => t { D with nx := u D } σ H
theorem Wm : PSs X [] Abe := fun _ _ σ H _ I h => wpAny_execs_nil ⟨σ, H, I, h⟩
theorem Vn (h1 : PS X st t) (h2 : PSs X rest u) : PSs X (st :: rest) (AdL t u) := by
  intro pins s σ H D I h
  refine wpAny_execs_cons (thn (h1 pins s σ H { D with nx := u D } I h) fun f s1 q => ?_)
  cases f with
  | next =>
    obtain ⟨σ', H', I', q⟩ := q
    exact h2 pins s1 σ' H' D I' q
  | ret v => exact q
  | brk => exact q
  | cont => exact q
theorem Wr (h1 : PS X st t) : PSs X [st] t := by
  intro pins s σ H D I h
  refine wpAny_execs_cons (thn (h1 pins s σ H D I h) fun f s1 q => ?_)
  cases f with
  | next => exact wpAny_execs_nil q
  | ret v => exact q
  | brk => exact q
  | cont => exact q
theorem Inv.quiet {pins : List (Addr × Obj)} {σ : St} {H : Hp} {s : Shared} (I : Inv X pins σ H s) : interactive X.env = false := by simp [interactive, I.ok.kind]
noncomputable def Acb (te : TE) : TS := fun D σ H => te σ H fun _ H1 => D.nx σ H1
theorem QG (he : PE X e te) (hs : swapsWith e none pos.line X.env = pure false := by rfl) : PS X (.Expr e pos) (Acb te) := by
  intro pins s σ H D I h
  exact wpAny_Expr_any (thn (he pins s σ H _ I h) fun v s1 ⟨x, H1, I1, r1, q1⟩ => ⟨σ, H1, I1, q1⟩) I.quiet hs
noncomputable def Adj (te : TE) : TS := fun D σ H => te σ H D.rt
theorem Zm (he : PE X e te) : PS X (.Return (some e) pos) (Adj te) := by
  intro pins s σ H D I h
  exact wpAny_Return_some (thn (he pins s σ H _ I h) fun v s1 ⟨x, H1, I1, r1, q1⟩ => ⟨x, σ, H1, I1, r1, q1⟩)
noncomputable def Aem (c : TT) (t u : TS) : TS := fun D σ H => c σ H fun b H1 => if b = true then t D σ H1 else u D σ H1
theorem AbJ {c : Expr} {a b : List Stmt} {tc : TT} (hc : PT X c tc) (ha : PSs X a t) (hb : PSs X b u) : PS X (.If c a b pos) (Aem tc t u) := by
  intro pins s σ H D I h
  refine wpAny_If (thn (hc pins s σ H _ I h) fun d s1 ⟨H1, I1, q1⟩ => ?_)
  cases d with
  | true => exact ha pins s1 σ H1 D I1 q1
  | false => exact hb pins s1 σ H1 D I1 q1
noncomputable def Zi : TS := fun _ _ _ => False
theorem Ud : PS X st Zi := fun _ _ _ _ _ _ h => h.elim
end
noncomputable abbrev TG := V → St → Hp → (St → Hp → Prop) → Prop
noncomputable abbrev TGs := List V → St → Hp → (St → Hp → Prop) → Prop
noncomputable def PG (X : Cx) (target : Expr) (t : TG) : Prop :=
  ∀ (pins : List (Addr × Obj)) (s : Shared) (σ : St) (H : Hp) (v : V) (u : Value) (Q : St → Hp → Prop), Inv X pins σ H s → RelV v u → t v σ H Q →
    wpAny (model X.prog X.w) X.A (assign target X.env u) (fun _ s' => ∃ σ' H', Inv X pins σ' H' s' ∧ Q σ' H') X.xe s
noncomputable def PGs (X : Cx) (ts : List Expr) (t : TGs) : Prop :=
  ∀ (pins : List (Addr × Obj)) (s : Shared) (σ : St) (H : Hp) (vs : List V) (us : List Value) (Q : St → Hp → Prop), Inv X pins σ H s → Vals vs us → t vs σ H Q →
    wpAny (model X.prog X.w) X.A (assignInOrder ((assignEach ts X.env).map (·.2)) us) (fun _ s' => ∃ σ' H', Inv X pins σ' H' s' ∧ Q σ' H') X.xe s
section
variable {X : Cx} {pos : Pos}
noncomputable def Q5 (i : Nat) : TG := fun v σ H Q => Q (σ.set i (some v)) H
theorem Mt {i : Nat} {x : Str} (hN : X.N.Nodup) (hi : X.N[i]? = some x) (hx : Loc X.env.scope x) (hf : X.fn x = true ∨ X.env.scope.names.lookup x = some .local := by first | exact .inl rfl | exact .inr rfl | assumption) : PG X (.Name x pos) (Q5 i) := by
  intro pins s σ H v u Q I r h
  exact wpAny_assign_Name (MF I hN hi hx r (fun s' I' => ⟨_, H, I', h⟩) hf)
noncomputable def Adb : TGs := fun vs σ H Q => vs = [] ∧ Q σ H
noncomputable def Abf (t : TG) (u : TGs) : TGs := fun vs σ H Q => ∃ v r, vs = v :: r ∧ t v σ H fun σ' H' => u r σ' H' Q
theorem V0 : PGs X [] Adb := by
  intro pins s σ H vs us Q I r h
  obtain ⟨e, h⟩ := h
  subst e
  cases r
  exact assignInOrder_nil ⟨σ, H, I, h⟩
theorem Ur {e : Expr} {es : List Expr} {t : TG} {u : TGs} (h1 : PG X e t) (h2 : PGs X es u)
    (hs : (assignEach (e :: es) X.env).map (·.2) = assign e X.env :: (assignEach es X.env).map (·.2) := by rfl) : PGs X (e :: es) (Abf t u) := by
  intro pins s σ H vs us Q I r h
  obtain ⟨v, vr, e1, h⟩ := h
  subst e1
  cases r with
  | cons r rr =>
    rw [hs]
    refine assignInOrder_cons (thn (h1 pins s σ H _ _ _ I r h) fun _ s1 ⟨σ1, H1, I1, q1⟩ => ?_)
    exact h2 pins s1 σ1 H1 _ _ Q I1 rr q1
noncomputable def AdD (K : PySem.W.Frag) (n : Nat) (t : TGs) : TG := fun v σ H Q => ∃ a xs, v = .ref a ∧ SqT K H a xs ∧ xs.length = n ∧ t xs σ H Q
theorem Aaz {es : List Expr} {k : Nat} {t : TGs} {n : Nat} (hc : X.calm = true) (h : PGs X es t)
    (hn : (assignEach es X.env).length = n := by rfl) (hst : (assignEach es X.env).findIdx? (·.1) = none := by rfl) : PG X (.Tuple es k pos) (AdD X.K n t) := by
  intro pins s σ H v u Q I r hw
  obtain ⟨a, xs, e1, hq, hl, hw⟩ := hw
  subst e1
  cases r
  obtain ⟨its, rv, ht, hz⟩ := I.tuple hq
  refine assign_Tuple_tuple (I.ok.hd hc) ht (by simp [hn, ← hl, rv.length]) hst fun h' hx => ?_
  have I1 : Inv X pins σ H { s with heap := h' } := I.kept (t' := s.toks) fun b o e => hx b o (Nat.ne_of_lt (Heap.lt_size e)) e
  exact h pins _ σ H xs _ Q I1 (by simpa using rv) hw
noncomputable def AcT (te : TE) (g : TG) : TS := fun D σ H => te σ H fun x H1 => g x σ H1 D.nx
theorem Za {tg e : Expr} {te : TE} {g : TG} (he : PE X e te) (hg : PG X tg g) (hs : swapsWithSole [tg] e pos.line X.env = pure false := by rfl) (hw : swappedStores [tg] e X.env = pure none := by rfl)
    (h1 : (assignEach [tg] X.env).map (·.2) = [assign tg X.env] := by rfl) : PS X (.Assign [tg] e pos) (AcT te g) := by
  intro pins s σ H D I h
  refine wpAny_Assign_stores (thn (he pins s σ H _ I h) fun v s1 ⟨x, H1, I1, r1, q1⟩ => ?_) hs hw
  rw [h1]
  exact thn (hg pins s1 σ H1 x v _ I1 r1 q1) fun _ s2 q => q
theorem O5 {i : Nat} {x : Str} {e : Expr} {te : TE} {pos' : Pos} (hN : X.N.Nodup) (hi : X.N[i]? = some x) (hx : Loc X.env.scope x) (he : PE X e te) (hs : swapsWith e (some (.Name x pos')) pos.line X.env = pure false := by rfl) (hf : X.fn x = true ∨ X.env.scope.names.lookup x = some .local := by first | exact .inl rfl | exact .inr rfl | assumption) :
    PS X (.Assign [.Name x pos'] e pos) (AcT te (Q5 i)) := by
  intro pins s σ H D I h
  refine wpAny_Assign_Name (thn (he pins s σ H _ I h) fun v s1 ⟨y, H1, I1, r1, q1⟩ => ?_) hs
  exact MF I1 hN hi hx r1 (fun s2 I2 => ⟨_, H1, I2, q1⟩) hf
end
section
variable {X : Cx} {pos : Pos}
noncomputable def AaR (c : TT) (tb : TS) : TS := fun D σ H => ∃ W : Nat → St → Hp → Prop, (∃ m, W m σ H) ∧ ∀ m σ H, W m σ H →
  c σ H fun b H1 => if b = true then ∃ N : St → Hp → Prop, (∀ σ' H', N σ' H' → ∃ m', m' < m ∧ W m' σ' H') ∧ tb { D with nx := N, ct := N, bk := D.nx } σ H1 else D.nx σ H1
theorem U4 {c : Expr} {body : List Stmt} {tc : TT} {tb : TS} (hp : PassesOwn (model X.prog X.w) X.A X.env X.xe) (hc : PT X c tc) (hb : PSs X body tb) : PS X (.While c body [] pos) (AaR tc tb) := by
  intro pins s σ H D I h
  obtain ⟨W, ⟨m0, w0⟩, turn⟩ := h
  refine wpAny_While (codeAny_whileLoop (fun n s' => ∃ σ' H', Inv X pins σ' H' s' ∧ W n σ' H') ?_ m0 ⟨σ, H, I, w0⟩)
  rintro n s1 ⟨σ1, H1, I1, w1⟩
  refine wpAny_passesOwn hp (thn (hc pins s1 σ1 H1 _ I1 (turn n σ1 H1 w1)) fun b s2 ⟨H2, I2, q2⟩ => ?_)
  cases b with
  | true =>
    obtain ⟨N, hN, q2⟩ := q2
    rw [if_pos rfl]
    refine wpAny_passesOwn hp (thn (hb pins s2 σ1 H2 _ I2 q2) fun f s3 q3 => ?_)
    cases f with
    | next =>
      obtain ⟨σ3, H3, I3, n3⟩ := q3
      obtain ⟨m', hm, w3⟩ := hN σ3 H3 n3
      exact ⟨m', hm, σ3, H3, I3, w3⟩
    | cont =>
      obtain ⟨σ3, H3, I3, n3⟩ := q3
      obtain ⟨m', hm, w3⟩ := hN σ3 H3 n3
      exact ⟨m', hm, σ3, H3, I3, w3⟩
    | brk => exact q3
    | ret v => exact q3
  | false =>
    rw [if_neg Bool.false_ne_true]
    exact wpAny_execs_nil ⟨σ1, H2, I2, q2⟩
end
structure It where
  go : Nat → Hp → Prop
  yld : Nat → Hp → V → Hp → Prop
  stop : Nat → Hp → Prop
noncomputable def Ih (X : Cx) (pins : List (Addr × Obj)) (H : Hp) (b : Addr) : Prop :=
  H b = none ∧ b ≠ X.env.locals ∧ b ∉ X.fs ∧ (b ∈ X.ex ∨ X.s₀.heap.objs.size ≤ b) ∧ (∀ x c, X.env.cells.lookup x = some c → c ≠ b) ∧ ∀ p ∈ X.pn ++ pins, p.1 ≠ b
theorem Inv.fpOk {X : Cx} {pins : List (Addr × Obj)} {σ : St} {H H' : Hp} {s : Shared} {b : Addr} (I : Inv X pins σ H s) (hb : s.heap.objs.size ≤ b) (hn : H' b = none) : Ih X pins H' b := by
  refine ⟨hn, Nat.ne_of_gt (Nat.lt_of_lt_of_le I.lt hb), I.nofs hb, .inr (Nat.le_trans I.sz hb), fun x c e z => ?_, fun p hp z => ?_⟩
  · obtain ⟨v, q⟩ := I.cell x c e
    exact absurd (Nat.lt_of_lt_of_le q.lt (by rw [z]; exact hb)) (Nat.lt_irrefl _)
  · exact absurd (Nat.lt_of_lt_of_le (Heap.lt_size (I.pin p hp).1) (by rw [z]; exact hb)) (Nat.lt_irrefl _)
structure Turn (P : Program) (w : World) (K : PySem.W.Frag) (tg : Expr) (J : It) (fp : List Addr) (it : Addr) (tn : Nat → Heap → Prop) : Prop where
  mem : it ∈ fp
  obj : ∀ i h, tn i h → ∀ b ∈ fp, ∃ o, h.get? b = some o ∧ ∀ v, o.data ≠ .cell v
  keep : ∀ i h h', tn i h → (∀ b ∈ fp, ∀ o, h.get? b = some o → h'.get? b = some o) → tn i h'
  item : ∀ (X : Cx), X.prog = P → X.w = w → X.K = K → X.calm = true → ∀ (i : Nat) (pins : List (Addr × Obj)) (s : Shared) (σ : St) (H : Hp) (E : Value → Shared → Prop), Inv X pins σ H s → (∀ b ∈ fp, Ih X pins H b) → tn i s.heap → J.go i H →
    wpAny (model P w) X.A (pyNext (.ref it)) (fun r s1 => ∃ u, r = some u ∧
      wpAny (model P w) X.A (letOwnedTupleGo tg (.ref it) u) (fun _ s2 => ∃ x H', Inv X pins σ H' s2 ∧ RelV x u ∧ J.yld i H x H' ∧ tn (i + 1) s2.heap ∧ ∀ b ∈ fp, H' b = none) E s1) E s
  done : ∀ (X : Cx), X.prog = P → X.w = w → X.K = K → X.calm = true → ∀ (i : Nat) (pins : List (Addr × Obj)) (s : Shared) (σ : St) (H : Hp) (E : Value → Shared → Prop), Inv X pins σ H s → (∀ b ∈ fp, Ih X pins H b) → tn i s.heap → J.stop i H →
    wpAny (model P w) X.A (pyNext (.ref it)) (fun r s1 => r = none ∧ Inv X pins σ H s1) E s
  self : ∀ (A : Around) (i : Nat) (s : Shared) (Q : Value → Shared → Prop) (E : Value → Shared → Prop), tn i s.heap → Q (.ref it) s → wpAny (model P w) A (pyIter (.ref it)) Q E s
noncomputable abbrev TI := St → Hp → (It → Hp → Prop) → Prop
noncomputable def PIE (X : Cx) (pins : List (Addr × Obj)) (σ : St) (tg : Expr) (R : It → Hp → Prop) (itv : Value) (s2 : Shared) : Prop :=
  ∃ (it : Addr) (fp : List Addr) (tn : Nat → Heap → Prop) (J : It) (H' : Hp), itv = .ref it ∧ Inv X pins σ H' s2 ∧ Turn X.prog X.w X.K tg J fp it tn ∧ tn 0 s2.heap ∧ (∀ b ∈ fp, Ih X pins H' b) ∧ R J H'
noncomputable def PI (X : Cx) (tg iter : Expr) (wi : TI) : Prop :=
  ∀ (pins : List (Addr × Obj)) (s : Shared) (σ : St) (H : Hp) (R : It → Hp → Prop), Inv X pins σ H s → wi σ H R →
    wpAny (model X.prog X.w) X.A (eval iter X.env) (fun v s1 => wpAny (model X.prog X.w) X.A (pyIter v) (PIE X pins σ tg R) X.xe s1) X.xe s
theorem Ut {M : Model} {A : Around} {E : Value → Shared → Prop} {s : Shared} {tg : Expr} {it : Addr} {u : Value} {o : Obj} {n : String} {vs : Array Value} {Q : Unit → Shared → Prop} (ho : s.heap.get? it = some o) (hc : o.cls = .type n) (hd : o.data = .fields vs)
    (hn : ["enumerate", "zip", "dict_itemiterator", "dict_reverseitemiterator", "odict_iterator", "itertools.zip_longest", "itertools.pairwise"].contains n = false) (hQ : Q () s) : wpAny M A (letOwnedTupleGo tg (.ref it) u) Q E s := by
  unfold letOwnedTupleGo
  cases tg <;> first
    | exact wpAny_pure hQ
    | (cases u <;> first
        | exact wpAny_pure hQ
        | (refine wpAny_bind (wpAny_load ho ?_)
           rw [hc, hd]
           show wpAny M A (if (["enumerate", "zip", "dict_itemiterator", "dict_reverseitemiterator", "odict_iterator", "itertools.zip_longest", "itertools.pairwise"].contains n && vs[0]? == some (rawInt _)) = true then _ else _) Q E s
           rw [if_neg (by intro h; rw [hn, Bool.false_and] at h; cases h)]
           exact wpAny_pure hQ))
noncomputable def Itl (K : PySem.W.Frag) (a : Addr) : It :=
  ⟨fun i H => ∃ xs x, SqL K H a xs ∧ xs[i]? = some x, fun i H x H' => H' = H ∧ ∀ xs, SqL K H a xs → xs[i]? = some x, fun i H => ∃ xs, SqL K H a xs ∧ xs.length ≤ i⟩
noncomputable def Itt (K : PySem.W.Frag) (a : Addr) : It :=
  ⟨fun i H => ∃ xs x, SqT K H a xs ∧ xs[i]? = some x, fun i H x H' => H' = H ∧ ∀ xs, SqT K H a xs → xs[i]? = some x, fun i H => ∃ xs, SqT K H a xs ∧ xs.length ≤ i⟩
noncomputable def Itr (lo : Int) (n : Nat) : It := ⟨fun i _ => i < n, fun i H x H' => H' = H ∧ x = .int (lo + i), fun i _ => n ≤ i⟩
theorem RW {P : Program} {w : World} {K : PySem.W.Frag} {tg : Expr} (a it : Addr) : Turn P w K tg (Itl K a) [it] it (fun i h => h.IsListIter it a i) where
  mem := by simp
  obj := fun i h st b hb => by
    have e : b = it := by simpa using hb
    subst e
    obtain ⟨o, e, c, d⟩ := st
    exact ⟨o, e, fun v z => by rw [d] at z; cases z⟩
  keep := fun i h h' st k => st.at fun o e => k it (by simp) o e
  item := by
    intro X hP hw hK hc i pins s σ H E I hf st hg
    subst hP hw hK
    obtain ⟨xs, x, hq, hx⟩ := hg
    obtain ⟨its, rv, p, hz⟩ := I.list hq
    obtain ⟨u, hu, ru⟩ := rv.get hx
    obtain ⟨f0, f1, f2, f3, f4, f5⟩ := hf it (by simp)
    refine wpAny_pyNext_list_item st p.isList (x := u) (by simpa using hu) fun h' st' sb => ?_
    have I1 : Inv X pins σ H { s with heap := h' } := I.turned (t' := s.toks) (fun b o hb e => (sb.2 b hb).trans e) f0 f1 f3 f4 f5
    obtain ⟨o, e, c, d⟩ := id st'
    exact ⟨u, rfl, Ut (s := { s with heap := h' }) e c d (by decide) ⟨x, H, I1, ru, ⟨rfl, fun ys hy => by rw [I.list_inj hy hq]; exact hx⟩, st', fun b hb => (hf b hb).1⟩⟩
  done := by
    intro X hP hw hK hc i pins s σ H E I hf st hg
    subst hP hw hK
    obtain ⟨xs, hq, hx⟩ := hg
    obtain ⟨its, rv, p, hz⟩ := I.list hq
    obtain ⟨f0, f1, f2, f3, f4, f5⟩ := hf it (by simp)
    have hl := rv.length
    exact wpAny_pyNext_list_end (I.ok.hd hc) st p.isList (by simp; omega) fun h' eb => ⟨rfl, I.turned (t' := s.toks) (fun b o hb e => eb b o hb e) f0 f1 f3 f4 f5⟩
  self := fun _ _ _ _ _ st h => wpAny_pyIter_listiter st h
theorem O1 {P : Program} {w : World} {K : PySem.W.Frag} {tg : Expr} (a it : Addr) : Turn P w K tg (Itt K a) [it] it (fun i h => h.IsTupleIter it a i) where
  mem := by simp
  obj := fun i h st b hb => by
    have e : b = it := by simpa using hb
    subst e
    obtain ⟨o, e, c, d⟩ := st
    exact ⟨o, e, fun v z => by rw [d] at z; cases z⟩
  keep := fun i h h' st k => st.at fun o e => k it (by simp) o e
  item := by
    intro X hP hw hK hc i pins s σ H E I hf st hg
    subst hP hw hK
    obtain ⟨xs, x, hq, hx⟩ := hg
    obtain ⟨its, rv, p, hz⟩ := I.tuple hq
    obtain ⟨u, hu, ru⟩ := rv.get hx
    obtain ⟨f0, f1, f2, f3, f4, f5⟩ := hf it (by simp)
    refine wpAny_pyNext_tuple_item st (show s.heap.IsTuple a its.toArray from p) (x := u) (by simpa using hu) fun h' st' sb => ?_
    have I1 : Inv X pins σ H { s with heap := h' } := I.turned (t' := s.toks) (fun b o hb e => (sb.2 b hb).trans e) f0 f1 f3 f4 f5
    obtain ⟨o, e, c, d⟩ := id st'
    exact ⟨u, rfl, Ut (s := { s with heap := h' }) e c d (by decide) ⟨x, H, I1, ru, ⟨rfl, fun ys hy => by rw [I.tuple_inj hy hq]; exact hx⟩, st', fun b hb => (hf b hb).1⟩⟩
  done := by
    intro X hP hw hK hc i pins s σ H E I hf st hg
    subst hP hw hK
    obtain ⟨xs, hq, hx⟩ := hg
    obtain ⟨its, rv, p, hz⟩ := I.tuple hq
    obtain ⟨f0, f1, f2, f3, f4, f5⟩ := hf it (by simp)
    have hl := rv.length
    exact wpAny_pyNext_tuple_end (I.ok.hd hc) st (show s.heap.IsTuple a its.toArray from p) (by simp; omega) fun h' eb => ⟨rfl, I.turned (t' := s.toks) (fun b o hb e => eb b o hb e) f0 f1 f3 f4 f5⟩
  self := fun _ _ _ _ _ st h => wpAny_pyIter_tupleiter st h
theorem PK {P : Program} {w : World} {K : PySem.W.Frag} {tg : Expr} (it : Addr) (lo : Int) (n : Nat) : Turn P w K tg (Itr lo n) [it] it (fun i h => IsRangeIter h it (lo + (i : Nat) * 1) ((n : Int) - (i : Nat)) 1) where
  mem := by simp
  obj := fun i h st b hb => by
    have e : b = it := by simpa using hb
    subst e
    exact ⟨_, st, fun v z => by
      have z' : Data.fields _ = Data.cell v := z
      cases z'⟩
  keep := fun i h h' st k => k it (by simp) _ st
  item := by
    intro X hP hw hK hc i pins s σ H E I hf st hg
    subst hP hw hK
    obtain ⟨f0, f1, f2, f3, f4, f5⟩ := hf it (by simp)
    have W := Walks.range (prog := X.prog) (w := X.w) (I.ok.hd hc) it lo 1 n
    refine W.item i s _ _ hg st fun v h' tk hv st' kk => ?_
    obtain ⟨t, rfl⟩ := hv
    have I1 : Inv X pins σ H { s with heap := h', toks := tk } := I.turned (fun b o hb e => kk b o (by simpa using hb) e) f0 f1 f3 f4 f5
    refine ⟨_, rfl, Ut (s := { s with heap := h', toks := tk }) (n := "range_iterator") st' rfl rfl (by decide) ⟨.int (lo + i), H, I1, ⟨t, ?_⟩, ⟨rfl, rfl⟩, st', fun b hb => (hf b hb).1⟩⟩
    rw [Int.mul_one]
  done := by
    intro X hP hw hK hc i pins s σ H E I hf st hg
    subst hP hw hK
    obtain ⟨f0, f1, f2, f3, f4, f5⟩ := hf it (by simp)
    exact wpAny_pyNext_range_end (I.ok.hd hc) st (by have : n ≤ i := hg; omega) fun h' eb => ⟨rfl, I.turned (t' := s.toks) (fun b o hb e => eb b o hb e) f0 f1 f3 f4 f5⟩
  self := fun _ _ _ _ _ st h => wpAny_pyIter_rangeiter st h
end L2
namespace L2
open PySem PySem.Spec PyProof.Rows
section
variable {X : Cx} {tg : Expr}
noncomputable def AcN (K : PySem.W.Frag) (tl : TE) : TI := fun σ H R => tl σ H fun x H1 => ∃ a, x = .ref a ∧ (∃ xs, SqL K H1 a xs) ∧ R (Itl K a) H1
noncomputable def Ade (K : PySem.W.Frag) (tl : TE) : TI := fun σ H R => tl σ H fun x H1 => ∃ a, x = .ref a ∧ (∃ xs, SqT K H1 a xs) ∧ R (Itt K a) H1
theorem V2 {l : Expr} {tl : TE} (hl : PE X l tl) : PI X tg l (AcN X.K tl) := by
  intro pins s σ H R I h
  refine thn (hl pins s σ H _ I h) fun v s1 ⟨x, H1, I1, r1, q1⟩ => ?_
  obtain ⟨a, e, ⟨xs, hq⟩, q⟩ := q1
  subst e
  cases r1
  obtain ⟨its, rv, p, hz⟩ := I1.list hq
  refine wpAny_pyIter_list p.isList ?_
  refine ⟨s1.heap.objs.size, [s1.heap.objs.size], _, _, H1, rfl, I1.kept (t' := s1.toks) fun b o e => Heap.get?_push_of_some _ e, RW a _, ⟨_, Heap.get?_push_size _ rfl, rfl, rfl⟩, fun b hb => ?_, q⟩
  have e : b = s1.heap.objs.size := by simpa using hb
  subst e
  exact I1.fpOk (Nat.le_refl _) (I1.hok.fresh (Nat.le_refl _))
theorem Aad {l : Expr} {tl : TE} (hl : PE X l tl) : PI X tg l (Ade X.K tl) := by
  intro pins s σ H R I h
  refine thn (hl pins s σ H _ I h) fun v s1 ⟨x, H1, I1, r1, q1⟩ => ?_
  obtain ⟨a, e, ⟨xs, hq⟩, q⟩ := q1
  subst e
  cases r1
  obtain ⟨its, rv, p, hz⟩ := I1.tuple hq
  refine wpAny_pyIter_tuple (show s1.heap.IsTuple a its.toArray from p) ?_
  refine ⟨s1.heap.objs.size, [s1.heap.objs.size], _, _, H1, rfl, I1.kept (t' := s1.toks) fun b o e => Heap.get?_push_of_some _ e, O1 a _, ⟨_, Heap.get?_push_size _ rfl, rfl, rfl⟩, fun b hb => ?_, q⟩
  have e : b = s1.heap.objs.size := by simpa using hb
  subst e
  exact I1.fpOk (Nat.le_refl _) (I1.hok.fresh (Nat.le_refl _))
theorem U8 {pins : List (Addr × Obj)} {σ : St} {H : Hp} {s : Shared} {R : It → Hp → Prop} {E : Value → Shared → Prop} {lo hi : Int} {t u v : Tok} {tk : Nat} (I : Inv X pins σ H s) (h1 : -(2 ^ 62) ≤ lo) (h2 : lo < 2 ^ 62) (h3 : -(2 ^ 62) ≤ hi) (h4 : hi < 2 ^ 62)
    (q : R (Itr lo (hi - lo).toNat) H) : wpAny (model X.prog X.w) X.A (pyIter (.ref s.heap.objs.size)) (PIE X pins σ tg R) E { s with heap := s.heap.push { cls := .type "range", data := .fields #[.int lo t, .int hi u, .int 1 v] }, toks := tk } := by
  refine wpAny_pyIter_range (IsRange.new ..) (small_one h1 h2 h3 h4) ?_
  have I1 : Inv X pins σ H { s with heap := s.heap.push { cls := .type "range", data := .fields #[.int lo t, .int hi u, .int 1 v] }, toks := tk } := I.kept fun b o e => Heap.get?_push_of_some _ e
  refine ⟨(s.heap.push { cls := .type "range", data := .fields #[.int lo t, .int hi u, .int 1 v] }).objs.size, [(s.heap.push { cls := .type "range", data := .fields #[.int lo t, .int hi u, .int 1 v] }).objs.size], _, _, H, rfl,
    I1.kept (t' := tk) fun b o e => Heap.get?_push_of_some _ e, PK _ lo (hi - lo).toNat, ?_, fun b hb => ?_, q⟩
  · have e1 : lo + ((0 : Nat) : Int) * 1 = lo := by simp
    have e2 : (((hi - lo).toNat : Nat) : Int) - ((0 : Nat) : Int) = Builtin.Range.rangeSize lo hi 1 := by rw [rangeSize_one]; split <;> omega
    show IsRangeIter _ _ (lo + ((0 : Nat) : Int) * 1) ((((hi - lo).toNat : Nat) : Int) - ((0 : Nat) : Int)) 1
    rw [e1, e2]
    exact Heap.get?_push_size _ rfl
  · have e : b = (s.heap.push { cls := .type "range", data := .fields #[.int lo t, .int hi u, .int 1 v] }).objs.size := by simpa using hb
    subst e
    exact I1.fpOk (Nat.le_refl _) (I1.hok.fresh (Nat.le_refl _))
noncomputable def AbB (ta : TA) : TI := fun σ H R => ta σ H fun vs H1 => ∃ j : Int, vs = [.int j] ∧ -(2 ^ 62) ≤ j ∧ j < 2 ^ 62 ∧ R (Itr 0 j.toNat) H1
theorem Ry {a : Expr} {ta : TA} {p pos : Pos} (hg : Gl X "range") (hm : X.mg "range" = none) (ha : PA X [a] ta) (hs : starEach [a] X.env = [(false, eval a X.env)] := by rfl) : PI X tg (.Call (.Name "range" p) [a] [] pos) (AbB ta) := by
  intro pins s σ H R I h
  refine Call_ (K3 I hg hm boot_range (PyProof.Rows.callWith_type1 (thn (ha pos pins s σ H _ I h) fun us s1 ⟨vs, H1, I1, r1, q1⟩ => ?_) hs rfl))
  obtain ⟨j, e, q1, q2, q⟩ := q1
  subst e
  cases r1 with
  | cons r rr =>
    cases rr
    obtain ⟨t, rfl⟩ := r
    exact call_range_1 (U8 I1 (by omega) (by omega) q1 q2 (by simpa using q))
noncomputable def Aev (wi : TI) (g : TG) (tb : TS) : TS := fun D σ H => wi σ H fun J H1 => ∃ W : Nat → Nat → St → Hp → Prop, (∃ m, W 0 m σ H1) ∧ ∀ i m σ H, W i m σ H →
  (J.stop i H ∧ D.nx σ H) ∨ (J.go i H ∧ ∃ N : St → Hp → Prop, (∀ σ' H', N σ' H' → ∃ m', m' < m ∧ W (i + 1) m' σ' H') ∧ ∀ x H', J.yld i H x H' → g x σ H' fun σ2 H2 => tb { D with nx := N, ct := N, bk := D.nx } σ2 H2)
noncomputable def Hx (fp : List Addr) (h : Heap) : List (Addr × Obj) := fp.filterMap fun b => (h.get? b).map fun o => (b, o)
theorem Du {fp : List Addr} {h : Heap} {b : Addr} {o : Obj} (hb : b ∈ fp) (e : h.get? b = some o) : (b, o) ∈ Hx fp h := List.mem_filterMap.mpr ⟨b, hb, by rw [e]; rfl⟩
theorem Rz {fp : List Addr} {h : Heap} {p : Addr × Obj} (hp : p ∈ Hx fp h) : p.1 ∈ fp ∧ h.get? p.1 = some p.2 := by
  obtain ⟨b, hb, e⟩ := List.mem_filterMap.mp hp
  cases q : h.get? b with
  | none => rw [q] at e; cases e
  | some o =>
    rw [q] at e
    have e' : (b, o) = p := Option.some.inj e
    subst e'
    exact ⟨hb, q⟩
theorem Inv.pinned {pins : List (Addr × Obj)} {σ : St} {H : Hp} {s : Shared} {fp : List Addr} (I : Inv X pins σ H s) (hf : ∀ b ∈ fp, Ih X pins H b) (ho : ∀ b ∈ fp, ∃ o, s.heap.get? b = some o ∧ ∀ v, o.data ≠ .cell v) : Inv X (pins ++ Hx fp s.heap) σ H s :=
  I.pins_of fun p hp => (List.mem_append.mp hp).elim (fun z => I.pin p (List.mem_append_right _ z)) fun z => by
    obtain ⟨hb, e⟩ := Rz z
    obtain ⟨f0, f1, f2, _⟩ := hf p.1 hb
    obtain ⟨o, e', d⟩ := ho p.1 hb
    rw [e] at e'; cases e'
    exact ⟨e, f0, f1, f2, d⟩
theorem Inv.unpinned {pins pl : List (Addr × Obj)} {σ : St} {H : Hp} {s : Shared} (I : Inv X (pins ++ pl) σ H s) : Inv X pins σ H s := I.pins_of fun p hp => I.pin p (List.mem_append_right _ (List.mem_append_left _ hp))
theorem YH {iter : Expr} {body : List Stmt} {wi : TI} {g : TG} {tb : TS} {pos : Pos} (hp : PassesOwn (model X.prog X.w) X.A X.env X.xe) (hc : X.calm = true) (hi : PI X tg iter wi) (hg : PG X tg g) (hb : PSs X body tb)
    (hs : ∀ x, foldedSetIterable iter X.env x = pure x := by intro _; rfl) : PS X (.For tg iter body [] pos) (Aev wi g tb) := by
  intro pins s σ H D I h
  refine wpAny_For (thn (hi pins s σ H _ I h) fun v s1 h1 => thn h1 fun itv s2 h2 => ?_) hs
  obtain ⟨it, fp, tn, J, H2, e, I2, T, st2, f2, W, ⟨m0, w0⟩, turn⟩ := h2
  subst e
  have stat : ∀ {H' : Hp}, (∀ b ∈ fp, H' b = none) → ∀ b ∈ fp, Ih X pins H' b := fun hn b hb => ⟨hn b hb, (f2 b hb).2⟩
  refine codeAny_forLoop_any (fun n s' => ∃ i σ' H', Inv X pins σ' H' s' ∧ tn i s'.heap ∧ (∀ b ∈ fp, H' b = none) ∧ W i n σ' H') ?_ m0 ⟨0, σ, H2, I2, st2, fun b hb => (f2 b hb).1, w0⟩
  rintro n s3 ⟨i, σ3, H3, I3, st3, fr3, w3⟩
  rcases turn i n σ3 H3 w3 with ⟨stop, qn⟩ | ⟨go, N, hN, step⟩
  · refine wpAny_passesOwn hp (thn (T.done X rfl rfl rfl hc i pins s3 σ3 H3 X.xe I3 (stat fr3) st3 stop) fun r s4 ⟨hr, I4⟩ => ?_)
    subst hr
    exact wpAny_execs_nil ⟨σ3, H3, I4, qn⟩
  · refine wpAny_passesOwn hp (thn (T.item X rfl rfl rfl hc i pins s3 σ3 H3 X.xe I3 (stat fr3) st3 go) fun r s4 ⟨u, hr, h4⟩ => ?_)
    subst hr
    refine wpAny_passesOwn hp (thn h4 fun _ s5 ⟨x, H5, I5, r5, y5, st5, fr5⟩ => ?_)
    have I5' := I5.pinned (stat fr5) (T.obj _ _ st5)
    refine wpAny_passesOwn hp (thn (hg _ s5 σ3 H5 x u _ I5' r5 (step x H5 y5)) fun _ s6 ⟨σ6, H6, I6, q6⟩ => ?_)
    refine wpAny_passesOwn hp (thn (hb _ s6 σ6 H6 _ I6 q6) fun f s7 q7 => ?_)
    have again : ∀ {σ7 : St} {H7 : Hp}, Inv X (pins ++ Hx fp s5.heap) σ7 H7 s7 → N σ7 H7 → ∃ m, m < n ∧ ∃ i σ' H', Inv X pins σ' H' s7 ∧ tn i s7.heap ∧ (∀ b ∈ fp, H' b = none) ∧ W i m σ' H' := fun {σ7 H7} I7 n7 => by
      obtain ⟨m', hm, w7⟩ := hN σ7 H7 n7
      refine ⟨m', hm, i + 1, σ7, H7, I7.unpinned, T.keep _ _ _ st5 fun b hb o e => (I7.pin (b, o) (List.mem_append_right _ (List.mem_append_right _ (Du hb e)))).1, fun b hb => ?_, w7⟩
      obtain ⟨o, e, d⟩ := T.obj _ _ st5 b hb
      exact (I7.pin (b, o) (List.mem_append_right _ (List.mem_append_right _ (Du hb e)))).2.1
    cases f with
    | next => obtain ⟨σ7, H7, I7, n7⟩ := q7; exact again I7 n7
    | cont => obtain ⟨σ7, H7, I7, n7⟩ := q7; exact again I7 n7
    | brk => obtain ⟨σ7, H7, I7, q7⟩ := q7; exact ⟨σ7, H7, I7.unpinned, q7⟩
    | ret v => obtain ⟨x7, σ7, H7, I7, r7, q7⟩ := q7; exact ⟨x7, σ7, H7, I7.unpinned, r7, q7⟩
end
end L2
namespace L2
open PySem PySem.Spec PyProof.Rows
noncomputable abbrev R2 := V → V → Hp → VK → Prop
noncomputable def OpR (X : Cx) (f : Value → Value → Sem Value) (r : R2) : Prop :=
  ∀ (pins : List (Addr × Obj)) (s : Shared) (σ : St) (H : Hp) (x y : V) (v u : Value) (Q : VK), Inv X pins σ H s → RelV x v → RelV y u → r x y H Q →
    wpAny (model X.prog X.w) X.A (f v u) (EP X pins σ Q) X.xe s
noncomputable def UnR (X : Cx) (f : Value → Sem Value) (r : V → Hp → VK → Prop) : Prop :=
  ∀ (pins : List (Addr × Obj)) (s : Shared) (σ : St) (H : Hp) (x : V) (v : Value) (Q : VK), Inv X pins σ H s → RelV x v → r x H Q →
    wpAny (model X.prog X.w) X.A (f v) (EP X pins σ Q) X.xe s
noncomputable def Fb (X : Cx) (f : Value) (r : List V → Hp → VK → Prop) : Prop :=
  ∀ (pins : List (Addr × Obj)) (s : Shared) (σ : St) (H : Hp) (xs : List V) (us : List Value) (Q : VK), Inv X pins σ H s → Vals xs us → r xs H Q →
    wpAny (model X.prog X.w) X.A (call f us) (EP X pins σ Q) X.xe s
noncomputable def tOp (r : R2) (ta tb : TE) : TE := fun σ H Q => ta σ H fun x H1 => tb σ H1 fun y H2 => r x y H2 Q
noncomputable def tUn (r : V → Hp → VK → Prop) (ta : TE) : TE := fun σ H Q => ta σ H fun x H1 => r x H1 Q
noncomputable def rI (C : Int → Int → Prop) (g : Int → Int → V) : R2 := fun x y H Q => ∃ i j, x = .int i ∧ y = .int j ∧ C i j ∧ Q (g i j) H
noncomputable def rI0 (g : Int → Int → V) : R2 := fun x y H Q => ∃ i j, x = .int i ∧ y = .int j ∧ Q (g i j) H
noncomputable def rU (g : Int → V) : V → Hp → VK → Prop := fun x H Q => ∃ i, x = .int i ∧ Q (g i) H
section
variable {X : Cx} {a b c : Expr} {ta tb tc : TE} {pos : Pos}
theorem ZK (ha : PE X a ta) (hb : PE X b tb) {pins : List (Addr × Obj)} {s : Shared} {σ : St} {H : Hp} {R : V → V → Hp → Prop} (I : Inv X pins σ H s)
    (h : ta σ H fun x H1 => tb σ H1 fun y H2 => R x y H2) {Q : Value → Shared → Prop} {f : Value → Value → Sem Value}
    (hf : ∀ v u s2 x y H2, Inv X pins σ H2 s2 → RelV x v → RelV y u → R x y H2 → wpAny (model X.prog X.w) X.A (f v u) Q X.xe s2) :
    wpAny (model X.prog X.w) X.A (eval a X.env) (fun v s₁ => wpAny (model X.prog X.w) X.A (eval b X.env) (fun u s₂ => wpAny (model X.prog X.w) X.A (f v u) Q X.xe s₂) X.xe s₁) X.xe s := by
  refine thn (ha pins s σ H _ I h) fun v s1 ⟨x, H1, I1, r1, q1⟩ => ?_
  refine thn (hb pins s1 σ H1 _ I1 q1) fun u s2 ⟨y, H2, I2, r2, q2⟩ => ?_
  exact hf v u s2 x y H2 I2 r1 r2 q2
theorem Yg {op : Operator} {r : R2} (ho : OpR X (binaryOp op) r) (ha : PE X a ta) (hb : PE X b tb) : PE X (.BinOp a op b pos) (tOp r ta tb) := by
  intro pins s σ H Q I h
  exact wpAny_BinOp (ZK ha hb I h fun v u s2 x y H2 I2 rx ry q => ho pins s2 σ H2 x y v u Q I2 rx ry q)
theorem Ac5 {op : UnaryOp} {r : V → Hp → VK → Prop} (ho : UnR X (unaryOp op) r) (ha : PE X a ta) : PE X (.UnaryOp op a pos) (tUn r ta) := by
  intro pins s σ H Q I h
  exact UnaryOp_ (thn (ha pins s σ H _ I h) fun v s1 ⟨x, H1, I1, r1, q1⟩ => ho pins s1 σ H1 x v Q I1 r1 q1)
theorem opI {f : Value → Value → Sem Value} {C : Int → Int → Prop} {g : Int → Int → Int}
    (rule : ∀ (i j : Int) (t u : Tok) (s : Shared) (Q : Value → Shared → Prop) (E : Value → Shared → Prop), C i j → Q (.int (g i j) s.toks) { s with toks := s.toks + 1 } → wpAny (model X.prog X.w) X.A (f (.int i t) (.int j u)) Q E s) :
    OpR X f (rI C fun i j => .int (g i j)) := by
  intro pins s σ H x y v u Q I rx ry h
  obtain ⟨i, j, rfl, rfl, hc, q⟩ := h
  obtain ⟨t, rfl⟩ := rx
  obtain ⟨t', rfl⟩ := ry
  exact rule i j t t' s _ _ hc ⟨.int (g i j), H, I.tok _, ⟨_, rfl⟩, q⟩
theorem Ab5 {f : Value → Value → Sem Value} {g : Int → Int → Int}
    (rule : ∀ (i j : Int) (t u : Tok) (s : Shared) (Q : Value → Shared → Prop) (E : Value → Shared → Prop), Q (.int (g i j) s.toks) { s with toks := s.toks + 1 } → wpAny (model X.prog X.w) X.A (f (.int i t) (.int j u)) Q E s) :
    OpR X f (rI0 fun i j => .int (g i j)) := by
  intro pins s σ H x y v u Q I rx ry h
  obtain ⟨i, j, rfl, rfl, q⟩ := h
  obtain ⟨t, rfl⟩ := rx
  obtain ⟨t', rfl⟩ := ry
  exact rule i j t t' s _ _ ⟨.int (g i j), H, I.tok _, ⟨_, rfl⟩, q⟩
theorem AaQ {f : Value → Value → Sem Value} {g : Int → Int → Bool}
    (rule : ∀ (i j : Int) (t u : Tok) (s : Shared) (Q : Value → Shared → Prop) (E : Value → Shared → Prop), Q (.bool (g i j)) s → wpAny (model X.prog X.w) X.A (f (.int i t) (.int j u)) Q E s) :
    OpR X f (rI0 fun i j => .bl (g i j)) := by
  intro pins s σ H x y v u Q I rx ry h
  obtain ⟨i, j, rfl, rfl, q⟩ := h
  obtain ⟨t, rfl⟩ := rx
  obtain ⟨t', rfl⟩ := ry
  exact rule i j t t' s _ _ ⟨.bl (g i j), H, I, rfl, q⟩
noncomputable def Wn (i j : Int) : Prop := 0 ≤ j ∧ j ≤ 1000000 ∧ i.natAbs < 2 ^ 64
theorem Y8 : OpR X (binaryOp .Add) (rI0 fun i j => .int (i + j)) := Ab5 fun _ _ _ _ _ _ _ q => add_int q
theorem YZ : OpR X (binaryOp .Sub) (rI0 fun i j => .int (i - j)) := Ab5 fun _ _ _ _ _ _ _ q => sub_int q
theorem Xo : OpR X (binaryOp .Mod) (rI (fun _ j => j ≠ 0) fun i j => .int (i.fmod j)) := opI fun _ _ _ _ _ _ _ hc q => mod_int' hc q
theorem AaF : OpR X (binaryOp .LShift) (rI Wn fun i j => .int (i * 2 ^ j.toNat)) := opI fun _ _ _ _ _ _ _ hc q => lshift_int_small hc.1 hc.2.1 hc.2.2 q
theorem unI {f : Value → Sem Value} {g : Int → Int}
    (rule : ∀ (i : Int) (t : Tok) (s : Shared) (Q : Value → Shared → Prop) (E : Value → Shared → Prop), Q (.int (g i) s.toks) { s with toks := s.toks + 1 } → wpAny (model X.prog X.w) X.A (f (.int i t)) Q E s) :
    UnR X f (rU fun i => .int (g i)) := by
  intro pins s σ H x v Q I rx h
  obtain ⟨i, rfl, q⟩ := h
  obtain ⟨t, rfl⟩ := rx
  exact rule i t s _ _ ⟨.int (g i), H, I.tok _, ⟨_, rfl⟩, q⟩
theorem Y0 : UnR X (unaryOp .USub) (rU fun i => .int (-i)) := unI fun _ _ _ _ _ q => neg_int q
end
section
variable {X : Cx} {a b c : Expr} {ta tb tc : TE} {pos : Pos}
theorem Nb : OpR X (compareOp .Lt) (rI0 fun i j => .bl (decide (i < j))) := AaQ fun _ _ _ _ _ _ _ q => lt_int q
theorem Qq : OpR X (compareOp .LtE) (rI0 fun i j => .bl (decide (i ≤ j))) := AaQ fun _ _ _ _ _ _ _ q => le_int q
theorem Yn : OpR X (compareOp .Gt) (rI0 fun i j => .bl (decide (j < i))) := AaQ fun _ _ _ _ _ _ _ q => gt_int q
theorem Gj (b : Expr) {op : CmpOp} (h : op ≠ .In := by decide) (h2 : op ≠ .NotIn := by decide) : behindInMarks op b = false := by
  have e1 : (op == CmpOp.In) = false := by cases op <;> first | rfl | exact absurd rfl h
  have e2 : (op == CmpOp.NotIn) = false := by cases op <;> first | rfl | exact absurd rfl h2
  cases b <;> simp [behindInMarks, e1, e2]
theorem Xa {op : CmpOp} {r : R2} (ho : OpR X (compareOp op) r) (ha : PE X a ta) (hb : PE X b tb) (hm : behindInMarks op b = false) : PE X (.Compare a [op] [b] pos) (tOp r ta tb) := by
  intro pins s σ H Q I h
  exact wpAny_Compare1 (ZK ha hb I h fun v u s2 x y H2 I2 rx ry q => ho pins s2 σ H2 x y v u Q I2 rx ry q) hm
noncomputable def AbA (t : TE) : TT := fun σ H Q => t σ H fun x H' => ∃ k, x = .bl k ∧ Q k H'
theorem WK {op : CmpOp} {r : R2} (ho : OpR X (compareOp op) r) (ha : PE X a ta) (hb : PE X b tb) (hm : behindInMarks op b = false) : PT X (.Compare a [op] [b] pos) (AbA (tOp r ta tb)) := by
  intro pins s σ H Q I h
  refine wpAny_isTrue_Compare1 (thn (ha pins s σ H _ I h) fun v s1 ⟨x, H1, I1, r1, q1⟩ => thn (hb pins s1 σ H1 _ I1 q1) fun u s2 ⟨y, H2, I2, r2, q2⟩ =>
    thn (ho pins s2 σ H2 x y v u _ I2 r1 r2 q2) fun c s3 ⟨z, H3, I3, r3, k, e, q3⟩ => ?_) hm
  subst e
  cases r3
  exact wpAny_truthy_bool ⟨H3, I3, q3⟩
noncomputable def Vs (r r' : R2) (ta tb tc : TE) : TE := fun σ H Q => ta σ H fun x H1 => tb σ H1 fun y H2 => r x y H2 fun z H3 => ∃ k, z = .bl k ∧
  (if k = true then tc σ H3 fun w' H4 => r' y w' H4 Q else Q (.bl false) H3)
theorem UJ {op op' : CmpOp} {r r' : R2} (ho : OpR X (compareOp op) r) (ho' : OpR X (compareOp op') r') (ha : PE X a ta) (hb : PE X b tb) (hc : PE X c tc)
    (hm : lastMarks [op, op'] [b, c] = false := by with_unfolding_all rfl) : PE X (.Compare a [op, op'] [b, c] pos) (Vs r r' ta tb tc) := by
  intro pins s σ H Q I h
  refine Compare_chain (thn (ha pins s σ H _ I h) fun v s1 ⟨x, H1, I1, r1, q1⟩ => chain_link (thn (hb pins s1 σ H1 _ I1 q1) fun u s2 ⟨y, H2, I2, r2, q2⟩ =>
    thn (ho pins s2 σ H2 x y v u _ I2 r1 r2 q2) fun d s3 ⟨z, H3, I3, r3, k, e, q3⟩ => ?_)) hm
  subst e
  cases r3
  refine wpAny_truthy_bool ?_
  cases k with
  | false => exact ite_ff ⟨.bl false, H3, I3, rfl, q3⟩
  | true => exact ite_tt (chain_last (thn (hc pins s3 σ H3 _ I3 q3) fun w' s4 ⟨z', H4, I4, r4, q4⟩ => ho' pins s4 σ H4 y z' u w' Q I4 r2 r4 q4))
theorem Lj : (sizeLine : Nat) < 2 ^ 63 := by rw [sizeLine_eq]; decide
theorem vals1 {x : V} {us : List Value} (r : Vals [x] us) : ∃ u, us = [u] ∧ RelV x u := by
  cases r with
  | cons r1 r2 => cases r2; exact ⟨_, rfl, r1⟩
theorem vals2 {x y : V} {us : List Value} (r : Vals [x, y] us) : ∃ u w', us = [u, w'] ∧ RelV x u ∧ RelV y w' := by
  cases r with
  | cons r1 r2 =>
    cases r2 with
    | cons r3 r4 => cases r4; exact ⟨_, _, rfl, r1, r3⟩
theorem Ua : Fb X (.builtin "abs") (fun xs H Q => ∃ i, xs = [.int i] ∧ Q (.int (if i < 0 then -i else i)) H) := by
  intro pins s σ H xs us Q I r h
  obtain ⟨i, rfl, q⟩ := h
  obtain ⟨u, rfl, t, rfl⟩ := vals1 r
  exact call_abs_int fun u tk => ⟨.int (if i < 0 then -i else i), H, I.tok _, ⟨_, rfl⟩, q⟩
theorem RL (hc : X.calm = true) : Fb X (.builtin "max") (fun xs H Q => ∃ i j, xs = [.int i, .int j] ∧ Q (.int (if j > i then j else i)) H) := by
  intro pins s σ H xs us Q I r h
  obtain ⟨i, j, rfl, q⟩ := h
  obtain ⟨u, w', rfl, ⟨t, rfl⟩, ⟨t', rfl⟩⟩ := vals2 r
  refine max_two_ints (I.ok.hd hc) fun h' tk k => ⟨_, H, I.kept k, ?_, q⟩
  by_cases hj : j > i
  · rw [if_pos hj, if_pos hj]; exact ⟨_, rfl⟩
  · rw [if_neg hj, if_neg hj]; exact ⟨_, rfl⟩
theorem Ss : Fb X (.type "int") (fun xs H Q => (∃ i, xs = [.int i] ∧ Q (.int i) H) ∨ ∃ k, xs = [.bl k] ∧ Q (.int (if k then 1 else 0)) H) := by
  intro pins s σ H xs us Q I r h
  rcases h with ⟨i, rfl, q⟩ | ⟨k, rfl, q⟩
  · obtain ⟨u, rfl, t, rfl⟩ := vals1 r
    exact call_int_int ⟨.int i, H, I, ⟨_, rfl⟩, q⟩
  · obtain ⟨u, rfl, r1⟩ := vals1 r
    cases r1
    exact call_int_bool ⟨.int (if k then 1 else 0), H, I.tok _, ⟨_, rfl⟩, q⟩
end
end L2
namespace L2
open PySem PySem.Spec PyProof.Rows
section
variable {prog : Program} {w : World} {A : Around} {E : Value → Shared → Prop} {s : Shared} {K : PySem.W.Frag} {x dx C f : Addr} {mA : Str → Option Value} {name : Str} {v : Value}
end
section
variable {P : Program} {w : World} {H H' : Hp} {h h' : Heap} {a C dx : Addr} {fs fs' : List (Str × V)}
end
structure Cls (K : PySem.W.Frag) (C : Addr) : Prop where
  pg : PySem.W.plainGet K C Str.empty = true
  hd : PySem.W.hasDictIn K C = true
  po : PySem.W.plainOver K C = true
  sa : PySem.W.findIn K (.ref C) "__setattr__" = some (some (.builtin "object.__setattr__"))
section
variable {X : Cx} {pins : List (Addr × Obj)} {σ : St} {H : Hp} {s : Shared} {a C dx : Addr} {fs : List (Str × V)} {f : Str} {v : V} {A : Around} {E : Value → Shared → Prop}
end
section
variable {X : Cx} {o e value : Expr} {f : Str} {pos pos' tpos : Pos} {ta tv : TE}
end
section
variable {X : Cx} {pins : List (Addr × Obj)} {σ : St} {H : Hp} {s : Shared} {A : Around} {E : Value → Shared → Prop} {Q : Value → Shared → Prop} {c : Value} {b : Bool}
end
end L2
namespace L2
open PySem PySem.Spec PyProof.Rows
structure Es (k : Nat) (A : Around) : Prop where
  hd : A.handled = none
  dp : A.depth + 3 * k + 5 < recursionLimit
  un : A.units + 16 * k + 200 < cLine
theorem Es.mono {j k : Nat} {A : Around} (r : Es k A) (h : j ≤ k) : Es j A := ⟨r.hd, by have := r.dp; omega, by have := r.un; omega⟩
theorem Es.deeper {k : Nat} {A : Around} (r : Es (k + 1) A) (env : Env) : Es k (A.deeper env) :=
  ⟨r.hd, by have := r.dp; show A.depth + 1 + 3 * k + 5 < _; omega, by have := r.un; show A.units + 3 + 16 * k + 200 < _; omega⟩
theorem Es.depth {k : Nat} {A : Around} (r : Es k A) : A.depth < recursionLimit := by have := r.dp; omega
theorem Es.units {k : Nat} {A : Around} (r : Es k A) : A.units + 64 < cLine := by have := r.un; omega
noncomputable def Ad9 : TA := fun _ H Q => Q [] H
noncomputable def Abs (ta : TE) (tr : TA) : TA := fun σ H Q => ta σ H fun x H1 => tr σ H1 fun xs H2 => Q (x :: xs) H2
section
variable {X : Cx} {e : Expr} {es : List Expr} {te : TE} {t : TA} {pos : Pos}
theorem GR : PA X [] Ad9 := fun _ _ _ _ H Q I h => Calls.spliced_nil ⟨[], H, I, .nil, h⟩
theorem Ep (ha : PE X e te) (hr : PA X es t) (hs : starEach (e :: es) X.env = (false, eval e X.env) :: starEach es X.env := by rfl) : PA X (e :: es) (Abs te t) := by
  intro pos pins s σ H Q I h
  rw [hs]
  show wpAny _ _ (spliced ((false, eval e X.env) :: backTo pos (starEach es X.env))) _ _ s
  refine Calls.spliced_cons (thn (ha pins s σ H _ I h) fun u s1 ⟨x, H1, I1, r1, q1⟩ => ?_)
  exact thn (hr pos pins s1 σ H1 _ I1 q1) fun us s2 ⟨xs, H2, I2, r2, q2⟩ => ⟨x :: xs, H2, I2, .cons r1 r2, q2⟩
noncomputable def AeF (t : TA) : TE := fun σ H Q => t σ H fun xs H1 => xs.length ≤ sizeLine ∧ ∀ p, H1 p = none → Q (.ref p) (upd H1 p (.tup xs))
noncomputable def AdC (t : TA) : TE := fun σ H Q => t σ H fun xs H1 => xs.length ≤ sizeLine ∧ ∀ p, H1 p = none → Q (.ref p) (upd H1 p (.lst xs))
theorem YL {x1} (h : PA X es t) : PE X (.Tuple es x1 pos) (AeF t) := by
  intro pins s σ H Q I hq
  refine wpAny_Tuple_spliced (thn (h pos pins s σ H _ I hq) fun us s1 ⟨xs, H1, I1, r, z, q⟩ => ⟨by rw [← r.length]; exact z, ?_⟩)
  have hf : H1 s1.heap.objs.size = none := I1.hok.fresh (Nat.le_refl _)
  refine ⟨.ref s1.heap.objs.size, upd H1 s1.heap.objs.size (.tup xs), I1.laid (t' := s1.toks) (fun b u e => Heap.get?_push_of_some _ e) (Nat.le_refl _) ?_, rfl, q _ hf⟩
  exact ⟨z, us, r, ⟨_, Heap.get?_push_size _ rfl, rfl, _, rfl⟩⟩
theorem UL (h : PA X es t) : PE X (.List es pos) (AdC t) := by
  intro pins s σ H Q I hq
  refine wpAny_List_spliced (thn (h pos pins s σ H _ I hq) fun us s1 ⟨xs, H1, I1, r, z, q⟩ => ⟨by rw [← r.length]; exact z, ?_⟩)
  have hf : H1 s1.heap.objs.size = none := I1.hok.fresh (Nat.le_refl _)
  refine ⟨.ref s1.heap.objs.size, upd H1 s1.heap.objs.size (.lst xs), I1.laid (t' := s1.toks) (fun b u e => Heap.get?_push_of_some _ e) (Nat.le_refl _) ?_, rfl, q _ hf⟩
  exact ⟨z, us, 0, r, Heap.get?_push_size _ rfl⟩
end
noncomputable abbrev Sp := List V → Hp → VK → XK → Prop
noncomputable abbrev CXT := List Env → Hp → Shared → XK → Value → Shared → Prop
structure Xu (P : Program) (w : World) (K : PySem.W.Frag) (mg : Str → Option Value) (base : Heap) (A : Around) (outer : List Env) (s : Shared) (H : Hp) : Prop where
  frames : A.frames = some outer
  mod : Mod K mg base
  bs : ∀ b o, base.get? b = some o → s.heap.get? b = some o ∧ H b = none
  bsz : base.objs.size ≤ s.heap.objs.size
  funs : s.heap.FunFrames base outer
  frf : ∀ b ∈ frs outer, H b = none
  hok : HOk P w H s.heap
  bare : AllBare s.gens
noncomputable def CE (outer : List Env) (P : Program) (w : World) (H : Hp) (s : Shared) (Q : VK) (u : Value) (s' : Shared) : Prop :=
  ∃ v H', s'.os = s.os ∧ AllBare s'.gens ∧ Un (frs outer) [] H H' s.heap s'.heap ∧ HOk P w H' s'.heap ∧ RelV v u ∧ Q v H'
noncomputable def CR (CX : CXT) (outer : List Env) (P : Program) (w : World) (H : Hp) (s : Shared) (Q : VK) (E : XK) (r : Result) (s' : Shared) : Prop :=
  match r with
  | .ok (.ret u) => CE outer P w H s Q u s'
  | .ok _ => False
  | .error e => CX outer H s E e s'
structure Ii (P : Program) (w : World) (K : PySem.W.Frag) (mg : Str → Option Value) (base : Heap) (CX : CXT) (k : Nat) (f : Addr) (fd : FuncData) (ps : List Str) (sp : Sp) : Prop where
  len : ∀ vs H Q E, sp vs H Q E → vs.length = ps.length
  run : ∀ (A : Around) (outer : List Env) (s : Shared) (H : Hp) (args : Args) (us : List Value) (vs : List V) (Q : VK) (E : XK), Es k A → Xu P w K mg base A outer s H → BindsTo s fd args (ps.zip us) → Vals vs us → sp vs H Q E →
    codeAny (model P w) A (.call (.ref f) args) (CR CX outer P w H s Q E) s
section
variable {X : Cx} {pins : List (Addr × Obj)} {σ : St} {H : Hp} {s s' : Shared}
theorem Inv.env0 (I : Inv X pins σ H s) : Xu X.prog X.w X.K X.mg X.base X.A X.stack s H :=
  ⟨I.ok.frames, I.ok.mod, I.bs, Nat.le_trans I.ok.bsz I.sz, I.stack, I.stkFree, I.hok, I.bare⟩
theorem Inv.after {Q : VK} {u : Value} (I : Inv X pins σ H s) (h : CE X.stack X.prog X.w H s Q u s') : EP X pins σ Q u s' := by
  obtain ⟨v, H', os, bare, un, hok, r, q⟩ := h
  obtain ⟨hh, g, d, t, os'⟩ := s'
  obtain rfl : os' = s.os := os
  exact ⟨v, H', I.call (h' := hh) (g' := g) (d' := d) (t' := t) (ch := []) un hok bare (fun b z => absurd z (by simp)), r, q⟩
end
noncomputable def Acl (sp : Sp) (dvs : List V) (E : XK) (t : TA) : TE := fun σ H Q => t σ H fun vs H1 => sp (vs ++ dvs) H1 Q E
noncomputable def Binds (K : PySem.W.Frag) (fd : FuncData) (ps : List Str) (ds : List Value) : Prop :=
  ∀ (s : Shared) (us : List Value), K.In s.heap → (us ++ ds).length = ps.length → BindsTo s fd ⟨us, []⟩ (ps.zip (us ++ ds))
theorem Binds.all {K : PySem.W.Frag} {fd : FuncData} {ps : List Str} (h : ∀ us : List Value, us.length = ps.length → bindArgs fd ⟨us, []⟩ = pure (ps.zip us)) : Binds K fd ps [] := fun s us _ hl => by
  rw [List.append_nil] at hl ⊢
  exact .of_eq (h us hl)
noncomputable def Passes (CX : CXT) (X : Cx) (E : XK) : Prop := ∀ (pins : List (Addr × Obj)) (σ : St) (H : Hp) (s : Shared) (e : Value) (s' : Shared), Inv X pins σ H s → CX X.stack H s E e s' → X.xe e s'
section
variable {X : Cx} {CX : CXT} {k : Nat} {f C : Addr} {fd : FuncData} {ps : List Str} {sp : Sp} {dvs : List V} {ds : List Value} {E : XK} {x m : Str} {p pos apos : Pos} {e o : Expr} {es : List Expr} {ta : TE} {t : TA}
theorem AaV {pins : List (Addr × Obj)} {σ : St} {H : Hp} {s : Shared} {Q : VK} {us : List Value} {vs : List V} (F : Ii X.prog X.w X.K X.mg X.base CX k f fd ps sp) (hr : Es k X.A) (hb : Binds X.K fd ps ds) (hd : Vals dvs ds) (hx : Passes CX X E)
    (I : Inv X pins σ H s) (r : Vals vs us) (h : sp (vs ++ dvs) H Q E) : wpAny (model X.prog X.w) X.A (call (.ref f) us) (EP X pins σ Q) X.xe s := by
  have r2 : Vals (vs ++ dvs) (us ++ ds) := r.append hd
  have hl : (us ++ ds).length = ps.length := by rw [← r2.length]; exact F.len _ _ _ _ h
  refine wpAny_call (codeAny_mono (F.run X.A X.stack s H ⟨us, []⟩ (us ++ ds) (vs ++ dvs) Q E hr I.env0 (hb s us I.kIn hl) r2 h) fun r s' hq => ?_)
  cases r with
  | error e => exact hx pins σ H s e s' I hq
  | ok fl =>
    cases fl with
    | ret u => exact I.after hq
    | next => exact False.elim hq
    | brk => exact False.elim hq
    | cont => exact False.elim hq
theorem Rf (F : Ii X.prog X.w X.K X.mg X.base CX k f fd ps sp) (hr : Es k X.A) (hg : Gl X x) (hm : X.mg x = some (.ref f)) (hk : PySem.W.keepIn X.K (.ref f) = true) (hb : Binds X.K fd ps ds) (hd : Vals dvs ds) (hx : Passes CX X E)
    (ha : PA X (e :: es) t) (hdb : (x == ("__debug__" : Str)) = false := by decide) (he : starEach (e :: es) X.env = (false, eval e X.env) :: starEach es X.env := by rfl) (hpl : (backTo pos (starEach es X.env)).any (·.1) = false := by rfl) :
    PE X (.Call (.Name x p) (e :: es) [] pos) (Acl sp dvs E t) := by
  intro pins s σ H Q I h
  refine wpAny_Call_Name_kw (Q8 I hg hm ?_ hdb)
  refine PySem.W.callWith_K (h₀ := X.base) I.ok.mod.kin hk (thn (ha pos pins s σ H _ I h) fun us s1 ⟨vs, H1, I1, r, q⟩ => ⟨I1.kIn, ?_⟩) he hpl
  exact AaV F hr hb hd hx I1 r q
end
section
variable {X : Cx} {CX : CXT} {k : Nat} {f C : Addr} {fd : FuncData} {ps ks : List Str} {sp : Sp} {E : XK} {x m : Str} {p pos apos kpos : Pos} {e o : Expr} {es : List Expr} {kws : List Keyword} {te ta : TE} {t tk : TA} {nm : Option Str}
variable {g : List Value → List Value → List Value} {gV : List V → List V → List V}
end
structure Aq (N P : List Str) (sc : Scope) : Prop where
  kind : sc.kind = .function
  co : sc.isCoroutine = false
  gen : sc.isGenerator = false
  nd : N.Nodup
  pre : N.take P.length = P
  par : ∀ x ∈ P, sc.names.lookup x = some .local ∨ sc.names.lookup x = some .cell
  nofree : ∀ y ∈ sc.names, y.2 ≠ .free
theorem Kl {kindOf : Str → Option NameKind} {x : Str} : ∀ {binds : List (Str × Value)} {m : Str → Option Value}, (∀ v, (x, v) ∉ binds) → bindL kindOf binds m x = m x
  | [], _, _ => rfl
  | (n, v) :: r, m, h => by
    unfold bindL
    rw [Kl fun w hw => h w (List.mem_cons_of_mem _ hw)]
    split
    · have : x ≠ n := by rintro rfl; exact h v List.mem_cons_self
      simp [this]
    · rfl
theorem Kg {kindOf : Str → Option NameKind} {x : Str} : ∀ {binds : List (Str × Value)} {m : Str → Option Value}, (∀ v, (x, v) ∉ binds) → bindC kindOf binds m x = m x
  | [], _, _ => rfl
  | (n, v) :: r, m, h => by
    unfold bindC
    rw [Kg fun w hw => h w (List.mem_cons_of_mem _ hw)]
    split
    · rfl
    · have : x ≠ n := by rintro rfl; exact h v List.mem_cons_self
      simp [this]
theorem Kr {kindOf : Str → Option NameKind} {x : Str} {v : Value} : ∀ {P : List Str} {vs : List Value} {i : Nat} {m : Str → Option Value}, P.Nodup → P[i]? = some x → vs[i]? = some v → kindOf x = some .local →
    bindL kindOf (P.zip vs) m x = some v
  | [], _, _, _, _, h, _, _ => by simp at h
  | _ :: _, [], _, _, _, _, h, _ => by simp at h
  | p :: P, w :: vs, 0, m, nd, h1, h2, hk => by
    simp at h1 h2; subst h1; subst h2
    show bindL kindOf ((p, w) :: P.zip vs) m p = _
    unfold bindL
    rw [Kl fun v hv => (List.nodup_cons.mp nd).1 (List.of_mem_zip hv).1, if_pos hk]
    simp
  | p :: P, w :: vs, i + 1, m, nd, h1, h2, hk => by
    show bindL kindOf ((p, w) :: P.zip vs) m x = _
    unfold bindL
    exact Kr (i := i) (List.nodup_cons.mp nd).2 (by simpa using h1) (by simpa using h2) hk
theorem Kw {kindOf : Str → Option NameKind} {x : Str} {v : Value} : ∀ {P : List Str} {vs : List Value} {i : Nat} {m : Str → Option Value}, P.Nodup → P[i]? = some x → vs[i]? = some v → kindOf x ≠ some .local →
    bindC kindOf (P.zip vs) m x = some v
  | [], _, _, _, _, h, _, _ => by simp at h
  | _ :: _, [], _, _, _, _, h, _ => by simp at h
  | p :: P, w :: vs, 0, m, nd, h1, h2, hk => by
    simp at h1 h2; subst h1; subst h2
    show bindC kindOf ((p, w) :: P.zip vs) m p = _
    unfold bindC
    rw [Kg fun v hv => (List.nodup_cons.mp nd).1 (List.of_mem_zip hv).1, if_neg hk]
    simp
  | p :: P, w :: vs, i + 1, m, nd, h1, h2, hk => by
    show bindC kindOf ((p, w) :: P.zip vs) m x = _
    unfold bindC
    exact Kw (i := i) (List.nodup_cons.mp nd).2 (by simpa using h1) (by simpa using h2) hk
noncomputable def start (N : List Str) (vs : List V) : St := vs.map some ++ List.replicate (N.length - vs.length) none
noncomputable def Pj (CX : CXT) (P : Program) (w : World) (K : PySem.W.Frag) (mg : Str → Option Value) (base : Heap) (N : List Str) (qual : Str) (scope : Scope) (f : Addr) (cd : Value) (A : Around) (outer : List Env) (s : Shared) (H : Hp) (E : XK) : Cx where
  prog := P
  w := w
  K := K
  mg := mg
  base := base
  A := A.deeper (envOfC qual scope s.heap.objs.size f cd)
  N := N
  s₀ := s
  H₀ := H
  env := envOfC qual scope s.heap.objs.size f cd
  outer := outer
  stack := envOfC qual scope s.heap.objs.size f cd :: outer
  ex := []
  calm := true
  fn := fun _ => true
  pn := []
  xe := fun e s' => wpAny (model P w) (A.deeper (envOfC qual scope s.heap.objs.size f cd)) (leaving (envOfC qual scope s.heap.objs.size f cd) e) (fun _ s'' => CX outer H s E e s'') (fun e' s'' => CX outer H s E e' s'') s'
theorem Oq {sc : Scope} {n : Nat} {x : Str} (h : sc.names.lookup x = some .cell) : ∃ c, (cellsFrom n sc.names []).lookup x = some c := by
  have q := PySem.W.cellsFrom_some sc.names n [] (.inl h)
  exact Option.isSome_iff_exists.mp q
theorem Ru {CX : CXT} {P : Program} {w : World} {K : PySem.W.Frag} {mg : Str → Option Value} {base : Heap} {N ps : List Str} {qual : Str} {scope : Scope} {f : Addr} {cd : Value} {A : Around} {outer : List Env} {s s1 : Shared} {H : Hp} {E : XK} {us : List Value} {vs : List V}
    (S : Aq N ps scope) (hd : A.handled = none) (e0 : Xu P w K mg base A outer s H) (hl : vs.length = ps.length) (r : Vals vs us)
    (x : InCallC s s.heap.objs.size (bindL (envOfC qual scope s.heap.objs.size f cd).kindOf (ps.zip us) fun _ => none) (cellsFrom (s.heap.objs.size + 1) scope.names []) (bindC (envOfC qual scope s.heap.objs.size f cd).kindOf (ps.zip us) fun _ => none) s1) :
    Inv (Pj CX P w K mg base N qual scope f cd A outer s H E) [] (start N vs) H s1 := by
  have hpl : ps.length ≤ N.length := by have := congrArg List.length S.pre; rw [List.length_take] at this; omega
  obtain ⟨h1, tk, rfl, hk⟩ := x.done
  have noA : ∀ b : Addr, b ∉ (Pj CX P w K mg base N qual scope f cd A outer s H E).ex := fun b z => absurd (show b ∈ ([] : List Addr) from z) (by simp)
  refine ⟨⟨e0.mod, S.kind, rfl, rfl, Nat.le_refl _, fun y z c h1 h2 => ?_, fun y hy => ?_, fun y c _ h => ?_, fun _ => hd, Around.frames_deeper e0.frames, .inr ⟨rfl, rfl⟩, fun b z => absurd z (noA b), e0.bs, e0.bsz, fun b _ _ => noA b, fun b z => absurd z (noA b), e0.funs, e0.frf⟩,
    rfl, e0.bare, Un.kept hk, ⟨_, x.toInCall.ns, fun i y v h1 h2 h3 => ?_⟩, fun y c h => ⟨_, x.cell y c h⟩, e0.hok.fresh (Nat.le_refl _), fun y c h => ?_, fun p hp => absurd (show p ∈ ([] : List (Addr × Obj)) from hp) (by simp), e0.hok.kept hk, ?_⟩
  · exact name_of_addr x.apart (PySem.mem_of_lookup h1) (PySem.mem_of_lookup h2)
  · have hy : scope.names.lookup y = some .cell ∨ scope.names.lookup y = some .free := hy
    rcases hy with hy | hy
    · exact Oq hy
    · exact absurd rfl (S.nofree _ (PySem.mem_of_lookup hy))
  · exact Nat.le_of_lt (x.above y c (PySem.mem_of_lookup h))
  · have hi : i < vs.length := by
      unfold start at h2
      by_cases hi : i < vs.length
      · exact hi
      · rw [List.getElem?_append_right (by simpa using hi)] at h2
        rw [List.getElem?_replicate] at h2
        split at h2 <;> cases h2
    have ha : vs[i]? = some v := by
      unfold start at h2
      rw [List.getElem?_append_left (by simpa using hi), List.getElem?_map] at h2
      cases e : vs[i]? with
      | none => rw [e] at h2; cases h2
      | some a => rw [e] at h2; cases h2; rfl
    obtain ⟨u, hu, rv⟩ := r.get ha
    have hp : ps[i]? = some y := by
      rw [← S.pre, List.getElem?_take_of_lt (by omega)]; exact h1
    have ndP : ps.Nodup := by rw [← S.pre]; exact S.nd.sublist (List.take_sublist _ _)
    refine ⟨u, rv, ?_⟩
    rcases S.par y (List.mem_of_getElem? hp) with k | k
    · exact .inl ⟨k, Kr ndP hp hu k⟩
    · obtain ⟨c, e⟩ := Oq (n := s.heap.objs.size + 1) k
      refine .inr ⟨.inl k, c, e, ?_⟩
      have q := x.cell y c e
      rw [Kw ndP hp hu (by show scope.names.lookup y ≠ _; rw [k]; decide)] at q
      exact q
  · exact e0.hok.fresh (Nat.le_of_lt (x.above y c (PySem.mem_of_lookup h)))
  · unfold start
    show _ = N.length
    rw [List.length_append, List.length_map, List.length_replicate]
    omega
theorem Ab1 {CX : CXT} {P : Program} {w : World} {K : PySem.W.Frag} {mg : Str → Option Value} {base : Heap} {k : Nat} {f : Addr} {name qual : Str} {params : Arguments} {body : List Stmt} {scope : Scope} {dV kV doc pm cdv ct oc : Value} {an od : Option Addr}
    {osl : Array (Option Value)} {N ps : List Str} {sp : Sp} (lk : K.lookup f = some ⟨oc, od, .func (PySem.W.fnOf name qual params body scope dV kV doc pm an cdv ct), osl⟩) (hcd : PySem.W.codeIn K cdv qual = true) (S : Aq N ps scope)
    (len : ∀ vs H Q E, sp vs H Q E → vs.length = ps.length)
    (hbody : ∀ (A : Around) (outer : List Env) (s : Shared) (H : Hp) (vs : List V) (Q : VK) (E : XK), Es k (A.deeper (envOfC qual scope s.heap.objs.size f cdv)) → sp vs H Q E →
      ∃ t, PSs (Pj CX P w K mg base N qual scope f cdv A outer s H E) body t ∧ t { nx := fun _ H' => Q .non H', rt := Q } (start N vs) H) :
    Ii P w K mg base CX (k + 1) f (PySem.W.fnOf name qual params body scope dV kV doc pm an cdv ct) ps sp := by
  refine ⟨len, fun A outer s H args us vs Q E hr e0 hb r hsp => ?_⟩
  have hl := len _ _ _ _ hsp
  have KX : K.In s.heap := e0.mod.kin.keeps fun b o e => (e0.bs b o e).1
  have lim : s.heap.NoLimit := e0.mod.nolimit.keeps fun b o e => (e0.bs b o e).1
  have hkind : ∀ y ∈ ps.zip us, scope.names.lookup y.1 = some .local ∨ (scope.names.lookup y.1 = some .cell ∧ ((cellsFrom (s.heap.objs.size + 1) scope.names []).lookup y.1).isSome = true) := fun ⟨n, v⟩ hy => by
    rcases S.par n (List.of_mem_zip hy).1 with q | q
    · exact .inl q
    · exact .inr ⟨q, PySem.W.cellsFrom_some _ _ _ (.inl q)⟩
  refine codeAny_call_function hr.depth (KX _ _ lk) rfl S.co S.gen rfl (PySem.W.codeRec_of KX hcd) (hb _ _ _ _ ?_)
  refine wpAny_newFunctionEnv_cells S.kind hkind fun env he s1 x => ?_
  subst he
  refine ⟨lim.keeps x.toInCall.keep, codeAny_func ?_⟩
  obtain ⟨t, ht, hq⟩ := hbody A outer s H vs Q E (hr.deeper _) hsp
  have I : Inv (Pj CX P w K mg base N qual scope f cdv A outer s H E) [] (start N vs) H s1 := Ru S hr.hd e0 hl r x
  refine wpAny_mono (ht [] s1 (start N vs) H _ I hq) (fun fl s' hs => ?_) fun e s' hs => hs
  have fin : ∀ {σ' : St} {H' : Hp} {v : V} {u : Value}, Inv (Pj CX P w K mg base N qual scope f cdv A outer s H E) [] σ' H' s' → RelV v u → Q v H' → CE outer P w H s Q u s' :=
    fun {σ' H' v u} J rv q => ⟨v, H', J.os, J.bare, J.base, J.hok, rv, q⟩
  cases fl with
  | ret u =>
    obtain ⟨v, σ', H', J, rv, q⟩ := hs
    exact fin J rv q
  | next =>
    obtain ⟨σ', H', J, q⟩ := hs
    exact fin (v := V.non) (u := Value.none) J rfl q
  | brk =>
    obtain ⟨_, _, _, q⟩ := hs
    exact False.elim q
  | cont =>
    obtain ⟨_, _, _, q⟩ := hs
    exact False.elim q
end L2
namespace L2
open PySem PySem.Spec PyProof.Rows
section
variable {X : Cx} {x : Str} {p pos : Pos} {e : Expr} {es : List Expr} {t : TA} {id T : String} {r : List V → Hp → VK → Prop}
noncomputable def tCB (r : List V → Hp → VK → Prop) (t : TA) : TE := fun σ H Q => t σ H fun vs H1 => r vs H1 Q
theorem Jm (hc : Fb X (.builtin id) r) (hg : Gl X x) (hm : X.mg x = none) (hv : bootBuiltins x = some (.builtin id)) (ha : PA X (e :: es) t) (hn : x ≠ "__name__" := by decide) (hdb : (x == ("__debug__" : Str)) = false := by decide)
    (he : starEach (e :: es) X.env = (false, eval e X.env) :: starEach es X.env := by rfl) (hpl : (backTo pos (starEach es X.env)).any (·.1) = false := by rfl) : PE X (.Call (.Name x p) (e :: es) [] pos) (tCB r t) := by
  intro pins s σ H Q I h
  refine wpAny_Call_Name_kw (K3 I hg hm hv ?_ hn hdb)
  exact PyProof.Rows.callWith_builtin1 (thn (ha pos pins s σ H _ I h) fun us s1 ⟨vs, H1, I1, r1, q1⟩ => hc pins s1 σ H1 vs us Q I1 r1 q1) he hpl
theorem Hy (hc : Fb X (.type T) r) (hg : Gl X x) (hm : X.mg x = none) (hv : bootBuiltins x = some (.type T)) (ha : PA X (e :: es) t) (hn : x ≠ "__name__" := by decide) (hdb : (x == ("__debug__" : Str)) = false := by decide)
    (he : starEach (e :: es) X.env = (false, eval e X.env) :: starEach es X.env := by rfl) (hpl : (backTo pos (starEach es X.env)).any (·.1) = false := by rfl) : PE X (.Call (.Name x p) (e :: es) [] pos) (tCB r t) := by
  intro pins s σ H Q I h
  refine wpAny_Call_Name_kw (K3 I hg hm hv ?_ hn hdb)
  exact PyProof.Rows.callWith_type1 (thn (ha pos pins s σ H _ I h) fun us s1 ⟨vs, H1, I1, r1, q1⟩ => hc pins s1 σ H1 vs us Q I1 r1 q1) he hpl
end
end L2
namespace HT
open PySem PyProof.Rows
noncomputable def lexLt : List Int → List Int → Bool
  | [], [] => false
  | [], _ :: _ => true
  | _ :: _, [] => false
  | x :: xs, y :: ys => if x = y then lexLt xs ys else decide (x < y)
theorem Fi (x y : Int) (xs ys : List Int) : lexLt (x :: xs) (y :: ys) = if x = y then lexLt xs ys else decide (x < y) := rfl
theorem Gy : lexLt [] [] = false := rfl
theorem Jt (y : Int) (ys : List Int) : lexLt [] (y :: ys) = true := rfl
theorem JL (x : Int) (xs : List Int) : lexLt (x :: xs) [] = false := rfl
theorem Vf (A : Around) (s : Shared) (a : Int) (t : Tok) (c : Int) (u : Tok) : ∃ e, SeqAt.EqAt A s (.int a t) (.int c u) e ∧ (e = true ↔ a = c) :=
  ⟨(a == c), SeqAt.EqAt.int_int a t c u, by simp⟩
theorem Uo (A : Around) (s : Shared) (a : Int) (t : Tok) (c : Int) (u : Tok) (prog : Program) (w : World) (E : Value → Shared → Prop) (Q : Value → Shared → Prop) (h : Q (.bool (decide (a < c))) s) :
    wpAny (model prog w) A (richCompare .Lt (.int a t) (.int c u)) Q E s :=
  (PyProof.Rows.lt_int h : wpAny (model prog w) A (compareOp .Lt (.int a t) (.int c u)) Q E s)
section
open PySem.SeqAt
open PySem.AutoSeq1 (wpAny_loadPart')
open PySem.MeetsSeq PySem.MeetsSeq2 PySem.MeetsSeq3
theorem JX (l b : Addr) (items items2 : Array Value) (n n2 : Nat) (dd dd2 : Option Addr) (sl sl2 : Array (Option Value)) (ns ms : List Int) (hi : IntsAre items.toList ns) (hj : IntsAre items2.toList ms) :
    Meets (Builtin.«tuple.__lt__» ⟨[.ref l, .ref b], []⟩)
      (fun _ R s => s.heap.get? l = some { cls := .type "tuple", dict := dd, data := .seq items n, slots := sl } ∧ s.heap.get? b = some { cls := .type "tuple", dict := dd2, data := .seq items2 n2, slots := sl2 } ∧
        R (.ok (.ret (.bool (lexLt ns ms)))) s) :=
  .of_wp fun prog w A R s h => by
    obtain ⟨hp, g, d, tk, os⟩ := s; obtain ⟨hl, hb, h⟩ := h
    have f2 := AutoSeq1.sub_tuple_tuple
    have z1 : items.size = ns.length := by rw [← hi.length]; simp
    have z2 : items2.size = ms.length := by rw [← hj.length]; simp
    wp_walk using wpAny_loadPart' hl, wpAny_loadPart' hb, wpAny_forIn_list _ (fun rest b s' => b.1 = none ∧ s' = ⟨hp, g, d, tk, os⟩ ∧ ∃ (vs ws : List Value) (ns' ms' : List Int), rest = vs.zip ws ∧
      IntsAre vs ns' ∧ IntsAre ws ms' ∧ ns'.length + items2.size = ms'.length + items.size ∧ R (.ok (.ret (.bool (lexLt ns' ms')))) ⟨hp, g, d, tk, os⟩) _
    case turn =>
      rintro ⟨y, x⟩ rest b s' ⟨hb', rfl, vs, ws, ns', ms', hz, hvi, hwi, hlen, hR⟩
      cases hvi with
      | nil => rw [List.zip_nil_left] at hz; cases hz
      | cons a t hvi' =>
        cases hwi with
        | nil => rw [List.zip_nil_right] at hz; cases hz
        | cons c u hwi' =>
          rw [List.zip_cons_cons] at hz
          injection hz with hyx hrest
          injection hyx with hy hx
          subst hy hx
          rw [Fi] at hR
          simp only [List.length_cons] at hlen
          obtain ⟨e, he, hiff⟩ := Vf A.in1 ⟨hp, g, d, tk, os⟩ a t c u
          refine wpAny_bind (he prog w _ _ ?_)
          cases e with
          | true =>
            rw [if_pos (hiff.mp rfl)] at hR
            wp_walk
            exact ⟨rfl, rfl, _, _, _, _, hrest, hvi', hwi', by omega, hR⟩
          | false =>
            rw [if_neg (fun q => absurd (hiff.mpr q) Bool.false_ne_true)] at hR
            have hri := Uo A.in1 ⟨hp, g, d, tk, os⟩ a t c u prog w
            wp_walk using hri
            exact ⟨_, rfl, by simpa using hR⟩
    case fin =>
      rintro ⟨b1, b2⟩ s' ⟨hb', rfl, vs, ws, ns', ms', hz, hvi, hwi, hlen, hR⟩
      simp only at hb'
      subst hb'
      have hv : lexLt ns' ms' = decide (items.size < items2.size) := by
        cases hvi with
        | nil =>
          cases hwi with
          | nil =>
            simp only [List.length_nil] at hlen
            rw [Gy]
            exact (decide_eq_false (by omega)).symm
          | cons c u hw =>
            simp only [List.length_nil, List.length_cons] at hlen
            rw [Jt]
            exact (decide_eq_true (by omega)).symm
        | cons a t hv =>
          cases hwi with
          | nil =>
            simp only [List.length_nil, List.length_cons] at hlen
            rw [JL]
            exact (decide_eq_false (by omega)).symm
          | cons c u hw =>
            rw [List.zip_cons_cons] at hz
            cases hz
      rw [hv] at hR
      wp_walk
      exact ⟨_, rfl, by simpa [Builtin.Tuple.tupleCompareSizes] using hR⟩
    case h =>
      exact ⟨rfl, rfl, items.toList, items2.toList, ns, ms, rfl, hi, hj, by omega, h⟩
end
section
variable {prog : Program} {w : World} {A : Around} {E : Value → Shared → Prop} {s : Shared}
theorem Jv {l b : Addr} {items items2 : Array Value} {ns ms : List Int} {Q : Value → Shared → Prop} (hl : IsTup s.heap l items) (hb : IsTup s.heap b items2) (hi : IntsAre items.toList ns) (hj : IntsAre items2.toList ms)
    (hu : A.units < cLine) (h : Q (.bool (lexLt ns ms)) s) : wpAny (model prog w) A (compareOp .Lt (.ref l) (.ref b)) Q E s := by
  obtain ⟨⟨cls, dd, data, sl⟩, ho, hc, n, hd⟩ := id hl
  obtain ⟨⟨cls2, dd2, data2, sl2⟩, ho2, hc2, n2, hd2⟩ := id hb
  simp only at hc hd hc2 hd2
  subst hc hd hc2 hd2
  exact richCompare_meets_room (op := .Lt) ⟨_, ho, rfl⟩ ⟨_, ho2, rfl⟩ PySem.F.slot_tuple_lt PySem.F.entry_tuple_lt (PySem.F.args_tuple_lt_2 _ _) (JX l b items items2 n n2 dd dd2 sl sl2 ns ms hi hj)
    ⟨ho, ho2, show Value.bool (lexLt ns ms) ≠ Value.notImplemented ∧ Q (.bool (lexLt ns ms)) s from ⟨(fun x => nomatch x), h⟩⟩ hu
noncomputable def sIx (n d : Nat) : Option Int → Nat
  | none => d
  | some v => if v < 0 then (v + (n : Int)).toNat else min v.toNat n
theorem Oi (n d : Nat) : sIx n d none = d := rfl
theorem Qo (n d k : Nat) : sIx n d (some (k : Int)) = min k n := by
  show (if (k : Int) < 0 then ((k : Int) + (n : Int)).toNat else min (k : Int).toNat n) = min k n
  rw [if_neg (by omega), Int.toNat_natCast]
end
end HT
namespace L2
open PySem PySem.Spec PyProof.Rows
noncomputable abbrev TO := St → Hp → (Option Int → Hp → Prop) → Prop
noncomputable def PO (X : Cx) (e : Option Expr) (t : TO) : Prop :=
  ∀ (pins : List (Addr × Obj)) (s : Shared) (σ : St) (H : Hp) (Q : Option Int → Hp → Prop), Inv X pins σ H s → t σ H Q →
    wpAny (model X.prog X.w) X.A (evalPart e X.env) (fun u s' => ∃ o H', Inv X pins σ H' s' ∧ IsPart u o ∧ Q o H') X.xe s
noncomputable def Xb : TO := fun _ H Q => Q none H
noncomputable def Abr (t : TE) : TO := fun σ H Q => t σ H fun x H1 => ∃ i, x = .int i ∧ Q (some i) H1
theorem intsAre_of {ns : List Int} : ∀ {us : List Value}, Vals (ns.map V.int) us → IntsAre us ns := by
  induction ns with
  | nil => intro us r; rw [List.map_nil] at r; cases r; exact .nil
  | cons n ns ih =>
    intro us r
    rw [List.map_cons] at r
    cases r with
    | cons r1 r2 =>
      obtain ⟨t, e⟩ := r1
      subst e
      exact .cons n t (ih r2)
section
variable {X : Cx} {e : Expr} {te : TE} {lo hi : Option Expr} {tl th : TO} {pos p2 : Pos}
theorem V9 : PO X none Xb := by
  intro pins s σ H Q I h
  rw [evalPart_none]
  exact wpAny_pure ⟨none, H, I, .none, h⟩
theorem Xh (h : PE X e te) : PO X (some e) (Abr te) := by
  intro pins s σ H Q I hw
  rw [evalPart_some]
  refine thn (h pins s σ H _ I hw) fun u s1 ⟨x, H1, I1, r1, q1⟩ => ?_
  obtain ⟨i, rfl, q⟩ := q1
  obtain ⟨t, rfl⟩ := r1
  exact ⟨some i, H1, I1, .int i t, q⟩
noncomputable def SlR (X : Cx) (r : V → Option Int → Option Int → Hp → VK → Prop) : Prop :=
  ∀ (pins : List (Addr × Obj)) (s : Shared) (σ : St) (H : Hp) (x : V) (v vl vu : Value) (lo hi : Option Int) (sl : Addr) (Q : VK), Inv X pins σ H s → RelV x v → s.heap.IsSliceOf sl vl vu .none → IsPart vl lo → IsPart vu hi → r x lo hi H Q →
    ∃ T id, typeLookup (.type T) "__getitem__" = pure (some (.builtin id)) ∧ s.TypeIs v T ∧ wpAny (model X.prog X.w) X.A (getItem v (.ref sl)) (EP X pins σ Q) X.xe s
noncomputable def tSl (r : V → Option Int → Option Int → Hp → VK → Prop) (te : TE) (tl th : TO) : TE := fun σ H Q => te σ H fun x H1 => tl σ H1 fun l H2 => th σ H2 fun u H3 => r x l u H3 Q
theorem M9 {r : V → Option Int → Option Int → Hp → VK → Prop} (hr : SlR X r) (he : PE X e te) (hl : PO X lo tl) (hu : PO X hi th) : PE X (.Subscript e (.Slice lo hi none p2) pos) (tSl r te tl th) := by
  intro pins s σ H Q I h
  refine Subscript_ (thn (he pins s σ H _ I h) fun v s1 ⟨x, H1, I1, r1, q1⟩ => ?_)
  refine wpAny_Slice (thn (hl pins s1 σ H1 _ I1 q1) fun vl s2 ⟨l, H2, I2, pl, q2⟩ => thn (hu pins s2 σ H2 _ I2 q2) fun vu s3 ⟨u, H3, I3, pu, q3⟩ => ?_)
  rw [evalPart_none]
  refine wpAny_pure ?_
  have I4 : Inv X pins σ H3 { s3 with heap := s3.heap.push { cls := .type "slice", data := .fields #[vl, vu, .none] } } := I3.kept (t' := s3.toks) fun b ob q => Heap.get?_push_of_some _ q
  obtain ⟨T, id, hT, ht, hg⟩ := hr pins { s3 with heap := s3.heap.push { cls := .type "slice", data := .fields #[vl, vu, .none] } } σ H3 x v vl vu l u s3.heap.objs.size Q I4 r1 (Heap.IsSliceOf.new ..) pl pu q3
  show wpAny (model X.prog X.w) X.A (subscriptTail e (.Slice lo hi none p2) v (.ref s3.heap.objs.size)) (EP X pins σ Q) X.xe { s3 with heap := s3.heap.push { cls := .type "slice", data := .fields #[vl, vu, .none] } }
  exact tail_any (ops := [.ref s3.heap.objs.size, v]) ht hT hg (by with_unfolding_all rfl)
noncomputable def RM (xs : List V) (lo hi : Option Int) : List V := (xs.drop (HT.sIx xs.length 0 lo)).take (HT.sIx xs.length xs.length hi - HT.sIx xs.length 0 lo)
theorem Oc (xs : List V) (lo hi : Option Int) : (RM xs lo hi).length ≤ xs.length := by
  unfold RM
  rw [List.length_take, List.length_drop]
  omega
noncomputable def AcF (K : PySem.W.Frag) : R2 := fun x y H Q => ∃ a b ns ms, x = .ref a ∧ y = .ref b ∧ SqT K H a (ns.map V.int) ∧ SqT K H b (ms.map V.int) ∧ Q (.bl (HT.lexLt ns ms)) H
theorem T6 (hu : X.A.units < cLine) : OpR X (compareOp .Lt) (AcF X.K) := by
  intro pins s σ H x y v u Q I rx ry h
  obtain ⟨a, b, ns, ms, rfl, rfl, ha, hb, q⟩ := h
  cases rx
  cases ry
  obtain ⟨its, r1, p1, _⟩ := I.tuple ha
  obtain ⟨its2, r2, p2, _⟩ := I.tuple hb
  have i1 : IntsAre its.toArray.toList ns := intsAre_of r1
  have i2 : IntsAre its2.toArray.toList ms := intsAre_of r2
  exact HT.Jv p1 p2 i1 i2 hu ⟨.bl (HT.lexLt ns ms), H, I, rfl, q⟩
end
end L2
namespace L2
open PySem PySem.Spec PyProof.Rows
noncomputable def ixN (n : Nat) (i : Int) : Option Nat := if 0 ≤ i then (if i < n then some i.toNat else none) else if -(n : Int) ≤ i then some (i + n).toNat else none
noncomputable def atI {α : Type} (xs : List α) (i : Int) : Option α := (ixN xs.length i).bind fun j => xs[j]?
theorem Wl {n : Nat} {i : Int} {j : Nat} (h : ixN n i = some j) : seqIndex? i n = some j ∧ j < n ∧ -(n : Int) ≤ i ∧ i < n := by
  unfold ixN at h
  by_cases h0 : 0 ≤ i
  · rw [if_pos h0] at h
    by_cases h1 : i < n
    · rw [if_pos h1] at h
      have e : i.toNat = j := Option.some.inj h
      exact ⟨by rw [seqIndex_of h0 h1, e], by omega, by omega, h1⟩
    · rw [if_neg h1] at h; cases h
  · rw [if_neg h0] at h
    by_cases h1 : -(n : Int) ≤ i
    · rw [if_pos h1] at h
      have e : (i + n).toNat = j := Option.some.inj h
      exact ⟨by rw [seqIndex_neg (by omega) h1, e], by omega, h1, by omega⟩
    · rw [if_neg h1] at h; cases h
theorem Lz {α : Type} {xs : List α} {i : Int} {v : α} (h : atI xs i = some v) : ∃ j, seqIndex? i xs.length = some j ∧ xs[j]? = some v ∧ j < xs.length ∧ -(xs.length : Int) ≤ i ∧ i < xs.length := by
  unfold atI at h
  cases e : ixN xs.length i with
  | none => rw [e] at h; cases h
  | some j =>
    rw [e] at h
    obtain ⟨h1, h2, h3, h4⟩ := Wl e
    exact ⟨j, h1, h, h2, h3, h4⟩
theorem Xd {α : Type} {xs : List α} {j : Nat} {v : α} (h : xs[j]? = some v) : atI xs (j : Int) = some v := by
  have hj : j < xs.length := (List.getElem?_eq_some_iff.mp h).1
  have e : ixN xs.length (j : Int) = some j := by
    unfold ixN
    rw [if_pos (by omega), if_pos (by omega)]; simp
  unfold atI; rw [e]; exact h
noncomputable def Lp (b : Expr) : Prop := ∀ o i, subscripted b false o i = operate [o, i] (getItem o i)
noncomputable def IxR (X : Cx) (r : R2) : Prop :=
  ∀ (value slice : Expr) (pins : List (Addr × Obj)) (s : Shared) (σ : St) (H : Hp) (x y : V) (v u : Value) (Q : VK), Inv X pins σ H s → RelV x v → RelV y u → r x y H Q →
    subscripted slice false v u = operate [v, u] (getItem v u) → wpAny (model X.prog X.w) X.A (subscriptTail value slice v u) (EP X pins σ Q) X.xe s
noncomputable def MtR (X : Cx) (id : String) (r : V → List V → Hp → VK → Prop) : Prop :=
  ∀ (pins : List (Addr × Obj)) (s : Shared) (σ : St) (H : Hp) (x : V) (xs : List V) (v : Value) (us : List Value) (Q : VK), Inv X pins σ H s → RelV x v → Vals xs us → r x xs H Q →
    wpAny (model X.prog X.w) X.A (call (.builtin id) (v :: us)) (EP X pins σ Q) X.xe s
section
variable {X : Cx} {a b : Expr} {ta tb : TE} {pos : Pos}
theorem IxR.or {r r' : R2} (h : IxR X r) (h' : IxR X r') : IxR X (fun x y H Q => r x y H Q ∨ r' x y H Q) := by
  intro value slice pins s σ H x y v u Q I rx ry q hs
  rcases q with q | q
  · exact h value slice pins s σ H x y v u Q I rx ry q hs
  · exact h' value slice pins s σ H x y v u Q I rx ry q hs
theorem Abb {r : R2} (hr : IxR X r) (ha : PE X a ta) (hb : PE X b tb) (hs : Lp b) : PE X (.Subscript a b pos) (tOp r ta tb) := by
  intro pins s σ H Q I h
  exact Subscript_ (ZK ha hb I h fun v u s2 x y H2 I2 rx ry q => hr a b pins s2 σ H2 x y v u Q I2 rx ry q (hs _ _))
noncomputable def AbG (K : PySem.W.Frag) : R2 := fun x y H Q => ∃ p xs i v, x = .ref p ∧ y = .int i ∧ SqL K H p xs ∧ atI xs i = some v ∧ Q v H
noncomputable def Acw (K : PySem.W.Frag) : R2 := fun x y H Q => ∃ p xs i v, x = .ref p ∧ y = .int i ∧ SqT K H p xs ∧ atI xs i = some v ∧ Q v H
noncomputable def Ac0 : R2 := fun x y H Q => ∃ z i c, x = .str z ∧ y = .int i ∧ z.length ≤ sizeLine ∧ atI z.cps.toList i = some c ∧ Q (.str ⟨#[c]⟩) H
theorem Wd : IxR X (AbG X.K) := by
  intro value slice pins s σ H x y v u Q I rx ry h hs
  obtain ⟨p, xs, i, z, rfl, rfl, hq, he, q⟩ := h
  cases rx
  obtain ⟨t, rfl⟩ := ry
  obtain ⟨its, r, pl, hz⟩ := I.list hq
  obtain ⟨j, h1, h2, h3, h4, h5⟩ := Lz he
  obtain ⟨w, ew, rw'⟩ := r.get h2
  have hl := r.length
  have hn := Lj
  have fin : EP X pins σ Q w s := ⟨z, H, I, rw', q⟩
  by_cases h0 : 0 ≤ i
  · have hj : i.toNat = j := by
      rw [seqIndex_of h0 h5] at h1
      exact Option.some.inj h1
    exact item_listR pl.isList h0 (by omega) (by rw [hj]; simpa using ew) fin hs
  · have hj : (i + (its.toArray.size : Int)).toNat = j := by
      rw [seqIndex_neg (by omega) h4] at h1
      rw [List.size_toArray, ← hl]
      exact Option.some.inj h1
    exact subscriptTail_builtinR (x := w) pl.isList.typeIs slot_list_getitem.lookup
      (wpAny_getItem_list_neg (Q := fun r s' => r = w ∧ EP X pins σ Q r s') pl.isList (by omega) (by rw [List.size_toArray] <;> omega) (by omega) (by rw [hj]; simpa using ew) ⟨rfl, fin⟩) hs
theorem YJ : IxR X (Acw X.K) := by
  intro value slice pins s σ H x y v u Q I rx ry h hs
  obtain ⟨p, xs, i, z, rfl, rfl, hq, he, q⟩ := h
  cases rx
  obtain ⟨t, rfl⟩ := ry
  obtain ⟨its, r, pl, hz⟩ := I.tuple hq
  obtain ⟨j, h1, h2, h3, h4, h5⟩ := Lz he
  obtain ⟨w, ew, rw'⟩ := r.get h2
  have hl := r.length
  have hn := Lj
  have fin : EP X pins σ Q w s := ⟨z, H, I, rw', q⟩
  exact subscriptTail_builtinR (x := w) pl.typeIs slot_tuple_getitem.lookup
    (getItem_tuple (j := j) (Q := fun r s' => r = w ∧ EP X pins σ Q r s') pl (by omega) (by omega) (by rw [List.size_toArray, ← hl]; exact h1) (by simpa using ew) ⟨rfl, fin⟩) hs
theorem ZL : IxR X Ac0 := by
  intro value slice pins s σ H x y v u Q I rx ry h hs
  obtain ⟨z, i, c, rfl, rfl, hz, he, q⟩ := h
  obtain ⟨t, rfl⟩ := rx
  obtain ⟨t', rfl⟩ := ry
  obtain ⟨j, h1, h2, h3, h4, h5⟩ := Lz he
  have hl : z.cps.toList.length = z.length := by simp [Str.length]
  rw [hl] at h1 h4 h5
  have hn := Lj
  exact tail_any (typeIs_str s z t) slot_str_getitem.lookup (getItem_str (c := c) (by
    have e1 : decide (i < -(2 ^ 63 : Int)) = false := decide_eq_false (by omega)
    have e2 : decide (i ≥ 2 ^ 63) = false := decide_eq_false (by omega)
    rw [e1, e2, Bool.or_false]) (by rw [h1]; simpa using h2) ⟨.str ⟨#[c]⟩, H, I.tok _, ⟨_, rfl⟩, q⟩) hs
noncomputable def rIx (K : PySem.W.Frag) : R2 := fun x y H Q => AbG K x y H Q ∨ Acw K x y H Q ∨ Ac0 x y H Q
theorem Ze : IxR X (rIx X.K) := Wd.or (YJ.or ZL)
theorem Ms (lo hi : Option Int) (n : Nat) : (sliceBounds lo hi none n).1 = ((HT.sIx n 0 lo : Nat) : Int) ∧ (sliceBounds lo hi none n).2.1 = ((HT.sIx n n hi : Nat) : Int) ∧ (sliceBounds lo hi none n).2.2 = 1 := by
  refine ⟨?_, ?_, rfl⟩
  · cases lo with
    | none => simp [sliceBounds, HT.sIx]
    | some i =>
      simp only [sliceBounds, HT.sIx, Option.getD_none, show (1 : Int) > 0 by decide, if_true]
      by_cases h : i < 0
      · simp only [h, if_true] <;> omega
      · simp only [h, if_false] <;> omega
  · cases hi with
    | none => simp [sliceBounds, HT.sIx]
    | some i =>
      simp only [sliceBounds, HT.sIx, Option.getD_none, show (1 : Int) > 0 by decide, if_true]
      by_cases h : i < 0
      · simp only [h, if_true] <;> omega
      · simp only [h, if_false] <;> omega
theorem J1 (its : List Value) (lo hi : Option Int) : slicePick its.toArray lo hi none = ((its.drop (HT.sIx its.length 0 lo)).take (HT.sIx its.length its.length hi - HT.sIx its.length 0 lo)).toArray := by
  obtain ⟨h1, h2, h3⟩ := Ms lo hi its.toArray.size
  unfold slicePick
  rw [h1, h2, h3]
  simp only [sliceRange_one, pick_run, List.size_toArray] <;> rfl
noncomputable def AeI (K : PySem.W.Frag) : V → Option Int → Option Int → Hp → VK → Prop := fun x lo hi H Q => ∃ a xs, x = .ref a ∧ SqL K H a xs ∧ ∀ p, H p = none → Q (.ref p) (upd H p (.lst (RM xs lo hi)))
theorem Q7 : SlR X (AeI X.K) := by
  intro pins s σ H x v vl vu lo hi sl Q I rx hs pl pu h
  obtain ⟨a, xs, rfl, hx, q⟩ := h
  cases rx
  obtain ⟨its, r, ht, hz⟩ := I.list hx
  have hlen := r.length
  refine ⟨"list", _, slot_list_getitem.lookup, ht.isList.typeIs, ?_⟩
  refine wpAny_getItem_list_slice ht.isList hs pl pu .none (by simp) ?_ (by rw [List.size_toArray] <;> omega)
  rw [J1, ← hlen]
  refine ⟨.ref s.heap.objs.size, _, I.laid (t' := s.toks) (o := .lst (RM xs lo hi)) (fun b ob q => Heap.get?_push_of_some _ q) (Nat.le_refl _) ?_, rfl, q _ (I.hok.fresh (Nat.le_refl _))⟩
  exact ⟨Nat.le_trans (Oc xs lo hi) hz, _, 0, (r.drop (HT.sIx xs.length 0 lo)).take (HT.sIx xs.length xs.length hi - HT.sIx xs.length 0 lo), Heap.get?_push_size _ rfl⟩
theorem Mq : Fb X (.builtin "len") (fun xs H Q => ∃ p ys, xs = [.ref p] ∧ (SqL X.K H p ys ∨ SqT X.K H p ys) ∧ Q (.int ys.length) H) := by
  intro pins s σ H xs us Q I r h
  obtain ⟨p, ys, rfl, hq, q⟩ := h
  obtain ⟨u, rfl, rx⟩ := vals1 r
  cases rx
  have hn := Lj
  rcases hq with hq | hq
  · obtain ⟨its, r', pl, hz⟩ := I.list hq
    have hlen := r'.length
    exact Calls.call_len_list pl.isList (by simp only [List.size_toArray] <;> omega) ⟨.int ys.length, H, I.tok _, ⟨s.toks + 1, by rw [List.size_toArray, hlen]⟩, q⟩
  · obtain ⟨its, r', pl, hz⟩ := I.tuple hq
    have hlen := r'.length
    exact len_tuple pl (by simp only [List.size_toArray] <;> omega) ⟨.int ys.length, H, I.tok _, ⟨s.toks + 1, by rw [List.size_toArray, hlen]⟩, q⟩
theorem Lh : Fb X (.type "list") (fun xs H Q => ∃ p ys, xs = [.ref p] ∧ (SqL X.K H p ys ∨ SqT X.K H p ys) ∧ ∀ l, H l = none → Q (.ref l) (upd H l (.lst ys))) := by
  intro pins s σ H xs us Q I r h
  obtain ⟨p, ys, rfl, hq, q⟩ := h
  obtain ⟨u, rfl, rx⟩ := vals1 r
  cases rx
  have fin : ∀ (its : List Value), Vals ys its → ys.length ≤ sizeLine → ∀ (h' : Heap) (c' : Nat), (∀ b o', s.heap.get? b = some o' → h'.get? b = some o') →
      h'.get? s.heap.objs.size = some { cls := .type "list", dict := none, data := .seq its.toArray c', slots := #[] } → EP X pins σ Q (.ref s.heap.objs.size) { s with heap := h' } := fun its r' hz h' c' kp e =>
    ⟨.ref s.heap.objs.size, _, I.laid (t' := s.toks) kp (Nat.le_refl _) (show Ey X.prog X.w _ h' _ (.lst ys) from ⟨hz, its, c', r', e⟩), rfl, q _ (I.hok.fresh (Nat.le_refl _))⟩
  rcases hq with hq | hq
  · obtain ⟨its, r', pl, hz⟩ := I.list hq
    have hlen := r'.length
    obtain ⟨o, ho, hc, n, hd⟩ := pl.isList
    exact call_list_seq p (.inl rfl) ho hc hd (fun h' c' kp e => fin its r' hz h' c' kp e) (by simp only [List.size_toArray] <;> omega)
  · obtain ⟨its, r', pl, hz⟩ := I.tuple hq
    have hlen := r'.length
    obtain ⟨o, ho, hc, n, hd⟩ := pl
    exact call_list_seq p (.inr rfl) ho hc hd (fun h' c' kp e => fin its r' hz h' c' kp e) (by simp only [List.size_toArray] <;> omega)
noncomputable def tyV (K : PySem.W.Frag) (T : String) (x : V) (H : Hp) : Prop := match x with
  | .str _ => T = "str"
  | .int _ => T = "int"
  | .ref p => (T = "list" ∧ ∃ xs, SqL K H p xs) ∨ (T = "tuple" ∧ ∃ o, K.lookup p = some o ∧ o.cls = .type "tuple" ∧ o.dict = none) ∨
      (T = "dict" ∧ ((∃ kvs, H p = some (.dK kvs)) ∨ ∃ kvs, H p = some (.dT kvs))) ∨ (T = "set" ∧ ∃ S n, H p = some (.set S n))
  | _ => False
theorem Ve {pins : List (Addr × Obj)} {σ : St} {H : Hp} {s : Shared} {T : String} {x : V} {v : Value} (I : Inv X pins σ H s) (r : RelV x v) (ty : tyV X.K T x H) :
    s.TypeIs v T ∧ ∀ a, v = .ref a → ∃ ob, s.heap.get? a = some ob ∧ ob.dict = none := by
  cases x with
  | str z =>
    obtain ⟨t, rfl⟩ := r
    cases (show T = "str" from ty)
    exact ⟨typeIs_str s z t, fun _ e => nomatch e⟩
  | int i =>
    obtain ⟨t, rfl⟩ := r
    cases (show T = "int" from ty)
    exact ⟨typeIs_int s i t, fun _ e => nomatch e⟩
  | ref p =>
    cases r
    rcases ty with ⟨rfl, xs, hq⟩ | ⟨rfl, o, hk, hc, hd⟩ | ⟨rfl, hk⟩ | ⟨rfl, S, n, hk⟩
    · obtain ⟨its, _, pl, _⟩ := I.list hq
      refine ⟨pl.isList.typeIs, fun a e => ?_⟩
      cases e
      obtain ⟨o, n, e, c, hd, _⟩ := pl
      exact ⟨o, e, hd⟩
    · refine ⟨⟨o, I.kIn p o hk, hc⟩, fun a e => ?_⟩
      cases e
      exact ⟨o, I.kIn _ o hk, hd⟩
    · have z : ∃ o, s.heap.get? p = some o ∧ o.ExactDict := by
        rcases hk with ⟨kvs, hk⟩ | ⟨kvs, hk⟩
        · obtain ⟨_, _, _, _, o, _, _, e, ex, _⟩ := I.hok p _ hk
          exact ⟨o, e, ex⟩
        · obtain ⟨_, _, _, _, o, _, _, e, ex, _⟩ := I.hok p _ hk
          exact ⟨o, e, ex⟩
      obtain ⟨o, e, ex⟩ := z
      refine ⟨⟨o, e, ex.1⟩, fun a e2 => ?_⟩
      cases e2
      exact ⟨o, e, ex.2.1⟩
    · obtain ⟨o, _, _, _, e, ex, _⟩ := I.hok p _ hk
      refine ⟨⟨o, e, ex.1⟩, fun a e2 => ?_⟩
      cases e2
      exact ⟨o, e, ex.2.1⟩
  | _ => exact False.elim ty
noncomputable def AdU (K : PySem.W.Frag) (T : String) (r : V → List V → Hp → VK → Prop) (to : TE) : TE := fun σ H Q => to σ H fun x H1 => tyV K T x H1 ∧ r x [] H1 Q
noncomputable def tBM (K : PySem.W.Frag) (T : String) (r : V → List V → Hp → VK → Prop) (to : TE) (t : TA) : TE := fun σ H Q => to σ H fun x H1 => tyV K T x H1 ∧ t σ H1 fun xs H2 => r x xs H2 Q
variable {o e : Expr} {es : List Expr} {to : TE} {t : TA} {name : Str} {apos cpos : Pos} {T id : String} {r : V → List V → Hp → VK → Prop}
theorem Aar (pa : PlainAttrs T) (slot : Slot T name id) (hty : typeOf (.builtin id) = pure (.type "method_descriptor")) (hm : MtR X id r) (ho : PE X o to)
    (hbase : attributeBase o name X.env (eval o X.env) = eval o X.env := by rfl) (hline : (apos.endLine == cpos.line) = true := by rfl) : PE X (.Call (.Attribute o name apos) [] [] cpos) (AdU X.K T r to) := by
  intro pins s σ H Q I h
  refine wpAny_Call_method0_late hbase hline (thn (ho pins s σ H _ I h) fun v s1 ⟨x, H1, I1, r1, ty, q1⟩ => ?_)
  obtain ⟨h1, h2⟩ := Ve I1 r1 ty
  exact ⟨T, id, pa, slot, hty, h1, h2, Calls.callWith_builtin rfl (PySem.evalArgs_none (hm pins s1 σ H1 x [] v [] Q I1 r1 .nil q1))⟩
theorem Yt (pa : PlainAttrs T) (slot : Slot T name id) (hty : typeOf (.builtin id) = pure (.type "method_descriptor")) (hm : MtR X id r) (ho : PE X o to) (ha : PA X (e :: es) t)
    (hbase : attributeBase o name X.env (eval o X.env) = eval o X.env := by rfl)
    (hfew : ((backTo cpos (starEach (e :: es) X.env)).all (fun x => !x.1) && (backToKw cpos (keywordEach [] X.env)).all (fun x => x.1.isSome)
      && decide ((e :: es).length + ([] : List Keyword).length + (if ([] : List Keyword).isEmpty then 0 else 1) < 30)) = true := by rfl)
    (hline : (apos.endLine == cpos.line) = true := by rfl) (hs : starEach (e :: es) X.env = (false, eval e X.env) :: starEach es X.env := by rfl) (hplain : (backTo cpos (starEach es X.env)).any (·.1) = false := by rfl) :
    PE X (.Call (.Attribute o name apos) (e :: es) [] cpos) (tBM X.K T r to t) := by
  intro pins s σ H Q I h
  refine wpAny_Call_method_late hbase hfew hline rfl (thn (ho pins s σ H _ I h) fun v s1 ⟨x, H1, I1, r1, ty, q1⟩ => ?_)
  obtain ⟨h1, h2⟩ := Ve I1 r1 ty
  refine ⟨T, id, pa, slot, hty, h1, h2, ?_⟩
  have hA := ha cpos pins s1 σ H1 _ I1 q1
  rw [hs] at hA ⊢
  refine Calls.callWith_builtin (by show (false || (backTo cpos (starEach es X.env)).any (·.1)) = false; rw [hplain] <;> rfl) (Calls.evalArgs_plain ?_)
  exact thn hA fun us s2 ⟨vs, H2, I2, r2, q2⟩ => hm pins s2 σ H2 x vs v us Q I2 r1 r2 q2
end
end L2
namespace L2
open PySem PySem.Spec PyProof.Rows
noncomputable def MtM (X : Cx) (id : String) (r : V → List V → Hp → VK → Prop) : Prop :=
  ∀ (pins : List (Addr × Obj)) (s : Shared) (σ : St) (H : Hp) (x : V) (xs : List V) (v : Value) (us : List Value) (Q : VK), Inv X pins σ H s → RelV x v → Vals xs us → r x xs H Q →
    wpAny (model X.prog X.w) X.A (call (.builtin id) (v :: us)) (EP X pins σ Q) X.xe s
theorem Vals.one : ∀ {x : V} {us : List Value}, Vals [x] us → ∃ u, us = [u] ∧ RelV x u
  | _, _, .cons r .nil => ⟨_, rfl, r⟩
section
variable {X : Cx} {pins : List (Addr × Obj)} {σ : St} {H : Hp} {s : Shared} {l b : Addr} {xs ys zs : List V}
theorem Inv.lset {its its' : List Value} {n : Nat} {f : Array Value → Array Value} {t' : Nat} (I : Inv X pins σ H s) (hH : H l = some (.lst xs))
    (e : s.heap.get? l = some { cls := .type "list", data := .seq its.toArray n }) (hf : f its.toArray = its'.toArray) (hv : Vals ys its') (hz : ys.length ≤ sizeLine) :
    Inv X pins σ (upd H l (.lst ys)) { s with heap := s.heap.update l (Obj.mapSeq f), toks := t' } := by
  have q := PySem.IsL.update e f
  rw [hf] at q
  refine I.write (x := l) (e := l) (by rw [hH]; exact trivial) (.inl rfl) (fun b' u hb hu => (Heap.get?_update_other s.heap (Obj.mapSeq f) (Ne.symm hb)).trans hu) ⟨_, q⟩ ?_
  exact ⟨hz, its', _, hv, q⟩
theorem Inv.lnew {its : List Value} {t' : Nat} (I : Inv X pins σ H s) (hv : Vals ys its) (hz : ys.length ≤ sizeLine) :
    Inv X pins σ (upd H s.heap.objs.size (.lst ys)) { s with heap := s.heap.push { cls := .type "list", data := .seq its.toArray }, toks := t' } :=
  I.laid (fun _ _ q => Heap.get?_push_of_some _ q) (Nat.le_refl _) ⟨hz, its, 0, hv, Heap.get?_push_size _ rfl⟩
theorem Inv.fresh (I : Inv X pins σ H s) : H s.heap.objs.size = none := I.hok.fresh (Nat.le_refl _)
theorem Inv.lstM (I : Inv X pins σ H s) (hH : H l = some (.lst xs)) : xs.length ≤ sizeLine ∧ ∃ (its : List Value) (n : Nat), Vals xs its ∧ xs.length = its.length ∧ s.heap.get? l = some { cls := .type "list", data := .seq its.toArray n } := by
  obtain ⟨z, its, n, r, e⟩ := I.hok l _ hH
  exact ⟨z, its, n, r, r.length, e⟩
theorem Vt {n : Nat} (h : n ≤ sizeLine) : Builtin.List.listTooLong n = false := by
  unfold Builtin.List.listTooLong
  exact decide_eq_false (by omega)
end
section
variable {X : Cx}
noncomputable def Wk : V → List V → Hp → VK → Prop := fun x vs H Q => ∃ l xs y, x = .ref l ∧ vs = [y] ∧ H l = some (.lst xs) ∧ xs.length < sizeLine ∧ Q .non (upd H l (.lst (xs ++ [y])))
theorem HN : MtM X "list.append" Wk := by
  intro pins s σ H x vs v us Q I rx rv h
  obtain ⟨l, xs, y, rfl, rfl, hH, hz, q⟩ := h
  cases rx
  obtain ⟨u, rfl, ru⟩ := rv.one
  obtain ⟨z, its, n, r, hl, e⟩ := I.lstM hH
  refine call_meets F.slot_list_append ⟨_, e, rfl⟩ F.entry_list_append (F.args_list_append_2 _ _) (PySem.list_append l its.toArray n u (by rw [List.size_toArray]; omega)) ⟨e, ?_⟩
  refine ⟨.non, _, I.lset (its' := its ++ [u]) hH e (by simp) (r.append (.cons ru .nil)) ?_, rfl, q⟩
  rw [List.length_append, List.length_singleton]
  omega
noncomputable def W3 : V → List V → Hp → VK → Prop := fun x vs H Q => ∃ l b xs zs, x = .ref l ∧ vs = [.ref b] ∧ H l = some (.lst xs) ∧ H b = some (.lst zs) ∧ xs.length + zs.length ≤ sizeLine ∧ Q .non (upd H l (.lst (xs ++ zs)))
theorem Aa6 : MtM X "list.extend" W3 := by
  intro pins s σ H x vs v us Q I rx rv h
  obtain ⟨l, b, xs, zs, rfl, rfl, hH, hB, hz, q⟩ := h
  cases rx
  obtain ⟨u, rfl, ru⟩ := rv.one
  cases ru
  obtain ⟨z, its, n, r, hl, e⟩ := I.lstM hH
  obtain ⟨z2, its2, n2, r2, hl2, e2⟩ := I.lstM hB
  have hsz : its.toArray.size + its2.toArray.size ≤ sizeLine := by rw [List.size_toArray, List.size_toArray]; omega
  have hlong : ¬ (!its.toArray.isEmpty && Builtin.List.listTooLong (its.toArray.size + its2.toArray.size)) = true := by
    rw [Vt hsz, Bool.and_false]
    exact Bool.false_ne_true
  refine call_meets F.slot_list_extend ⟨_, e, rfl⟩ F.entry_list_extend (F.args_list_extend_2 _ _)
    (AutoSeq1.list_extend_list_list_0 l its.toArray n b its2.toArray n2 hlong (by rw [List.size_toArray]; omega) (by omega)) ⟨e, e2, ?_⟩
  refine ⟨.non, _, I.lset (its' := its ++ its2) hH e (by simp) (r.append r2) ?_, rfl, q⟩
  rw [List.length_append]
  omega
noncomputable def AdB : R2 := fun x y H Q => ∃ l b xs zs, x = .ref l ∧ y = .ref b ∧ H l = some (.lst xs) ∧ H b = some (.lst zs) ∧ xs.length + zs.length ≤ sizeLine ∧ ∀ p, H p = none → Q (.ref p) (upd H p (.lst (xs ++ zs)))
theorem AaG : OpR X (binaryOp .Add) AdB := by
  intro pins s σ H x y v u Q I rx ry h
  obtain ⟨l, b, xs, zs, rfl, rfl, hH, hB, hz, q⟩ := h
  cases rx
  cases ry
  obtain ⟨z, its, n, r, hl, e⟩ := I.lstM hH
  obtain ⟨z2, its2, n2, r2, hl2, e2⟩ := I.lstM hB
  refine PySem.P.add_list e e2 ?_ (by rw [List.size_toArray, List.size_toArray]; omega)
  have ea : its.toArray ++ its2.toArray = (its ++ its2).toArray := by simp
  rw [ea]
  exact ⟨.ref _, _, I.lnew (t' := s.toks) (r.append r2) (by rw [List.length_append]; omega), rfl, q _ I.fresh⟩
end
section
variable {prog : Program} {w : World} {A : Around} {E : Value → Shared → Prop} {s : Shared}
set_option maxRecDepth 100000 in
end
section
variable {X : Cx}
end
end L2
namespace Att
open PySem PySem.W PySem.Calls PyProof.Rows
theorem Ik {P : Params} {h : Heap} : ∀ (ns : List Int) (vs : List Value), WellAll P h vs (ns.map WData.int) → IntsAre vs ns := by
  intro ns
  induction ns with
  | nil =>
    intro vs w
    rw [List.map_nil] at w
    cases w
    exact .nil
  | cons n ns ih =>
    intro vs w
    rw [List.map_cons] at w
    cases w with
    | cons a b =>
      cases a
      exact .cons _ _ (ih _ b)
theorem RK {l : OpenLaw} {n : Nat} (hn : l.most = some n) {P : Params} {h : Heap} {args : List WData} {vals : List Value}
    (hpre : l.row.toRowW.claim.pre args = true) (hwl : WellAll P h vals args) :
    ∃ a vs ns, vals = [Value.ref a] ∧ args = [WData.list (ns.map WData.int)] ∧ h.get? a = some { cls := .type "list", data := .seq vs.toArray } ∧ IntsAre vs ns ∧ ns.length ≤ n := by
  have hsh : WShape.hasAll [] args [.list .int] = true := (pre_splitW hpre).1
  have hc : l.pre.holds [] { args := args } = true := (pre_splitW hpre).2
  obtain ⟨d, r, rfl, h1, h2⟩ := hasAllW_cons hsh
  obtain rfl := hasAllW_nil h2
  obtain ⟨xs, rfl, h3⟩ := hasW_list h1
  obtain ⟨ns, rfl⟩ := items_int h3
  have hlen : ns.length ≤ n := by
    unfold OpenLaw.pre at hc
    have h4 : (WTm.not (.lt (.lit (.int (n : Int))) (.len (.arg 0)))).holds [] { args := [.list (ns.map .int)] } = true := by
      have h4 := (holds_andW hc).1
      rw [hn] at h4
      exact h4
    have h5 := condW_of h4 (w_not (w_lt w_lit (w_len_list (w_arg rfl))))
    rw [List.length_map] at h5
    refine Nat.le_of_not_lt fun q => ?_
    have q' : (n : Int) < ((ns.length : Nat) : Int) := by omega
    first
      | (rw [decide_eq_true q'] at h5; exact absurd h5 (by decide))
      | (simp at h5; omega)
  cases hwl with
  | cons w1 w2 =>
    cases w2
    cases w1 with
    | list ho hall => exact ⟨_, _, ns, rfl, rfl, ho, Ik ns _ hall, hlen⟩
theorem RZ (l : OpenLaw) (args : List WData) : l.row.toRowW.claim.post args (.bool true) args = true :=
  postW_of (r := l.row.toRowW) (X := (true == true))
    (show WShape.has [] (.bool true) .bool = true by first | rfl | decide | simp [WShape.has, WShape.arms, WShape.armsAll])
    (show (WTm.eq .res (.lit (.bool true))).value [] { args := args, res := some (.bool true), after := args } = some (.bool (true == true)) from w_eq_bool (w_res rfl) w_lit) rfl
theorem Ng {l : OpenLaw} {n : Nat} {q : Program} {loose : List Str} {XP : (Str → Option Value) → Heap → Prop} {YP : World → Heap → Prop} {d : DefRec}
    (hn : l.most = some n) (hdf : d.params.defaults = [])
    (call : ∀ (w : World) (s₀ s₁ : Shared) (mg mb : Str → Option Value) (fa : Addr) (o : Obj) (pm cd doc : Value) (a : Addr) (vs : List Value) (ns : List Int),
      Ground q loose [] XP w s₀ mg mb s₁.heap → YP w s₁.heap →
      s₁.heap.get? fa = some o → o.data = .func (docDef d.name d.params d.body d.scope pm cd doc) → s₁.heap.CodeRec cd d.name → mg d.name = some (.ref fa) →
      s₁.heap.get? a = some { cls := .type "list", data := .seq vs.toArray } → IntsAre vs ns → ns.length ≤ n → s₁.gens = #[] →
      codeAny (model l.prog w) callerA (.call (.ref fa) ⟨[.ref a], []⟩) (fun r s' => r = .ok (.ret (.bool true)) ∧ OldK s₁.heap s'.heap ∧ s'.os = s₁.os ∧ AllBare s'.gens) s₁) :
    WalkO q loose XP YP l.row.toRowW d [] (fun f vs => PySem.call f vs) := by
  intro w s₀ s₁ mg mb G Y fa o pm cd doc dV kV ho hd hcd hD hmg hg args vals as hpre hlay hrd hwl hlo
  obtain rfl : dV = .none := Dflts.none hD hdf
  obtain rfl : kV = .none := Dflts.noKw hD
  obtain ⟨a, vs, ns, rfl, rfl, hobj, hints, hlen⟩ := RK hn hpre hwl
  refine enter_call (codeAny_mono (call w s₀ s₁ mg mb fa o pm cd doc a vs ns G Y ho (fd_plain hd) hcd hmg hobj hints hlen hg) fun r s' hq => ?_)
  obtain ⟨rfl, h2, h3, h4⟩ := hq
  exact ⟨.inl ⟨.bool true, .bool true, [], rfl, fun _ => rfl, .bool true, RZ l _, fun _ => ⟨List.Pairwise.nil, fun _ hm => (nomatch hm)⟩⟩, h2, h3, h4⟩
section
variable {prog : Program} {w : World} {A : Around} {E : Value → Shared → Prop} {s : Shared} {K : Frag}
noncomputable def ledger (h : Heap) (L d : Addr) : List (Addr × Obj) := (List.range h.objs.size).filterMap fun a => if a = L ∨ a = d then none else (h.get? a).map fun o => (a, o)
end
end Att
namespace L2
open PySem PySem.Spec PyProof.Rows
theorem J8 : ∀ {vs : List Value} {ns : List Int}, IntsAre vs ns → Vals (ns.map V.int) vs
  | _, _, .nil => .nil
  | _, _, .cons n t h => .cons ⟨t, rfl⟩ (J8 h)
noncomputable def Only (H : Hp) : Prop := ∀ b, H b = none ∨ ∃ o xs, H b = some (.frz o (.lst xs))
theorem VH {P : Program} {w : World} {K : PySem.W.Frag} {mg mb : Str → Option Value} {CX : CXT} {k : Nat} {fa a : Addr} {fd : FuncData} {x : Str} {sp : Sp} {s₁ : Shared} {vs : List Value} {ns : List Int}
    (KX : K.In s₁.heap) (hns : s₁.heap.Ns mainGlobals mg) (hb : s₁.heap.Ns builtinsNs mb) (hbb : ∀ x : Str, x ≠ "__name__" → mb x = bootBuiltins x) (hlim : s₁.heap.NoLimit) (hg : s₁.gens = #[])
    (ha : s₁.heap.get? a = some { cls := .type "list", data := .seq vs.toArray }) (hi : IntsAre vs ns) (hl : ns.length ≤ sizeLine) (hr : Es k callerA)
    (F : ∀ base : Heap, K.In base → base.Ns mainGlobals mg → Ii P w K mg base CX k fa fd [x] sp) (hbind : ∀ (s : Shared) (u : Value), BindsTo s fd ⟨[u], []⟩ [(x, u)])
    (hsp : ∀ H : Hp, Only H → SqL K H a (ns.map V.int) → sp [.ref a] H (fun v _ => v = .bl true) fun _ _ _ => False)
    (hCX : ∀ H e s', CX [] H s₁ (fun _ _ _ => False) e s' → False) :
    codeAny (model P w) callerA (.call (.ref fa) ⟨[.ref a], []⟩) (fun r s' => r = .ok (.ret (.bool true)) ∧ OldK s₁.heap s'.heap ∧ s'.os = s₁.os ∧ AllBare s'.gens) s₁ := by
  have rv := J8 hi
  have lenV := hi.length
  have core : ∀ H : Hp, Only H → SqL K H a (ns.map V.int) → HOk P w H s₁.heap → (∀ b, H b ≠ none → b = a) → (H a ≠ none → K.lookup a = none) →
      codeAny (model P w) callerA (.call (.ref fa) ⟨[.ref a], []⟩) (fun r s' => r = .ok (.ret (.bool true)) ∧ OldK s₁.heap s'.heap ∧ s'.os = s₁.os ∧ AllBare s'.gens) s₁ := by
    intro H hO hS hok hA hK
    have base_of : ∀ {b : Addr} {o : Obj}, s₁.heap.get? b = some o → H b = none → (Ld s₁.heap H).get? b = some o := fun e n => VJ e n
    have noA : ∀ {b : Addr} {o : Obj} {es : Array DictEntry} {ep : Nat}, s₁.heap.get? b = some o → o.data = .dict es ep → H b = none := fun {b o es ep} e d => by
      cases q : H b with
      | none => rfl
      | some u =>
        have e' : b = a := hA b (by rw [q]; simp)
        subst e'
        rw [ha] at e; cases e
        have d' : Data.seq vs.toArray _ = Data.dict es ep := d
        cases d'
    have nsK : ∀ {b : Addr} {m : Str → Option Value}, s₁.heap.Ns b m → (Ld s₁.heap H).Ns b m := fun {b m} ⟨o, es, ep, e, d, r⟩ => ⟨o, es, ep, base_of e (noA e d), d, r⟩
    have hKb : K.In (Ld s₁.heap H) := fun b o e => base_of (KX b o e) (by
      cases q : H b with
      | none => rfl
      | some u =>
        have e' : b = a := hA b (by rw [q]; simp)
        subst e'
        rw [hK (by rw [q]; simp)] at e; cases e)
    have hM : Mod K mg (Ld s₁.heap H) := ⟨hKb, nsK hns, ⟨mb, nsK hb, hbb⟩, let ⟨mc, h1, h2⟩ := hlim; ⟨mc, nsK h1, h2⟩⟩
    have e0 : Xu P w K mg (Ld s₁.heap H) callerA [] s₁ H := ⟨rfl, hM, fun b o e => XQ e, Nat.le_of_eq (Rv _ _), trivial, fun b hb => absurd (show b ∈ ([] : List Addr) from hb) (by simp), hok, .of_eq hg⟩
    refine codeAny_mono ((F _ hKb (nsK hns)).run callerA [] s₁ H ⟨[.ref a], []⟩ [.ref a] [.ref a] _ _ hr e0 (hbind s₁ (.ref a)) (.cons rfl .nil) (hsp H hO hS)) fun r s' h => ?_
    cases r with
    | error e => exact (hCX H e s' h).elim
    | ok fl =>
      cases fl with
      | next => exact False.elim h
      | brk => exact False.elim h
      | cont => exact False.elim h
      | ret u =>
        obtain ⟨v, H', os, bare, un, hok', r', q⟩ := h
        have q' : v = .bl true := q
        subst q'
        obtain rfl : u = Value.bool true := r'
        refine ⟨rfl, OldK.of_keep fun b o e => ?_, os, bare⟩
        cases q : H b with
        | none => exact un.keep b o e q (by intro z; exact absurd (show b ∈ ([] : List Addr) from z) (by simp)) (by simp)
        | some u =>
          rcases hO b with z | ⟨ob, xs, z⟩
          · rw [q] at z; cases z
          · have z2 := un.frzs b ob _ z
            obtain ⟨e1, _⟩ := hok b _ z
            obtain ⟨e2, _⟩ := hok' b _ z2
            rw [e] at e1; cases e1
            exact e2
  cases hk : K.lookup a with
  | some o =>
    have e := KX a o hk
    rw [ha] at e
    cases e
    refine core (fun _ => none) (fun _ => .inl rfl) (.inr ⟨_, vs.toArray, _, hk, rfl, rfl, rfl, by rw [List.size_toArray, lenV]; exact hl, by simpa using rv⟩) (fun b u z => by have z' : (none : Option HO) = some u := z; cases z') (fun b z => absurd rfl z) fun z => absurd rfl z
  | none =>
    refine core (fun b => if b = a then some (.frz { cls := .type "list", data := .seq vs.toArray } (.lst (ns.map V.int))) else none) (fun b => ?_) (.inl (.inr ⟨{ cls := .type "list", data := .seq vs.toArray }, if_pos rfl⟩)) (fun b u z => ?_) (fun b z => ?_) fun _ => hk
    · by_cases hb : b = a
      · exact .inr ⟨_, _, if_pos hb⟩
      · exact .inl (if_neg hb)
    · by_cases hb : b = a
      · have z' := (if_pos hb).symm.trans z
        cases z'
        subst hb
        exact ⟨ha, by rw [List.length_map]; exact hl, vs, _, rv, ha⟩
      · have z' := (if_neg hb).symm.trans z
        cases z'
    · by_cases hb : b = a
      · exact hb
      · exact absurd (if_neg hb) z
end L2
namespace L2
open PySem PySem.Spec PyProof.Rows
noncomputable abbrev KOf {K : PySem.W.Frag} {h : Heap} (_ : K.In h) : PySem.W.Frag := K
theorem Wg {l : PySem.W.OpenLaw} {n k : Nat} {q : Program} {loose : List Str} {XP : (Str → Option Value) → Heap → Prop} {YP : World → Heap → Prop} {d : DefRec} {K : Params → PySem.W.Frag} {CX : World → CXT} {sp : World → Sp} {x : Str}
    (hn : l.most = some n) (hn2 : n ≤ sizeLine) (hdf : d.params.defaults = []) (hr : Es k callerA)
    (hY : ∀ (w : World) (h : Heap), YP w h → (K w.params).In h)
    (F : ∀ (w : World) (mg : Str → Option Value) (fa : Addr) (h : Heap), (K w.params).In h → h.Ns mainGlobals mg → mg d.name = some (.ref fa) →
      ∃ fd : FuncData, (∀ (s : Shared) (u : Value), BindsTo s fd ⟨[u], []⟩ [(x, u)]) ∧
        ∀ base : Heap, (K w.params).In base → base.Ns mainGlobals mg → Ii l.prog w (K w.params) mg base (CX w) k fa fd [x] (sp w))
    (hsp : ∀ (w : World) (H : Hp) (a : Addr) (ns : List Int), ns.length ≤ n → Only H → SqL (K w.params) H a (ns.map V.int) → sp w [.ref a] H (fun v _ => v = .bl true) fun _ _ _ => False)
    (hCX : ∀ (w : World) (H : Hp) (s : Shared) (e : Value) (s' : Shared), CX w [] H s (fun _ _ _ => False) e s' → False) :
    PySem.W.WalkO q loose XP YP l.row.toRowW d [] (fun f vs => PySem.call f vs) := by
  refine Att.Ng hn hdf fun w s₀ s₁ mg mb fa o pm cd doc a vs ns G Y ho hd hcd hmg hobj hints hlen hg => ?_
  have KX := hY w _ Y
  obtain ⟨fd, hb, hF⟩ := F w mg fa _ KX G.T.g hmg
  exact VH KX G.T.g G.T.b G.T.builtins G.T.nolimit hg hobj hints (Nat.le_trans hlen hn2) hr hF hb (fun H hO hS => hsp w H a ns hlen hO hS) fun H e s' => hCX w H s₁ e s'
end L2
namespace L2
open PySem PySem.Spec PyProof.Rows
noncomputable def DY (s : Stmt) : Arguments := match s with
  | .FunctionDef _ a _ _ _ _ _ _ _ _ => a
  | _ => { posonlyargs := [], args := [], vararg := none, kwonlyargs := [], kw_defaults := [], kwarg := none, defaults := [] }
noncomputable def Di (s : Stmt) : List Stmt := match s with
  | .FunctionDef _ _ b _ _ _ _ _ _ _ => b
  | _ => []
noncomputable def Ah (s : Stmt) : Scope := match s with
  | .FunctionDef _ _ _ _ _ _ sc _ _ _ => sc
  | _ => { kind := .function, names := [], isGenerator := false, isCoroutine := false }
noncomputable abbrev CX0 : CXT := fun _ _ _ _ _ _ => False
noncomputable abbrev E0 : XK := fun _ _ _ => False
theorem Yk {X : Cx} : Passes CX0 X E0 := fun _ _ _ _ _ _ _ h => h.elim
structure Fun (K : PySem.W.Frag) (x qual : Str) (st : Stmt) (f : Addr) (fd : FuncData) : Prop where
  ex : ∃ (oc : Value) (od : Option Addr) (kV doc pm : Value) (an : Option Addr) (cdv ct : Value) (osl : Array (Option Value)),
    fd = PySem.W.fnOf x qual (DY st) (Di st) (Ah st) .none kV doc pm an cdv ct ∧ K.lookup f = some ⟨oc, od, .func fd, osl⟩ ∧ PySem.W.codeIn K cdv qual = true
  kp : PySem.W.keepIn K (.ref f) = true
section
variable {P : Program} {w : World} {K : PySem.W.Frag} {mg : Str → Option Value} {base : Heap}
theorem Fun.ok {x qual : Str} {st : Stmt} {f : Addr} {fd : FuncData} {N ps : List Str} {k : Nat} {sp : Sp} (F : Fun K x qual st f fd) (S : Aq N ps (Ah st)) (len : ∀ vs H Q E, sp vs H Q E → vs.length = ps.length)
    (hbody : ∀ (cdv : Value) (A : Around) (outer : List Env) (s : Shared) (H : Hp) (vs : List V) (Q : VK) (E : XK), Es k (A.deeper (envOfC qual (Ah st) s.heap.objs.size f cdv)) → sp vs H Q E →
      ∃ t, PSs (Pj CX0 P w K mg base N qual (Ah st) f cdv A outer s H E).nox (Di st) t ∧ t { nx := fun _ H' => Q .non H', rt := Q } (start N vs) H) : Ii P w K mg base CX0 (k + 1) f fd ps sp := by
  obtain ⟨oc, od, kV, doc, pm, an, cdv, ct, osl, rfl, lk, hcd⟩ := F.ex
  refine Ab1 lk hcd S len fun A outer s H vs Q E hr hsp => ?_
  obtain ⟨t, h, q⟩ := hbody cdv A outer s H vs Q E hr hsp
  exact ⟨t, h.nox, q⟩
theorem Fun.binds {x qual : Str} {st : Stmt} {f : Addr} {fd : FuncData} {ps : List Str} (F : Fun K x qual st f fd)
    (h : ∀ (kV doc pm : Value) (an : Option Addr) (cdv ct : Value) (us : List Value), us.length = ps.length → bindArgs (PySem.W.fnOf x qual (DY st) (Di st) (Ah st) .none kV doc pm an cdv ct) ⟨us, []⟩ = pure (ps.zip us)) : Binds K fd ps [] := by
  obtain ⟨oc, od, kV, doc, pm, an, cdv, ct, osl, rfl, lk, hcd⟩ := F.ex
  exact .all (h kV doc pm an cdv ct)
theorem Vi {x qual : Str} {st : Stmt} {f : Addr} {oc : Value} {od an : Option Addr} {osl : Array (Option Value)} {kV doc pm cdv ct : Value} (l : K.lookup f = some ⟨oc, od, .func (PySem.W.fnOf x qual (DY st) (Di st) (Ah st) .none kV doc pm an cdv ct), osl⟩)
    (c : PySem.W.codeIn K cdv qual = true) (k : PySem.W.keepIn K (.ref f) = true) : Fun K x qual st f (PySem.W.fnOf x qual (DY st) (Di st) (Ah st) .none kV doc pm an cdv ct) := ⟨⟨oc, od, kV, doc, pm, an, cdv, ct, osl, rfl, l, c⟩, k⟩
end
theorem Rw {n : Nat} (h : n ≤ 1000) : n < sizeLine := Nat.lt_of_le_of_lt h (by decide)
section
variable {X : Cx}
end
theorem Ju {c A B : Prop} [Decidable c] (h1 : c → A) (h2 : ¬ c → B) : if c then A else B := by
  by_cases h : c
  · rw [if_pos h]
    exact h1 h
  · rw [if_neg h]
    exact h2 h
noncomputable def Same (H H' : Hp) : Prop := ∀ b o, H b = some o → H' b = some o
theorem Same.refl (H : Hp) : Same H H := fun _ _ h => h
theorem Same.trans {H H1 H2 : Hp} (a : Same H H1) (b : Same H1 H2) : Same H H2 := fun c o h => b c o (a c o h)
theorem Same.seq {K : PySem.W.Frag} {H H' : Hp} {a : Addr} {xs : List V} (e : Same H H') (h : SqL K H a xs) : SqL K H' a xs := by
  rcases h with (h | ⟨o, h⟩) | h
  · exact .inl (.inl (e _ _ h))
  · exact .inl (.inr ⟨o, e _ _ h⟩)
  · exact .inr h
end L2
namespace L2
open PySem PySem.Spec PyProof.Rows
noncomputable def exO (a C dx : Addr) (h : Heap) : Prop := ∃ o vs, h.get? a = some o ∧ o.cls = .ref C ∧ o.dict = (if dx = a then none else some dx) ∧ o.data = .fields vs
section
variable {M : Model} {A : Around} {E : Value → Shared → Prop} {s : Shared} {base : Heap} {env : Env} {outer : List Env} {L e : Addr}
end
section
variable {P : Program} {w : World} {H : Hp} {h h' : Heap} {fs : List Addr} {e : Addr} {oe : Obj} {vs : Array Value} {old : Option Addr} {φ : Heap → Prop}
end
end L2
namespace L2
open PySem PySem.Spec PyProof.Rows
section
variable {X : Cx} {pins : List (Addr × Obj)} {σ : St} {H : Hp} {s : Shared} {a : Addr} {E : Value → Shared → Prop} {Q : Unit → Shared → Prop}
end
section
variable {X : Cx} {k : Nat} {f : Addr} {fd : FuncData} {ps : List Str} {sp : Sp} {x : Str} {p pos : Pos} {e : Expr} {es : List Expr} {t : TA}
end
end L2
namespace L2
open PySem PySem.Spec PyProof.Rows
noncomputable abbrev bmV : List Value := [.type "ValueError", .type "Exception", .type "BaseException", .type "object"]
noncomputable def AdT (es : Array DictEntry) : Bool := es.toList.all fun e => match e.key with | .str _ _ => true | _ => false
structure XC (K : PySem.W.Frag) (C F : Addr) : Prop where
  obj : ∃ nm q N bs sn sub ab col dd k0 k1 k2 k3 k5, K.lookup C = some (excClassObj nm q C N bs (.ref F :: bmV) true sn sub ab col dd k0 k1 k2 k3 k5 "ValueError.__new__")
  tail : ∃ c0 dd cd sl oc od es ep sl', K.lookup F = some ⟨c0, dd, .cls cd, sl⟩ ∧ K.lookup cd.ns = some ⟨oc, od, .dict es ep, sl'⟩ ∧ AdT es = true ∧ nsFind es "__init__" = none
  sa : PySem.W.findIn K (.ref C) "__setattr__" = some (some (.builtin "object.__setattr__"))
  ga : PySem.W.findIn K (.ref C) "__getattribute__" = some (some (.builtin "BaseException.__getattribute__"))
  gh : PySem.W.findIn K (.ref C) "__getattr__" = some none
  cl : PySem.W.findIn K (.ref C) "__class__" = some (some (.builtin "object.__class__"))
  gg : PySem.W.specialIn K (.builtin "object.__class__") "__get__" = some (some (.builtin "getset_descriptor.__get__"))
  gt : PySem.W.takesIn K (.builtin "object.__class__") = some true
section
variable {prog : Program} {w : World} {A : Around} {E : Value → Shared → Prop} {s : Shared} {K : PySem.W.Frag} {C U fI : Addr} {rest : List Value}
end
end L2
namespace L2
open PySem PySem.Spec PyProof.Rows PySem.W PySem.Builtin PySem.Builtin.ObjectAttr
section
variable {prog : Program} {w : World} {A : Around} {E : Value → Shared → Prop} {s : Shared} {K : PySem.W.Frag} {C U x : Addr} {name : Str} {v : Value}
end
end L2
namespace L2
open PySem PySem.Spec PyProof.Rows PySem.W PySem.Builtin PySem.Builtin.ObjectAttr
section
variable {prog : Program} {w : World} {A : Around} {E : Value → Shared → Prop} {s : Shared} {K : PySem.W.Frag} {C U x : Addr} {name : Str} {v : Value} {ox : Obj} {od : Option Obj}
end
end L2
namespace L2
open PySem PySem.Spec PyProof.Rows PySem.SeqAt
inductive Dt where
  | non | bl (b : Bool) | int (i : Int) | str (x : Str) | tup (ds : List Dt) | lst (ds : List Dt) | fn (a : Addr)
    | exc (c : Str) (ns : List Str) (ds : List Dt)
    | obj (c : Str) (ns : List Str) (ds : List Dt)
noncomputable def LsD (K : PySem.W.Frag) (H : Hp) (a : Addr) (xs : List V) : Prop := H a = some (.lst xs) ∨ (SqL K H a xs ∧ ∀ x ∈ xs, ∃ i : Int, x = .int i)
theorem LsD.sq {K : PySem.W.Frag} {H : Hp} {a : Addr} {xs : List V} (h : LsD K H a xs) : SqL K H a xs := by
  rcases h with h | ⟨h, _⟩
  · exact SqL.of h
  · exact h
theorem LsD.mono {K : PySem.W.Frag} {H H' : Hp} {a : Addr} {xs : List V} (s : Same H H') (h : LsD K H a xs) : LsD K H' a xs := by
  rcases h with h | ⟨h, q⟩
  · exact .inl (s _ _ h)
  · exact .inr ⟨s.seq h, q⟩
mutual
noncomputable def Rp (K : PySem.W.Frag) (H : Hp) : Dt → V → Prop
  | .non, v => v = .non
  | .bl b, v => v = .bl b
  | .int i, v => v = .int i
  | .str x, v => v = .str x
  | .fn a, v => v = .ref a
  | .exc c ns ds, v => ∃ a C U dx vs, v = .ref a ∧ PySem.W.nsIn K mainGlobals c = some (some (.ref C)) ∧ XC K C U ∧ H a = some (.ext (exO a C dx)) ∧ (H dx = some (.xd (ns.zip vs)) ∨ dx = a ∧ ns = []) ∧ ns.length = ds.length ∧ RpL K H ds vs
  | .obj c ns ds, v => ∃ a C dx vs, v = .ref a ∧ PySem.W.nsIn K mainGlobals c = some (some (.ref C)) ∧ Cls K C ∧ H a = some (.ins C dx (ns.zip vs)) ∧ ns.length = ds.length ∧ RpL K H ds vs
  | .tup ds, v => ∃ a xs, v = .ref a ∧ SqT K H a xs ∧ RpL K H ds xs
  | .lst ds, v => ∃ a xs, v = .ref a ∧ LsD K H a xs ∧ RpL K H ds xs
noncomputable def RpL (K : PySem.W.Frag) (H : Hp) : List Dt → List V → Prop
  | [], xs => xs = []
  | d :: ds, xs => ∃ v r, xs = v :: r ∧ Rp K H d v ∧ RpL K H ds r
end
theorem Same.seqT {K : PySem.W.Frag} {H H' : Hp} {a : Addr} {xs : List V} (e : Same H H') (h : SqT K H a xs) : SqT K H' a xs := by
  rcases h with (h | ⟨o, h⟩) | h
  · exact .inl (.inl (e _ _ h))
  · exact .inl (.inr ⟨o, e _ _ h⟩)
  · exact .inr h
mutual
theorem Rp.mono {K : PySem.W.Frag} {H H' : Hp} (s : Same H H') : ∀ {d : Dt} {v : V}, Rp K H d v → Rp K H' d v
  | .non, _, h => by unfold Rp at h ⊢; exact h
  | .bl _, _, h => by unfold Rp at h ⊢; exact h
  | .int _, _, h => by unfold Rp at h ⊢; exact h
  | .str _, _, h => by unfold Rp at h ⊢; exact h
  | .fn _, _, h => by unfold Rp at h ⊢; exact h
  | .exc _ _ _, _, h => by
    unfold Rp at h ⊢
    obtain ⟨a, C, U, dx, vs, e, q, x, h1, h2, l, r⟩ := h
    exact ⟨a, C, U, dx, vs, e, q, x, s _ _ h1, h2.imp (s _ _) id, l, RpL.mono s r⟩
  | .obj _ _ _, _, h => by
    unfold Rp at h ⊢
    obtain ⟨a, C, dx, vs, e, q, x, h1, l, r⟩ := h
    exact ⟨a, C, dx, vs, e, q, x, s _ _ h1, l, RpL.mono s r⟩
  | .tup ds, _, h => by
    unfold Rp at h ⊢
    obtain ⟨a, xs, e, q, r⟩ := h
    exact ⟨a, xs, e, s.seqT q, RpL.mono s r⟩
  | .lst ds, _, h => by
    unfold Rp at h ⊢
    obtain ⟨a, xs, e, q, r⟩ := h
    exact ⟨a, xs, e, q.mono s, RpL.mono s r⟩
theorem RpL.mono {K : PySem.W.Frag} {H H' : Hp} (s : Same H H') : ∀ {ds : List Dt} {vs : List V}, RpL K H ds vs → RpL K H' ds vs
  | [], _, h => by unfold RpL at h ⊢; exact h
  | d :: ds, _, h => by
    unfold RpL at h ⊢
    obtain ⟨v, r, e, q, p⟩ := h
    exact ⟨v, r, e, Rp.mono s q, RpL.mono s p⟩
end
section
variable {K : PySem.W.Frag} {H : Hp}
theorem K7 {v : V} : Rp K H .non v ↔ v = .non := by unfold Rp; exact Iff.rfl
theorem CG {b : Bool} {v : V} : Rp K H (.bl b) v ↔ v = .bl b := by unfold Rp; exact Iff.rfl
theorem Ax {i : Int} {v : V} : Rp K H (.int i) v ↔ v = .int i := by unfold Rp; exact Iff.rfl
theorem Mh {x : Str} {v : V} : Rp K H (.str x) v ↔ v = .str x := by unfold Rp; exact Iff.rfl
theorem Ci {ds : List Dt} {v : V} : Rp K H (.tup ds) v ↔ ∃ a xs, v = .ref a ∧ SqT K H a xs ∧ RpL K H ds xs := by rw [Rp]
theorem IW {ds : List Dt} {v : V} : Rp K H (.lst ds) v ↔ ∃ a xs, v = .ref a ∧ LsD K H a xs ∧ RpL K H ds xs := by rw [Rp]
theorem Gx {ds : List Dt} {v : V} (h : ∃ a xs, v = .ref a ∧ H a = some (.lst xs) ∧ RpL K H ds xs) : Rp K H (.lst ds) v := let ⟨a, xs, e, h1, h2⟩ := h; IW.mpr ⟨a, xs, e, .inl h1, h2⟩
theorem Dh {ds : List Dt} {v : V} (h : Rp K H (.lst ds) v) : ∃ a xs, v = .ref a ∧ SqL K H a xs ∧ RpL K H ds xs := let ⟨a, xs, e, h1, h2⟩ := IW.mp h; ⟨a, xs, e, h1.sq, h2⟩
theorem WX {ns : List Int} {a : Addr} (h : SqL K H a (ns.map V.int)) (r : RpL K H (ns.map Dt.int) (ns.map V.int)) : Rp K H (.lst (ns.map Dt.int)) (.ref a) := IW.mpr ⟨a, _, rfl, .inr ⟨h, fun x hx => by obtain ⟨i, _, rfl⟩ := List.mem_map.mp hx; exact ⟨i, rfl⟩⟩, r⟩
theorem Bl {vs : List V} : RpL K H [] vs ↔ vs = [] := by rw [RpL]
theorem Az {d : Dt} {ds : List Dt} {vs : List V} : RpL K H (d :: ds) vs ↔ ∃ v r, vs = v :: r ∧ Rp K H d v ∧ RpL K H ds r := by rw [RpL]
theorem RpL.nil : RpL K H [] [] := Bl.mpr rfl
theorem RpL.cons {d : Dt} {ds : List Dt} {v : V} {vs : List V} (h : Rp K H d v) (r : RpL K H ds vs) : RpL K H (d :: ds) (v :: vs) := Az.mpr ⟨v, vs, rfl, h, r⟩
theorem RpL.len : ∀ {ds : List Dt} {vs : List V}, RpL K H ds vs → vs.length = ds.length
  | [], _, h => by rw [Bl.mp h]; rfl
  | d :: ds, _, h => by
    obtain ⟨v, r, rfl, _, p⟩ := Az.mp h
    simp [RpL.len p]
theorem RpL.get : ∀ {ds : List Dt} {vs : List V} {i : Nat} {d : Dt}, RpL K H ds vs → ds[i]? = some d → ∃ v, vs[i]? = some v ∧ Rp K H d v
  | [], _, _, _, _, e => by simp at e
  | d :: ds, _, 0, _, h, e => by
    obtain ⟨v, r, rfl, q, p⟩ := Az.mp h
    simp at e; subst e
    exact ⟨v, rfl, q⟩
  | d :: ds, _, i + 1, _, h, e => by
    obtain ⟨v, r, rfl, q, p⟩ := Az.mp h
    obtain ⟨u, e1, e2⟩ := RpL.get (i := i) p (by simpa using e)
    exact ⟨u, by simpa using e1, e2⟩
theorem RpL.append : ∀ {ds es : List Dt} {vs ws : List V}, RpL K H ds vs → RpL K H es ws → RpL K H (ds ++ es) (vs ++ ws)
  | [], _, _, _, h, q => by rw [Bl.mp h]; exact q
  | d :: ds, _, _, _, h, q => by
    obtain ⟨v, r, rfl, a, p⟩ := Az.mp h
    exact .cons a (RpL.append p q)
theorem RpL.drop : ∀ {ds : List Dt} {vs : List V} (n : Nat), RpL K H ds vs → RpL K H (ds.drop n) (vs.drop n)
  | _, _, 0, h => by simpa using h
  | [], _, n + 1, h => by rw [Bl.mp h]; simpa using RpL.nil
  | d :: ds, _, n + 1, h => by
    obtain ⟨v, r, rfl, a, p⟩ := Az.mp h
    simpa using RpL.drop n p
theorem RpL.take : ∀ {ds : List Dt} {vs : List V} (n : Nat), RpL K H ds vs → RpL K H (ds.take n) (vs.take n)
  | _, _, 0, h => by simpa using RpL.nil
  | [], _, n + 1, h => by rw [Bl.mp h]; simpa using RpL.nil
  | d :: ds, _, n + 1, h => by
    obtain ⟨v, r, rfl, a, p⟩ := Az.mp h
    simpa using RpL.cons a (RpL.take n p)
theorem RpL.ints : ∀ (ns : List Int), RpL K H (ns.map Dt.int) (ns.map V.int)
  | [] => RpL.nil
  | _ :: ns => RpL.cons (Ax.mpr rfl) (RpL.ints ns)
end
noncomputable def mask (O : List Addr) (H : Hp) : Hp := fun a => if a ∈ O then none else H a
theorem CK {O : List Addr} {H : Hp} {a : Addr} (h : a ∈ O) : mask O H a = none := if_pos h
theorem Ay {O : List Addr} {H : Hp} {a : Addr} (h : a ∉ O) : mask O H a = H a := if_neg h
theorem BX {O : List Addr} {H : Hp} {a : Addr} {o : HO} (h : mask O H a = some o) : a ∉ O ∧ H a = some o := by
  by_cases q : a ∈ O
  · rw [CK q] at h; cases h
  · rw [Ay q] at h; exact ⟨q, h⟩
theorem Bb {O : List Addr} {H : Hp} : Same (mask O H) H := fun _ _ h => (BX h).2
theorem Same.mask {O : List Addr} {H H' : Hp} (s : Same H H') : Same (mask O H) (L2.mask O H') := fun a o h => by
  obtain ⟨q, e⟩ := BX h
  rw [Ay q]; exact s a o e
theorem Fg {O O' : List Addr} {H : Hp} (h : ∀ a ∈ O', a ∈ O) : Same (mask O H) (mask O' H) := fun a o e => by
  obtain ⟨q, e⟩ := BX e
  rw [Ay fun z => q (h a z)]; exact e
theorem Same.upd {H : Hp} {p : Addr} {o : HO} (h : H p = none) : Same H (L2.upd H p o) := fun a u e => by
  rw [Bd (CN e h)]; exact e
noncomputable def tabAt (a : Addr) (xs : List (List Key × Addr × Value)) (h : Heap) : Prop := (a == sysModules) = false ∧ ∃ (P : Program) (w : World) (o : Obj) (es : Array DictEntry) (ep : Nat), h.get? a = some o ∧ o.ExactDict ∧ o.data = .dict es ep ∧ es.toList = xs.map (entryOfKey (tupleKind (Cg P w))) ∧ (xs.map (·.1)).Nodup
noncomputable def Xj (K : PySem.W.Frag) (H : Hp) (ks : List (List Int)) (xs : List (List Key × Addr × Value)) : Prop := xs.map (·.1) = ks.map (·.map Sum.inl) ∧ ∀ x ∈ xs, SqT K H x.2.1 (x.1.map kV)
theorem Xj.mono {K : PySem.W.Frag} {H H' : Hp} {ks : List (List Int)} {xs : List (List Key × Addr × Value)} (s : Same H H') (h : Xj K H ks xs) : Xj K H' ks xs := ⟨h.1, fun x hx => s.seqT (h.2 x hx)⟩
inductive En where
  | is (d : Dt) | own (ds : List Dt) | tab (ks : List (List Int))
noncomputable abbrev Bj := List (Option En)
noncomputable abbrev DTE := Bj → (Dt → Prop) → Prop
noncomputable abbrev DTT := Bj → (Bool → Prop) → Prop
noncomputable abbrev DTA := Bj → (List Dt → Prop) → Prop
structure Dr where
  nx : Bj → Prop
  rt : Dt → Prop
  bk : Bj → Prop := fun _ => False
  ct : Bj → Prop := fun _ => False
noncomputable abbrev DTS := Dr → Bj → Prop
structure Rep (K : PySem.W.Frag) (B : Hp) (F O : List Addr) (H : Hp) (σ : St) (ρ : Bj) : Prop where
  len : σ.length = ρ.length
  base : Same B H
  fr : ∀ a ∈ O, B a = none
  th : ∀ a ∈ F ++ O, H a ≠ none
  is : ∀ (i : Nat) (d : Dt), ρ[i]? = some (some (.is d)) → ∃ v, σ[i]? = some (some v) ∧ Rp K (mask (F ++ O) H) d v
  own : ∀ (i : Nat) (ds : List Dt), ρ[i]? = some (some (.own ds)) → ∃ a xs, σ[i]? = some (some (.ref a)) ∧ a ∈ O ∧ a ∉ F ∧ H a = some (.lst xs) ∧ RpL K (mask (F ++ O) H) ds xs
  inj : ∀ (i j : Nat) (ds es : List Dt) (a : Addr), ρ[i]? = some (some (.own ds)) → ρ[j]? = some (some (.own es)) → σ[i]? = some (some (.ref a)) → σ[j]? = some (some (.ref a)) → i = j
  tab : ∀ (i : Nat) (ks : List (List Int)), ρ[i]? = some (some (.tab ks)) → ∃ a xs, σ[i]? = some (some (.ref a)) ∧ a ∈ O ∧ a ∉ F ∧ H a = some (.ext (tabAt a xs)) ∧ Xj K (mask (F ++ O) H) ks xs
  tinj : ∀ (i j : Nat) (ks ls : List (List Int)) (a : Addr), ρ[i]? = some (some (.tab ks)) → ρ[j]? = some (some (.tab ls)) → σ[i]? = some (some (.ref a)) → σ[j]? = some (some (.ref a)) → i = j
section
variable {K : PySem.W.Frag} {B : Hp} {F O : List Addr} {H H' : Hp} {σ : St} {ρ : Bj}
theorem Rep.same (r : Rep K B F O H σ ρ) (s : Same H H') : Rep K B F O H' σ ρ where
  len := r.len
  base := r.base.trans s
  fr := r.fr
  th := fun a h e => by
    have := r.th a h
    cases q : H a with
    | none => exact this q
    | some o => rw [s a o q] at e; cases e
  is := fun i d e => let ⟨v, h1, h2⟩ := r.is i d e; ⟨v, h1, h2.mono s.mask⟩
  own := fun i ds e => let ⟨a, xs, h1, h2, h3, h4, h5⟩ := r.own i ds e; ⟨a, xs, h1, h2, h3, s _ _ h4, h5.mono s.mask⟩
  inj := r.inj
  tab := fun i ks e => let ⟨a, xs, h1, h2, h3, h4, h5⟩ := r.tab i ks e; ⟨a, xs, h1, h2, h3, s _ _ h4, h5.mono s.mask⟩
  tinj := r.tinj
theorem Rep.below (r : Rep K B F O H σ ρ) : Same (mask F B) (mask (F ++ O) H) := fun a o e => by
  obtain ⟨q, e⟩ := BX e
  rw [Ay]
  · exact r.base a o e
  · intro z
    rcases List.mem_append.mp z with z | z
    · exact q z
    · rw [r.fr a z] at e; cases e
theorem Rep.set (r : Rep K B F O H σ ρ) (i : Nat) {d : Dt} {v : V} (h : Rp K (mask (F ++ O) H) d v) : Rep K B F O H (σ.set i (some v)) (ρ.set i (some (.is d))) := by
  have hl := r.len
  have back : ∀ (j : Nat) (ds : En), (∀ z, ds ≠ .is z) → (ρ.set i (some (.is d)))[j]? = some (some ds) → j ≠ i ∧ ρ[j]? = some (some ds) := fun j ds nz e => by
    by_cases hj : j = i
    · subst hj
      by_cases hk : j < ρ.length
      · rw [List.getElem?_set_self hk] at e; cases e; exact (nz d rfl).elim
      · rw [List.getElem?_eq_none (by simpa using hk)] at e; cases e
    · rw [List.getElem?_set_ne (Ne.symm hj)] at e; exact ⟨hj, e⟩
  refine ⟨by simpa using hl, r.base, r.fr, r.th, fun j e q => ?_, fun j ds q => ?_, fun j k ds es a h1 h2 h3 h4 => ?_, fun j ks q => ?_, fun j k ds es a h1 h2 h3 h4 => ?_⟩
  · by_cases hj : j = i
    · subst hj
      by_cases hk : j < ρ.length
      · rw [List.getElem?_set_self hk] at q
        cases q
        exact ⟨v, List.getElem?_set_self (by omega), h⟩
      · rw [List.getElem?_eq_none (by simpa using hk)] at q; cases q
    · rw [List.getElem?_set_ne (Ne.symm hj)] at q ⊢
      exact r.is j e q
  · obtain ⟨hj, q⟩ := back j _ (fun _ z => by cases z) q
    rw [List.getElem?_set_ne (Ne.symm hj)]
    exact r.own j ds q
  · obtain ⟨hj, q1⟩ := back j _ (fun _ z => by cases z) h1
    obtain ⟨hk, q2⟩ := back k _ (fun _ z => by cases z) h2
    rw [List.getElem?_set_ne (Ne.symm hj)] at h3
    rw [List.getElem?_set_ne (Ne.symm hk)] at h4
    exact r.inj j k ds es a q1 q2 h3 h4
  · obtain ⟨hj, q⟩ := back j _ (fun _ z => by cases z) q
    rw [List.getElem?_set_ne (Ne.symm hj)]
    exact r.tab j ks q
  · obtain ⟨hj, q1⟩ := back j _ (fun _ z => by cases z) h1
    obtain ⟨hk, q2⟩ := back k _ (fun _ z => by cases z) h2
    rw [List.getElem?_set_ne (Ne.symm hj)] at h3
    rw [List.getElem?_set_ne (Ne.symm hk)] at h4
    exact r.tinj j k ds es a q1 q2 h3 h4
end
noncomputable def lE (K : PySem.W.Frag) (t : DTE) : TE := fun σ H Q => ∃ B F O ρ, Rep K B F O H σ ρ ∧ t ρ fun d => ∀ v H', Same H H' → Rp K (mask (F ++ O) H') d v → Q v H'
noncomputable def lT (K : PySem.W.Frag) (t : DTT) : TT := fun σ H Q => ∃ B F O ρ, Rep K B F O H σ ρ ∧ t ρ fun b => ∀ H', Same H H' → Q b H'
noncomputable def lA (K : PySem.W.Frag) (t : DTA) : TA := fun σ H Q => ∃ B F O ρ, Rep K B F O H σ ρ ∧ t ρ fun ds => ∀ vs H', Same H H' → RpL K (mask (F ++ O) H') ds vs → Q vs H'
noncomputable def lD (K : PySem.W.Frag) (B : Hp) (F : List Addr) (D : Ends) : Dr where
  nx := fun ρ' => ∀ O' σ' H', Rep K B F O' H' σ' ρ' → D.nx σ' H'
  rt := fun d => ∀ v H', Same B H' → Rp K (mask F H') d v → D.rt v H'
  bk := fun ρ' => ∀ O' σ' H', Rep K B F O' H' σ' ρ' → D.bk σ' H'
  ct := fun ρ' => ∀ O' σ' H', Rep K B F O' H' σ' ρ' → D.ct σ' H'
noncomputable def lS (K : PySem.W.Frag) (t : DTS) : TS := fun D σ H => ∃ B F O ρ, Rep K B F O H σ ρ ∧ t (lD K B F D) ρ
structure Dr.le (D D' : Dr) : Prop where
  nx : ∀ ρ, D.nx ρ → D'.nx ρ
  rt : ∀ d, D.rt d → D'.rt d
  bk : ∀ ρ, D.bk ρ → D'.bk ρ
  ct : ∀ ρ, D.ct ρ → D'.ct ρ
structure DE (X : Cx) (e : Expr) (t : DTE) : Prop where
  mono : ∀ {ρ Q Q'}, (∀ d, Q d → Q' d) → t ρ Q → t ρ Q'
  pe : PE X e (lE X.K t)
structure DT (X : Cx) (e : Expr) (t : DTT) : Prop where
  mono : ∀ {ρ Q Q'}, (∀ d, Q d → Q' d) → t ρ Q → t ρ Q'
  pt : PT X e (lT X.K t)
structure DA (X : Cx) (es : List Expr) (t : DTA) : Prop where
  mono : ∀ {ρ Q Q'}, (∀ d, Q d → Q' d) → t ρ Q → t ρ Q'
  pa : PA X es (lA X.K t)
structure DS (X : Cx) (st : Stmt) (t : DTS) : Prop where
  mono : ∀ {ρ D D'}, Dr.le D D' → t D ρ → t D' ρ
  ps : PS X st (lS X.K t)
structure DSs (X : Cx) (st : List Stmt) (t : DTS) : Prop where
  mono : ∀ {ρ D D'}, Dr.le D D' → t D ρ → t D' ρ
  ps : PSs X st (lS X.K t)
theorem PE.imp {X : Cx} {e : Expr} {t t' : TE} (h : PE X e t) (i : ∀ σ H Q, t' σ H Q → t σ H Q) : PE X e t' := fun pins s σ H Q I q => h pins s σ H Q I (i _ _ _ q)
theorem PT.imp {X : Cx} {e : Expr} {t t' : TT} (h : PT X e t) (i : ∀ σ H Q, t' σ H Q → t σ H Q) : PT X e t' := fun pins s σ H Q I q => h pins s σ H Q I (i _ _ _ q)
theorem PA.imp {X : Cx} {e : List Expr} {t t' : TA} (h : PA X e t) (i : ∀ σ H Q, t' σ H Q → t σ H Q) : PA X e t' := fun pos pins s σ H Q I q => h pos pins s σ H Q I (i _ _ _ q)
theorem PS.imp {X : Cx} {e : Stmt} {t t' : TS} (h : PS X e t) (i : ∀ D σ H, t' D σ H → t D σ H) : PS X e t' := fun pins s σ H D I q => h pins s σ H D I (i _ _ _ q)
theorem PSs.imp {X : Cx} {e : List Stmt} {t t' : TS} (h : PSs X e t) (i : ∀ D σ H, t' D σ H → t D σ H) : PSs X e t' := fun pins s σ H D I q => h pins s σ H D I (i _ _ _ q)
section
variable {X : Cx} {a b c e : Expr} {es : List Expr} {ta tb tc te : DTE} {tA tB : DTT} {tl : DTA} {pos : Pos}
noncomputable def XJ (i : Nat) : DTE := fun ρ Q => match ρ[i]? with
  | some (some (.is d)) => Q d
  | _ => False
noncomputable def dC (d : Dt) : DTE := fun _ Q => Q d
theorem dv (i : Nat) {x : Str} {pos : Pos} (hN : X.N[i]? = some x := by rfl) (hv : Vis X.env.scope x := by first | exact Or.inl rfl | exact Or.inr (Or.inl rfl) | exact Or.inr (Or.inr rfl)) (hd : (x == ("__debug__" : Str)) = false := by decide)
    (hcd : (x == ("__classdict__" : Str)) = false := by decide) : DE X (.Name x pos) (XJ i) where
  mono := fun {ρ Q Q'} hq h => by
    unfold XJ at h ⊢
    split at h
    · exact hq _ h
    · exact h.elim
  pe := (Lr hN hv hd hcd).imp fun σ H Q ⟨B, F, O, ρ, r, h⟩ => by
    unfold XJ at h
    split at h
    · rename_i d e
      obtain ⟨v, h1, h2⟩ := r.is i d e
      exact ⟨v, h1, h v H (Same.refl H) h2⟩
    · exact h.elim
theorem Zh {v : V} {d : Dt} (h : PE X e (tC v)) (hr : ∀ K H, Rp K H d v) : DE X e (dC d) where
  mono := fun hq h => hq _ h
  pe := h.imp fun σ H Q ⟨B, F, O, ρ, r, h⟩ => h v H (Same.refl H) (hr _ _)
theorem Ab {i j pos} : DE X (.Constant (.int i) j pos) (dC (.int i)) := Zh Aab fun _ _ => Ax.mpr rfl
theorem Jj {i j pos} : DE X (.Constant (.bool i) j pos) (dC (.bl i)) := Zh AcH fun _ _ => CG.mpr rfl
theorem Jo {x j pos} : DE X (.Constant (.str x) j pos) (dC (.str x)) := Zh AaH fun _ _ => Mh.mpr rfl
theorem Rh {x : Str} {v : V} {u : Value} {d : Dt} {pos : Pos} (hg : Gl X x) (hm : X.mg x = some u) (r : RelV v u) (hr : ∀ H, Rp X.K H d v) (hd : (x == ("__debug__" : Str)) = false := by decide) : DE X (.Name x pos) (dC d) where
  mono := fun hq h => hq _ h
  pe := (Xx hg hm r hd).imp fun σ H Q ⟨B, F, O, ρ, _, h⟩ => h v H (Same.refl H) (hr _)
noncomputable abbrev D2 := Dt → Dt → (Dt → Prop) → Prop
structure Gn (K : PySem.W.Frag) (r : R2) (t : D2) : Prop where
  mono : ∀ {a b Q Q'}, (∀ d, Q d → Q' d) → t a b Q → t a b Q'
  ok : ∀ (O : List Addr) (H : Hp) (a b : Dt) (x y : V) (Q : VK), (∀ p ∈ O, H p ≠ none) → Rp K (mask O H) a x → Rp K (mask O H) b y →
    t a b (fun d => ∀ v H', Same H H' → Rp K (mask O H') d v → Q v H') → r x y H Q
noncomputable def dOp (t : D2) (ta tb : DTE) : DTE := fun ρ Q => ta ρ fun a => tb ρ fun b => t a b Q
theorem LK {K : PySem.W.Frag} {r : R2} {t : D2} (S : Gn K r t) {ta tb : DTE} (ma : ∀ {ρ Q Q'}, (∀ d, Q d → Q' d) → ta ρ Q → ta ρ Q') (mb : ∀ {ρ Q Q'}, (∀ d, Q d → Q' d) → tb ρ Q → tb ρ Q')
    (σ : St) (H : Hp) (Q : VK) (h : lE K (dOp t ta tb) σ H Q) : tOp r (lE K ta) (lE K tb) σ H Q := by
  obtain ⟨B, F, O, ρ, R, h⟩ := h
  refine ⟨B, F, O, ρ, R, ma (fun a h v H1 s1 r1 => ?_) h⟩
  refine ⟨B, F, O, ρ, R.same s1, mb (fun b h u H2 s2 r2 => ?_) h⟩
  exact S.ok _ H2 a b v u Q ((R.same s1).same s2).th (r1.mono s2.mask) r2 (S.mono (fun d q w H3 s3 r3 => q w H3 ((s1.trans s2).trans s3) r3) h)
theorem Gd {t : D2} (m : ∀ {a b Q Q'}, (∀ d, Q d → Q' d) → t a b Q → t a b Q') (ma : ∀ {ρ Q Q'}, (∀ d, Q d → Q' d) → ta ρ Q → ta ρ Q') (mb : ∀ {ρ Q Q'}, (∀ d, Q d → Q' d) → tb ρ Q → tb ρ Q') :
    ∀ {ρ Q Q'}, (∀ d, Q d → Q' d) → dOp t ta tb ρ Q → dOp t ta tb ρ Q' := fun hq h => ma (fun _ h => mb (fun _ h => m hq h) h) h
theorem Kc {op : Operator} {r : R2} {t : D2} (ho : OpR X (binaryOp op) r) (S : Gn X.K r t) (ha : DE X a ta) (hb : DE X b tb) : DE X (.BinOp a op b pos) (dOp t ta tb) where
  mono := Gd (t := t) (ta := ta) (tb := tb) S.mono ha.mono hb.mono
  pe := (Yg ho ha.pe hb.pe).imp (LK (ta := ta) (tb := tb) S ha.mono hb.mono)
theorem Qd {op : CmpOp} {r : R2} {t : D2} (ho : OpR X (compareOp op) r) (S : Gn X.K r t) (ha : DE X a ta) (hb : DE X b tb) (hm : behindInMarks op b = false) : DE X (.Compare a [op] [b] pos) (dOp t ta tb) where
  mono := Gd (t := t) (ta := ta) (tb := tb) S.mono ha.mono hb.mono
  pe := (Xa ho ha.pe hb.pe hm).imp (LK (ta := ta) (tb := tb) S ha.mono hb.mono)
theorem AbW {r : R2} {t : D2} (ho : IxR X r) (S : Gn X.K r t) (ha : DE X a ta) (hb : DE X b tb) (hs : Lp b) : DE X (.Subscript a b pos) (dOp t ta tb) where
  mono := Gd (t := t) (ta := ta) (tb := tb) S.mono ha.mono hb.mono
  pe := (Abb ho ha.pe hb.pe hs).imp (LK (ta := ta) (tb := tb) S ha.mono hb.mono)
noncomputable def dI (C : Int → Int → Prop) (g : Int → Int → Int) : D2 := fun a b Q => match a, b with
  | .int i, .int j => C i j ∧ Q (.int (g i j))
  | _, _ => False
noncomputable def dI0 (g : Int → Int → Int) : D2 := fun a b Q => match a, b with
  | .int i, .int j => Q (.int (g i j))
  | _, _ => False
noncomputable def dB0 (g : Int → Int → Bool) : D2 := fun a b Q => match a, b with
  | .int i, .int j => Q (.bl (g i j))
  | _, _ => False
theorem Qv {K : PySem.W.Frag} {C : Int → Int → Prop} {g : Int → Int → Int} : Gn K (rI C fun i j => .int (g i j)) (dI C g) where
  mono := fun {a b Q Q'} hq h => by
    unfold dI at h ⊢
    split at h
    · exact ⟨h.1, hq _ h.2⟩
    · exact h.elim
  ok := fun O H a b x y Q _ ra rb h => by
    unfold dI at h
    split at h
    · exact ⟨_, _, Ax.mp ra, Ax.mp rb, h.1, h.2 _ H (Same.refl H) (Ax.mpr rfl)⟩
    · exact h.elim
theorem SJ {K : PySem.W.Frag} {g : Int → Int → Int} : Gn K (rI0 fun i j => .int (g i j)) (dI0 g) where
  mono := fun {a b Q Q'} hq h => by
    unfold dI0 at h ⊢
    split at h
    · exact hq _ h
    · exact h.elim
  ok := fun O H a b x y Q _ ra rb h => by
    unfold dI0 at h
    split at h
    · exact ⟨_, _, Ax.mp ra, Ax.mp rb, h _ H (Same.refl H) (Ax.mpr rfl)⟩
    · exact h.elim
theorem Eh {K : PySem.W.Frag} {g : Int → Int → Bool} : Gn K (rI0 fun i j => .bl (g i j)) (dB0 g) where
  mono := fun {a b Q Q'} hq h => by
    unfold dB0 at h ⊢
    split at h
    · exact hq _ h
    · exact h.elim
  ok := fun O H a b x y Q _ ra rb h => by
    unfold dB0 at h
    split at h
    · exact ⟨_, _, Ax.mp ra, Ax.mp rb, h _ H (Same.refl H) (CG.mpr rfl)⟩
    · exact h.elim
theorem XM : OpR X (binaryOp .Mult) (rI IntMulOk fun i j => .int (i * j)) := opI fun _ _ _ _ _ _ _ hc q => mul_int q hc
noncomputable def CDv (_ j : Int) : Prop := j ≠ 0 ∧ j.natAbs < 2 ^ 9000
theorem log2_small {n : Nat} (h : n < 2 ^ 9000) : n.log2 < 9000 := by
  by_cases h0 : n = 0
  · subst h0; decide +kernel
  · exact (Nat.log2_lt h0).mpr h
theorem T8 : OpR X (binaryOp .FloorDiv) (rI CDv fun i j => .int (i.fdiv j)) := opI fun _ _ _ _ _ _ _ hc q => floordiv_int hc.1 q (.inl (PyProof.noPylong_of_log2 (log2_small hc.2)))
noncomputable def AbX : D2 := dI0 fun i j => i + j
noncomputable def AcQ : D2 := dI0 fun i j => i - j
noncomputable def Aa7 : D2 := dI IntMulOk fun i j => i * j
noncomputable def AcI : D2 := dI (fun _ j => j ≠ 0) fun i j => i.fmod j
noncomputable def Aca : D2 := dI CDv fun i j => i.fdiv j
noncomputable def AeB : D2 := dI Wn fun i j => i ^ j.toNat
noncomputable def Acr : D2 := dI Wn fun i j => i * 2 ^ j.toNat
noncomputable def AeN : D2 := dI (fun _ j => 0 ≤ j) fun i j => i / 2 ^ j.toNat
theorem Bm (ha : DE X a ta) (hb : DE X b tb) : DE X (.BinOp a .Add b pos) (dOp AbX ta tb) := Kc Y8 SJ ha hb
theorem Ec (ha : DE X a ta) (hb : DE X b tb) : DE X (.BinOp a .Sub b pos) (dOp AcQ ta tb) := Kc YZ SJ ha hb
theorem Ak (ha : DE X a ta) (hb : DE X b tb) : DE X (.BinOp a .Mult b pos) (dOp Aa7 ta tb) := Kc XM Qv ha hb
theorem Ek (ha : DE X a ta) (hb : DE X b tb) : DE X (.BinOp a .Mod b pos) (dOp AcI ta tb) := Kc Xo Qv ha hb
theorem Cm (ha : DE X a ta) (hb : DE X b tb) : DE X (.BinOp a .FloorDiv b pos) (dOp Aca ta tb) := Kc T8 Qv ha hb
theorem S6 (ha : DE X a ta) (hb : DE X b tb) : DE X (.BinOp a .LShift b pos) (dOp Acr ta tb) := Kc AaF Qv ha hb
noncomputable def dLt : D2 := dB0 fun i j => decide (i < j)
noncomputable def dLe : D2 := dB0 fun i j => decide (i ≤ j)
noncomputable def dGt : D2 := dB0 fun i j => decide (j < i)
noncomputable def dGe : D2 := dB0 fun i j => decide (j ≤ i)
theorem Acx (ha : DE X a ta) (hb : DE X b tb) : DE X (.Compare a [.Gt] [b] pos) (dOp dGt ta tb) := Qd Yn Eh ha hb (Gj _)
noncomputable def ixL : Int → List Dt → Option Dt
  | .ofNat n, ds => ds[n]?
  | .negSucc m, ds => if m < ds.length then ds[ds.length - 1 - m]? else none
noncomputable def ixD (i : Int) : Dt → Option Dt
  | .tup ds => ixL i ds
  | .lst ds => ixL i ds
  | _ => none
theorem Vq {i : Int} {ds : List Dt} {d : Dt} (h : ixL i ds = some d) : atI ds i = some d := by
  cases i with
  | ofNat n => exact Xd h
  | negSucc m =>
    have h' : (if m < ds.length then ds[ds.length - 1 - m]? else none) = some d := h
    by_cases hm : m < ds.length
    · rw [if_pos hm] at h'
      unfold atI ixN
      have h1 : ¬ (0 : Int) ≤ Int.negSucc m := by omega
      have h2 : -(ds.length : Int) ≤ Int.negSucc m := by omega
      have h3 : (Int.negSucc m + (ds.length : Int)).toNat = ds.length - 1 - m := by omega
      rw [if_neg h1, if_pos h2, Option.bind_some, h3]
      exact h'
    · rw [if_neg hm] at h'; cases h'
noncomputable def dIx : D2 := fun a b Q => match b with
  | .int i => match ixD i a with
    | some d => Q d
    | none => False
  | _ => False
theorem Vx {K : PySem.W.Frag} {H : Hp} {ds : List Dt} {xs : List V} {i : Int} {d : Dt} (r : RpL K H ds xs) (h : atI ds i = some d) : ∃ v, atI xs i = some v ∧ Rp K H d v := by
  unfold atI at h ⊢
  rw [r.len]
  cases e : ixN ds.length i with
  | none => rw [e] at h; cases h
  | some j =>
    rw [e] at h
    exact r.get h
theorem ZC {K : PySem.W.Frag} : Gn K (rIx K) dIx where
  mono := fun {a b Q Q'} hq h => by
    unfold dIx at h ⊢
    split at h
    · split at h
      · rename_i e; exact hq _ h
      · exact h.elim
    · exact h.elim
  ok := fun O H a b x y Q _ ra rb h => by
    unfold dIx at h
    split at h
    · split at h
      · rename_i i _ d e
        have eb := Ax.mp rb
        subst eb
        cases a with
        | tup ds =>
          obtain ⟨p, xs, rfl, hs, hl⟩ := Ci.mp ra
          obtain ⟨v, e1, e2⟩ := Vx hl (Vq e)
          exact .inr (.inl ⟨p, xs, i, v, rfl, rfl, Bb.seqT hs, e1, h v H (Same.refl H) e2⟩)
        | lst ds =>
          obtain ⟨p, xs, rfl, hs, hl⟩ := Dh ra
          obtain ⟨v, e1, e2⟩ := Vx hl (Vq e)
          exact .inl ⟨p, xs, i, v, rfl, rfl, Bb.seq hs, e1, h v H (Same.refl H) e2⟩
        | _ => cases e
      · exact h.elim
    · exact h.elim
theorem Ac (ha : DE X a ta) (hb : DE X b tb) (hs : Lp b := by exact fun _ _ => rfl) : DE X (.Subscript a b pos) (dOp dIx ta tb) := AbW Ze ZC ha hb hs
noncomputable def VP : Dt → (Dt → Prop) → Prop := fun a Q => match a with
  | .int i => Q (.int (-i))
  | _ => False
noncomputable def dUn (t : Dt → (Dt → Prop) → Prop) (ta : DTE) : DTE := fun ρ Q => ta ρ fun a => t a Q
theorem Qc (ha : DE X a ta) : DE X (.UnaryOp .USub a pos) (dUn VP ta) where
  mono := fun hq h => ha.mono (fun d h => by
    unfold VP at h ⊢
    split at h
    · exact hq _ h
    · exact h.elim) h
  pe := (Ac5 Y0 ha.pe).imp fun σ H Q ⟨B, F, O, ρ, R, h⟩ => ⟨B, F, O, ρ, R, ha.mono (fun d h v H1 s1 r1 => by
    unfold VP at h
    split at h
    · exact ⟨_, Ax.mp r1, h _ H1 s1 (Ax.mpr rfl)⟩
    · exact h.elim) h⟩
noncomputable def AbS (ta : DTE) : DTE := fun ρ Q => ta ρ fun a => match a with
  | .bl k => Q (.bl (!k))
  | _ => False
noncomputable def Abu (ta tb : DTE) : DTE := fun ρ Q => ta ρ fun a => match a with
  | .bl k => if k = true then tb ρ Q else Q (.bl false)
  | _ => False
noncomputable def dOr (ta tb : DTE) : DTE := fun ρ Q => ta ρ fun a => match a with
  | .bl k => if k = true then Q (.bl true) else tb ρ Q
  | _ => False
theorem Zw (ha : DE X a ta) : DE X (.UnaryOp .Not a pos) (AbS ta) where
  mono := fun hq h => ha.mono (fun d h => by
    split at h
    · exact hq _ h
    · exact h.elim) h
  pe := (AaP ha.pe).imp fun σ H Q ⟨B, F, O, ρ, R, h⟩ => ⟨B, F, O, ρ, R, ha.mono (fun d h v H1 s1 r1 => by
    split at h
    · exact ⟨_, CG.mp r1, h _ H1 s1 (CG.mpr rfl)⟩
    · exact h.elim) h⟩
theorem JG {op} (h : DE X a ta) : DE X (.BoolOp op [a] pos) ta := ⟨h.mono, Aay h.pe⟩
theorem Mj {rest : List Expr} (ha : DE X a ta) (hb : DE X (.BoolOp .And (b :: rest) pos) tb) : DE X (.BoolOp .And (a :: b :: rest) pos) (Abu ta tb) where
  mono := fun hq h => ha.mono (fun d h => by
    split at h
    · split at h
      · rename_i e; simp only [e, if_true]; exact hb.mono hq h
      · rename_i e; simp only [e]; exact hq _ h
    · exact h.elim) h
  pe := (Zx ha.pe hb.pe).imp fun σ H Q ⟨B, F, O, ρ, R, h⟩ => ⟨B, F, O, ρ, R, ha.mono (fun d h v H1 s1 r1 => by
    split at h
    · rename_i k
      refine ⟨k, CG.mp r1, ?_⟩
      cases k with
      | true => exact ⟨B, F, O, ρ, R.same s1, hb.mono (fun d q v H2 s2 r2 => q v H2 (s1.trans s2) r2) h⟩
      | false => exact h _ H1 s1 (CG.mpr rfl)
    · exact h.elim) h⟩
theorem Acd {rest : List Expr} (ha : DE X a ta) (hb : DE X (.BoolOp .Or (b :: rest) pos) tb) : DE X (.BoolOp .Or (a :: b :: rest) pos) (dOr ta tb) where
  mono := fun hq h => ha.mono (fun d h => by
    split at h
    · split at h
      · rename_i e; simp only [e, if_true]; exact hq _ h
      · rename_i e; simp only [e]; exact hb.mono hq h
    · exact h.elim) h
  pe := (AcY ha.pe hb.pe).imp fun σ H Q ⟨B, F, O, ρ, R, h⟩ => ⟨B, F, O, ρ, R, ha.mono (fun d h v H1 s1 r1 => by
    split at h
    · rename_i k
      refine ⟨k, CG.mp r1, ?_⟩
      cases k with
      | false => exact ⟨B, F, O, ρ, R.same s1, hb.mono (fun d q v H2 s2 r2 => q v H2 (s1.trans s2) r2) h⟩
      | true => exact h _ H1 s1 (CG.mpr rfl)
    · exact h.elim) h⟩
noncomputable def Jz (t : DTE) : DTT := fun ρ Q => t ρ fun a => match a with
  | .bl k => Q k
  | _ => False
theorem J9 {t : DTE} (m : ∀ {ρ Q Q'}, (∀ d, Q d → Q' d) → t ρ Q → t ρ Q') : ∀ {ρ Q Q'}, (∀ d, Q d → Q' d) → Jz t ρ Q → Jz t ρ Q' := fun hq h => m (fun d h => by
    split at h
    · exact hq _ h
    · exact h.elim) h
theorem Dz (h : DE X e te) (he : ∀ whole, isTrue e X.env whole = (do let v ← whole; standAt e.pos; holding [v] (truthy v)) := by intro _; rfl) : DT X e (Jz te) where
  mono := J9 (t := te) h.mono
  pt := (Zk h.pe he).imp fun σ H Q ⟨B, F, O, ρ, R, q⟩ => ⟨B, F, O, ρ, R, h.mono (fun d q v H1 s1 r1 => by
    split at q
    · exact ⟨_, CG.mp r1, q H1 s1⟩
    · exact q.elim) q⟩
theorem Hz {op : CmpOp} {r : R2} {t : D2} (ho : OpR X (compareOp op) r) (S : Gn X.K r t) (ha : DE X a ta) (hb : DE X b tb) (hm : behindInMarks op b = false) : DT X (.Compare a [op] [b] pos) (Jz (dOp t ta tb)) where
  mono := J9 (t := dOp t ta tb) (Gd (t := t) (ta := ta) (tb := tb) S.mono ha.mono hb.mono)
  pt := (WK ho ha.pe hb.pe hm).imp fun σ H Q ⟨B, F, O, ρ, R, q⟩ => LK (ta := ta) (tb := tb) S ha.mono hb.mono σ H _ ⟨B, F, O, ρ, R, Gd (t := t) (ta := ta) (tb := tb) S.mono ha.mono hb.mono (fun d q v H1 s1 r1 => by
    split at q
    · exact ⟨_, CG.mp r1, q H1 s1⟩
    · exact q.elim) q⟩
theorem Q6 (ha : DE X a ta) (hb : DE X b tb) : DT X (.Compare a [.Lt] [b] pos) (Jz (dOp dLt ta tb)) := Hz Nb Eh ha hb (Gj _)
theorem M6 (ha : DE X a ta) (hb : DE X b tb) : DT X (.Compare a [.Gt] [b] pos) (Jz (dOp dGt ta tb)) := Hz Yn Eh ha hb (Gj _)
noncomputable def Ye (t : DTT) : DTT := fun ρ Q => t ρ fun k => Q (!k)
noncomputable def X7 (t u : DTT) : DTT := fun ρ Q => t ρ fun k => if k = true then u ρ Q else Q false
noncomputable def AbT (t u : DTT) : DTT := fun ρ Q => t ρ fun k => if k = true then Q true else u ρ Q
theorem Gm (ha : DT X a tA) : DT X (.UnaryOp .Not a pos) (Ye tA) where
  mono := fun hq h => ha.mono (fun _ h => hq _ h) h
  pt := (ZP ha.pt).imp fun σ H Q ⟨B, F, O, ρ, R, q⟩ => ⟨B, F, O, ρ, R, q⟩
structure DW (X : Cx) (e : Expr) (t : DTT) : Prop where
  mono : ∀ {ρ Q Q'}, (∀ d, Q d → Q' d) → t ρ Q → t ρ Q'
  pw : PW X e (lT X.K t)
theorem DW.dt {t : DTT} (h : DW X e t) : DT X e t := ⟨h.mono, h.pw.pt⟩
theorem Wb (ha : DT X a tA) : DW X (.BoolOp .And [a] pos) tA := ⟨ha.mono, Wu ha.pt⟩
theorem LR (ha : DT X a tA) : DW X (.BoolOp .Or [a] pos) tA := ⟨ha.mono, Y6 ha.pt⟩
theorem PW.imp {t t' : TT} (h : PW X e t) (i : ∀ σ H Q, t' σ H Q → t σ H Q) : PW X e t' := fun wh pins s σ H Q I q => h wh pins s σ H Q I (i _ _ _ q)
theorem AaA {rest : List Expr} (ha : DT X a tA) (hb : DW X (.BoolOp .And (b :: rest) pos) tB) : DW X (.BoolOp .And (a :: b :: rest) pos) (X7 tA tB) where
  mono := fun hq h => ha.mono (fun k h => by
    cases k with
    | true => exact hb.mono hq h
    | false => exact hq _ h) h
  pw := (Aal ha.pt hb.pw).imp fun σ H Q ⟨B, F, O, ρ, R, q⟩ => ⟨B, F, O, ρ, R, ha.mono (fun k h H1 s1 => by
    cases k with
    | true => exact ⟨B, F, O, ρ, R.same s1, hb.mono (fun k q H2 s2 => q H2 (s1.trans s2)) h⟩
    | false => exact h H1 s1) q⟩
theorem Kz {rest : List Expr} (ha : DT X a tA) (hb : DW X (.BoolOp .Or (b :: rest) pos) tB) : DW X (.BoolOp .Or (a :: b :: rest) pos) (AbT tA tB) where
  mono := fun hq h => ha.mono (fun k h => by
    cases k with
    | true => exact hq _ h
    | false => exact hb.mono hq h) h
  pw := (AcE ha.pt hb.pw).imp fun σ H Q ⟨B, F, O, ρ, R, q⟩ => ⟨B, F, O, ρ, R, ha.mono (fun k h H1 s1 => by
    cases k with
    | false => exact ⟨B, F, O, ρ, R.same s1, hb.mono (fun k q H2 s2 => q H2 (s1.trans s2)) h⟩
    | true => exact h H1 s1) q⟩
noncomputable def Ad6 (t : DTT) (ta tb : DTE) : DTE := fun ρ Q => t ρ fun k => if k = true then ta ρ Q else tb ρ Q
noncomputable def AbK : DTA := fun _ Q => Q []
noncomputable def Yb (te : DTE) (tl : DTA) : DTA := fun ρ Q => te ρ fun d => tl ρ fun ds => Q (d :: ds)
theorem Af : DA X [] AbK := ⟨fun hq h => hq _ h, GR.imp fun σ H Q ⟨B, F, O, ρ, R, q⟩ => q [] H (Same.refl H) RpL.nil⟩
theorem Aa (ha : DE X e te) (hr : DA X es tl) (hs : starEach (e :: es) X.env = (false, eval e X.env) :: starEach es X.env := by rfl) : DA X (e :: es) (Yb te tl) where
  mono := fun hq h => ha.mono (fun d h => hr.mono (fun ds h => hq _ h) h) h
  pa := (Ep ha.pe hr.pa hs).imp fun σ H Q ⟨B, F, O, ρ, R, q⟩ => ⟨B, F, O, ρ, R, ha.mono (fun d h v H1 s1 r1 => ⟨B, F, O, ρ, R.same s1, hr.mono (fun ds h vs H2 s2 r2 =>
    h (v :: vs) H2 (s1.trans s2) (RpL.cons (r1.mono s2.mask) r2)) h⟩) q⟩
noncomputable def dTup (tl : DTA) : DTE := fun ρ Q => tl ρ fun ds => ds.length ≤ sizeLine ∧ Q (.tup ds)
noncomputable def AcK (tl : DTA) : DTE := fun ρ Q => tl ρ fun ds => ds.length ≤ sizeLine ∧ Q (.lst ds)
theorem G4 {O : List Addr} {H : Hp} {p : Addr} {o : HO} (hp : p ∉ O) : mask O (upd H p o) p = some o := by rw [Ay hp, BR]
theorem DP {k} (h : DA X es tl) : DE X (.Tuple es k pos) (dTup tl) where
  mono := fun hq z => h.mono (fun ds q => ⟨q.1, hq _ q.2⟩) z
  pe := (YL h.pa).imp fun σ H Q ⟨B, F, O, ρ, R, q⟩ => ⟨B, F, O, ρ, R, h.mono (fun ds z vs H1 s1 r1 => ⟨by rw [r1.len]; exact z.1, fun p hp => by
    have np : p ∉ F ++ O := fun m => (R.same s1).th p m hp
    exact z.2 (.ref p) _ (s1.trans (Same.upd hp)) (Ci.mpr ⟨p, vs, rfl, SqT.of (G4 np), r1.mono (Same.upd hp).mask⟩)⟩) q⟩
theorem U0 (h : DA X es tl) : DE X (.List es pos) (AcK tl) where
  mono := fun hq z => h.mono (fun ds q => ⟨q.1, hq _ q.2⟩) z
  pe := (UL h.pa).imp fun σ H Q ⟨B, F, O, ρ, R, q⟩ => ⟨B, F, O, ρ, R, h.mono (fun ds z vs H1 s1 r1 => ⟨by rw [r1.len]; exact z.1, fun p hp => by
    have np : p ∉ F ++ O := fun m => (R.same s1).th p m hp
    exact z.2 (.ref p) _ (s1.trans (Same.upd hp)) (Gx ⟨p, vs, rfl, (G4 np), r1.mono (Same.upd hp).mask⟩)⟩) q⟩
noncomputable abbrev DSp := List Dt → (Dt → Prop) → Prop
noncomputable def lSp (K : PySem.W.Frag) (sp : DSp) : Sp := fun vs H Q _ => ∃ F ds, (∀ a ∈ F, H a ≠ none) ∧ RpL K (mask F H) ds vs ∧ sp ds fun d => ∀ v H', Same H H' → Rp K (mask F H') d v → Q v H'
noncomputable def Jx (sp : DSp) : Prop := ∀ ds Q Q', (∀ d, Q d → Q' d) → sp ds Q → sp ds Q'
noncomputable def dCall (sp : DSp) (tl : DTA) : DTE := fun ρ Q => tl ρ fun ds => sp ds Q
theorem WW {CX : CXT} {k : Nat} {f : Addr} {fd : FuncData} {ps : List Str} {sp : DSp} {x : Str} {p : Pos} (m : Jx sp) (G : Ii X.prog X.w X.K X.mg X.base CX0 k f fd ps (lSp X.K sp)) (hr : Es k X.A) (hg : Gl X x) (hm : X.mg x = some (.ref f))
    (hk : PySem.W.keepIn X.K (.ref f) = true) (hb : Binds X.K fd ps []) (ha : DA X (e :: es) tl) (hdb : (x == ("__debug__" : Str)) = false := by decide)
    (he : starEach (e :: es) X.env = (false, eval e X.env) :: starEach es X.env := by rfl) (hpl : (backTo pos (starEach es X.env)).any (·.1) = false := by rfl) : DE X (.Call (.Name x p) (e :: es) [] pos) (dCall sp tl) where
  mono := fun hq z => ha.mono (fun ds q => m _ _ _ hq q) z
  pe := (Rf G hr hg hm hk hb .nil Yk ha.pa hdb he hpl).imp fun σ H Q ⟨B, F, O, ρ, R, q⟩ => ⟨B, F, O, ρ, R, ha.mono (fun ds z vs H1 s1 r1 => by
    show lSp X.K sp (vs ++ []) H1 Q E0
    rw [List.append_nil]
    exact ⟨F ++ O, ds, (R.same s1).th, r1, m _ _ _ (fun d q v H2 s2 r2 => q v H2 (s1.trans s2) r2) z⟩) q⟩
variable {st : Stmt} {sts : List Stmt} {t u : DTS}
noncomputable def Yu : DTS := fun D ρ => D.nx ρ
noncomputable def Lk (t u : DTS) : DTS := fun D ρ => t { D with nx := u D } ρ
theorem Ac3 {D D' : Dr} {P P' : Bj → Prop} (h : Dr.le D D') (hp : ∀ ρ, P ρ → P' ρ) : Dr.le { D with nx := P } { D' with nx := P' } := ⟨hp, h.rt, h.bk, h.ct⟩
theorem le_refl {D : Dr} : Dr.le D D := ⟨fun _ h => h, fun _ h => h, fun _ h => h, fun _ h => h⟩
theorem Bs : DSs X [] Yu := ⟨fun hd h => hd.nx _ h, Wm.imp fun D σ H ⟨B, F, O, ρ, R, h⟩ => h O σ H R⟩
theorem Ad (h1 : DS X st t) (h2 : DSs X sts u) : DSs X (st :: sts) (Lk t u) where
  mono := fun hd h => h1.mono (Ac3 hd fun ρ q => h2.mono hd q) h
  ps := (Vn h1.ps h2.ps).imp fun D σ H ⟨B, F, O, ρ, R, h⟩ => ⟨B, F, O, ρ, R, h1.mono (D := { lD X.K B F D with nx := u (lD X.K B F D) }) ⟨fun ρ' q O' σ' H' R' => ⟨B, F, O', ρ', R', q⟩, fun _ q => q, fun _ q => q, fun _ q => q⟩ h⟩
theorem Ai (h1 : DS X st t) : DSs X [st] t := ⟨h1.mono, Wr h1.ps⟩
noncomputable def Vd : DTS := fun _ _ => False
theorem G8 : DS X st Vd := ⟨fun _ h => h.elim, Ud.imp fun D σ H ⟨B, F, O, ρ, R, h⟩ => h.elim⟩
noncomputable def Yj (te : DTE) : DTS := fun D ρ => te ρ fun _ => D.nx ρ
theorem Ja (he : DE X e te) (hs : swapsWith e none pos.line X.env = pure false := by rfl) : DS X (.Expr e pos) (Yj te) where
  mono := fun hd h => he.mono (fun _ h => hd.nx _ h) h
  ps := (QG he.pe hs).imp fun D σ H ⟨B, F, O, ρ, R, h⟩ => ⟨B, F, O, ρ, R, he.mono (fun d q v H1 s1 _ => q O σ H1 (R.same s1)) h⟩
noncomputable def Ace (te : DTE) : DTS := fun D ρ => te ρ D.rt
theorem Tc {F O : List Addr} {H : Hp} : Same (mask (F ++ O) H) (mask F H) := Fg fun _ h => List.mem_append_left _ h
theorem Av (he : DE X e te) : DS X (.Return (some e) pos) (Ace te) where
  mono := fun hd h => he.mono (fun _ h => hd.rt _ h) h
  ps := (Zm he.pe).imp fun D σ H ⟨B, F, O, ρ, R, h⟩ => ⟨B, F, O, ρ, R, he.mono (fun d q v H1 s1 r1 => q v H1 (R.base.trans s1) (r1.mono Tc)) h⟩
noncomputable def Abw : DTS := fun D _ => D.rt .non
noncomputable def dIf (c : DTT) (t u : DTS) : DTS := fun D ρ => c ρ fun k => if k = true then t D ρ else u D ρ
theorem Ds {sa sb : List Stmt} (hc : DT X c tA) (ha : DSs X sa t) (hb : DSs X sb u) : DS X (.If c sa sb pos) (dIf tA t u) where
  mono := fun hd h => hc.mono (fun k h => by
    cases k with
    | true => exact ha.mono hd h
    | false => exact hb.mono hd h) h
  ps := (AbJ hc.pt ha.ps hb.ps).imp fun D σ H ⟨B, F, O, ρ, R, h⟩ => ⟨B, F, O, ρ, R, hc.mono (fun k h H1 s1 => by
    cases k with
    | true => exact ⟨B, F, O, ρ, R.same s1, h⟩
    | false => exact ⟨B, F, O, ρ, R.same s1, h⟩) h⟩
noncomputable abbrev DTG := Dt → Bj → (Bj → Prop) → Prop
noncomputable abbrev Lq := List Dt → Bj → (Bj → Prop) → Prop
noncomputable def lG (K : PySem.W.Frag) (g : DTG) : TG := fun v σ H Q => ∃ B F O ρ d, Rep K B F O H σ ρ ∧ Rp K (mask (F ++ O) H) d v ∧ g d ρ fun ρ' => ∀ σ', Rep K B F O H σ' ρ' → Q σ' H
noncomputable def lGs (K : PySem.W.Frag) (g : Lq) : TGs := fun vs σ H Q => ∃ B F O ρ ds, Rep K B F O H σ ρ ∧ RpL K (mask (F ++ O) H) ds vs ∧ g ds ρ fun ρ' => ∀ σ', Rep K B F O H σ' ρ' → Q σ' H
structure DG (X : Cx) (tg : Expr) (g : DTG) : Prop where
  mono : ∀ {d ρ Q Q'}, (∀ ρ', Q ρ' → Q' ρ') → g d ρ Q → g d ρ Q'
  pg : PG X tg (lG X.K g)
structure DGs (X : Cx) (tgs : List Expr) (g : Lq) : Prop where
  mono : ∀ {d ρ Q Q'}, (∀ ρ', Q ρ' → Q' ρ') → g d ρ Q → g d ρ Q'
  pg : PGs X tgs (lGs X.K g)
theorem PG.imp {e : Expr} {t t' : TG} (h : PG X e t) (i : ∀ v σ H Q, t' v σ H Q → t v σ H Q) : PG X e t' := fun pins s σ H v u Q I r q => h pins s σ H v u Q I r (i _ _ _ _ q)
theorem PGs.imp {e : List Expr} {t t' : TGs} (h : PGs X e t) (i : ∀ v σ H Q, t' v σ H Q → t v σ H Q) : PGs X e t' := fun pins s σ H v u Q I r q => h pins s σ H v u Q I r (i _ _ _ _ q)
noncomputable def Pk (i : Nat) : DTG := fun d ρ Q => Q (ρ.set i (some (.is d)))
theorem Iv (i : Nat) {x : Str} (hN : X.N.Nodup) (hi : X.N[i]? = some x := by rfl) (hx : Loc X.env.scope x := by first | exact Or.inl rfl | exact Or.inr rfl)
    (hf : X.fn x = true ∨ X.env.scope.names.lookup x = some .local := by first | exact .inl rfl | exact .inr rfl | assumption) : DG X (.Name x pos) (Pk i) where
  mono := fun hq h => hq _ h
  pg := (Mt hN hi hx hf).imp fun v σ H Q ⟨B, F, O, ρ, d, R, r, h⟩ => h _ (R.set i r)
noncomputable def Q9 : Lq := fun ds ρ Q => match ds with
  | [] => Q ρ
  | _ => False
noncomputable def Ls (g : DTG) (gs : Lq) : Lq := fun ds ρ Q => match ds with
  | d :: r => g d ρ fun ρ' => gs r ρ' Q
  | [] => False
theorem VR : DGs X [] Q9 where
  mono := fun hq h => by
    unfold Q9 at h ⊢
    split at h
    · exact hq _ h
    · exact h.elim
  pg := V0.imp fun vs σ H Q ⟨B, F, O, ρ, ds, R, r, h⟩ => by
    unfold Q9 at h
    split at h
    · exact ⟨Bl.mp r, h σ R⟩
    · exact h.elim
theorem Jk {g : DTG} {gs : Lq} (h1 : DG X e g) (h2 : DGs X es gs) (hs : (assignEach (e :: es) X.env).map (·.2) = assign e X.env :: (assignEach es X.env).map (·.2) := by rfl) : DGs X (e :: es) (Ls g gs) where
  mono := fun hq h => by
    unfold Ls at h ⊢
    split at h
    · exact h1.mono (fun ρ' q => h2.mono hq q) h
    · exact h.elim
  pg := (Ur h1.pg h2.pg hs).imp fun vs σ H Q ⟨B, F, O, ρ, ds, R, r, h⟩ => by
    unfold Ls at h
    split at h
    · obtain ⟨v, vr, rfl, r1, r2⟩ := Az.mp r
      exact ⟨v, vr, rfl, B, F, O, ρ, _, R, r1, h1.mono (fun ρ' q σ' R' => ⟨B, F, O, ρ', _, R', r2, q⟩) h⟩
    · exact h.elim
noncomputable def Qu (n : Nat) (gs : Lq) : DTG := fun d ρ Q => match d with
  | .tup ds => ds.length = n ∧ gs ds ρ Q
  | _ => False
theorem Zz {k : Nat} {gs : Lq} {n : Nat} (hc : X.calm = true) (h : DGs X es gs) (hn : (assignEach es X.env).length = n := by rfl) (hst : (assignEach es X.env).findIdx? (·.1) = none := by rfl) : DG X (.Tuple es k pos) (Qu n gs) where
  mono := fun hq z => by
    unfold Qu at z ⊢
    split at z
    · exact ⟨z.1, h.mono hq z.2⟩
    · exact z.elim
  pg := (Aaz hc h.pg hn hst).imp fun v σ H Q ⟨B, F, O, ρ, d, R, r, z⟩ => by
    unfold Qu at z
    split at z
    · obtain ⟨a, xs, rfl, hs, hl⟩ := Ci.mp r
      exact ⟨a, xs, rfl, Bb.seqT hs, by rw [hl.len]; exact z.1, B, F, O, ρ, _, R, hl, z.2⟩
    · exact z.elim
noncomputable def Aam (te : DTE) (g : DTG) : DTS := fun D ρ => te ρ fun d => g d ρ D.nx
theorem AaO {tg : Expr} {g : DTG} (he : DE X e te) (hg : DG X tg g) (hs : swapsWithSole [tg] e pos.line X.env = pure false := by rfl) (hw : swappedStores [tg] e X.env = pure none := by rfl)
    (h1 : (assignEach [tg] X.env).map (·.2) = [assign tg X.env] := by rfl) : DS X (.Assign [tg] e pos) (Aam te g) where
  mono := fun hd h => he.mono (fun _ h => hg.mono (fun _ h => hd.nx _ h) h) h
  ps := (Za he.pe hg.pg hs hw h1).imp fun D σ H ⟨B, F, O, ρ, R, h⟩ => ⟨B, F, O, ρ, R, he.mono (fun d q v H1 s1 r1 => ⟨B, F, O, ρ, d, R.same s1, r1, hg.mono (fun ρ' q σ' R' => q O σ' H1 R') q⟩) h⟩
noncomputable def Uv (c : DTT) (tb : DTS) : DTS := fun D ρ => ∃ W : Nat → Bj → Prop, (∃ m, W m ρ) ∧ ∀ m ρ, W m ρ →
  c ρ fun k => if k = true then tb { D with nx := fun ρ' => ∃ m', m' < m ∧ W m' ρ', ct := fun ρ' => ∃ m', m' < m ∧ W m' ρ', bk := D.nx } ρ else D.nx ρ
theorem Gi {body : List Stmt} (hp : PassesOwn (model X.prog X.w) X.A X.env X.xe) (hc : DT X c tA) (hb : DSs X body t) : DS X (.While c body [] pos) (Uv tA t) where
  mono := fun {ρ D D'} hd ⟨W, h0, h⟩ => ⟨W, h0, fun m ρ w => hc.mono (fun k h => by
    cases k with
    | true => exact hb.mono (D := { D with nx := fun ρ' => ∃ m', m' < m ∧ W m' ρ', ct := fun ρ' => ∃ m', m' < m ∧ W m' ρ', bk := D.nx }) ⟨fun _ q => q, hd.rt, hd.nx, fun _ q => q⟩ h
    | false => exact hd.nx _ h) (h m ρ w)⟩
  ps := (U4 hp hc.pt hb.ps).imp fun D σ H ⟨B, F, O, ρ, R, W, ⟨m0, w0⟩, h⟩ => by
    refine ⟨fun m σ H => ∃ O ρ, Rep X.K B F O H σ ρ ∧ W m ρ, ⟨m0, O, ρ, R, w0⟩, ?_⟩
    rintro m σ H ⟨O, ρ, R, w⟩
    refine ⟨B, F, O, ρ, R, hc.mono (fun k h H1 s1 => ?_) (h m ρ w)⟩
    cases k with
    | true =>
      refine ⟨fun σ' H' => ∃ m', m' < m ∧ ∃ O ρ, Rep X.K B F O H' σ' ρ ∧ W m' ρ, fun σ' H' ⟨m', l, q⟩ => ⟨m', l, q⟩, B, F, O, ρ, R.same s1, hb.mono (D := { lD X.K B F D with nx := fun ρ' => ∃ m', m' < m ∧ W m' ρ', ct := fun ρ' => ∃ m', m' < m ∧ W m' ρ', bk := (lD X.K B F D).nx }) ⟨?_, fun _ q => q, fun _ q => q, ?_⟩ h⟩
      · rintro ρ' ⟨m', l, w'⟩ O' σ' H' R'
        exact ⟨m', l, O', ρ', R', w'⟩
      · rintro ρ' ⟨m', l, w'⟩ O' σ' H' R'
        exact ⟨m', l, O', ρ', R', w'⟩
    | false => exact h O σ H1 (R.same s1)
noncomputable def ItD (K : PySem.W.Frag) (M : Hp) (J : It) (items : List Dt) : Prop := ∀ H, Same M H →
  (∀ (k : Nat) d, items[k]? = some d → J.go k H ∧ ∀ x H', J.yld k H x H' → H' = H ∧ Rp K M d x) ∧ J.stop items.length H
noncomputable abbrev DTI := Bj → (List Dt → Prop) → Prop
noncomputable def lI (K : PySem.W.Frag) (ti : DTI) : TI := fun σ H R => ∃ B F O ρ, Rep K B F O H σ ρ ∧ ti ρ fun items => ∀ J H', Same H H' → ItD K (mask (F ++ O) H') J items → R J H'
structure DI (X : Cx) (tg iter : Expr) (ti : DTI) : Prop where
  mono : ∀ {ρ Q Q'}, (∀ d, Q d → Q' d) → ti ρ Q → ti ρ Q'
  pi : PI X tg iter (lI X.K ti)
theorem PI.imp {tg e : Expr} {t t' : TI} (h : PI X tg e t) (i : ∀ σ H Q, t' σ H Q → t σ H Q) : PI X tg e t' := fun pins s σ H R I q => h pins s σ H R I (i _ _ _ q)
noncomputable def Sh (ti : DTI) (g : DTG) (tb : DTS) : DTS := fun D ρ => ti ρ fun items => ∃ W : Nat → Bj → Prop, W 0 ρ ∧
  (∀ (k : Nat) d ρ', items[k]? = some d → W k ρ' → g d ρ' fun ρ2 => tb { D with nx := W (k + 1), ct := W (k + 1), bk := D.nx } ρ2) ∧ ∀ ρ', W items.length ρ' → D.nx ρ'
theorem Rep.rebase {K : PySem.W.Frag} {B : Hp} {F O : List Addr} {H : Hp} {σ : St} {ρ : Bj} (r : Rep K B F O H σ ρ) : Rep K (mask O H) F O H σ ρ :=
  ⟨r.len, Bb, fun _ h => CK h, r.th, r.is, r.own, r.inj, r.tab, r.tinj⟩
theorem Rep.unbase {K : PySem.W.Frag} {B B' : Hp} {F O O' : List Addr} {H H' : Hp} {σ σ' : St} {ρ ρ' : Bj} (r : Rep K B F O H σ ρ) (r' : Rep K (mask O H) F O' H' σ' ρ') : Rep K B F O' H' σ' ρ' := by
  have s : Same B (mask O H) := fun a o e => by
    rw [Ay]
    · exact r.base a o e
    · intro z; rw [r.fr a z] at e; cases e
  refine ⟨r'.len, s.trans r'.base, fun a h => ?_, r'.th, r'.is, r'.own, r'.inj, r'.tab, r'.tinj⟩
  cases q : B a with
  | none => rfl
  | some o => have := s a o q; rw [r'.fr a h] at this; cases this
theorem Rep.sub {K : PySem.W.Frag} {B : Hp} {F O : List Addr} {H : Hp} {σ : St} {ρ : Bj} (r : Rep K B F O H σ ρ) : Same B (mask O H) := fun a o e => by
  rw [Ay]
  · exact r.base a o e
  · intro z; rw [r.fr a z] at e; cases e
theorem R8 {F O : List Addr} {H : Hp} : mask F (mask O H) = mask (F ++ O) H := by
  funext a
  by_cases h1 : a ∈ F
  · rw [CK h1, CK (List.mem_append_left _ h1)]
  · rw [Ay h1]
    by_cases h2 : a ∈ O
    · rw [CK h2, CK (List.mem_append_right _ h2)]
    · rw [Ay h2, Ay fun z => (List.mem_append.mp z).elim h1 h2]
theorem Aah {tg iter : Expr} {body : List Stmt} {ti : DTI} {g : DTG} (hp : PassesOwn (model X.prog X.w) X.A X.env X.xe) (hc : X.calm = true) (hi : DI X tg iter ti) (hg : DG X tg g) (hb : DSs X body t)
    (hs : ∀ x, foldedSetIterable iter X.env x = pure x := by intro _; rfl) : DS X (.For tg iter body [] pos) (Sh ti g t) where
  mono := fun {ρ D D'} hd h => hi.mono (fun items ⟨W, h0, h, he⟩ => ⟨W, h0, fun k d ρ' e w => hg.mono (fun ρ2 q => hb.mono (D := { D with nx := W (k + 1), ct := W (k + 1), bk := D.nx }) ⟨fun _ q => q, hd.rt, hd.nx, fun _ q => q⟩ q) (h k d ρ' e w), fun ρ' w => hd.nx _ (he ρ' w)⟩) h
  ps := (YH hp hc hi.pi hg.pg hb.ps hs).imp fun D σ H ⟨B, F, O, ρ, R, h⟩ => by
    refine ⟨B, F, O, ρ, R, hi.mono (fun items z J H1 s1 it => ?_) h⟩
    obtain ⟨W, h0, h, he⟩ := z
    have R1 := R.same s1
    refine ⟨fun i m σ H => m + i = items.length ∧ ∃ O' ρ', Rep X.K (mask O H1) F O' H σ ρ' ∧ W i ρ', ⟨items.length, by omega, O, ρ, R1.rebase, h0⟩, ?_⟩
    rintro i m σ2 H2 ⟨hm, O', ρ', R2, w⟩
    have sb : Same (mask (F ++ O) H1) H2 := fun a o e => R2.base a o (by
      obtain ⟨q, e⟩ := BX e
      rw [Ay fun z => q (List.mem_append_right _ z)]; exact e)
    obtain ⟨go, stop⟩ := it H2 sb
    by_cases hlt : i < items.length
    · refine .inr ⟨(go i items[i] (by simp [hlt])).1, fun σ' H' => ∃ O' ρ', Rep X.K (mask O H1) F O' H' σ' ρ' ∧ W (i + 1) ρ', fun σ' H' q => ⟨m - 1, by omega, by omega, q⟩, fun x H3 y => ?_⟩
      obtain ⟨e, r⟩ := (go i items[i] (by simp [hlt])).2 x H3 y
      subst e
      have r' : Rp X.K (mask (F ++ O') H3) items[i] x := r.mono (by rw [← R8]; exact R2.below)
      refine ⟨_, F, O', ρ', _, R2, r', hg.mono (fun ρ2 q σ3 R3 => ⟨_, F, O', ρ2, R3, hb.mono (D := { lD X.K B F D with nx := W (i + 1), ct := W (i + 1), bk := (lD X.K B F D).nx }) ⟨?_, ?_, ?_, ?_⟩ q⟩) (h i _ ρ' (by simp [hlt]) w)⟩
      · exact fun ρ4 w4 O4 σ4 H4 R4 => ⟨O4, ρ4, R4, w4⟩
      · exact fun d q v H4 s4 r4 => q v H4 (R1.sub.trans s4) r4
      · exact fun ρ4 q O4 σ4 H4 R4 => q O4 σ4 H4 (R1.unbase (B' := B) R4)
      · exact fun ρ4 w4 O4 σ4 H4 R4 => ⟨O4, ρ4, R4, w4⟩
    · have e : i = items.length := by omega
      subst e
      exact .inl ⟨stop, he ρ' w O' σ2 H2 (R1.unbase (B' := B) R2)⟩
noncomputable def YD (te : DTE) : DTI := fun ρ Q => te ρ fun d => match d with
  | .lst ds => Q ds
  | _ => False
noncomputable def Yv (te : DTE) : DTI := fun ρ Q => te ρ fun d => match d with
  | .tup ds => Q ds
  | _ => False
theorem YW {tg : Expr} (h : DE X e te) : DI X tg e (YD te) where
  mono := fun hq z => h.mono (fun d z => by
    split at z
    · exact hq _ z
    · exact z.elim) z
  pi := (V2 h.pe).imp fun σ H Q ⟨B, F, O, ρ, R, z⟩ => ⟨B, F, O, ρ, R, h.mono (fun d z v H1 s1 r1 => by
    split at z
    · obtain ⟨a, xs, rfl, hs, hl⟩ := Dh r1
      refine ⟨a, rfl, ⟨xs, Bb.seq hs⟩, z _ H1 s1 fun H2 s2 => ⟨fun k d e => ?_, xs, s2.seq hs, by rw [hl.len]; exact Nat.le_refl _⟩⟩
      obtain ⟨x, e1, e2⟩ := hl.get e
      refine ⟨⟨xs, x, s2.seq hs, e1⟩, fun y H3 ⟨e3, e4⟩ => ⟨e3, ?_⟩⟩
      have e5 := e4 xs (s2.seq hs)
      rw [e1] at e5; cases e5; exact e2
    · exact z.elim) z⟩
theorem Aaj {tg : Expr} (h : DE X e te) : DI X tg e (Yv te) where
  mono := fun hq z => h.mono (fun d z => by
    split at z
    · exact hq _ z
    · exact z.elim) z
  pi := (Aad h.pe).imp fun σ H Q ⟨B, F, O, ρ, R, z⟩ => ⟨B, F, O, ρ, R, h.mono (fun d z v H1 s1 r1 => by
    split at z
    · obtain ⟨a, xs, rfl, hs, hl⟩ := Ci.mp r1
      refine ⟨a, rfl, ⟨xs, Bb.seqT hs⟩, z _ H1 s1 fun H2 s2 => ⟨fun k d e => ?_, xs, s2.seqT hs, by rw [hl.len]; exact Nat.le_refl _⟩⟩
      obtain ⟨x, e1, e2⟩ := hl.get e
      refine ⟨⟨xs, x, s2.seqT hs, e1⟩, fun y H3 ⟨e3, e4⟩ => ⟨e3, ?_⟩⟩
      have e5 := e4 xs (s2.seqT hs)
      rw [e1] at e5; cases e5; exact e2
    · exact z.elim) z⟩
noncomputable def ups (lo : Int) (n : Nat) : List Dt := (List.range n).map fun i => .int (lo + (i : Nat))
theorem XD {lo : Int} {n : Nat} : (ups lo n).length = n := by simp [ups]
theorem Rj {lo : Int} {n k : Nat} {d : Dt} (h : (ups lo n)[k]? = some d) : k < n ∧ d = .int (lo + (k : Nat)) := by
  unfold ups at h
  rw [List.getElem?_map] at h
  by_cases hk : k < n
  · rw [List.getElem?_range hk] at h
    exact ⟨hk, (Option.some.inj h).symm⟩
  · rw [List.getElem?_eq_none (by simpa using hk)] at h; cases h
theorem Sy {K : PySem.W.Frag} {M : Hp} {lo : Int} {n : Nat} : ItD K M (Itr lo n) (ups lo n) := fun H _ => by
  refine ⟨fun k d e => ?_, ?_⟩
  · obtain ⟨hk, rfl⟩ := Rj e
    exact ⟨hk, fun x H' y => ⟨y.1, Ax.mpr y.2⟩⟩
  · rw [XD]; exact Nat.le_refl n
noncomputable def Ui (tl : DTA) : DTI := fun ρ Q => tl ρ fun ds => match ds with
  | [.int j] => (-(2 ^ 62) ≤ j ∧ j < 2 ^ 62) ∧ Q (ups 0 j.toNat)
  | _ => False
noncomputable def Zr (tl : DTA) : DTI := fun ρ Q => tl ρ fun ds => match ds with
  | [.int i, .int j] => (-(2 ^ 62) ≤ i ∧ i < 2 ^ 62 ∧ -(2 ^ 62) ≤ j ∧ j < 2 ^ 62) ∧ Q (ups i (j - i).toNat)
  | _ => False
theorem Xp {tg : Expr} {p : Pos} (hg : Gl X "range") (hm : X.mg "range" = none) (ha : DA X [a] tl) (hs : starEach [a] X.env = [(false, eval a X.env)] := by rfl) : DI X tg (.Call (.Name "range" p) [a] [] pos) (Ui tl) where
  mono := fun hq z => ha.mono (fun d z => by
    split at z
    · exact ⟨z.1, hq _ z.2⟩
    · exact z.elim) z
  pi := (Ry hg hm ha.pa hs).imp fun σ H Q ⟨B, F, O, ρ, R, z⟩ => ⟨B, F, O, ρ, R, ha.mono (fun d z vs H1 s1 r1 => by
    split at z
    · obtain ⟨v, r, rfl, r2, r3⟩ := Az.mp r1
      rw [Bl.mp r3, Ax.mp r2]
      exact ⟨_, rfl, z.1.1, z.1.2, z.2 _ H1 s1 Sy⟩
    · exact z.elim) z⟩
end
noncomputable def Df (N : List Str) (ds : List Dt) : Bj := ds.map (fun d => some (.is d)) ++ List.replicate (N.length - ds.length) none
theorem Rr {K : PySem.W.Frag} {F : List Addr} {H : Hp} {N : List Str} {ds : List Dt} {vs : List V} (hF : ∀ a ∈ F, H a ≠ none) (r : RpL K (mask F H) ds vs) : Rep K H F [] H (start N vs) (Df N ds) := by
  have hl := r.len
  have noown : ∀ (i : Nat) (es : En), (∀ z, es ≠ .is z) → (Df N ds)[i]? = some (some es) → False := fun i es nz e => by
    unfold Df at e
    by_cases hi : i < ds.length
    · rw [List.getElem?_append_left (by simpa using hi), List.getElem?_map] at e
      cases q : ds[i]? with
      | none => rw [q] at e; cases e
      | some d => rw [q] at e; cases e; exact nz d rfl
    · rw [List.getElem?_append_right (by simpa using hi), List.getElem?_replicate] at e
      split at e <;> cases e
  refine ⟨?_, Same.refl H, fun a h => (nomatch h), fun a h => hF a (by simpa using h), fun i d e => ?_, fun i es e => (noown i _ (fun _ z => by cases z) e).elim, fun i j es es' a h1 => (noown i _ (fun _ z => by cases z) h1).elim, fun i es e => (noown i _ (fun _ z => by cases z) e).elim, fun i j es es' a h1 => (noown i _ (fun _ z => by cases z) h1).elim⟩
  · unfold start Df; simp [hl]
  · unfold Df at e
    by_cases hi : i < ds.length
    · rw [List.getElem?_append_left (by simpa using hi), List.getElem?_map] at e
      cases q : ds[i]? with
      | none => rw [q] at e; cases e
      | some d' =>
        rw [q] at e; cases e
        obtain ⟨v, e1, e2⟩ := r.get q
        refine ⟨v, ?_, by rw [List.append_nil]; exact e2⟩
        unfold start
        rw [List.getElem?_append_left (by simp; omega), List.getElem?_map, e1]; rfl
    · rw [List.getElem?_append_right (by simpa using hi), List.getElem?_replicate] at e
      split at e <;> cases e
section
variable {P : Program} {w : World} {K : PySem.W.Frag} {mg : Str → Option Value} {base : Heap}
theorem Fun.okD {x qual : Str} {st : Stmt} {f : Addr} {fd : FuncData} {N ps : List Str} {k : Nat} {sp : DSp} (F : Fun K x qual st f fd) (S : Aq N ps (Ah st)) (len : ∀ ds Q, sp ds Q → ds.length = ps.length)
    (hbody : ∀ (cdv : Value) (A : Around) (outer : List Env) (s : Shared) (H : Hp) (E : XK), Es k (A.deeper (envOfC qual (Ah st) s.heap.objs.size f cdv)) →
      ∃ t, DSs (Pj CX0 P w K mg base N qual (Ah st) f cdv A outer s H E).nox (Di st) t ∧ ∀ ds Q, sp ds Q → t { nx := fun _ => Q .non, rt := Q } (Df N ds)) : Ii P w K mg base CX0 (k + 1) f fd ps (lSp K sp) := by
  refine F.ok S (fun vs H Q E ⟨F, ds, _, r, h⟩ => by rw [r.len]; exact len _ _ h) fun cdv A outer s H vs Q E hr ⟨F', ds, hF, r, h⟩ => ?_
  obtain ⟨t, T, q⟩ := hbody cdv A outer s H E hr
  refine ⟨_, T.ps, H, F', [], Df N ds, Rr hF r, T.mono (D := { nx := fun _ => ∀ v H', Same H H' → Rp K (mask F' H') .non v → Q v H', rt := fun d => ∀ v H', Same H H' → Rp K (mask F' H') d v → Q v H' }) ⟨?_, ?_, fun _ z => False.elim z, fun _ z => False.elim z⟩ (q ds _ h)⟩
  · exact fun ρ z O' σ' H' R' => z .non H' R'.base (K7.mpr rfl)
  · exact fun d z v H' s' r' => z v H' s' r'
end
end L2
namespace L2
open PySem PySem.Spec PyProof.Rows PySem.SeqAt
structure FnT (K : PySem.W.Frag) (mg : Str → Option Value) (x : Str) (st : Stmt) (ps : List Str) (f : Addr) (fd : FuncData) : Prop where
  fn : Fun K x x st f fd
  mg : mg x = some (.ref f)
  bd : Binds K fd ps []
noncomputable def Pm (P : Program) (w : World) (K : PySem.W.Frag) (mg : Str → Option Value) (base : Heap) (k : Nat) (x : Str) (st : Stmt) (ps : List Str) (sp : DSp) : Prop :=
  ∃ f fd, FnT K mg x st ps f fd ∧ Ii P w K mg base CX0 k f fd ps (lSp K sp)
theorem Fun.uniq {K : PySem.W.Frag} {x q : Str} {st : Stmt} {f : Addr} {fd fd' : FuncData} (a : Fun K x q st f fd) (b : Fun K x q st f fd') : fd = fd' := by
  obtain ⟨oc, od, kV, doc, pm, an, cdv, ct, osl, _, h1, _⟩ := a.ex
  obtain ⟨oc', od', kV', doc', pm', an', cdv', ct', osl', _, h2, _⟩ := b.ex
  rw [h1] at h2
  injection h2 with h2
  injection h2 with _ _ h2 _
  injection h2
noncomputable def spec {τ : Type} (args : τ → List Dt) (pre : τ → Prop) (post : τ → Dt → Prop) : DSp := fun ds Q => ∃ p, ds = args p ∧ pre p ∧ ∀ d, post p d → Q d
theorem Ae {τ : Type} {args : τ → List Dt} {pre : τ → Prop} {post : τ → Dt → Prop} : Jx (spec args pre post) := fun _ _ _ hq ⟨p, e, h, q⟩ => ⟨p, e, h, fun d z => hq _ (q d z)⟩
noncomputable abbrev CW {τ : Type} (args : τ → List Dt) (pre : τ → Prop) (val : τ → Dt) : DSp := spec args pre fun p d => d = val p
noncomputable abbrev T2 (a b : Int) : Dt := .tup [.int a, .int b]
noncomputable abbrev T3 (a b c : Int) : Dt := .tup [.int a, .int b, .int c]
noncomputable abbrev T4 (a b c d : Int) : Dt := .tup [.int a, .int b, .int c, .int d]
noncomputable def Yr : DSp := spec (fun ns : List Int => [.lst (ns.map Dt.int)]) (fun ns => ns.length ≤ 63) fun _ d => d = .bl true
theorem Ux {H : Hp} : mask [] H = H := by funext a; exact Ay (by simp)
theorem R7 {K : PySem.W.Frag} {H : Hp} {a : Addr} {ns : List Int} {E : XK} (hl : ns.length ≤ 63) (hS : SqL K H a (ns.map V.int)) : lSp K Yr [.ref a] H (fun v _ => v = .bl true) E :=
  ⟨[], [.lst (ns.map Dt.int)], fun _ h => (nomatch h), RpL.cons (WX (by rw [Ux]; exact hS) (RpL.ints ns)) RpL.nil, ns, rfl, hl, fun d e v H' s r => by subst e; exact CG.mp r⟩
section
variable {X : Cx} {a b c e : Expr} {es : List Expr} {ta tb tc te : DTE} {tA tB : DTT} {tl : DTA} {pos : Pos}
theorem Ag {k : Nat} {ps : List Str} {sp : DSp} {x : Str} {stx : Stmt} {p : Pos} (m : Jx sp) (G : Pm X.prog X.w X.K X.mg X.base k x stx ps sp) (hr : Es k X.A) (hg : Gl X x)
    (ha : DA X (e :: es) tl) (hdb : (x == ("__debug__" : Str)) = false := by decide)
    (he : starEach (e :: es) X.env = (false, eval e X.env) :: starEach es X.env := by rfl) (hpl : (backTo pos (starEach es X.env)).any (·.1) = false := by rfl) : DE X (.Call (.Name x p) (e :: es) [] pos) (dCall sp tl) := by
  obtain ⟨f, fd, F, G⟩ := G
  exact WW (CX := CX0) m G hr hg F.mg F.fn.kp F.bd ha hdb he hpl
theorem Ao (i : Nat) {x : Str} {pos' : Pos} (hN : X.N.Nodup) (he : DE X e te) (hi : X.N[i]? = some x := by rfl) (hx : Loc X.env.scope x := by first | exact Or.inl rfl | exact Or.inr rfl) (hs : swapsWith e (some (.Name x pos')) pos.line X.env = pure false := by rfl)
    (hf : X.fn x = true ∨ X.env.scope.names.lookup x = some .local := by first | exact .inl rfl | exact .inr rfl | assumption) : DS X (.Assign [.Name x pos'] e pos) (Aam te (Pk i)) where
  mono := fun hd h => he.mono (fun _ h => hd.nx _ h) h
  ps := (O5 hN hi hx he.pe hs hf).imp fun D σ H ⟨B, F, O, ρ, R, h⟩ => ⟨B, F, O, ρ, R, he.mono (fun d q v H1 s1 r1 => q O _ H1 ((R.same s1).set i r1)) h⟩
noncomputable def Acf (i j : Nat) (tl : DTA) : DTS := fun D ρ => tl ρ fun ds => match ds with
  | [d, e] => D.nx ((ρ.set i (some (.is d))).set j (some (.is e)))
  | _ => False
mutual
noncomputable def Dt.py : Dt → PyData
  | .non => .none
  | .bl b => .bool b
  | .int i => .int i
  | .str x => .str x
  | .tup ds => .tuple (Dt.pys ds)
  | .lst ds => .list (Dt.pys ds)
  | .fn _ => .dict []
  | .exc _ _ _ => .dict []
  | .obj _ _ _ => .dict []
noncomputable def Dt.pys : List Dt → List PyData
  | [] => []
  | d :: ds => d.py :: Dt.pys ds
end
mutual
theorem Dk {X : Cx} {pins : List (Addr × Obj)} {σ : St} {H : Hp} {s : Shared} (I : Inv X pins σ H s) : ∀ {d : Dt} {v : V} {u : Value}, d.py.canLay0 = true → Rp X.K H d v → RelV v u → ∃ as, Reads s.heap u d.py as
  | .non, v, u, _, h, r => by rw [K7.mp h] at r; cases (show u = .none from r); exact ⟨_, by rw [Dt.py]; exact .none⟩
  | .bl b, v, u, _, h, r => by rw [CG.mp h] at r; cases (show u = .bool b from r); exact ⟨_, by rw [Dt.py]; exact .bool b⟩
  | .int i, v, u, _, h, r => by rw [Ax.mp h] at r; obtain ⟨t, rfl⟩ := r; exact ⟨_, by rw [Dt.py]; exact .int i t⟩
  | .str x, v, u, _, h, r => by rw [Mh.mp h] at r; obtain ⟨t, rfl⟩ := r; exact ⟨_, by rw [Dt.py]; exact .str x t⟩
  | .fn a, v, u, c, h, r => by rw [Dt.py] at c; exact (nomatch c)
  | .exc _ _ _, v, u, c, h, r => by rw [Dt.py] at c; exact (nomatch c)
  | .obj _ _ _, v, u, c, h, r => by rw [Dt.py] at c; exact (nomatch c)
  | .tup ds, v, u, c, h, r => by
    obtain ⟨a, xs, rfl, hs, hl⟩ := Ci.mp h
    cases (show u = .ref a from r)
    obtain ⟨its, rv, ⟨o, h1, h2, n, h3⟩, _⟩ := I.tuple hs
    rw [Dt.py] at c
    obtain ⟨as, ra⟩ := HJ I (ds := ds) (by simpa [PyData.canLay0] using c) hl rv
    exact ⟨_, by rw [Dt.py]; exact .tuple h1 h2 h3 (by simpa using ra)⟩
  | .lst ds, v, u, c, h, r => by
    obtain ⟨a, xs, rfl, hs, hl⟩ := Dh h
    cases (show u = .ref a from r)
    obtain ⟨its, rv, ⟨o, n, h1, h2, _, h3⟩, _⟩ := I.list hs
    rw [Dt.py] at c
    obtain ⟨as, ra⟩ := HJ I (ds := ds) (by simpa [PyData.canLay0] using c) hl rv
    exact ⟨_, by rw [Dt.py]; exact .list h1 h2 h3 (by simpa using ra)⟩
theorem HJ {X : Cx} {pins : List (Addr × Obj)} {σ : St} {H : Hp} {s : Shared} (I : Inv X pins σ H s) : ∀ {ds : List Dt} {vs : List V} {us : List Value}, PyData.canLayAll0 (Dt.pys ds) = true → RpL X.K H ds vs → Vals vs us → ∃ as, ReadsAll s.heap us (Dt.pys ds) as
  | [], vs, us, _, h, r => by rw [Bl.mp h] at r; cases r; exact ⟨_, by rw [Dt.pys]; exact .nil⟩
  | d :: ds, vs, us, c, h, r => by
    obtain ⟨v, vr, rfl, h1, h2⟩ := Az.mp h
    rw [Dt.pys] at c
    have c' : d.py.canLay0 = true ∧ PyData.canLayAll0 (Dt.pys ds) = true := by simpa [PyData.canLayAll0] using c
    cases r with
    | cons r1 r2 =>
      obtain ⟨as, ra⟩ := Dk I c'.1 h1 r1
      obtain ⟨bs, rb⟩ := HJ I c'.2 h2 r2
      exact ⟨_, by rw [Dt.pys]; exact .cons ra rb⟩
end
mutual
noncomputable def Dt.eq : Dt → Dt → Bool
  | .non, .non => true
  | .bl a, .bl b => a == b
  | .bl a, .int j => (if a then 1 else 0) == j
  | .int i, .bl b => i == (if b then 1 else 0)
  | .int i, .int j => decide (i = j)
  | .str x, .str y => x == y
  | .tup xs, .tup ys => Dt.eqs xs ys
  | .lst xs, .lst ys => Dt.eqs xs ys
  | _, _ => false
noncomputable def Dt.eqs : List Dt → List Dt → Bool
  | [], [] => true
  | x :: xs, y :: ys => Dt.eq x y && Dt.eqs xs ys
  | _, _ => false
end
mutual
noncomputable def Dt.flat : Nat → Dt → Bool
  | _, .fn _ => false
  | _, .exc _ _ _ => false
  | _, .obj _ _ _ => false
  | _, .str x => (PyData.str x).canLay0
  | 0, .tup _ => false
  | 0, .lst _ => false
  | n + 1, .tup ds => Dt.flats n ds
  | n + 1, .lst ds => Dt.flats n ds
  | _, _ => true
noncomputable def Dt.flats : Nat → List Dt → Bool
  | _, [] => true
  | n, d :: ds => Dt.flat n d && Dt.flats n ds
end
mutual
theorem Dn : ∀ (d : Dt) (n : Nat), d.flat n = true → d.py.canLay0 = true ∧ d.py.depth ≤ n
  | .non, n, h => by rw [Dt.py]; exact ⟨rfl, Nat.zero_le _⟩
  | .bl _, n, h => by rw [Dt.py]; exact ⟨rfl, Nat.zero_le _⟩
  | .int _, n, h => by rw [Dt.py]; exact ⟨rfl, Nat.zero_le _⟩
  | .str _, n, h => by rw [Dt.py]; exact ⟨by simpa [Dt.flat] using h, Nat.zero_le _⟩
  | .fn _, n, h => by simp [Dt.flat] at h
  | .exc _ _ _, n, h => by simp [Dt.flat] at h
  | .obj _ _ _, n, h => by simp [Dt.flat] at h
  | .tup ds, 0, h => by simp [Dt.flat] at h
  | .lst ds, 0, h => by simp [Dt.flat] at h
  | .tup ds, n + 1, h => by
    have := HF ds n (by simpa [Dt.flat] using h)
    rw [Dt.py]
    exact ⟨by simpa [PyData.canLay0] using this.1, by simpa [PyData.depth] using this.2⟩
  | .lst ds, n + 1, h => by
    have := HF ds n (by simpa [Dt.flat] using h)
    rw [Dt.py]
    exact ⟨by simpa [PyData.canLay0] using this.1, by simpa [PyData.depth] using this.2⟩
theorem HF : ∀ (ds : List Dt) (n : Nat), Dt.flats n ds = true → PyData.canLayAll0 (Dt.pys ds) = true ∧ PyData.depthAll (Dt.pys ds) ≤ n
  | [], n, h => by rw [Dt.pys]; exact ⟨rfl, Nat.zero_le _⟩
  | d :: ds, n, h => by
    have h' : d.flat n = true ∧ Dt.flats n ds = true := by simpa [Dt.flats] using h
    have h1 := Dn d n h'.1
    have h2 := HF ds n h'.2
    rw [Dt.pys]
    exact ⟨by simp [PyData.canLayAll0, h1.1, h2.1], by simp only [PyData.depthAll]; omega⟩
end
mutual
theorem Jc : ∀ (a b : Dt), a.py.canLay0 = true → b.py.canLay0 = true → PyData.eqv a.py b.py = a.eq b
  | .fn _, b, h, _ => by rw [Dt.py] at h; exact (nomatch h)
  | .exc _ _ _, b, h, _ => by rw [Dt.py] at h; exact (nomatch h)
  | .obj _ _ _, b, h, _ => by rw [Dt.py] at h; exact (nomatch h)
  | a, .fn _, _, h => by rw [Dt.py] at h; exact (nomatch h)
  | a, .exc _ _ _, _, h => by rw [Dt.py] at h; exact (nomatch h)
  | a, .obj _ _ _, _, h => by rw [Dt.py] at h; exact (nomatch h)
  | .non, .non, _, _ => by simp [Dt.py, Dt.eq, PyData.eqv]
  | .non, .bl _, _, _ => by simp [Dt.py, Dt.eq, PyData.eqv]
  | .non, .int _, _, _ => by simp [Dt.py, Dt.eq, PyData.eqv]
  | .non, .str _, _, _ => by simp [Dt.py, Dt.eq, PyData.eqv]
  | .non, .tup _, _, _ => by simp [Dt.py, Dt.eq, PyData.eqv]
  | .non, .lst _, _, _ => by simp [Dt.py, Dt.eq, PyData.eqv]
  | .bl _, .non, _, _ => by simp [Dt.py, Dt.eq, PyData.eqv]
  | .bl _, .bl _, _, _ => by simp [Dt.py, Dt.eq, PyData.eqv]
  | .bl _, .int _, _, _ => by simp [Dt.py, Dt.eq, PyData.eqv]
  | .bl _, .str _, _, _ => by simp [Dt.py, Dt.eq, PyData.eqv]
  | .bl _, .tup _, _, _ => by simp [Dt.py, Dt.eq, PyData.eqv]
  | .bl _, .lst _, _, _ => by simp [Dt.py, Dt.eq, PyData.eqv]
  | .int _, .non, _, _ => by simp [Dt.py, Dt.eq, PyData.eqv]
  | .int _, .bl _, _, _ => by simp [Dt.py, Dt.eq, PyData.eqv]
  | .int i, .int j, _, _ => by
    simp only [Dt.py, Dt.eq, PyData.eqv]
    exact Bool.beq_eq_decide_eq i j
  | .int _, .str _, _, _ => by simp [Dt.py, Dt.eq, PyData.eqv]
  | .int _, .tup _, _, _ => by simp [Dt.py, Dt.eq, PyData.eqv]
  | .int _, .lst _, _, _ => by simp [Dt.py, Dt.eq, PyData.eqv]
  | .str _, .non, _, _ => by simp [Dt.py, Dt.eq, PyData.eqv]
  | .str _, .bl _, _, _ => by simp [Dt.py, Dt.eq, PyData.eqv]
  | .str _, .int _, _, _ => by simp [Dt.py, Dt.eq, PyData.eqv]
  | .str _, .str _, _, _ => by simp [Dt.py, Dt.eq, PyData.eqv]
  | .str _, .tup _, _, _ => by simp [Dt.py, Dt.eq, PyData.eqv]
  | .str _, .lst _, _, _ => by simp [Dt.py, Dt.eq, PyData.eqv]
  | .tup _, .non, _, _ => by simp [Dt.py, Dt.eq, PyData.eqv]
  | .tup _, .bl _, _, _ => by simp [Dt.py, Dt.eq, PyData.eqv]
  | .tup _, .int _, _, _ => by simp [Dt.py, Dt.eq, PyData.eqv]
  | .tup _, .str _, _, _ => by simp [Dt.py, Dt.eq, PyData.eqv]
  | .tup xs, .tup ys, h1, h2 => by
    rw [Dt.py] at h1 h2
    rw [Dt.py, Dt.py, Dt.eq, PyData.eqv]
    exact Mr xs ys (by simpa [PyData.canLay0] using h1) (by simpa [PyData.canLay0] using h2)
  | .tup _, .lst _, _, _ => by simp [Dt.py, Dt.eq, PyData.eqv]
  | .lst _, .non, _, _ => by simp [Dt.py, Dt.eq, PyData.eqv]
  | .lst _, .bl _, _, _ => by simp [Dt.py, Dt.eq, PyData.eqv]
  | .lst _, .int _, _, _ => by simp [Dt.py, Dt.eq, PyData.eqv]
  | .lst _, .str _, _, _ => by simp [Dt.py, Dt.eq, PyData.eqv]
  | .lst _, .tup _, _, _ => by simp [Dt.py, Dt.eq, PyData.eqv]
  | .lst xs, .lst ys, h1, h2 => by
    rw [Dt.py] at h1 h2
    rw [Dt.py, Dt.py, Dt.eq, PyData.eqv]
    exact Mr xs ys (by simpa [PyData.canLay0] using h1) (by simpa [PyData.canLay0] using h2)
theorem Mr : ∀ (xs ys : List Dt), PyData.canLayAll0 (Dt.pys xs) = true → PyData.canLayAll0 (Dt.pys ys) = true → PyData.eqvAll (Dt.pys xs) (Dt.pys ys) = Dt.eqs xs ys
  | [], [], _, _ => by simp [Dt.pys, Dt.eqs, PyData.eqvAll]
  | [], _ :: _, _, _ => by simp [Dt.pys, Dt.eqs, PyData.eqvAll]
  | _ :: _, [], _, _ => by simp [Dt.pys, Dt.eqs, PyData.eqvAll]
  | x :: xs, y :: ys, h1, h2 => by
    rw [Dt.pys] at h1 h2
    have h1' : x.py.canLay0 = true ∧ PyData.canLayAll0 (Dt.pys xs) = true := by simpa [PyData.canLayAll0] using h1
    have h2' : y.py.canLay0 = true ∧ PyData.canLayAll0 (Dt.pys ys) = true := by simpa [PyData.canLayAll0] using h2
    rw [Dt.pys, Dt.pys, Dt.eqs, PyData.eqvAll, Jc x y h1'.1 h2'.1, Mr xs ys h1'.2 h2'.2]
end
noncomputable def W9 (K : PySem.W.Frag) (neg : Bool) : R2 := fun x y H Q => ∃ a b, Rp K H a x ∧ Rp K H b y ∧ a.flat 8 = true ∧ b.flat 8 = true ∧ Q (.bl (if neg then !a.eq b else a.eq b)) H
theorem TV (hu : X.A.units + 64 < cLine) : OpR X (compareOp .Eq) (W9 X.K false) := by
  intro pins s σ H x y v u Q I rx ry ⟨a, b, ra, rb, fa, fb, q⟩
  obtain ⟨ca, da⟩ := Dn a 8 fa
  obtain ⟨cb, db⟩ := Dn b 8 fb
  obtain ⟨as, r1⟩ := Dk I ca ra rx
  obtain ⟨bs, r2⟩ := Dk I cb rb ry
  refine rcAt_reads r1 r2 ca cb (by omega) _ _ _ _ ?_
  rw [Jc a b ca cb]
  exact ⟨.bl _, H, I, rfl, q⟩
theorem Y7 (hu : X.A.units + 64 < cLine) : OpR X (compareOp .NotEq) (W9 X.K true) := by
  intro pins s σ H x y v u Q I rx ry ⟨a, b, ra, rb, fa, fb, q⟩
  obtain ⟨ca, da⟩ := Dn a 8 fa
  obtain ⟨cb, db⟩ := Dn b 8 fb
  obtain ⟨as, r1⟩ := Dk I ca ra rx
  obtain ⟨bs, r2⟩ := Dk I cb rb ry
  refine compareNe_reads r1 r2 ca cb (by omega) ?_
  rw [Jc a b ca cb]
  exact ⟨.bl _, H, I, rfl, q⟩
noncomputable def dEq : D2 := fun a b Q => (a.flat 8 = true ∧ b.flat 8 = true) ∧ Q (.bl (a.eq b))
noncomputable def dNe : D2 := fun a b Q => (a.flat 8 = true ∧ b.flat 8 = true) ∧ Q (.bl (!a.eq b))
theorem U3 {K : PySem.W.Frag} : Gn K (W9 K false) dEq := ⟨fun hq h => ⟨h.1, hq _ h.2⟩, fun O H a b x y Q _ ra rb h => ⟨a, b, ra.mono Bb, rb.mono Bb, h.1.1, h.1.2, h.2 _ H (Same.refl H) (CG.mpr rfl)⟩⟩
theorem Aan {K : PySem.W.Frag} : Gn K (W9 K true) dNe := ⟨fun hq h => ⟨h.1, hq _ h.2⟩, fun O H a b x y Q _ ra rb h => ⟨a, b, ra.mono Bb, rb.mono Bb, h.1.1, h.1.2, h.2 _ H (Same.refl H) (CG.mpr rfl)⟩⟩
theorem Jl (hu : X.A.units + 64 < cLine) (ha : DE X a ta) (hb : DE X b tb) : DE X (.Compare a [.Eq] [b] pos) (dOp dEq ta tb) := Qd (TV hu) U3 ha hb (Gj _)
theorem S8 (hu : X.A.units + 64 < cLine) (ha : DE X a ta) (hb : DE X b tb) : DT X (.Compare a [.Eq] [b] pos) (Jz (dOp dEq ta tb)) := Hz (TV hu) U3 ha hb (Gj _)
theorem Mz (hu : X.A.units + 64 < cLine) (ha : DE X a ta) (hb : DE X b tb) : DT X (.Compare a [.NotEq] [b] pos) (Jz (dOp dNe ta tb)) := Hz (Y7 hu) Aan ha hb (Gj _)
noncomputable def isB (k : Bool) : Dt → Bool
  | .bl b => b == k
  | _ => false
noncomputable def isN : Dt → Bool
  | .non => true
  | _ => false
noncomputable def dIs (neg : Bool) : D2 := fun a b Q => match b with
  | .bl k => Q (.bl (if neg then !isB k a else isB k a))
  | .non => Q (.bl (if neg then !isN a else isN a))
  | _ => False
noncomputable def JQ (t t' : D2) (ta tb tc : DTE) : DTE := fun ρ Q => ta ρ fun a => tb ρ fun b => t a b fun z => match z with
  | .bl k => if k = true then tc ρ fun c => t' b c Q else Q (.bl false)
  | _ => False
theorem O3 {t t' : D2} {ta tb tc : DTE} (m : ∀ {a b Q Q'}, (∀ d, Q d → Q' d) → t a b Q → t a b Q') (m' : ∀ {a b Q Q'}, (∀ d, Q d → Q' d) → t' a b Q → t' a b Q')
    (ma : ∀ {ρ Q Q'}, (∀ d, Q d → Q' d) → ta ρ Q → ta ρ Q') (mb : ∀ {ρ Q Q'}, (∀ d, Q d → Q' d) → tb ρ Q → tb ρ Q') (mc : ∀ {ρ Q Q'}, (∀ d, Q d → Q' d) → tc ρ Q → tc ρ Q') :
    ∀ {ρ Q Q'}, (∀ d, Q d → Q' d) → JQ t t' ta tb tc ρ Q → JQ t t' ta tb tc ρ Q' := fun hq h => ma (fun _ h => mb (fun _ h => m (fun z h => by
      split at h
      · rename_i k
        cases k with
        | true => exact mc (fun _ h => m' hq h) h
        | false => exact hq _ h
      · exact h.elim) h) h) h
theorem RT {K : PySem.W.Frag} {r r' : R2} {t t' : D2} (S : Gn K r t) (S' : Gn K r' t') {ta tb tc : DTE} (ma : ∀ {ρ Q Q'}, (∀ d, Q d → Q' d) → ta ρ Q → ta ρ Q') (mb : ∀ {ρ Q Q'}, (∀ d, Q d → Q' d) → tb ρ Q → tb ρ Q') (mc : ∀ {ρ Q Q'}, (∀ d, Q d → Q' d) → tc ρ Q → tc ρ Q')
    (σ : St) (H : Hp) (Q : VK) (h : lE K (JQ t t' ta tb tc) σ H Q) : Vs r r' (lE K ta) (lE K tb) (lE K tc) σ H Q := by
  obtain ⟨B, F, O, ρ, R, h⟩ := h
  refine ⟨B, F, O, ρ, R, ma (fun a h v H1 s1 r1 => ⟨B, F, O, ρ, R.same s1, mb (fun b h u H2 s2 r2 => ?_) h⟩) h⟩
  refine S.ok _ H2 a b v u _ ((R.same s1).same s2).th (r1.mono s2.mask) r2 (S.mono (fun z h w H3 s3 r3 => ?_) h)
  split at h
  · rename_i k
    refine ⟨k, CG.mp r3, ?_⟩
    have s123 := (s1.trans s2).trans s3
    cases k with
    | true => exact ⟨B, F, O, ρ, R.same s123, mc (fun c h y H4 s4 r4 => S'.ok _ H4 b c u y Q ((R.same s123).same s4).th ((r2.mono s3.mask).mono s4.mask) r4 (S'.mono (fun d q w' H5 s5 r5 => q w' H5 ((s123.trans s4).trans s5) r5) h)) h⟩
    | false => exact h _ H3 s123 (CG.mpr rfl)
  · exact h.elim
theorem Ho {op op' : CmpOp} {r r' : R2} {t t' : D2} (ho : OpR X (compareOp op) r) (ho' : OpR X (compareOp op') r') (S : Gn X.K r t) (S' : Gn X.K r' t') (ha : DE X a ta) (hb : DE X b tb) (hc : DE X c tc)
    (hm : lastMarks [op, op'] [b, c] = false := by with_unfolding_all rfl) : DE X (.Compare a [op, op'] [b, c] pos) (JQ t t' ta tb tc) where
  mono := O3 (t := t) (t' := t') (ta := ta) (tb := tb) (tc := tc) S.mono S'.mono ha.mono hb.mono hc.mono
  pe := (UJ ho ho' ha.pe hb.pe hc.pe hm).imp (RT (ta := ta) (tb := tb) (tc := tc) S S' ha.mono hb.mono hc.mono)
noncomputable abbrev DL := List Dt → (Dt → Prop) → Prop
structure Oe (K : PySem.W.Frag) (r : List V → Hp → VK → Prop) (t : DL) : Prop where
  mono : ∀ {ds Q Q'}, (∀ d, Q d → Q' d) → t ds Q → t ds Q'
  ok : ∀ (O : List Addr) (H : Hp) (ds : List Dt) (xs : List V) (Q : VK), (∀ p ∈ O, H p ≠ none) → RpL K (mask O H) ds xs →
    t ds (fun d => ∀ v H', Same H H' → Rp K (mask O H') d v → Q v H') → r xs H Q
noncomputable def dCB (t : DL) (tl : DTA) : DTE := fun ρ Q => tl ρ fun ds => t ds Q
theorem Us {K : PySem.W.Frag} {r : List V → Hp → VK → Prop} {t : DL} (S : Oe K r t) {tl : DTA} (m : ∀ {ρ Q Q'}, (∀ d, Q d → Q' d) → tl ρ Q → tl ρ Q') (σ : St) (H : Hp) (Q : VK) (h : lE K (dCB t tl) σ H Q) : tCB r (lA K tl) σ H Q := by
  obtain ⟨B, F, O, ρ, R, h⟩ := h
  exact ⟨B, F, O, ρ, R, m (fun ds h vs H1 s1 r1 => S.ok _ H1 ds vs Q (R.same s1).th r1 (S.mono (fun d q v H2 s2 r2 => q v H2 (s1.trans s2) r2) h)) h⟩
theorem QJ {id : String} {x : Str} {p : Pos} {r : List V → Hp → VK → Prop} {t : DL} (hc : Fb X (.builtin id) r) (S : Oe X.K r t) (hg : Gl X x) (hm : X.mg x = none) (hv : bootBuiltins x = some (.builtin id)) (ha : DA X (e :: es) tl) (hn : x ≠ "__name__" := by decide)
    (hdb : (x == ("__debug__" : Str)) = false := by decide) (he : starEach (e :: es) X.env = (false, eval e X.env) :: starEach es X.env := by rfl) (hpl : (backTo pos (starEach es X.env)).any (·.1) = false := by rfl) : DE X (.Call (.Name x p) (e :: es) [] pos) (dCB t tl) where
  mono := fun hq h => ha.mono (fun _ h => S.mono hq h) h
  pe := (Jm hc hg hm hv ha.pa hn hdb he hpl).imp (Us (tl := tl) S ha.mono)
theorem Aci {id : String} {x : Str} {p : Pos} {r : List V → Hp → VK → Prop} {t : DL} (hc : Fb X (.type id) r) (S : Oe X.K r t) (hg : Gl X x) (hm : X.mg x = none) (hv : bootBuiltins x = some (.type id)) (ha : DA X (e :: es) tl) (hn : x ≠ "__name__" := by decide)
    (hdb : (x == ("__debug__" : Str)) = false := by decide) (he : starEach (e :: es) X.env = (false, eval e X.env) :: starEach es X.env := by rfl) (hpl : (backTo pos (starEach es X.env)).any (·.1) = false := by rfl) : DE X (.Call (.Name x p) (e :: es) [] pos) (dCB t tl) where
  mono := fun hq h => ha.mono (fun _ h => S.mono hq h) h
  pe := (Hy hc hg hm hv ha.pa hn hdb he hpl).imp (Us (tl := tl) S ha.mono)
noncomputable def Vo : DL := fun ds Q => match ds with
  | [.lst xs] => Q (.int xs.length)
  | [.tup xs] => Q (.int xs.length)
  | _ => False
noncomputable def Vc : DL := fun ds Q => match ds with
  | [.int i] => Q (.int (if i < 0 then -i else i))
  | _ => False
noncomputable def Tj : DL := fun ds Q => match ds with
  | [.int i, .int j] => Q (.int (if j > i then j else i))
  | _ => False
noncomputable def Adg : DL := fun ds Q => match ds with
  | [.int i, .int j] => Q (.int (if j < i then j else i))
  | _ => False
noncomputable def Mv : DL := fun ds Q => match ds with
  | [.int i] => Q (.int i)
  | [.bl k] => Q (.int (if k then 1 else 0))
  | _ => False
theorem Ww {K : PySem.W.Frag} : Oe K (fun xs H Q => ∃ p ys, xs = [.ref p] ∧ (SqL K H p ys ∨ SqT K H p ys) ∧ Q (.int ys.length) H) Vo where
  mono := fun hq h => by
    unfold Vo at h ⊢
    split at h
    · exact hq _ h
    · exact hq _ h
    · exact h.elim
  ok := fun O H ds xs Q _ r h => by
    unfold Vo at h
    split at h
    · obtain ⟨v, r', rfl, r2, r3⟩ := Az.mp r
      obtain rfl := Bl.mp r3
      obtain ⟨a, ys, rfl, hs, hl⟩ := Dh r2
      exact ⟨a, ys, rfl, .inl (Bb.seq hs), by rw [hl.len]; exact h _ H (Same.refl H) (Ax.mpr rfl)⟩
    · obtain ⟨v, r', rfl, r2, r3⟩ := Az.mp r
      obtain rfl := Bl.mp r3
      obtain ⟨a, ys, rfl, hs, hl⟩ := Ci.mp r2
      exact ⟨a, ys, rfl, .inr (Bb.seqT hs), by rw [hl.len]; exact h _ H (Same.refl H) (Ax.mpr rfl)⟩
    · exact h.elim
theorem Zg {K : PySem.W.Frag} {H : Hp} {i : Int} {xs : List V} (h : RpL K H [.int i] xs) : xs = [.int i] := by
  obtain ⟨v, r, rfl, r2, r3⟩ := Az.mp h
  rw [Bl.mp r3, Ax.mp r2]
theorem Aen {K : PySem.W.Frag} {H : Hp} {i j : Int} {xs : List V} (h : RpL K H [.int i, .int j] xs) : xs = [.int i, .int j] := by
  obtain ⟨v, r, rfl, r2, r3⟩ := Az.mp h
  rw [Zg r3, Ax.mp r2]
theorem WL {K : PySem.W.Frag} : Oe K (fun xs H Q => ∃ i, xs = [.int i] ∧ Q (.int (if i < 0 then -i else i)) H) Vc where
  mono := fun hq h => by
    unfold Vc at h ⊢
    split at h
    · exact hq _ h
    · exact h.elim
  ok := fun O H ds xs Q _ r h => by
    unfold Vc at h
    split at h
    · exact ⟨_, Zg r, h _ H (Same.refl H) (Ax.mpr rfl)⟩
    · exact h.elim
theorem Xm {K : PySem.W.Frag} : Oe K (fun xs H Q => ∃ i j, xs = [.int i, .int j] ∧ Q (.int (if j > i then j else i)) H) Tj where
  mono := fun hq h => by
    unfold Tj at h ⊢
    split at h
    · exact hq _ h
    · exact h.elim
  ok := fun O H ds xs Q _ r h => by
    unfold Tj at h
    split at h
    · exact ⟨_, _, Aen r, h _ H (Same.refl H) (Ax.mpr rfl)⟩
    · exact h.elim
theorem T5 {K : PySem.W.Frag} : Oe K (fun xs H Q => (∃ i, xs = [.int i] ∧ Q (.int i) H) ∨ ∃ k : Bool, xs = [.bl k] ∧ Q (.int (if k then 1 else 0)) H) Mv where
  mono := fun hq h => by
    unfold Mv at h ⊢
    split at h
    · exact hq _ h
    · exact hq _ h
    · exact h.elim
  ok := fun O H ds xs Q _ r h => by
    unfold Mv at h
    split at h
    · exact .inl ⟨_, Zg r, h _ H (Same.refl H) (Ax.mpr rfl)⟩
    · obtain ⟨v, r', rfl, r2, r3⟩ := Az.mp r
      exact .inr ⟨_, by rw [Bl.mp r3, CG.mp r2], h _ H (Same.refl H) (Ax.mpr rfl)⟩
    · exact h.elim
theorem G3 {p : Pos} (hm : X.mg "len" = none) (ha : DA X [a] tl) (hg : Gl X "len" := by rfl) (he : starEach [a] X.env = (false, eval a X.env) :: starEach [] X.env := by rfl) (hpl : (backTo pos (starEach [] X.env)).any (·.1) = false := by rfl) :
    DE X (.Call (.Name "len" p) [a] [] pos) (dCB Vo tl) := QJ Mq Ww hg hm PySem.boot_len ha (he := he) (hpl := hpl)
theorem HX {p : Pos} (hm : X.mg "abs" = none) (ha : DA X [a] tl) (hg : Gl X "abs" := by rfl) (hv : bootBuiltins "abs" = some (.builtin "abs") := by rfl) (he : starEach [a] X.env = (false, eval a X.env) :: starEach [] X.env := by rfl) (hpl : (backTo pos (starEach [] X.env)).any (·.1) = false := by rfl) :
    DE X (.Call (.Name "abs" p) [a] [] pos) (dCB Vc tl) := QJ Ua WL hg hm hv ha (he := he) (hpl := hpl)
theorem S5 {p : Pos} (hm : X.mg "max" = none) (ha : DA X [a, b] tl) (hc : X.calm = true := by rfl) (hg : Gl X "max" := by rfl) (hv : bootBuiltins "max" = some (.builtin "max") := by rfl) (he : starEach [a, b] X.env = (false, eval a X.env) :: starEach [b] X.env := by rfl)
    (hpl : (backTo pos (starEach [b] X.env)).any (·.1) = false := by rfl) : DE X (.Call (.Name "max" p) [a, b] [] pos) (dCB Tj tl) := QJ (RL hc) Xm hg hm hv ha (he := he) (hpl := hpl)
theorem Wa {p : Pos} (hm : X.mg "int" = none) (ha : DA X [a] tl) (hg : Gl X "int" := by rfl) (hv : bootBuiltins "int" = some (.type "int") := by rfl) (he : starEach [a] X.env = (false, eval a X.env) :: starEach [] X.env := by rfl) (hpl : (backTo pos (starEach [] X.env)).any (·.1) = false := by rfl) :
    DE X (.Call (.Name "int" p) [a] [] pos) (dCB Mv tl) := Aci Ss T5 hg hm hv ha (he := he) (hpl := hpl)
noncomputable def tyOf : Dt → String
  | .non => "NoneType"
  | .bl _ => "bool"
  | .int _ => "int"
  | .str _ => "str"
  | .tup _ => "tuple"
  | .lst _ => "list"
  | .fn _ => "function"
  | .exc _ _ _ => "exception"
  | .obj _ _ _ => "instance"
noncomputable def noFn : Dt → Bool
  | .fn _ => false
  | .exc _ _ _ => false
  | .obj _ _ _ => false
  | _ => true
noncomputable def isT (T : String) (d : Dt) : Bool := tyOf d == T || (T == "int" && tyOf d == "bool")
noncomputable def Ka (T : String) : Prop := ∀ (K : PySem.W.Frag) (d : Dt), noFn d = true → PySem.W.kitOne K (.type (tyOf d)) (.type T) = some (isT T d)
theorem SX {T : String} (hT : Ka T) : Fb X (.builtin "isinstance") (fun xs H Q => ∃ d x, xs = [x, .ty T] ∧ Rp X.K H d x ∧ noFn d = true ∧ Q (.bl (isT T d)) H) := by
  intro pins s σ H xs us Q I r ⟨d, x, e, rp, nf, q⟩
  subst e
  obtain ⟨u, u2, rfl, r1, r2⟩ := vals2 r
  cases (show u2 = .type T from r2)
  have hk := hT X.K d nf
  have fin : ∀ tk, EP X pins σ Q (.bool (isT T d)) { s with toks := tk } := fun tk => ⟨.bl _, H, I.tok tk, rfl, q⟩
  cases d with
  | non => rw [K7.mp rp] at r1; cases (show u = Value.none from r1); exact PySem.W.kia_one PySem.W.kitx_none I.kIn True.intro hk (fun z => nomatch z) fin
  | bl y => rw [CG.mp rp] at r1; cases (show u = Value.bool y from r1); exact PySem.W.kia_one PySem.W.kitx_bool I.kIn True.intro hk (fun z => nomatch z) fin
  | int i => rw [Ax.mp rp] at r1; obtain ⟨t, q⟩ := (show ∃ t, u = Value.int i t from r1); cases q; exact PySem.W.kia_one PySem.W.kitx_int I.kIn True.intro hk (fun z => nomatch z) fin
  | str y => rw [Mh.mp rp] at r1; obtain ⟨t, q⟩ := (show ∃ t, u = Value.str y t from r1); cases q; exact PySem.W.kia_one PySem.W.kitx_str I.kIn True.intro hk (fun z => nomatch z) fin
  | fn a => cases nf
  | exc _ _ _ => cases nf
  | obj _ _ _ => cases nf
  | tup ds =>
    obtain ⟨a, ys, rfl, hs, _⟩ := Ci.mp rp
    cases (show u = Value.ref a from r1)
    obtain ⟨_, _, ⟨o, h1, h2, _⟩, _⟩ := I.tuple hs
    exact PySem.W.kia_one PySem.W.kitx_tuple I.kIn ⟨o, h1, h2⟩ hk (fun z => nomatch z) fin
  | lst ds =>
    obtain ⟨a, ys, rfl, hs, _⟩ := Dh rp
    cases (show u = Value.ref a from r1)
    obtain ⟨_, _, ⟨o, n, h1, h2, _⟩, _⟩ := I.list hs
    exact PySem.W.kia_one PySem.W.kitx_list I.kIn ⟨o, h1, h2⟩ hk (fun z => nomatch z) fin
noncomputable def Aby (T : String) (ta : DTE) : DTE := fun ρ Q => ta ρ fun d => noFn d = true ∧ Q (.bl (isT T d))
theorem LQ {T : String} {Ts : Str} {p p2 : Pos} (hm : X.mg "isinstance" = none) (hmT : X.mg Ts = none) (hT : Ka T) (ha : DE X a ta) (hg : Gl X "isinstance" := by rfl) (hgT : Gl X Ts := by rfl) (hv : bootBuiltins "isinstance" = some (.builtin "isinstance") := by rfl)
    (hvT : bootBuiltins Ts = some (.type T) := by rfl) (hn : Ts ≠ "__name__" := by decide) (hd : (Ts == ("__debug__" : Str)) = false := by decide)
    (hs1 : starEach [a, .Name Ts p2] X.env = (false, eval a X.env) :: starEach [.Name Ts p2] X.env := by rfl) (hs2 : starEach [.Name Ts p2] X.env = (false, eval (.Name Ts p2) X.env) :: starEach [] X.env := by rfl)
    (hpl : (backTo pos (starEach [.Name Ts p2] X.env)).any (·.1) = false := by rfl) : DE X (.Call (.Name "isinstance" p) [a, .Name Ts p2] [] pos) (Aby T ta) where
  mono := fun hq h => ha.mono (fun _ h => ⟨h.1, hq _ h.2⟩) h
  pe := (Jm (SX hT) hg hm hv (Ep ha.pe (Ep (X3 (v := .ty T) hgT hmT hvT rfl hn hd) GR hs2) hs1) (he := hs1) (hpl := hpl)).imp fun σ H Q ⟨B, F, O, ρ, R, h⟩ =>
    ⟨B, F, O, ρ, R, ha.mono (fun d h v H1 s1 r1 => ⟨d, v, rfl, r1.mono Bb, h.1, h.2 _ H1 s1 (CG.mpr rfl)⟩) h⟩
noncomputable abbrev DTO := Bj → (Option Int → Prop) → Prop
noncomputable def lO (K : PySem.W.Frag) (t : DTO) : TO := fun σ H Q => ∃ B F O ρ, Rep K B F O H σ ρ ∧ t ρ fun o => ∀ H', Same H H' → Q o H'
structure DO (X : Cx) (e : Option Expr) (t : DTO) : Prop where
  mono : ∀ {ρ Q Q'}, (∀ d, Q d → Q' d) → t ρ Q → t ρ Q'
  po : PO X e (lO X.K t)
noncomputable def Qn : DTO := fun _ Q => Q none
noncomputable def Yh (te : DTE) : DTO := fun ρ Q => te ρ fun d => match d with
  | .int i => Q (some i)
  | _ => False
theorem PO.imp {e : Option Expr} {t t' : TO} (h : PO X e t) (i : ∀ σ H Q, t' σ H Q → t σ H Q) : PO X e t' := fun pins s σ H Q I q => h pins s σ H Q I (i _ _ _ q)
theorem LC : DO X none Qn := ⟨fun hq h => hq _ h, V9.imp fun σ H Q ⟨B, F, O, ρ, R, h⟩ => h H (Same.refl H)⟩
theorem K1 (h : DE X e te) : DO X (some e) (Yh te) where
  mono := fun hq z => h.mono (fun d z => by
    split at z
    · exact hq _ z
    · exact z.elim) z
  po := (Xh h.pe).imp fun σ H Q ⟨B, F, O, ρ, R, z⟩ => ⟨B, F, O, ρ, R, h.mono (fun d z v H1 s1 r1 => by
    split at z
    · exact ⟨_, Ax.mp r1, z H1 s1⟩
    · exact z.elim) z⟩
noncomputable def cutD (xs : List Dt) (lo hi : Option Int) : List Dt := (xs.drop (HT.sIx xs.length 0 lo)).take (HT.sIx xs.length xs.length hi - HT.sIx xs.length 0 lo)
theorem RpL.cut {K : PySem.W.Frag} {H : Hp} {ds : List Dt} {xs : List V} {lo hi : Option Int} (h : RpL K H ds xs) : RpL K H (cutD ds lo hi) (RM xs lo hi) := by
  unfold cutD RM
  rw [h.len]
  exact (h.drop _).take _
noncomputable def Uk (te : DTE) (tl th : DTO) : DTE := fun ρ Q => te ρ fun d => tl ρ fun lo => th ρ fun hi => match d with
  | .lst ds => Q (.lst (cutD ds lo hi))
  | _ => False
theorem Vj {lo hi : Option Expr} {t1 t2 : DTO} {p2 : Pos} (he : DE X e te) (hl : DO X lo t1) (hh : DO X hi t2) : DE X (.Subscript e (.Slice lo hi none p2) pos) (Uk te t1 t2) where
  mono := fun hq z => he.mono (fun d z => hl.mono (fun l z => hh.mono (fun h z => by
    split at z
    · exact hq _ z
    · exact z.elim) z) z) z
  pe := (M9 Q7 he.pe hl.po hh.po).imp fun σ H Q ⟨B, F, O, ρ, R, z⟩ => ⟨B, F, O, ρ, R, he.mono (fun d z v H1 s1 r1 => ⟨B, F, O, ρ, R.same s1, hl.mono (fun l z H2 s2 => ⟨B, F, O, ρ, (R.same s1).same s2, hh.mono (fun h z H3 s3 => by
    split at z
    · obtain ⟨a, xs, rfl, hs, hr⟩ := Dh ((r1.mono s2.mask).mono s3.mask)
      refine ⟨a, xs, rfl, Bb.seq hs, fun p hp => ?_⟩
      have R3 := ((R.same s1).same s2).same s3
      have np : p ∉ F ++ O := fun m => R3.th p m hp
      refine z (.ref p) _ (((s1.trans s2).trans s3).trans (Same.upd hp)) (Gx ⟨p, _, rfl, (G4 np), ?_⟩)
      exact hr.cut.mono (Same.upd hp).mask
    · exact z.elim) z⟩) z⟩) z⟩
end
theorem Xk : Ka "int" := fun K d h => by cases d <;> first | rfl | cases h
theorem Uy : Ka "bool" := fun K d h => by cases d <;> first | rfl | cases h
theorem Rk : Ka "tuple" := fun K d h => by cases d <;> first | rfl | cases h
theorem Tp : Ka "list" := fun K d h => by cases d <;> first | rfl | cases h
end L2
namespace L2
open PySem PySem.Spec PyProof.Rows PySem.SeqAt
theorem GX (env : Env) : ∀ (names : List (Str × NameKind)) (cs : List (Str × Addr)), (∀ y ∈ names, y.2 = .free → ∃ c, env.cells.lookup y.1 = some c) → (∀ n c, cs.lookup n = some c → env.cells.lookup n = some c) →
    ∃ cl, (forIn names cs fun (x : Str × NameKind) (r : List (Str × Addr)) => (if (x.2 == NameKind.free) = true then (do let c ← cellOf env x.1; pure (ForInStep.yield ((x.1, c) :: r))) else pure (ForInStep.yield r) : Sem (ForInStep (List (Str × Addr))))) = pure cl ∧
      (∀ n c, cl.lookup n = some c → env.cells.lookup n = some c) ∧ (∀ n, (cs.lookup n).isSome = true → (cl.lookup n).isSome = true) ∧ ∀ n, (n, NameKind.free) ∈ names → (cl.lookup n).isSome = true
  | [], cs, _, h2 => ⟨cs, rfl, h2, fun _ h => h, fun n h => (nomatch h)⟩
  | (x, k) :: names, cs, h1, h2 => by
    rw [List.forIn_cons]
    by_cases hk : k = .free
    · subst hk
      obtain ⟨c, hc⟩ := h1 (x, .free) List.mem_cons_self rfl
      have e : cellOf env x = pure c := by unfold cellOf; rw [hc]
      have h3 : ∀ n c', ((x, c) :: cs).lookup n = some c' → env.cells.lookup n = some c' := fun n c' q => by
        rw [List.lookup_cons] at q
        split at q
        · rename_i b; cases q; rw [eq_of_beq b]; exact hc
        · exact h2 n c' q
      obtain ⟨cl, g1, g2, g3, g4⟩ := GX env names ((x, c) :: cs) (fun y hy => h1 y (List.mem_cons_of_mem _ hy)) h3
      refine ⟨cl, ?_, g2, fun n q => g3 n ?_, fun n hn => ?_⟩
      · simp only [beq_self_eq_true, if_true, e, pure_bind]
        exact g1
      · rw [List.lookup_cons]; split
        · rfl
        · exact q
      · rcases List.mem_cons.mp hn with q | q
        · cases q
          exact g3 x (by rw [List.lookup_cons]; simp)
        · exact g4 n q
    · have hb : (k == NameKind.free) = false := by simpa using hk
      obtain ⟨cl, g1, g2, g3, g4⟩ := GX env names cs (fun y hy => h1 y (List.mem_cons_of_mem _ hy)) h2
      refine ⟨cl, ?_, g2, g3, fun n hn => ?_⟩
      · simp only [hb, Bool.false_eq_true, if_false, pure_bind]
        exact g1
      · rcases List.mem_cons.mp hn with q | q
        · cases q; exact absurd rfl hk
        · exact g4 n q
theorem Jf {env : Env} {scope : Scope} (h : ∀ y ∈ scope.names, y.2 = .free → ∃ c, env.cells.lookup y.1 = some c) :
    ∃ cl, closureFor scope env = pure cl ∧ (∀ n c, cl.lookup n = some c → env.cells.lookup n = some c) ∧ ∀ n, (n, NameKind.free) ∈ scope.names → ∃ c, cl.lookup n = some c := by
  obtain ⟨cl, g1, g2, _, g4⟩ := GX env scope.names [] h (fun n c q => by simp at q)
  refine ⟨cl, ?_, g2, fun n q => Option.isSome_iff_exists.mp (g4 n q)⟩
  unfold closureFor
  simp only [bind_pure]
  exact g1
noncomputable def Ba (X : Cx) (scope : Scope) (N : List Str) (cl : List (Str × Addr)) (C : Addr) (s₀ : Shared) (H₀ : Hp) (ex : List Addr) : Cx where
  prog := X.prog
  w := X.w
  K := X.K
  mg := X.mg
  base := X.base
  A := X.A
  N := N
  s₀ := s₀
  H₀ := H₀
  env := compEnvC scope cl C X.env
  outer := X.stack
  stack := X.stack
  ex := ex
  fn := fun _ => false
  calm := X.calm
  pn := []
  xe := fun _ _ => False
noncomputable def PTs (X : Cx) (ifs : List Expr) (t : TT) : Prop :=
  ∀ (pins : List (Addr × Obj)) (s : Shared) (σ : St) (H : Hp) (Q : Bool → Hp → Prop), Inv X pins σ H s → t σ H Q →
    wpAny (model X.prog X.w) X.A (forIn ifs true fun c r => if r = true then do let ok ← isTrue c X.env (eval c X.env); pure (ForInStep.yield ok) else pure (ForInStep.yield r)) (TP X pins σ Q) X.xe s
theorem W8 {X : Cx} : PTs X [] (fun _ H Q => Q true H) := fun pins s σ H Q I h => wpAny_tests_nil ⟨H, I, h⟩
theorem W0 {X : Cx} {c : Expr} {t : TT} (h : PT X c t) : PTs X [c] t := fun pins s σ H Q I q => wpAny_tests_one (h pins s σ H Q I q)
noncomputable def Vg (sl : List Nat) (wi : TI) (tt : TT) (te : TE) : TE := fun σ H Q => wi σ H fun J H1 => ∃ vs : List V, sl.map (fun j => σ[j]?) = vs.map (fun v => some (some v)) ∧ ∀ D, H1 D = none →
  ∃ W : Nat → Nat → List V → Hp → Prop, (∃ m, W 0 m [] (upd H1 D (.lst []))) ∧ ∀ i m acc H, W i m acc H →
    (J.stop i H ∧ Q (.ref D) H) ∨
    (J.go i H ∧ ∀ x H', J.yld i H x H' → tt (some x :: vs.map some) H' fun b H2 =>
      if b = true then te (some x :: vs.map some) H2 fun y H3 => H3 D = some (.lst acc) ∧ acc.length < sizeLine ∧ ∃ m', m' < m ∧ W (i + 1) m' (acc ++ [y]) (upd H3 D (.lst (acc ++ [y])))
      else ∃ m', m' < m ∧ W (i + 1) m' acc H2)
theorem DR {env : Env} : ∀ {names : List (Str × NameKind)} {x : Str}, names.lookup x = some .free → env.scope.kind = .function → env.kindOf x = some .cell →
    (names.map fun (n, k) => if (k == NameKind.free && env.scope.kind == .function && env.kindOf n == some .cell) then (n, NameKind.cell) else (n, k)).lookup x = some .cell
  | [], _, h, _, _ => by simp at h
  | (n, k) :: r, x, h, hk, he => by
    have ih := @DR env r x
    show List.lookup x ((if (k == NameKind.free && env.scope.kind == .function && env.kindOf n == some .cell) = true then (n, NameKind.cell) else (n, k)) :: _) = _
    cases hx : x == n with
    | true =>
      simp only [List.lookup_cons, hx] at h
      cases h
      have e := eq_of_beq hx
      subst e
      simp [List.lookup_cons, hk, he]
    | false =>
      simp only [List.lookup_cons, hx] at h
      by_cases hc : (k == NameKind.free && env.scope.kind == .function && env.kindOf n == some .cell) = true
      · rw [if_pos hc]; simp only [List.lookup_cons, hx]; exact ih h hk he
      · rw [if_neg hc]; simp only [List.lookup_cons, hx]; exact ih h hk he
theorem Hi {env : Env} : ∀ {names : List (Str × NameKind)} {x : Str}, (∀ y ∈ names, y.2 ≠ .cell) →
    ((names.map fun (n, k) => if (k == NameKind.free && env.scope.kind == .function && env.kindOf n == some .cell) then (n, NameKind.cell) else (n, k)).lookup x = some .cell ∨
     (names.map fun (n, k) => if (k == NameKind.free && env.scope.kind == .function && env.kindOf n == some .cell) then (n, NameKind.cell) else (n, k)).lookup x = some .free) → (x, NameKind.free) ∈ names
  | [], _, _, h => by simp at h
  | (n, k) :: r, x, hn, h => by
    have ih := @Hi env r x fun y hy => hn y (List.mem_cons_of_mem _ hy)
    have nk : k ≠ .cell := hn (n, k) List.mem_cons_self
    rw [List.map_cons] at h
    by_cases hc : (k == NameKind.free && env.scope.kind == .function && env.kindOf n == some .cell) = true
    · simp only [hc, if_true, List.lookup_cons] at h
      have kf : k = .free := by simp at hc; exact hc.1.1
      subst kf
      cases hx : x == n with
      | true => rw [eq_of_beq hx]; exact List.mem_cons_self
      | false => simp only [hx] at h; exact List.mem_cons_of_mem _ (ih h)
    · have hc' : (k == NameKind.free && env.scope.kind == .function && env.kindOf n == some .cell) = false := by simpa using hc
      simp only [hc', Bool.false_eq_true, if_false, List.lookup_cons] at h
      cases hx : x == n with
      | true =>
        simp only [hx] at h
        have kf : k = .free := by
          rcases h with h | h
          · exact absurd (Option.some.inj h) nk
          · exact Option.some.inj h
        subst kf
        rw [eq_of_beq hx]; exact List.mem_cons_self
      | false => simp only [hx] at h; exact List.mem_cons_of_mem _ (ih h)
section
variable {X : Cx} {elt iter : Expr} {x : Str} {px : Pos} {ifs : List Expr} {scope : Scope} {pos : Pos} {N : List Str} {sl : List Nat} {wi : TI} {tt : TT} {te : TE}
structure Dq (X : Cx) (scope : Scope) (x : Str) (N : List Str) (sl : List Nat) : Prop where
  hx : scope.names.lookup x = some .local
  kind : scope.kind = .function
  cell : ∀ y ∈ scope.names, y.2 ≠ .cell
  names : ∀ y ∈ scope.names, y.2 = .local → scope.names.lookup y.1 = some .local
  free : ∀ y ∈ scope.names, y.2 = .free → X.env.kindOf y.1 = some .cell
  nd : (x :: N).Nodup
  sl : N.map some = sl.map (fun j => X.N[j]?)
  frN : ∀ n ∈ N, scope.names.lookup n = some .free
theorem Nf (S : Dq X scope x N sl) {pins : List (Addr × Obj)} {σ : St} {H : Hp} {s : Shared} {h₁ : Heap} {tk : Nat} {fp : List Addr} {cl : List (Str × Addr)} {vs : List V} {o : Obj} (I : Inv X pins σ H s)
    (hfp : ∀ b ∈ fp, Ih X pins H b) (hob : ∀ b ∈ fp, ∃ o, s.heap.get? b = some o) (hns : h₁.Ns s.heap.objs.size (fun _ => none)) (hsb : Heap.SameBut s.heap.objs.size (s.heap.push o) h₁)
    (hcl : ∀ n c, cl.lookup n = some c → X.env.cells.lookup n = some c) (hcl2 : ∀ n, (n, NameKind.free) ∈ scope.names → ∃ c, cl.lookup n = some c)
    (hvs : sl.map (fun j => σ[j]?) = vs.map (fun v => some (some v))) :
    Inv (Ba X scope (x :: N) cl s.heap.objs.size s H fp) [] (none :: vs.map some) H { s with heap := h₁, toks := tk } := by
  have hL := I.lt
  have keep : ∀ b o, s.heap.get? b = some o → h₁.get? b = some o := fun b o e => (hsb.2 b (Nat.ne_of_lt (Heap.lt_size e))).trans (Heap.get?_push_of_some _ e)
  have kf : X.env.scope.kind = .function := I.ok.kind
  refine ⟨⟨I.ok.mod, ?_, I.ok.glob, I.ok.blt, Nat.le_refl _, fun y z c h1 h2 => I.ok.inj y z c (hcl y c h1) (hcl z c h2), fun y hy => ?_, fun y c h => (by cases h), I.ok.hd, I.ok.frames, .inl rfl, fun b hb => ⟨?_, fun y c e => ?_⟩, fun b o e => I.bs b o e,
    Nat.le_trans I.ok.bsz I.sz, fun b o e hb => ?_, fun b hb hz => ?_, I.stack, I.stkFree⟩, rfl, I.bare, Un.kept keep, ⟨_, hns, fun i y v e1 e2 e3 => ?_⟩, fun y c e => ?_, I.hok.fresh (Nat.le_refl _), fun y c e => I.freeC y c (hcl y c e),
    fun p hp => absurd (show p ∈ ([] : List (Addr × Obj)) from hp) (by simp), I.hok.kept keep, ?_⟩
  · exact S.kind
  · exact hcl2 y (Hi (env := X.env) (fun z hz => S.cell z hz) hy)
  · obtain ⟨o', e⟩ := hob b hb
    exact Nat.ne_of_lt (Heap.lt_size e)
  · exact (hfp b hb).2.2.2.2.1 y c (hcl y c e)
  · rcases (hfp b hb).2.2.2.1 with z | z
    · exact I.ok.noex b o e z
    · exact absurd (Nat.lt_of_lt_of_le (Heap.lt_size e) (Nat.le_trans I.ok.bsz z)) (Nat.lt_irrefl _)
  · rcases List.mem_cons.mp (I.stkSub b hz) with q | q
    · exact (hfp b hb).2.1 q
    · exact (hfp b hb).2.2.1 q
  · cases i with
    | zero => simp at e2
    | succ j =>
      have e1' : N[j]? = some y := by simpa [Ba] using e1
      have e2' : vs[j]? = some v := by
        rw [List.getElem?_cons_succ, List.getElem?_map] at e2
        cases q : vs[j]? with
        | none => rw [q] at e2; cases e2
        | some v' => rw [q] at e2; cases e2; rfl
      have q1 := congrArg (fun l => l[j]?) S.sl
      have q2 := congrArg (fun l => l[j]?) hvs
      simp only [List.getElem?_map, e1', e2', Option.map_some] at q1 q2
      cases hk : sl[j]? with
      | none => rw [hk] at q1; cases q1
      | some k =>
        rw [hk] at q1 q2
        have n1 : X.N[k]? = some y := (Option.some.inj q1).symm
        have n2 : σ[k]? = some (some v) := Option.some.inj q2
        have hfr := S.frN y (List.mem_of_getElem? e1')
        have hm := PySem.mem_of_lookup hfr
        have hc := S.free _ hm rfl
        obtain ⟨m, hn, hl⟩ := I.loc
        obtain ⟨u, r, lk⟩ := hl k y v n1 n2 (.inr (.inl hc))
        refine ⟨u, r, .inr ⟨.inl (DR hfr kf hc), ?_⟩⟩
        rcases lk with ⟨kl, _⟩ | ⟨_, c, ec, ⟨o', ho, hd⟩⟩
        · rw [hc] at kl; cases kl
        · obtain ⟨c', ec'⟩ := hcl2 y hm
          have := hcl y c' ec'
          rw [ec] at this; cases this
          exact ⟨c, ec', o', keep _ _ ho, hd⟩
  · obtain ⟨v, o', ho, hd⟩ := I.cell y c (hcl y c e)
    exact ⟨v, o', keep _ _ ho, hd⟩
  · have l1 := congrArg List.length S.sl
    have l2 := congrArg List.length hvs
    simp only [List.length_map] at l1 l2
    simp [Ba]; omega
theorem XF (S : Dq X scope x N sl) (hc : X.calm = true) (hi : PI X (.Name x px) iter wi) (ht : ∀ cl C s₀ H₀ ex, PTs (Ba X scope (x :: N) cl C s₀ H₀ ex) ifs tt) (he : ∀ cl C s₀ H₀ ex, PE (Ba X scope (x :: N) cl C s₀ H₀ ex) elt te)
    (hs : ∀ x, foldedSetIterable iter X.env x = pure x := by intro _; rfl) : PE X (.ListComp elt [⟨.Name x px, iter, ifs, 0⟩] scope pos) (Vg sl wi tt te) := by
  intro pins s σ H Q I h
  obtain ⟨cl, hclos, hcl, hcl2⟩ := Jf (env := X.env) (scope := scope) fun y hy hf => I.ok.has y.1 (.inl (S.free y hy hf))
  rw [eval_ListComp]
  refine wpAny_comprehension_free (use := none) rfl hs hclos S.kind S.names (thn (hi pins s σ H _ I h) fun v s1 h1 => thn h1 fun itv s2 h2 => ?_)
  obtain ⟨it, fp, tn, J, H2, e, I2, T, st2, f2, vs, hvs, hW⟩ := h2
  subst e
  refine wpAny_newObj_type (wpAny_newFunctionEnv S.cell (by intro y hy; simp at hy) (fun h₁ hns₁ hsb₁ => ?_) S.kind)
  have hD : H2 s2.heap.objs.size = none := I2.fresh
  have I3 : Inv X pins σ (upd H2 s2.heap.objs.size (.lst [])) { s2 with heap := s2.heap.push { cls := .type "list", data := .seq ([] : List Value).toArray }, toks := s2.toks } := I2.lnew (its := []) (ys := []) .nil (Nat.zero_le _)
  have hbD : ∀ b ∈ fp, b ≠ s2.heap.objs.size := fun b hb z => by
    obtain ⟨o', e', _⟩ := T.obj _ _ st2 b hb
    exact absurd (Heap.lt_size e') (by rw [z]; exact Nat.lt_irrefl _)
  have f3 : ∀ b ∈ fp, Ih X pins (upd H2 s2.heap.objs.size (.lst [])) b := fun b hb => ⟨by rw [Bd (hbD b hb)]; exact (f2 b hb).1, (f2 b hb).2⟩
  have ob3 : ∀ b ∈ fp, ∃ o, (s2.heap.push { cls := .type "list", data := .seq ([] : List Value).toArray }).get? b = some o := fun b hb => by
    obtain ⟨o', e', _⟩ := T.obj _ _ st2 b hb
    exact ⟨o', Heap.get?_push_of_some _ e'⟩
  have IC := Nf (tk := s2.toks + ([] : List (Str × Value)).length) S I3 f3 ob3 hns₁ hsb₁ hcl hcl2 hvs
  dsimp only at hsb₁ IC ⊢
  generalize hCC : (s2.heap.push { cls := .type "list", data := .seq ([] : List Value).toArray }).objs.size = C at hns₁ hsb₁ IC ⊢
  have old : ∀ b o, s2.heap.get? b = some o → h₁.get? b = some o := fun b o e => by
    have e1 : (s2.heap.push { cls := .type "list", data := .seq ([] : List Value).toArray }).get? b = some o := Heap.get?_push_of_some _ e
    exact (hsb₁.2 b (by rw [← hCC]; exact Nat.ne_of_lt (Heap.lt_size e1))).trans (Heap.get?_push_of_some _ e1)
  have st₁ : tn 0 h₁ := T.keep _ _ _ st2 fun b hb o e => old b o e
  obtain ⟨W, ⟨m0, w0⟩, turn⟩ := hW s2.heap.objs.size hD
  have fpC : ∀ {H' : Hp} {pl : List (Addr × Obj)}, (∀ b ∈ fp, H' b = none) → (∀ p ∈ pl, p.1 ∉ fp) → ∀ b ∈ fp, Ih (Ba X scope (x :: N) cl C { s2 with heap := s2.heap.push { cls := .type "list", data := .seq ([] : List Value).toArray }, toks := s2.toks } (upd H2 s2.heap.objs.size (.lst [])) fp) pl H' b := fun {H' pl} hn hp b hb => by
    refine ⟨hn b hb, (IC.ok.exf b hb).1, IC.ok.exfs b hb, .inl hb, (IC.ok.exf b hb).2, fun p hq z => ?_⟩
    have hq' : p ∈ pl := by simpa [Ba] using hq
    exact hp p hq' (by rw [z]; exact hb)
  have done : ∀ {σ' : St} {H' : Hp} {s' : Shared}, Inv (Ba X scope (x :: N) cl C { s2 with heap := s2.heap.push { cls := .type "list", data := .seq ([] : List Value).toArray }, toks := s2.toks } (upd H2 s2.heap.objs.size (.lst [])) fp) [] σ' H' s' → Q (.ref s2.heap.objs.size) H' →
      ∃ m, s'.heap.Ns C m ∧ ∀ h', Heap.SameBut C s'.heap h' → EP X pins σ Q (.ref s2.heap.objs.size) { s' with heap := h' } := fun {σ' H' s'} J q => by
    obtain ⟨m, hn, _⟩ := id J.loc
    refine ⟨m, hn, fun h' hs' => ⟨.ref s2.heap.objs.size, H', ?_, rfl, q⟩⟩
    have u : Un (frs X.stack) fp H2 H' s2.heap s'.heap := (Un.laid (fun b u e => Heap.get?_push_of_some _ e) (Nat.le_refl _) hD).trans J.base
    have nC : ∀ b o, s2.heap.get? b = some o → b ≠ C := fun b o e => by
      have e1 : (s2.heap.push { cls := .type "list", data := .seq ([] : List Value).toArray }).get? b = some o := Heap.get?_push_of_some _ e
      rw [← hCC]; exact Nat.ne_of_lt (Heap.lt_size e1)
    have u' : Un (frs X.stack) fp H2 H' s2.heap h' :=
      ⟨fun b o e n hb hx => (hs'.2 b (nC b o e)).trans (u.keep b o e n hb hx), fun b o e n hb hx => let ⟨sl, q⟩ := u.slot b o e n hb hx; ⟨sl, (hs'.2 b (nC b o e)).trans q⟩, u.free, fun b o e hx => let ⟨o', q⟩ := u.there b o e hx; ⟨o', (hs'.2 b (nC b o e)).trans q⟩, u.tups, u.frzs, u.tbls⟩
    have hok : HOk X.prog X.w H' h' := fun b ob e => (J.hok b ob e).stay (fun c w' hc q => (hs'.2 c (by
      rintro rfl
      have hf : H' c = none := J.free
      rcases hc with rfl | hc
      · rw [hf] at e; cases e
      · rw [hf] at hc; cases hc)).trans q) (fun _ q => q) fun _ _ q => q
    have hos : s'.os = s2.os := J.os
    exact I2.call' (s' := { s' with heap := h' }) (ch := fp) hos u' hok J.bare fun b hb => ⟨(f2 b hb).2.2.2.1, (f2 b hb).2.1, (f2 b hb).2.2.2.2.1, (f2 b hb).2.2.2.2.2⟩
  have loop : codeAny (model X.prog X.w) X.A (.compLoop (.ListComp elt [⟨.Name x px, iter, ifs, 0⟩] scope pos) 0 (.ref it) (.ref s2.heap.objs.size) (compEnvC scope cl C X.env)) (compPost (model X.prog X.w) X.A X.xe none (EP X pins σ Q) (.ref s2.heap.objs.size) C)
      { s2 with heap := h₁, toks := s2.toks + ([] : List (Str × Value)).length } := by
    refine codeAny_compLoop_tests (fun n s' => ∃ i acc σ' H', Inv (Ba X scope (x :: N) cl C { s2 with heap := s2.heap.push { cls := .type "list", data := .seq ([] : List Value).toArray }, toks := s2.toks } (upd H2 s2.heap.objs.size (.lst [])) fp) [] σ' H' s' ∧ (∃ y, σ' = y :: vs.map some) ∧
      tn i s'.heap ∧ (∀ b ∈ fp, H' b = none) ∧ W i n acc H') ?_ m0 ⟨0, [], _, _, IC, ⟨none, rfl⟩, st₁, fun b hb => (f3 b hb).1, w0⟩
    rintro n s3 ⟨i, acc, σ3, H3, I4, ⟨y, rfl⟩, st3, fr3, w3⟩
    rcases turn i n acc H3 w3 with ⟨stop, qn⟩ | ⟨go, step⟩
    · refine wpAny_mono (T.done (Ba X scope (x :: N) cl C { s2 with heap := s2.heap.push { cls := .type "list", data := .seq ([] : List Value).toArray }, toks := s2.toks } (upd H2 s2.heap.objs.size (.lst [])) fp) rfl rfl rfl hc i [] s3 _ H3 (fun _ _ => False) I4 (fpC fr3 (by simp)) st3 stop) (fun r s4 ⟨hr, I5⟩ => ?_) fun _ _ z => False.elim z
      subst hr
      exact done I5 qn
    · refine wpAny_mono (T.item (Ba X scope (x :: N) cl C { s2 with heap := s2.heap.push { cls := .type "list", data := .seq ([] : List Value).toArray }, toks := s2.toks } (upd H2 s2.heap.objs.size (.lst [])) fp) rfl rfl rfl hc i [] s3 _ H3 (fun _ _ => False) I4 (fpC fr3 (by simp)) st3 go) (fun r s4 ⟨u, hr, h4⟩ => ?_) fun _ _ z => False.elim z
      subst hr
      have e0 : ∀ (k : Unit → Sem Unit), (letOwnedTupleGo (.Name x px) (.ref it) u >>= k) = k () := fun k => rfl
      have hg : PG (Ba X scope (x :: N) cl C { s2 with heap := s2.heap.push { cls := .type "list", data := .seq ([] : List Value).toArray }, toks := s2.toks } (upd H2 s2.heap.objs.size (.lst [])) fp) (.Name x px) (Q5 0) := Mt S.nd rfl (.inl (lookup_relabel_local S.hx)) (.inr (lookup_relabel_local S.hx))
      show wpAny (model X.prog X.w) X.A (assign (.Name x px) (compEnvC scope cl C X.env) u) _ _ s4
      rw [← e0 fun _ => assign (.Name x px) (compEnvC scope cl C X.env) u]
      refine wpAny_bind (wpAny_mono h4 (fun _ s5 ⟨z, H5, I5, r5, y5, st5, fr5⟩ => ?_) fun _ _ z => False.elim z)
      have I5' := I5.pinned (fpC fr5 (by simp)) (T.obj _ _ st5)
      have W5 := hg _ s5 _ H5 z u (fun σ' H' => σ' = some z :: vs.map some ∧ H' = H5) I5' r5 ⟨rfl, rfl⟩
      refine wpAny_mono W5 (fun _ s6 ⟨σ6, H6, I6, e6, e7⟩ => ?_) fun _ _ z => False.elim z
      subst e6 e7
      refine wpAny_mono (ht _ _ _ _ _ _ s6 _ H6 _ I6 (step z H6 y5)) (fun b s7 ⟨H7, I7, q7⟩ => ?_) fun _ _ z => False.elim z
      have again : ∀ {H8 : Hp} {s8 : Shared} {acc' : List V}, Inv (Ba X scope (x :: N) cl C { s2 with heap := s2.heap.push { cls := .type "list", data := .seq ([] : List Value).toArray }, toks := s2.toks } (upd H2 s2.heap.objs.size (.lst [])) fp) ([] ++ Hx fp s5.heap) (some z :: vs.map some) H8 s8 → (∃ m', m' < n ∧ W (i + 1) m' acc' H8) → ∃ m, m < n ∧ ∃ i acc σ' H', Inv (Ba X scope (x :: N) cl C { s2 with heap := s2.heap.push { cls := .type "list", data := .seq ([] : List Value).toArray }, toks := s2.toks } (upd H2 s2.heap.objs.size (.lst [])) fp) [] σ' H' s8 ∧ (∃ y, σ' = y :: vs.map some) ∧ tn i s8.heap ∧ (∀ b ∈ fp, H' b = none) ∧ W i m acc H' := fun {H8 s8 acc'} I8 ⟨m', hm, w8⟩ => by
        refine ⟨m', hm, i + 1, acc', _, H8, I8.unpinned, ⟨_, rfl⟩, T.keep _ _ _ st5 fun b hb o e => (I8.pin (b, o) (List.mem_append_right _ (List.mem_append_right _ (Du hb e)))).1, fun b hb => ?_, w8⟩
        obtain ⟨o, e, d⟩ := T.obj _ _ st5 b hb
        exact (I8.pin (b, o) (List.mem_append_right _ (List.mem_append_right _ (Du hb e)))).2.1
      cases b with
      | false => exact again I7 q7
      | true =>
        rw [if_pos rfl]
        refine wpAny_mono (he _ _ _ _ _ _ s7 _ H7 _ I7 q7) (fun v8 s8 ⟨x8, H8, I8, r8, hD8, hz8, q8⟩ => ?_) fun _ _ z => False.elim z
        refine wpAny_mono (HN (X := (Ba X scope (x :: N) cl C { s2 with heap := s2.heap.push { cls := .type "list", data := .seq ([] : List Value).toArray }, toks := s2.toks } (upd H2 s2.heap.objs.size (.lst [])) fp)) _ s8 _ H8 (.ref s2.heap.objs.size) [x8] (.ref s2.heap.objs.size) [v8] (fun _ H9 => H9 = upd H8 s2.heap.objs.size (.lst (acc ++ [x8]))) I8 rfl (.cons r8 .nil) ⟨_, acc, x8, rfl, rfl, hD8, hz8, rfl⟩) (fun _ s9 ⟨_, H9, I9, _, e9⟩ => ?_) fun _ _ z => False.elim z
        subst e9
        exact again I9 q8
  exact codeAny_compStart_list loop (T.self _ 0 _ _ _ st₁ loop)
noncomputable def inner (sl : List Nat) (ρ : Bj) (d : Dt) : Bj := some (.is d) :: sl.map fun j => (ρ[j]?).join
structure DTs (X : Cx) (ifs : List Expr) (t : DTT) : Prop where
  mono : ∀ {ρ Q Q'}, (∀ d, Q d → Q' d) → t ρ Q → t ρ Q'
  pts : PTs X ifs (lT X.K t)
noncomputable def Ob : DTT := fun _ Q => Q true
theorem Wy : DTs X [] Ob := ⟨fun hq h => hq _ h, fun pins s σ H Q I ⟨B, F, O, ρ, R, h⟩ => W8 pins s σ H Q I (h H (Same.refl H))⟩
theorem W4 {c : Expr} {t : DTT} (h : DT X c t) : DTs X [c] t := ⟨h.mono, W0 h.pt⟩
noncomputable def caught (sl : List Nat) (ρ : Bj) : Prop := ∀ j ∈ sl, ∃ d, ρ[j]? = some (some (.is d))
noncomputable def GP (sl : List Nat) (ti : DTI) (tt : DTT) (te : DTE) : DTE := fun ρ Q => ti ρ fun items => items.length ≤ sizeLine ∧ caught sl ρ ∧
  ∃ W : Nat → List Dt → Prop, W 0 [] ∧ (∀ (k : Nat) d acc, items[k]? = some d → W k acc → tt (inner sl ρ d) fun b => if b = true then te (inner sl ρ d) fun e => W (k + 1) (acc ++ [e]) else W (k + 1) acc) ∧
    ∀ acc, acc.length ≤ items.length → W items.length acc → Q (.lst acc)
theorem Ia {K : PySem.W.Frag} {B : Hp} {F O : List Addr} {H : Hp} {σ : St} {ρ : Bj} (R : Rep K B F O H σ ρ) : ∀ {sl : List Nat}, caught sl ρ → ∃ vs ds, sl.map (fun j => σ[j]?) = vs.map (fun v => some (some v)) ∧ sl.map (fun j => (ρ[j]?).join) = ds.map (fun d => some (En.is d)) ∧ RpL K (mask (F ++ O) H) ds vs
  | [], _ => ⟨[], [], rfl, rfl, RpL.nil⟩
  | j :: sl, h => by
    obtain ⟨d, e⟩ := h j List.mem_cons_self
    obtain ⟨v, e1, e2⟩ := R.is j d e
    obtain ⟨vs, ds, h1, h2, h3⟩ := Ia R (sl := sl) fun k hk => h k (List.mem_cons_of_mem _ hk)
    exact ⟨v :: vs, d :: ds, by simp [e1, h1], by simp [e, h2], RpL.cons e2 h3⟩
theorem RP {K : PySem.W.Frag} {F : List Addr} {H : Hp} {d : Dt} {v : V} {ds : List Dt} {vs : List V} (th : ∀ a ∈ F, H a ≠ none) (r : Rp K (mask F H) d v) (rs : RpL K (mask F H) ds vs) :
    Rep K (fun _ => none) F [] H (some v :: vs.map some) (some (.is d) :: ds.map fun d => some (En.is d)) := by
  have e : mask (F ++ []) H = mask F H := by rw [List.append_nil]
  have noown : ∀ (i : Nat) (es : En), (∀ z, es ≠ .is z) → (some (En.is d) :: ds.map fun d => some (En.is d))[i]? = some (some es) → False := fun i es nz q => by
    cases i with
    | zero => cases q; exact nz _ rfl
    | succ j =>
      rw [List.getElem?_cons_succ, List.getElem?_map] at q
      cases z : ds[j]? with
      | none => rw [z] at q; cases q
      | some y => rw [z] at q; cases q; exact nz _ rfl
  refine ⟨by simp [rs.len], fun a o q => (nomatch q), fun a h => (nomatch h), fun a h => th a (by simpa using h), fun i y q => ?_, fun i es q => (noown i _ (fun _ z => by cases z) q).elim, fun i j es es' a h1 => (noown i _ (fun _ z => by cases z) h1).elim, fun i es q => (noown i _ (fun _ z => by cases z) q).elim, fun i j es es' a h1 => (noown i _ (fun _ z => by cases z) h1).elim⟩
  rw [e]
  cases i with
  | zero => cases q; exact ⟨v, rfl, r⟩
  | succ j =>
    rw [List.getElem?_cons_succ, List.getElem?_map] at q
    cases z : ds[j]? with
    | none => rw [z] at q; cases q
    | some y' =>
      rw [z] at q; cases q
      obtain ⟨u, h1, h2⟩ := rs.get z
      exact ⟨u, by rw [List.getElem?_cons_succ, List.getElem?_map, h1]; rfl, h2⟩
theorem Oh {K : PySem.W.Frag} {sl : List Nat} {ti : DTI} {dt : DTT} {de : DTE} (mi : ∀ {ρ Q Q'}, (∀ d, Q d → Q' d) → ti ρ Q → ti ρ Q') (mt : ∀ {ρ Q Q'}, (∀ d, Q d → Q' d) → dt ρ Q → dt ρ Q') (me : ∀ {ρ Q Q'}, (∀ d, Q d → Q' d) → de ρ Q → de ρ Q')
    (σ : St) (H : Hp) (Q : VK) (h : lE K (GP sl ti dt de) σ H Q) : Vg sl (lI K ti) (lT K dt) (lE K de) σ H Q := by
  obtain ⟨B, F, O, ρ, R, h⟩ := h
  refine ⟨B, F, O, ρ, R, mi (fun items ⟨h1, h2, W, w0, st, fin⟩ J H1 s1 it => ?_) h⟩
  have R1 := R.same s1
  obtain ⟨vs, ds, ev, ed, rs⟩ := Ia R1 h2
  refine ⟨vs, ev, fun D hD => ?_⟩
  have nD : D ∉ F ++ O := fun z => R1.th D z hD
  have sM : Same (mask (F ++ O) H1) (mask (F ++ O) (upd H1 D (.lst []))) := (Same.upd hD).mask
  refine ⟨fun i m acc H2 => m + i = items.length ∧ H2 D = some (.lst acc) ∧ acc.length ≤ i ∧ Same H1 H2 ∧ ∃ as, RpL K (mask (D :: (F ++ O)) H2) as acc ∧ W i as, ⟨items.length, by omega, BR, Nat.le_refl _, Same.upd hD, [], RpL.nil, w0⟩, ?_⟩
  rintro i m acc H2 ⟨hm, e2, hl, s2, as, ra, w⟩
  have sb : Same (mask (F ++ O) H1) H2 := fun a o e => s2 a o (BX e).2
  have sD : Same (mask (F ++ O) H1) (mask (D :: (F ++ O)) H2) := fun a o e => by
    obtain ⟨q, e⟩ := BX e
    rw [Ay fun z => by
      rcases List.mem_cons.mp z with z | z
      · rw [z, hD] at e; cases e
      · exact q z]
    exact s2 a o e
  obtain ⟨go, stop⟩ := it H2 sb
  by_cases hlt : i < items.length
  · refine .inr ⟨(go i items[i] (by simp [hlt])).1, fun z H3 y => ?_⟩
    obtain ⟨e, r⟩ := (go i items[i] (by simp [hlt])).2 z H3 y
    subst e
    have th : ∀ a ∈ D :: (F ++ O), H3 a ≠ none := fun a ha q => by
      rcases List.mem_cons.mp ha with z | z
      · rw [z, e2] at q; cases q
      · have := R1.th a z
        cases q' : H1 a with
        | none => exact this q'
        | some o => rw [s2 a o q'] at q; cases q
    have R3 := RP th (r.mono sD) (rs.mono sD)
    have ei : some (En.is items[i]) :: ds.map (fun d => some (En.is d)) = inner sl ρ items[i] := by unfold inner; rw [ed]
    rw [ei] at R3
    refine ⟨_, _, _, _, R3, mt (fun b q H4 s4 => ?_) (st i _ as (by simp [hlt]) w)⟩
    cases b with
    | false =>
      refine ⟨m - 1, by omega, by omega, s4 _ _ e2, by omega, s2.trans s4, as, ra.mono s4.mask, q⟩
    | true =>
      refine ⟨_, _, _, _, R3.same s4, me (fun e q v5 H5 s5 r5 => ?_) q⟩
      have e5 : H5 D = some (.lst acc) := s5 _ _ (s4 _ _ e2)
      have hz : acc.length < sizeLine := by omega
      have s6 : Same (mask (D :: (F ++ O)) H5) (mask (D :: (F ++ O)) (upd H5 D (.lst (acc ++ [v5])))) := fun a o q => by
        obtain ⟨n, q⟩ := BX q
        rw [Ay n, Bd fun z => n (by rw [z]; exact List.mem_cons_self)]; exact q
      have em : mask (D :: (F ++ O) ++ []) H5 = mask (D :: (F ++ O)) H5 := by rw [List.append_nil]
      rw [em] at r5
      refine ⟨e5, hz, m - 1, by omega, by omega, BR, by simp; omega, fun a o q => ?_, as ++ [e], (((ra.mono s4.mask).mono s5.mask).append (RpL.cons r5 RpL.nil)).mono s6, q⟩
      rw [Bd (CN q hD)]
      exact s5 _ _ (s4 _ _ (s2 a o q))
  · have e : i = items.length := by omega
    subst e
    refine .inl ⟨stop, fin as (by rw [← ra.len]; exact hl) w (.ref D) H2 (s1.trans s2) (Gx ⟨D, acc, rfl, (by rw [Ay nD]; exact e2), ra.mono (Fg fun a h => List.mem_cons_of_mem _ h)⟩)⟩
theorem Tr {ti : DTI} {dt : DTT} {de : DTE} (S : Dq X scope x N sl) (hc : X.calm = true) (hi : DI X (.Name x px) iter ti) (ht : ∀ cl C s₀ H₀ ex, DTs (Ba X scope (x :: N) cl C s₀ H₀ ex) ifs dt) (he : ∀ cl C s₀ H₀ ex, DE (Ba X scope (x :: N) cl C s₀ H₀ ex) elt de)
    (hs : ∀ x, foldedSetIterable iter X.env x = pure x := by intro _; rfl) : DE X (.ListComp elt [⟨.Name x px, iter, ifs, 0⟩] scope pos) (GP sl ti dt de) := by
  have mt : ∀ {ρ Q Q'}, (∀ d, Q d → Q' d) → dt ρ Q → dt ρ Q' := (ht [] 0 X.s₀ X.H₀ []).mono
  have me : ∀ {ρ Q Q'}, (∀ d, Q d → Q' d) → de ρ Q → de ρ Q' := (he [] 0 X.s₀ X.H₀ []).mono
  refine ⟨fun hq h => hi.mono (fun items ⟨h1, h2, W, w0, st, fin⟩ => ⟨h1, h2, W, w0, st, fun acc l w => hq _ (fin acc l w)⟩) h, ?_⟩
  refine (XF (tt := lT X.K dt) (te := lE X.K de) S hc hi.pi (fun cl C s₀ H₀ ex => (ht cl C s₀ H₀ ex).pts) (fun cl C s₀ H₀ ex => (he cl C s₀ H₀ ex).pe) hs).imp (Oh (ti := ti) (dt := dt) (de := de) hi.mono mt me)
theorem Uw {c : Expr} {ti : DTI} {dt : DTT} {de : DTE} (S : Dq X scope x N sl) (hc : X.calm = true) (hi : DI X (.Name x px) iter ti) (ht : ∀ cl C s₀ H₀ ex, DT (Ba X scope (x :: N) cl C s₀ H₀ ex) c dt) (he : ∀ cl C s₀ H₀ ex, DE (Ba X scope (x :: N) cl C s₀ H₀ ex) elt de)
    (hs : ∀ x, foldedSetIterable iter X.env x = pure x := by intro _; rfl) : DE X (.ListComp elt [⟨.Name x px, iter, [c], 0⟩] scope pos) (GP sl ti dt de) := Tr S hc hi (fun _ _ _ _ _ => W4 (ht _ _ _ _ _)) he hs
end
end L2
namespace L2
open PySem PySem.Spec PyProof.Rows PySem.SeqAt
noncomputable def YB (sc scope : Scope) (NN : List Str) (x : Str) (N : List Str) (sl : List Nat) : Bool :=
  decide (scope.names.lookup x = some .local) && decide (scope.kind = .function) && scope.names.all (fun y => decide (y.2 ≠ .cell)) && scope.names.all (fun y => decide (y.2 = .local → scope.names.lookup y.1 = some .local)) &&
    scope.names.all (fun y => decide (y.2 = .free → sc.names.lookup y.1 = some .cell)) && decide (x :: N).Nodup && decide (N.map some = sl.map (fun j => NN[j]?)) && N.all (fun n => decide (scope.names.lookup n = some .free))
theorem Kf {X : Cx} {sc scope : Scope} {NN : List Str} {x : Str} {N : List Str} {sl : List Nat} (h1 : X.env.scope = sc) (h2 : X.N = NN) (h : YB sc scope NN x N sl = true) : Dq X scope x N sl := by
  subst h1 h2
  unfold YB at h
  simp only [Bool.and_eq_true, decide_eq_true_eq, List.all_eq_true] at h
  obtain ⟨⟨⟨⟨⟨⟨⟨a, b⟩, c⟩, d⟩, e⟩, f⟩, g⟩, i⟩ := h
  exact ⟨a, b, c, d, e, f, g, i⟩
noncomputable def Bt (n : Nat) (x : Int) : Prop := x.natAbs < 2 ^ n
theorem Bt.le {n m : Nat} {x : Int} (h : Bt n x) (l : n ≤ m) : Bt m x := Nat.lt_of_lt_of_le h (Nat.pow_le_pow_right (by decide) l)
theorem Bt.mul {n m : Nat} {x y : Int} (a : Bt n x) (b : Bt m y) : Bt (n + m) (x * y) := by
  unfold Bt at *
  rw [Int.natAbs_mul, Nat.pow_add]
  exact Nat.mul_lt_mul'' a b
theorem Bt.add {n m : Nat} {x y : Int} (a : Bt n x) (b : Bt m y) : Bt (max n m + 1) (x + y) := by
  have a' := a.le (Nat.le_max_left n m)
  have b' := b.le (Nat.le_max_right n m)
  unfold Bt at *
  rw [Nat.pow_succ]
  have := Int.natAbs_add_le x y
  omega
theorem Bt.neg {n : Nat} {x : Int} (a : Bt n x) : Bt n (-x) := by unfold Bt at *; rw [Int.natAbs_neg]; exact a
theorem Bt.sub {n m : Nat} {x y : Int} (a : Bt n x) (b : Bt m y) : Bt (max n m + 1) (x - y) := by rw [Int.sub_eq_add_neg]; exact a.add b.neg
theorem Bt.of_abs {n : Nat} {x : Int} (h : x.natAbs < 2 ^ n) : Bt n x := h
theorem Bt.of {n : Nat} {x : Int} (h1 : -(2 ^ n) < x) (h2 : x < 2 ^ n) : Bt n x := by
  unfold Bt
  have : ((x.natAbs : Nat) : Int) < ((2 ^ n : Nat) : Int) := by push_cast; omega
  omega
theorem Bt.mulOk {n m : Nat} {x y : Int} (a : Bt n x) (b : Bt m y) (hn : n ≤ 1048576 := by decide) (hm : m ≤ 1048576 := by decide) : IntMulOk x y :=
  IntMulOk.of_bits (intBits_le_iff.mpr (a.le hn)) (intBits_le_iff.mpr (b.le hm))
theorem Bt.divOk {n : Nat} {x y : Int} (a : Bt n y) (h : y ≠ 0) (hn : n ≤ 9000 := by decide) : CDv x y := ⟨h, a.le hn⟩
theorem Bt.zero : Bt 0 0 := by unfold Bt; decide
theorem Bt.one : Bt 1 1 := by unfold Bt; decide
end L2
namespace L2
open PySem PySem.Spec PyProof.Rows PySem.SeqAt
section
variable {a b c d e f : Dt} {r s : List Dt} {i j : Int} {k l : Bool} {n : Nat} {x y : Str}
theorem AdK : ixD 0 (.tup (a :: r)) = some a := rfl
theorem AdZ : ixD 1 (.tup (a :: b :: r)) = some b := rfl
theorem Ad4 : ixD 2 (.tup (a :: b :: c :: r)) = some c := rfl
theorem AeS : ixD 3 (.tup (a :: b :: c :: d :: r)) = some d := rfl
theorem Ad2 : ixD 0 (.lst (a :: r)) = some a := rfl
theorem AdE : ixD 1 (.lst (a :: b :: r)) = some b := rfl
theorem Ac9 : ixD 2 (.lst (a :: b :: c :: r)) = some c := rfl
theorem AeQ : ixD 3 (.lst (a :: b :: c :: d :: r)) = some d := rfl
theorem U6 : Dt.eq (.int i) (.int j) = decide (i = j) := by rw [Dt.eq]
theorem Ack : Dt.eq (.bl k) (.bl l) = (k == l) := by rw [Dt.eq]
theorem Yx : Dt.eq (.str x) (.str y) = (x == y) := by rw [Dt.eq]
theorem Abx : Dt.eq .non .non = true := by rw [Dt.eq]
theorem AcM : Dt.eq .non (.int i) = false := by simp [Dt.eq]
theorem Ac7 : Dt.eq .non (.tup r) = false := by simp [Dt.eq]
theorem Abd : Dt.eq (.tup r) .non = false := by simp [Dt.eq]
theorem Yc : Dt.eq (.tup r) (.tup s) = Dt.eqs r s := by rw [Dt.eq]
theorem Ys : Dt.eq (.lst r) (.lst s) = Dt.eqs r s := by rw [Dt.eq]
theorem Vv : Dt.eqs [] [] = true := by rw [Dt.eqs]
theorem Uh : Dt.eqs (a :: r) (b :: s) = (Dt.eq a b && Dt.eqs r s) := by rw [Dt.eqs]
theorem Aax : Dt.eqs [] (b :: s) = false := by simp [Dt.eqs]
theorem Z7 : Dt.eqs (b :: s) [] = false := by simp [Dt.eqs]
theorem S9 : Dt.flat n (.int i) = true := by cases n <;> rw [Dt.flat] <;> simp
theorem ZD : Dt.flat n (.bl k) = true := by cases n <;> rw [Dt.flat] <;> simp
theorem Aao : Dt.flat n .non = true := by cases n <;> rw [Dt.flat] <;> simp
theorem PN : Dt.flat (n + 1) (.tup r) = Dt.flats n r := by rw [Dt.flat]
theorem Vy : Dt.flat (n + 1) (.lst r) = Dt.flats n r := by rw [Dt.flat]
theorem QF : Dt.flat 8 (.tup r) = Dt.flats 7 r := PN
theorem QT : Dt.flat 8 (.lst r) = Dt.flats 7 r := Vy
theorem Qi : Dt.flat 7 (.tup r) = Dt.flats 6 r := PN
theorem WD : Dt.flat 7 (.lst r) = Dt.flats 6 r := Vy
theorem XH : Dt.flat 6 (.tup r) = Dt.flats 5 r := PN
theorem Qz : Dt.flats n [] = true := by rw [Dt.flats]
theorem Qk : Dt.flats n (a :: r) = (Dt.flat n a && Dt.flats n r) := by rw [Dt.flats]
theorem Nx {N : Str} {M : List Str} : Df (N :: M) (a :: r) = some (.is a) :: Df M r := by
  unfold Df
  simp only [List.map_cons, List.length_cons, List.cons_append, Nat.add_sub_add_right]
theorem Od {N : Str} {M : List Str} : Df (N :: M) [] = none :: Df M [] := by
  unfold Df
  simp [List.replicate_succ]
theorem Nv : Df [] [] = [] := rfl
theorem Bk (h : n ≤ 1000) : n ≤ sizeLine := Nat.le_of_lt (Rw h)
theorem Zn : isT "tuple" (.tup r) = true := rfl
theorem Aaf : isT "list" (.lst r) = true := rfl
theorem Aak : isT "int" (.int i) = true := rfl
theorem Y4 : isT "bool" (.int i) = false := rfl
theorem AaE : isT "int" (.bl k) = true := rfl
theorem ZM : isT "bool" (.bl k) = true := rfl
theorem Z9 : isT "tuple" .non = false := rfl
theorem AaJ : isT "int" .non = false := rfl
theorem Aav : isT "int" (.tup r) = false := rfl
theorem YQ : isT "bool" (.tup r) = false := rfl
theorem Adc : noFn (.int i) = true := rfl
theorem Aey : noFn (.bl k) = true := rfl
theorem Adr : noFn .non = true := rfl
theorem AdJ : noFn (.tup r) = true := rfl
theorem AeG : noFn (.lst r) = true := rfl
theorem AdF : noFn (.str x) = true := rfl
theorem Ab7 : isB true (.bl k) = k := by cases k <;> rfl
theorem Acp : isB false (.bl k) = !k := by cases k <;> rfl
theorem AbY : isB k (.int i) = false := rfl
theorem Acy : isB k .non = false := rfl
theorem ZR : isB k (.tup r) = false := rfl
theorem Aa9 : isB k (.lst r) = false := rfl
theorem AbD : isN .non = true := rfl
theorem Ac1 : isN (.int i) = false := rfl
theorem Abk : isN (.bl k) = false := rfl
theorem Acm : isN (.tup r) = false := rfl
theorem AcO : isN (.lst r) = false := rfl
end
end L2
namespace L2
open PySem PySem.Spec PyProof.Rows PySem.SeqAt
theorem ifn {c : Bool} {A B : Prop} (h : c = true) (b : B) : if (!c) = true then A else B := by subst h; exact b
theorem ift {c : Bool} {A B : Prop} (h : c = true) (a : A) : if c = true then A else B := by subst h; exact a
theorem Ez {c : Bool} {A B : Prop} (h : c = false) (b : B) : if c = true then A else B := by subst h; exact b
theorem Am {τ : Type} {args : τ → List Dt} {pre : τ → Prop} {val : τ → Dt} {Q : Dt → Prop} (p : τ) (h : pre p) (k : Q (val p)) : CW args pre val (args p) Q := ⟨p, rfl, h, fun d e => by rw [e]; exact k⟩
theorem Br {τ : Type} {args : τ → List Dt} {pre : τ → Prop} {post : τ → Dt → Prop} {Q : Dt → Prop} (p : τ) (h : pre p) (k : ∀ d, post p d → Q d) : spec args pre post (args p) Q := ⟨p, rfl, h, k⟩
theorem HY {sl : List Nat} {tt : DTT} {te : DTE} {ρ : Bj} {Q : Dt → Prop} {items : List Dt} (p : Dt → Bool) (f : Dt → Dt) (ht : ∀ d ∈ items, ∀ R : Bool → Prop, R (p d) → tt (inner sl ρ d) R) (he : ∀ d ∈ items, p d = true → ∀ R : Dt → Prop, R (f d) → te (inner sl ρ d) R)
    (hq : Q (.lst ((items.filter p).map f))) : ∃ W : Nat → List Dt → Prop, W 0 [] ∧ (∀ (k : Nat) d acc, items[k]? = some d → W k acc → tt (inner sl ρ d) fun b => if b = true then te (inner sl ρ d) fun e => W (k + 1) (acc ++ [e]) else W (k + 1) acc) ∧
      ∀ acc, acc.length ≤ items.length → W items.length acc → Q (.lst acc) := by
  refine ⟨fun k acc => acc = ((items.take k).filter p).map f, by simp, fun k d acc e w => ?_, fun acc _ w => by rw [w, List.take_length]; exact hq⟩
  have hm := List.mem_of_getElem? e
  refine ht d hm _ ?_
  have ht := take_succ_filter p items k d e
  by_cases hp : p d = true
  · rw [if_pos hp]
    refine he d hm hp _ ?_
    show acc ++ [f d] = _
    rw [w, ht, if_pos hp]; simp
  · rw [if_neg hp]
    show acc = _
    rw [w, ht, if_neg hp]; simp
theorem comp_map {sl : List Nat} {te : DTE} {ρ : Bj} {Q : Dt → Prop} {items : List Dt} (f : Dt → Dt) (he : ∀ d ∈ items, ∀ R : Dt → Prop, R (f d) → te (inner sl ρ d) R)
    (hq : Q (.lst (items.map f))) : ∃ W : Nat → List Dt → Prop, W 0 [] ∧ (∀ (k : Nat) d acc, items[k]? = some d → W k acc → Ob (inner sl ρ d) fun b => if b = true then te (inner sl ρ d) fun e => W (k + 1) (acc ++ [e]) else W (k + 1) acc) ∧
      ∀ acc, acc.length ≤ items.length → W items.length acc → Q (.lst acc) :=
  HY (fun _ => true) f (fun _ _ _ h => h) (fun d hm _ R h => he d hm R h) (by rw [List.filter_eq_self.mpr (fun _ _ => rfl)]; exact hq)
theorem Lg {sl : List Nat} {ti : DTI} {tt : DTT} {te : DTE} {ρ : Bj} {Q : Dt → Prop} (items : List Dt) (p : Dt → Bool) (f : Dt → Dt) (hi : ∀ R : List Dt → Prop, R items → ti ρ R) (hl : items.length ≤ sizeLine) (hc : caught sl ρ)
    (ht : ∀ d ∈ items, ∀ R : Bool → Prop, R (p d) → tt (inner sl ρ d) R) (he : ∀ d ∈ items, p d = true → ∀ R : Dt → Prop, R (f d) → te (inner sl ρ d) R) (hq : Q (.lst ((items.filter p).map f))) : GP sl ti tt te ρ Q :=
  hi _ ⟨hl, hc, HY p f ht he hq⟩
theorem RG {sl : List Nat} {ti : DTI} {te : DTE} {ρ : Bj} {Q : Dt → Prop} (items : List Dt) (f : Dt → Dt) (hi : ∀ R : List Dt → Prop, R items → ti ρ R) (hl : items.length ≤ sizeLine) (hc : caught sl ρ)
    (he : ∀ d ∈ items, ∀ R : Dt → Prop, R (f d) → te (inner sl ρ d) R) (hq : Q (.lst (items.map f))) : GP sl ti Ob te ρ Q :=
  hi _ ⟨hl, hc, comp_map f he hq⟩
theorem Wz {ti : DTI} {g : DTG} {tb : DTS} {D : Dr} {ρ : Bj} (items : List Dt) (hi : ∀ R : List Dt → Prop, R items → ti ρ R) (W : Nat → Bj → Prop) (h0 : W 0 ρ)
    (hs : ∀ (k : Nat) d ρ', items[k]? = some d → W k ρ' → g d ρ' fun ρ2 => tb { D with nx := W (k + 1), ct := W (k + 1), bk := D.nx } ρ2) (he : ∀ ρ', W items.length ρ' → D.nx ρ') : Sh ti g tb D ρ := hi _ ⟨W, h0, hs, he⟩
theorem JF {ρ : Bj} : caught [] ρ := fun _ h => (nomatch h)
theorem Rb {ns : List Int} {k : Int} (h0 : 0 ≤ k) (h1 : k < ns.length) : ixD k (.lst (ns.map Dt.int)) = some (.int (ns.getD k.toNat 0)) := by
  obtain ⟨j, rfl⟩ := Int.eq_ofNat_of_zero_le h0
  have hj : j < ns.length := by omega
  show (ns.map Dt.int)[j]? = _
  rw [List.getElem?_map]
  simp [hj]
end L2
namespace L2
theorem Gh {c : DTT} {tb : DTS} {D : Dr} {ρ : Bj} (W : Nat → Bj → Prop) (m : Nat) (h0 : W m ρ) (h : ∀ m ρ, W m ρ → c ρ fun k => if k = true then tb { D with nx := fun ρ' => ∃ m', m' < m ∧ W m' ρ', ct := fun ρ' => ∃ m', m' < m ∧ W m' ρ', bk := D.nx } ρ else D.nx ρ) : Uv c tb D ρ := ⟨W, ⟨m, h0⟩, h⟩
end L2
namespace L2
open PySem PySem.Spec PyProof.Rows PySem.SeqAt
section
variable {X : Cx} {a b c e : Expr} {es : List Expr} {ta tb te : DTE} {tl : DTA} {pos : Pos}
noncomputable def downs (hi : Int) (n : Nat) : List Dt := (List.range n).map fun i => .int (hi - (i : Nat))
noncomputable def ZV (tl : DTA) : DTI := fun ρ Q => tl ρ fun ds => match ds with
  | [.int i, .int j, .int k] => k = -1 ∧ (-(2 ^ 62) ≤ i ∧ i < 2 ^ 62 ∧ -(2 ^ 62) ≤ j ∧ j < 2 ^ 62) ∧ Q (downs i (i - j).toNat)
  | _ => False
theorem Xr : MtR X "int.bit_length" (fun x xs H Q => ∃ i, x = .int i ∧ xs = [] ∧ Q (.int (Builtin.Int.intBits i)) H) := by
  intro pins s σ H x xs v us Q I rx rs ⟨i, e, e2, q⟩
  subst e e2
  cases rs
  obtain ⟨t, rfl⟩ := rx
  exact call_int_bit_length ⟨.int _, H, I.tok _, ⟨_, rfl⟩, q⟩
noncomputable def Yo (ta : DTE) : DTE := fun ρ Q => ta ρ fun d => match d with
  | .int i => Q (.int (Builtin.Int.intBits i))
  | _ => False
theorem QB {apos : Pos} (ha : DE X a ta) (hbase : attributeBase a "bit_length" X.env (eval a X.env) = eval a X.env := by rfl) (hline : (apos.endLine == pos.line) = true := by rfl) : DE X (.Call (.Attribute a "bit_length" apos) [] [] pos) (Yo ta) where
  mono := fun hq h => ha.mono (fun d h => by
    split at h
    · exact hq _ h
    · exact h.elim) h
  pe := (Aar PySem.F.plainAttrs_int PySem.F.slot_int_bit_length PySem.F.type_int_bit_length Xr ha.pe hbase hline).imp fun σ H Q ⟨B, F, O, ρ, R, h⟩ => ⟨B, F, O, ρ, R, ha.mono (fun d h v H1 s1 r1 => by
    split at h
    · rw [Ax.mp r1]
      exact ⟨rfl, _, rfl, rfl, h _ H1 s1 (Ax.mpr rfl)⟩
    · exact h.elim) h⟩
noncomputable def AbF (P : Program) (w : World) (K : PySem.W.Frag) (mg : Str → Option Value) (base : Heap) (k : Nat) (a : Addr) (sp : DSp) : Prop :=
  ∃ fd ps, Ii P w K mg base CX0 k a fd ps (lSp K sp) ∧ Binds K fd ps [] ∧ PySem.W.keepIn K (.ref a) = true
noncomputable def YT (P : Program) (w : World) (K : PySem.W.Frag) (mg : Str → Option Value) (base : Heap) (k : Nat) (tf : DTE) (tl : DTA) : DTE := fun ρ Q => tf ρ fun d => match d with
  | .fn a => PySem.W.keepIn K (.ref a) = true ∧ tl ρ fun ds => ∃ sp, Jx sp ∧ AbF P w K mg base k a sp ∧ sp ds Q
  | _ => False
noncomputable def lF (K : PySem.W.Frag) (t : DTA) : TE := fun σ H Q => ∃ B F O ρ, Rep K B F O H σ ρ ∧ t ρ fun ds => ∀ p H' vs, Same H H' → H' p = some (.lst vs) → p ∉ F ++ O → RpL K (mask (F ++ O) H') ds vs → Q (.ref p) H'
structure DF (X : Cx) (e : Expr) (t : DTA) : Prop where
  mono : ∀ {ρ Q Q'}, (∀ d, Q d → Q' d) → t ρ Q → t ρ Q'
  pe : PE X e (lF X.K t)
noncomputable def dOf (t : DTA) : DTE := fun ρ Q => t ρ fun ds => Q (.lst ds)
theorem DF.de {t : DTA} (h : DF X e t) : DE X e (dOf t) where
  mono := fun hq z => h.mono (fun _ z => hq _ z) z
  pe := h.pe.imp fun σ H Q ⟨B, F, O, ρ, R, z⟩ => ⟨B, F, O, ρ, R, h.mono (fun ds z p H' vs s e n r => z (.ref p) H' s (Gx ⟨p, vs, rfl, (by rw [Ay n]; exact e), r⟩)) z⟩
noncomputable def Abv (tl : DTA) : DTA := fun ρ Q => tl ρ fun ds => ds.length ≤ sizeLine ∧ Q ds
noncomputable def Qx (te : DTE) (tl th : DTO) : DTA := fun ρ Q => te ρ fun d => tl ρ fun lo => th ρ fun hi => match d with
  | .lst ds => Q (cutD ds lo hi)
  | _ => False
theorem Nu {lo hi : Option Expr} {t1 t2 : DTO} {p2 : Pos} (he : DE X e te) (hl : DO X lo t1) (hh : DO X hi t2) : DF X (.Subscript e (.Slice lo hi none p2) pos) (Qx te t1 t2) where
  mono := fun hq z => he.mono (fun d z => hl.mono (fun l z => hh.mono (fun h z => by
    split at z
    · exact hq _ z
    · exact z.elim) z) z) z
  pe := (M9 Q7 he.pe hl.po hh.po).imp fun σ H Q ⟨B, F, O, ρ, R, z⟩ => ⟨B, F, O, ρ, R, he.mono (fun d z v H1 s1 r1 => ⟨B, F, O, ρ, R.same s1, hl.mono (fun l z H2 s2 => ⟨B, F, O, ρ, (R.same s1).same s2, hh.mono (fun h z H3 s3 => by
    split at z
    · obtain ⟨a, xs, rfl, hs, hr⟩ := Dh ((r1.mono s2.mask).mono s3.mask)
      refine ⟨a, xs, rfl, Bb.seq hs, fun p hp => ?_⟩
      have R3 := ((R.same s1).same s2).same s3
      have np : p ∉ F ++ O := fun m => R3.th p m hp
      exact z p _ _ (((s1.trans s2).trans s3).trans (Same.upd hp)) BR np (hr.cut.mono (Same.upd hp).mask)
    · exact z.elim) z⟩) z⟩) z⟩
noncomputable def X4 (t u : DTA) : DTA := fun ρ Q => t ρ fun xs => u ρ fun ys => xs.length + ys.length ≤ sizeLine ∧ Q (xs ++ ys)
theorem YF {t u : DTA} (ha : DF X a t) (hb : DF X b u) : DF X (.BinOp a .Add b pos) (X4 t u) where
  mono := fun hq z => ha.mono (fun _ z => hb.mono (fun _ z => ⟨z.1, hq _ z.2⟩) z) z
  pe := (Yg AaG ha.pe hb.pe).imp fun σ H Q ⟨B, F, O, ρ, R, z⟩ => ⟨B, F, O, ρ, R, ha.mono (fun xs z p H1 vs s1 e1 n1 r1 => ⟨B, F, O, ρ, R.same s1, hb.mono (fun ys z p2 H2 ws s2 e2 n2 r2 => by
    refine ⟨p, p2, vs, ws, rfl, rfl, s2 _ _ e1, e2, by rw [r1.len, r2.len]; exact z.1, fun l hl => ?_⟩
    have np : l ∉ F ++ O := fun m => ((R.same s1).same s2).th l m hl
    exact z.2 l _ _ ((s1.trans s2).trans (Same.upd hl)) BR np (((r1.mono s2.mask).append r2).mono (Same.upd hl).mask)) z⟩) z⟩
end
end L2
namespace L2
open PySem PySem.Spec PyProof.Rows PySem.SeqAt
section
variable {X : Cx} {elt iter : Expr} {x : Str} {px : Pos} {ifs : List Expr} {scope : Scope} {pos : Pos} {N : List Str} {sl : List Nat} {wi : TI} {tt : TT} {te : TE}
theorem PX {pins : List (Addr × Obj)} {σ : St} {H2 : Hp} {s2 : Shared} {cl : List (Str × Addr)} {it : Addr} {fp : List Addr} {tn : Nat → Heap → Prop} {J : It} {vs : List V} {PP : Value → Addr → Result → Shared → Prop} {E : Value → Shared → Prop} {QD : Hp → Prop} (S : Dq X scope x N sl) (hc : X.calm = true)
    (ht : ∀ cl C s₀ H₀ ex, PTs (Ba X scope (x :: N) cl C s₀ H₀ ex) ifs tt) (he : ∀ cl C s₀ H₀ ex, PE (Ba X scope (x :: N) cl C s₀ H₀ ex) elt te)
    (hcl : ∀ n c, cl.lookup n = some c → X.env.cells.lookup n = some c) (hcl2 : ∀ n, (n, NameKind.free) ∈ scope.names → ∃ c, cl.lookup n = some c)
    (I2 : Inv X pins σ H2 s2) (T : Turn X.prog X.w X.K (.Name x px) J fp it tn) (st2 : tn 0 s2.heap) (f2 : ∀ b ∈ fp, Ih X pins H2 b) (hvs : sl.map (fun j => σ[j]?) = vs.map (fun v => some (some v)))
    (hW : ∃ W : Nat → Nat → List V → Hp → Prop, (∃ m, W 0 m [] (upd H2 s2.heap.objs.size (.lst []))) ∧ ∀ i m acc H, W i m acc H →
      (J.stop i H ∧ QD H) ∨ (J.go i H ∧ ∀ x H', J.yld i H x H' → tt (some x :: vs.map some) H' fun b H2' =>
        if b = true then te (some x :: vs.map some) H2' fun y H3 => H3 s2.heap.objs.size = some (.lst acc) ∧ acc.length < sizeLine ∧ ∃ m', m' < m ∧ W (i + 1) m' (acc ++ [y]) (upd H3 s2.heap.objs.size (.lst (acc ++ [y])))
        else ∃ m', m' < m ∧ W (i + 1) m' acc H2'))
    (fin : ∀ (C : Addr), (s2.heap.push { cls := .type "list", data := .seq ([] : List Value).toArray }).objs.size = C → ∀ {σ' : St} {H' : Hp} {s' : Shared}, Inv (Ba X scope (x :: N) cl C { s2 with heap := s2.heap.push { cls := .type "list", data := .seq ([] : List Value).toArray }, toks := s2.toks } (upd H2 s2.heap.objs.size (.lst [])) fp) [] σ' H' s' → QD H' → PP (.ref s2.heap.objs.size) C (.ok .next) s') :
    wpAny (model X.prog X.w) X.A (newList []) (fun acc s₃ => wpAny (model X.prog X.w) X.A (newFunctionEnv scope X.env.globals cl [] X.env.qual none .none (some X.env)) (fun cenv s₄ =>
      codeAny (model X.prog X.w) X.A (.compStart (.ListComp elt [⟨.Name x px, iter, ifs, 0⟩] scope pos) 0 (.ref it) acc { cenv with scope := relabel scope X.env }) (PP acc cenv.locals) s₄) E s₃) E s2 := by
  refine wpAny_newObj_type (wpAny_newFunctionEnv S.cell (by intro y hy; simp at hy) (fun h₁ hns₁ hsb₁ => ?_) S.kind)
  have hD : H2 s2.heap.objs.size = none := I2.fresh
  have I3 : Inv X pins σ (upd H2 s2.heap.objs.size (.lst [])) { s2 with heap := s2.heap.push { cls := .type "list", data := .seq ([] : List Value).toArray }, toks := s2.toks } := I2.lnew (its := []) (ys := []) .nil (Nat.zero_le _)
  have hbD : ∀ b ∈ fp, b ≠ s2.heap.objs.size := fun b hb z => by
    obtain ⟨o', e', _⟩ := T.obj _ _ st2 b hb
    exact absurd (Heap.lt_size e') (by rw [z]; exact Nat.lt_irrefl _)
  have f3 : ∀ b ∈ fp, Ih X pins (upd H2 s2.heap.objs.size (.lst [])) b := fun b hb => ⟨by rw [Bd (hbD b hb)]; exact (f2 b hb).1, (f2 b hb).2⟩
  have ob3 : ∀ b ∈ fp, ∃ o, (s2.heap.push { cls := .type "list", data := .seq ([] : List Value).toArray }).get? b = some o := fun b hb => by
    obtain ⟨o', e', _⟩ := T.obj _ _ st2 b hb
    exact ⟨o', Heap.get?_push_of_some _ e'⟩
  have IC := Nf (tk := s2.toks + ([] : List (Str × Value)).length) S I3 f3 ob3 hns₁ hsb₁ hcl hcl2 hvs
  dsimp only at hsb₁ IC ⊢
  generalize hCC : (s2.heap.push { cls := .type "list", data := .seq ([] : List Value).toArray }).objs.size = C at hns₁ hsb₁ IC ⊢
  have old : ∀ b o, s2.heap.get? b = some o → h₁.get? b = some o := fun b o e => by
    have e1 : (s2.heap.push { cls := .type "list", data := .seq ([] : List Value).toArray }).get? b = some o := Heap.get?_push_of_some _ e
    exact (hsb₁.2 b (by rw [← hCC]; exact Nat.ne_of_lt (Heap.lt_size e1))).trans (Heap.get?_push_of_some _ e1)
  have st₁ : tn 0 h₁ := T.keep _ _ _ st2 fun b hb o e => old b o e
  obtain ⟨W, ⟨m0, w0⟩, turn⟩ := hW
  have fpC : ∀ {H' : Hp} {pl : List (Addr × Obj)}, (∀ b ∈ fp, H' b = none) → (∀ p ∈ pl, p.1 ∉ fp) → ∀ b ∈ fp, Ih (Ba X scope (x :: N) cl C { s2 with heap := s2.heap.push { cls := .type "list", data := .seq ([] : List Value).toArray }, toks := s2.toks } (upd H2 s2.heap.objs.size (.lst [])) fp) pl H' b := fun {H' pl} hn hp b hb => by
    refine ⟨hn b hb, (IC.ok.exf b hb).1, IC.ok.exfs b hb, .inl hb, (IC.ok.exf b hb).2, fun p hq z => ?_⟩
    have hq' : p ∈ pl := by simpa [Ba] using hq
    exact hp p hq' (by rw [z]; exact hb)
  have loop : codeAny (model X.prog X.w) X.A (.compLoop (.ListComp elt [⟨.Name x px, iter, ifs, 0⟩] scope pos) 0 (.ref it) (.ref s2.heap.objs.size) (compEnvC scope cl C X.env)) (PP (.ref s2.heap.objs.size) C)
      { s2 with heap := h₁, toks := s2.toks + ([] : List (Str × Value)).length } := by
    refine codeAny_compLoop_tests (fun n s' => ∃ i acc σ' H', Inv (Ba X scope (x :: N) cl C { s2 with heap := s2.heap.push { cls := .type "list", data := .seq ([] : List Value).toArray }, toks := s2.toks } (upd H2 s2.heap.objs.size (.lst [])) fp) [] σ' H' s' ∧ (∃ y, σ' = y :: vs.map some) ∧
      tn i s'.heap ∧ (∀ b ∈ fp, H' b = none) ∧ W i n acc H') ?_ m0 ⟨0, [], _, _, IC, ⟨none, rfl⟩, st₁, fun b hb => (f3 b hb).1, w0⟩
    rintro n s3 ⟨i, acc, σ3, H3, I4, ⟨y, rfl⟩, st3, fr3, w3⟩
    rcases turn i n acc H3 w3 with ⟨stop, qn⟩ | ⟨go, step⟩
    · refine wpAny_mono (T.done (Ba X scope (x :: N) cl C { s2 with heap := s2.heap.push { cls := .type "list", data := .seq ([] : List Value).toArray }, toks := s2.toks } (upd H2 s2.heap.objs.size (.lst [])) fp) rfl rfl rfl hc i [] s3 _ H3 (fun _ _ => False) I4 (fpC fr3 (by simp)) st3 stop) (fun r s4 ⟨hr, I5⟩ => ?_) fun _ _ z => False.elim z
      subst hr
      exact fin C hCC I5 qn
    · refine wpAny_mono (T.item (Ba X scope (x :: N) cl C { s2 with heap := s2.heap.push { cls := .type "list", data := .seq ([] : List Value).toArray }, toks := s2.toks } (upd H2 s2.heap.objs.size (.lst [])) fp) rfl rfl rfl hc i [] s3 _ H3 (fun _ _ => False) I4 (fpC fr3 (by simp)) st3 go) (fun r s4 ⟨u, hr, h4⟩ => ?_) fun _ _ z => False.elim z
      subst hr
      have e0 : ∀ (k : Unit → Sem Unit), (letOwnedTupleGo (.Name x px) (.ref it) u >>= k) = k () := fun k => rfl
      have hg : PG (Ba X scope (x :: N) cl C { s2 with heap := s2.heap.push { cls := .type "list", data := .seq ([] : List Value).toArray }, toks := s2.toks } (upd H2 s2.heap.objs.size (.lst [])) fp) (.Name x px) (Q5 0) := Mt S.nd rfl (.inl (lookup_relabel_local S.hx)) (.inr (lookup_relabel_local S.hx))
      show wpAny (model X.prog X.w) X.A (assign (.Name x px) (compEnvC scope cl C X.env) u) _ _ s4
      rw [← e0 fun _ => assign (.Name x px) (compEnvC scope cl C X.env) u]
      refine wpAny_bind (wpAny_mono h4 (fun _ s5 ⟨z, H5, I5, r5, y5, st5, fr5⟩ => ?_) fun _ _ z => False.elim z)
      have I5' := I5.pinned (fpC fr5 (by simp)) (T.obj _ _ st5)
      have W5 := hg _ s5 _ H5 z u (fun σ' H' => σ' = some z :: vs.map some ∧ H' = H5) I5' r5 ⟨rfl, rfl⟩
      refine wpAny_mono W5 (fun _ s6 ⟨σ6, H6, I6, e6, e7⟩ => ?_) fun _ _ z => False.elim z
      subst e6 e7
      refine wpAny_mono (ht _ _ _ _ _ _ s6 _ H6 _ I6 (step z H6 y5)) (fun b s7 ⟨H7, I7, q7⟩ => ?_) fun _ _ z => False.elim z
      have again : ∀ {H8 : Hp} {s8 : Shared} {acc' : List V}, Inv (Ba X scope (x :: N) cl C { s2 with heap := s2.heap.push { cls := .type "list", data := .seq ([] : List Value).toArray }, toks := s2.toks } (upd H2 s2.heap.objs.size (.lst [])) fp) ([] ++ Hx fp s5.heap) (some z :: vs.map some) H8 s8 → (∃ m', m' < n ∧ W (i + 1) m' acc' H8) → ∃ m, m < n ∧ ∃ i acc σ' H', Inv (Ba X scope (x :: N) cl C { s2 with heap := s2.heap.push { cls := .type "list", data := .seq ([] : List Value).toArray }, toks := s2.toks } (upd H2 s2.heap.objs.size (.lst [])) fp) [] σ' H' s8 ∧ (∃ y, σ' = y :: vs.map some) ∧ tn i s8.heap ∧ (∀ b ∈ fp, H' b = none) ∧ W i m acc H' := fun {H8 s8 acc'} I8 ⟨m', hm, w8⟩ => by
        refine ⟨m', hm, i + 1, acc', _, H8, I8.unpinned, ⟨_, rfl⟩, T.keep _ _ _ st5 fun b hb o e => (I8.pin (b, o) (List.mem_append_right _ (List.mem_append_right _ (Du hb e)))).1, fun b hb => ?_, w8⟩
        obtain ⟨o, e, d⟩ := T.obj _ _ st5 b hb
        exact (I8.pin (b, o) (List.mem_append_right _ (List.mem_append_right _ (Du hb e)))).2.1
      cases b with
      | false => exact again I7 q7
      | true =>
        rw [if_pos rfl]
        refine wpAny_mono (he _ _ _ _ _ _ s7 _ H7 _ I7 q7) (fun v8 s8 ⟨x8, H8, I8, r8, hD8, hz8, q8⟩ => ?_) fun _ _ z => False.elim z
        refine wpAny_mono (HN (X := (Ba X scope (x :: N) cl C { s2 with heap := s2.heap.push { cls := .type "list", data := .seq ([] : List Value).toArray }, toks := s2.toks } (upd H2 s2.heap.objs.size (.lst [])) fp)) _ s8 _ H8 (.ref s2.heap.objs.size) [x8] (.ref s2.heap.objs.size) [v8] (fun _ H9 => H9 = upd H8 s2.heap.objs.size (.lst (acc ++ [x8]))) I8 rfl (.cons r8 .nil) ⟨_, acc, x8, rfl, rfl, hD8, hz8, rfl⟩) (fun _ s9 ⟨_, H9, I9, _, e9⟩ => ?_) fun _ _ z => False.elim z
        subst e9
        exact again I9 q8
  exact codeAny_compStart_list loop (T.self _ 0 _ _ _ st₁ loop)
noncomputable def AbQ (i : Nat) (sl : List Nat) (wi : TI) (tt : TT) (te : TE) : TS := fun D σ H => Vg sl wi tt te σ H fun v H' => D.nx (σ.set i (some v)) H'
theorem Xc {i : Nat} {y : Str} {py spos : Pos} (S : Dq X scope x N sl) (hc : X.calm = true) (hN : X.N.Nodup) (hyi : X.N[i]? = some y) (hy : X.env.scope.names.lookup y = some .local) (hi : PI X (.Name x px) iter wi)
    (ht : ∀ cl C s₀ H₀ ex, PTs (Ba X scope (x :: N) cl C s₀ H₀ ex) ifs tt) (he : ∀ cl C s₀ H₀ ex, PE (Ba X scope (x :: N) cl C s₀ H₀ ex) elt te)
    (hsw : swapsWith (.ListComp elt [⟨.Name x px, iter, ifs, 0⟩] scope pos) (some (.Name y py)) spos.line X.env = pure true) (hs : ∀ x, foldedSetIterable iter X.env x = pure x := by intro _; rfl) :
    PS X (.Assign [.Name y py] (.ListComp elt [⟨.Name x px, iter, ifs, 0⟩] scope pos) spos) (AbQ i sl wi tt te) := by
  intro pins s σ H DD I h
  obtain ⟨cl, hclos, hcl, hcl2⟩ := Jf (env := X.env) (scope := scope) fun y hy hf => I.ok.has y.1 (.inl (S.free y hy hf))
  rw [exec_Assign_Name_used _ _ _ _ hsw]
  refine wpAny_bind (wpAny_standAt (wpAny_bind ?_))
  show wpAny _ X.A (do let _ ← comprehension (.ListComp elt [⟨.Name x px, iter, ifs, 0⟩] scope pos) scope X.env _ (newList []) false (eval iter X.env) (some (assign (.Name y py) X.env))) _ _ s
  refine wpAny_bind (wpAny_mono (wpAny_comprehension_free (use := some (assign (.Name y py) X.env)) (Q := fun _ s' => SP X pins DD .next s') rfl hs hclos S.kind S.names
    (thn (hi pins s σ H _ I h) fun v s1 h1 => thn h1 fun itv s2 h2 => ?_)) (fun _ s' hq => wpAny_pure (wpAny_pure hq)) fun _ _ e => e)
  obtain ⟨it, fp, tn, J, H2, e, I2, T, st2, f2, vs, hvs, hW⟩ := h2
  subst e
  refine PX (QD := fun H' => DD.nx (σ.set i (some (.ref s2.heap.objs.size))) H') (PP := fun acc C => compPost (model X.prog X.w) X.A X.xe (some (assign (.Name y py) X.env)) (fun _ s' => SP X pins DD .next s') acc C) S hc ht he hcl hcl2 I2 T st2 f2 hvs (hW s2.heap.objs.size I2.fresh) fun C hCC {σ' H' s'} J q => ?_
  have hD : H2 s2.heap.objs.size = none := I2.fresh
  have nC : ∀ b o, s2.heap.get? b = some o → b ≠ C := fun b o e => by
    have e1 : (s2.heap.push { cls := .type "list", data := .seq ([] : List Value).toArray }).get? b = some o := Heap.get?_push_of_some _ e
    rw [← hCC]; exact Nat.ne_of_lt (Heap.lt_size e1)
  have u : Un (frs X.stack) fp H2 H' s2.heap s'.heap := (Un.laid (fun b u e => Heap.get?_push_of_some _ e) (Nat.le_refl _) hD).trans J.base
  have hos : s'.os = s2.os := J.os
  have IX : Inv X pins σ H' s' := I2.call' (ch := fp) hos u J.hok J.bare fun b hb => ⟨(f2 b hb).2.2.2.1, (f2 b hb).2.1, (f2 b hb).2.2.2.2.1, (f2 b hb).2.2.2.2.2⟩
  have hLC : X.env.locals ≠ C := by
    obtain ⟨m, ⟨o, _, _, ho, _⟩, _⟩ := I2.loc
    exact nC _ o ho
  have hcC : ∀ y c, X.env.cells.lookup y = some c → c ≠ C := fun y c e => by
    obtain ⟨v, o, ho, _⟩ := I2.cell y c e
    exact nC _ o ho
  show wpAny _ X.A (assign (.Name y py) X.env (.ref s2.heap.objs.size)) _ _ _
  refine wpAny_assign_Name (Ku IX hN hyi (.inl hy) (v := .ref s2.heap.objs.size) rfl (fun s'' I'' ⟨a, hs2, ha⟩ => ?_) (.inr hy))
  obtain ⟨m, hn, _⟩ := id J.loc
  have haC : C ≠ a := by
    rcases ha with z | z
    · rw [z]; exact Ne.symm hLC
    · exact Ne.symm (hcC y a z)
  refine ⟨m, hn.sameBut hs2 haC, fun h' hs' => ⟨_, H', ?_, q⟩⟩
  refine I''.turned (t' := s''.toks) (it := C) (fun b o hb e => (hs'.2 b hb).trans e) J.free (Ne.symm hLC) (.inr ?_) hcC (fun p hp z => ?_)
  · rw [← hCC]
    exact Nat.le_trans I2.sz (by rw [Heap.size_push]; exact Nat.le_succ _)
  · obtain ⟨e, _⟩ := I2.pin p hp
    exact nC _ _ e z
theorem Km {sl : List Nat} {ti : DTI} {dt : DTT} {de : DTE} (mi : ∀ {ρ Q Q'}, (∀ d, Q d → Q' d) → ti ρ Q → ti ρ Q') : ∀ {ρ Q Q'}, (∀ d, Q d → Q' d) → GP sl ti dt de ρ Q → GP sl ti dt de ρ Q' :=
  fun hq h => mi (fun items ⟨h1, h2, W, w0, st, fin⟩ => ⟨h1, h2, W, w0, st, fun acc l w => hq _ (fin acc l w)⟩) h
noncomputable def Vr (i : Nat) (sl : List Nat) (ti : DTI) (tt : DTT) (te : DTE) : DTS := fun D ρ => GP sl ti tt te ρ fun d => D.nx (ρ.set i (some (.is d)))
theorem Uu {ti : DTI} {dt : DTT} {de : DTE} {y : Str} {py spos : Pos} (i : Nat) (S : Dq X scope x N sl) (hc : X.calm = true) (hN : X.N.Nodup) (hyi : X.N[i]? = some y) (hy : X.env.scope.names.lookup y = some .local) (hi : DI X (.Name x px) iter ti)
    (ht : ∀ cl C s₀ H₀ ex, DTs (Ba X scope (x :: N) cl C s₀ H₀ ex) ifs dt) (he : ∀ cl C s₀ H₀ ex, DE (Ba X scope (x :: N) cl C s₀ H₀ ex) elt de)
    (hsw : swapsWith (.ListComp elt [⟨.Name x px, iter, ifs, 0⟩] scope pos) (some (.Name y py)) spos.line X.env = pure true) (hs : ∀ x, foldedSetIterable iter X.env x = pure x := by intro _; rfl) :
    DS X (.Assign [.Name y py] (.ListComp elt [⟨.Name x px, iter, ifs, 0⟩] scope pos) spos) (Vr i sl ti dt de) where
  mono := fun hd h => Km (ti := ti) hi.mono (fun d q => hd.nx _ q) h
  ps := (Xc (tt := lT X.K dt) (te := lE X.K de) S hc hN hyi hy hi.pi (fun cl C s₀ H₀ ex => (ht cl C s₀ H₀ ex).pts) (fun cl C s₀ H₀ ex => (he cl C s₀ H₀ ex).pe) hsw hs).imp fun D σ H ⟨B, F, O, ρ, R, h⟩ =>
    Oh (ti := ti) (dt := dt) (de := de) hi.mono (ht [] 0 X.s₀ X.H₀ []).mono (he [] 0 X.s₀ X.H₀ []).mono σ H _ ⟨B, F, O, ρ, R, Km (ti := ti) hi.mono (fun d q v H' s r => q O _ H' ((R.same s).set i r)) h⟩
theorem Xl {ti : DTI} {de : DTE} {y : Str} {py spos : Pos} (i : Nat) (hN : X.N.Nodup) (S : Dq X scope x N sl) (hc : X.calm = true) (hi : DI X (.Name x px) iter ti) (he : ∀ cl C s₀ H₀ ex, DE (Ba X scope (x :: N) cl C s₀ H₀ ex) elt de)
    (hyi : X.N[i]? = some y := by rfl) (hy : X.env.scope.names.lookup y = some .local := by rfl) (hsw : swapsWith (.ListComp elt [⟨.Name x px, iter, [], 0⟩] scope pos) (some (.Name y py)) spos.line X.env = pure true := by rfl) (hs : ∀ x, foldedSetIterable iter X.env x = pure x := by intro _; rfl) :
    DS X (.Assign [.Name y py] (.ListComp elt [⟨.Name x px, iter, [], 0⟩] scope pos) spos) (Vr i sl ti Ob de) := Uu i S hc hN hyi hy hi (fun _ _ _ _ _ => Wy) he hsw hs
end
section
variable {prog : Program} {w : World} {A : Around} {E : Value → Shared → Prop} {s : Shared}
end
section
variable {X : Cx} {es : List Expr} {pos : Pos}
noncomputable def AbR (n : Nat) (gs : Lq) : DTG := fun d ρ Q => match d with
  | .lst ds => ds.length = n ∧ gs ds ρ Q
  | _ => False
end
end L2
namespace L2
end L2
namespace L2
theorem Z0 {n : Nat} {x : PySem.Str} : Dt.flat n (.str x) = (PySem.PyData.str x).canLay0 := by cases n <;> rw [Dt.flat]
end L2
namespace L2
open PySem PySem.Spec PyProof.Rows PySem.SeqAt
section
variable {X : Cx} {pins : List (Addr × Obj)} {σ : St} {H : Hp} {s : Shared} {h' : Heap} {a dx C U f fI : Addr} {φ ψ : Heap → Prop}
end
end L2
namespace L2
open PySem PySem.Spec PyProof.Rows PySem.SeqAt
structure Zu where
  d : Dr
  ex : Bj → Dt → Prop
noncomputable abbrev GZ := Zu → Bj → Prop
noncomputable abbrev N6 := Bj → (Dt → Prop) → (Dt → Prop) → Prop
section
variable {X : Cx} {a b c e : Expr} {es : List Expr} {st : Stmt} {sts sa sb : List Stmt} {t u : GZ} {ts us : DTS} {te : N6} {tA : DTT} {tl : DTA} {pos : Pos}
noncomputable def ZQ (t : DTS) : GZ := fun D ρ => t D.d ρ
noncomputable def Zd : GZ := fun D ρ => D.d.nx ρ
noncomputable def Ab6 (t u : GZ) : GZ := fun D ρ => t ⟨{ D.d with nx := u D }, D.ex⟩ ρ
noncomputable def Adt (c : DTT) (t u : GZ) : GZ := fun D ρ => c ρ fun k => if k = true then t D ρ else u D ρ
noncomputable def YG (te : N6) : GZ := fun D ρ => te ρ (fun _ => D.d.nx ρ) (D.ex ρ)
noncomputable def Ac2 (te : N6) : GZ := fun D ρ => te ρ D.d.rt (D.ex ρ)
noncomputable def AcW (te : N6) (g : DTG) : GZ := fun D ρ => te ρ (fun d => g d ρ D.d.nx) (D.ex ρ)
noncomputable abbrev Aeh := List Dt → (Dt → Prop) → (Dt → Prop) → Prop
noncomputable def AaL (sp : Aeh) (tl : DTA) : N6 := fun ρ Q E => tl ρ fun ds => sp ds Q E
noncomputable def Aa4 (c : Str) (ns : List Str) (tl : DTA) : GZ := fun D ρ => tl ρ fun ds => ds.length = ns.length ∧ ds.length ≤ 1000 ∧ D.ex ρ (.exc c ns ds)
end
section
variable {P : Program} {w : World} {K : PySem.W.Frag} {mg : Str → Option Value} {base : Heap}
end
end L2
namespace L2
open PySem PySem.Spec PyProof.Rows PySem.SeqAt
section
variable {X : Cx} {pins : List (Addr × Obj)} {σ : St} {H : Hp} {s : Shared}
end
noncomputable def Under (K : PySem.W.Frag) (mg : Str → Option Value) (c T : Str) : Prop := ∀ C U, PySem.W.nsIn K mainGlobals c = some (some (.ref C)) → XC K C U → mg T = some (.ref U)
section
variable {X : Cx} {tb : GZ} {ts : DTS} {pos tp hp : Pos} {T n : Str} {U : Addr} {body suite : List Stmt} {b₀ : Stmt}
noncomputable def Ti (K : PySem.W.Frag) (mg : Str → Option Value) (T : Str) (j : Nat) (ts : DTS) (D : Dr) (ρ : Bj) (x : Dt) : Prop := match x with
  | .exc c ns ds => Under K mg c T ∧ ts { nx := fun ρ2 => D.nx (ρ2.set j none), rt := fun _ => False } (ρ.set j (some (.is (.exc c ns ds))))
  | _ => False
noncomputable def Adv (K : PySem.W.Frag) (mg : Str → Option Value) (T : Str) (j : Nat) (tb : GZ) (ts : DTS) : GZ := fun D ρ => tb ⟨D.d, Ti K mg T j ts D.d⟩ ρ
end
end L2
namespace L2
open PySem PySem.Spec PyProof.Rows PySem.SeqAt
noncomputable def AeV (K : PySem.W.Frag) (c : Str) (A : Addr) (b : Bool) : Prop := ∀ C, PySem.W.nsIn K mainGlobals c = some (some (.ref C)) → PySem.W.kitOne K (.ref C) (.ref A) = some b
noncomputable def Abz (K : PySem.W.Frag) (c : Str) (As : List Addr) (b : Bool) : Prop := ∀ C, PySem.W.nsIn K mainGlobals c = some (some (.ref C)) → PySem.W.kitAny K (.ref C) (As.map .ref) = some b
noncomputable def AdP (K : PySem.W.Frag) (c f : Str) : Prop := ∀ C, PySem.W.nsIn K mainGlobals c = some (some (.ref C)) → PySem.W.findIn K (.ref C) f = some none
section
variable {X : Cx} {a b c e : Expr} {es : List Expr} {ta tb te : DTE} {tl : DTA} {pos : Pos}
noncomputable def AdQ (K : PySem.W.Frag) : DL := fun ds Q => match ds with
  | [.exc c _ _, .fn A] => ∃ v, AeV K c A v ∧ Q (.bl v)
  | _ => False
noncomputable def AcD (K : PySem.W.Frag) : DL := fun ds Q => match ds with
  | [.exc c _ _, .tup es] => ∃ As v, es = As.map .fn ∧ Abz K c As v ∧ Q (.bl v)
  | _ => False
noncomputable def Adx (ta : DTE) : DTE := fun ρ Q => ta ρ fun d => match d with
  | .exc _ _ _ => Q (.bl true)
  | _ => False
noncomputable def Acz (K : PySem.W.Frag) (te : DTE) (f : Str) : DTE := fun ρ Q => te ρ fun d => match d with
  | .exc c ns ds => AdP K c f ∧ ∃ v, (ns.zip ds).lookup f = some v ∧ Q v
  | _ => False
noncomputable def AbZ (t : GZ) : DTS := fun D ρ => t ⟨D, fun _ _ => False⟩ ρ
end
end L2
namespace L2
open PySem PySem.Spec PyProof.Rows PySem.SeqAt
section
variable {K : PySem.W.Frag} {mg : Str → Option Value} {c T f : Str} {C U A : Addr} {cd : ClassData}
end
end L2
namespace L2
open PySem PySem.Spec PyProof.Rows PySem.SeqAt
theorem O2 {O : List Addr} {H : Hp} {a : Addr} {o : HO} (h : a ∈ O) : mask O (upd H a o) = mask O H := by
  funext b
  by_cases q : b ∈ O
  · rw [CK q, CK q]
  · rw [Ay q, Ay q, Bd (a := a) (fun z => q (by rw [z]; exact h))]
theorem Ue {F O : List Addr} {H : Hp} {p : Addr} {o : HO} (h : H p = none) : mask (F ++ (p :: O)) (upd H p o) = mask (F ++ O) H := by
  funext b
  by_cases e : b = p
  · subst e
    rw [CK (List.mem_append_right _ List.mem_cons_self)]
    by_cases q : b ∈ F ++ O
    · rw [CK q]
    · rw [Ay q, h]
  · by_cases q : b ∈ F ++ O
    · rw [CK q, CK]
      rcases List.mem_append.mp q with q | q
      · exact List.mem_append_left _ q
      · exact List.mem_append_right _ (List.mem_cons_of_mem _ q)
    · rw [Ay q, Ay, Bd e]
      intro z
      rcases List.mem_append.mp z with z | z
      · exact q (List.mem_append_left _ z)
      · rcases List.mem_cons.mp z with z | z
        · exact e z
        · exact q (List.mem_append_right _ z)
section
variable {K : PySem.W.Frag} {B : Hp} {F O : List Addr} {H : Hp} {σ : St} {ρ : Bj}
theorem Rep.newOwn (r : Rep K B F O H σ ρ) (i : Nat) {p : Addr} {ds : List Dt} {xs : List V} (hp : H p = none) (h : RpL K (mask (F ++ O) H) ds xs) : Rep K B F (p :: O) (upd H p (.lst xs)) (σ.set i (some (.ref p))) (ρ.set i (some (.own ds))) := by
  have hl := r.len
  have nF : p ∉ F := fun z => r.th p (List.mem_append_left _ z) hp
  have nO : p ∉ O := fun z => r.th p (List.mem_append_right _ z) hp
  have em := Ue (F := F) (O := O) (o := .lst xs) hp
  refine ⟨by simpa using hl, r.base.trans (Same.upd hp), fun a h => ?_, fun a h e => ?_, fun j d q => ?_, fun j es q => ?_, fun j k es es' a h1 h2 h3 h4 => ?_, fun j ks q => ?_, fun j k es es' a h1 h2 h3 h4 => ?_⟩
  · rcases List.mem_cons.mp h with rfl | h
    · cases q : B a with
      | none => rfl
      | some o => rw [r.base a o q] at hp; cases hp
    · exact r.fr a h
  · by_cases z : a = p
    · rw [z, BR] at e; cases e
    · rw [Bd z] at e
      refine r.th a ?_ e
      rcases List.mem_append.mp h with h | h
      · exact List.mem_append_left _ h
      · exact List.mem_append_right _ ((List.mem_cons.mp h).resolve_left z)
  · by_cases hj : j = i
    · subst hj
      by_cases hk : j < ρ.length
      · rw [List.getElem?_set_self hk] at q; cases q
      · rw [List.getElem?_eq_none (by simpa using hk)] at q; cases q
    · rw [List.getElem?_set_ne (Ne.symm hj)] at q ⊢
      rw [em]; exact r.is j d q
  · by_cases hj : j = i
    · subst hj
      by_cases hk : j < ρ.length
      · rw [List.getElem?_set_self hk] at q; cases q
        exact ⟨p, xs, List.getElem?_set_self (by omega), List.mem_cons_self, nF, BR, by rw [em]; exact h⟩
      · rw [List.getElem?_eq_none (by simpa using hk)] at q; cases q
    · rw [List.getElem?_set_ne (Ne.symm hj)] at q ⊢
      obtain ⟨a, ys, h1, h2, h3, h4, h5⟩ := r.own j es q
      exact ⟨a, ys, h1, List.mem_cons_of_mem _ h2, h3, by rw [Bd (a := p) (fun z => nO (by rw [← z]; exact h2))]; exact h4, by rw [em]; exact h5⟩
  · have other : ∀ (m : Nat) es, m ≠ i → (ρ.set i (some (.own ds)))[m]? = some (some (.own es)) → (σ.set i (some (.ref p)))[m]? = some (some (.ref p)) → False := fun m es hm q1 q2 => by
      rw [List.getElem?_set_ne (Ne.symm hm)] at q1 q2
      obtain ⟨b, _, e1, e2, _⟩ := r.own m es q1
      rw [e1] at q2
      cases q2
      exact nO e2
    by_cases hj : j = i
    · by_cases hk : k = i
      · rw [hj, hk]
      · subst hj
        have : a = p := by
          rw [List.getElem?_set_self (by
            have := (List.getElem?_eq_some_iff.mp h1).1
            simp at this; omega)] at h3
          cases h3; rfl
        subst this
        exact (other k es' hk h2 h4).elim
    · by_cases hk : k = i
      · subst hk
        have : a = p := by
          rw [List.getElem?_set_self (by
            have := (List.getElem?_eq_some_iff.mp h2).1
            simp at this; omega)] at h4
          cases h4; rfl
        subst this
        exact (other j es hj h1 h3).elim
      · rw [List.getElem?_set_ne (Ne.symm hj)] at h1 h3
        rw [List.getElem?_set_ne (Ne.symm hk)] at h2 h4
        exact r.inj j k es es' a h1 h2 h3 h4
  · have hj : j ≠ i := fun z => by
      subst z
      by_cases hk : j < ρ.length
      · rw [List.getElem?_set_self hk] at q; cases q
      · rw [List.getElem?_eq_none (by simpa using hk)] at q; cases q
    rw [List.getElem?_set_ne (Ne.symm hj)] at q ⊢
    obtain ⟨a, ys, h1, h2, h3, h4, h5⟩ := r.tab j ks q
    exact ⟨a, ys, h1, List.mem_cons_of_mem _ h2, h3, by rw [Bd (a := p) (fun z => nO (by rw [← z]; exact h2))]; exact h4, by rw [em]; exact h5⟩
  · have back : ∀ (m : Nat) ks, (ρ.set i (some (.own ds)))[m]? = some (some (.tab ks)) → m ≠ i ∧ ρ[m]? = some (some (.tab ks)) := fun m ks q => by
      have hm : m ≠ i := fun z => by
        subst z
        by_cases hk : m < ρ.length
        · rw [List.getElem?_set_self hk] at q; cases q
        · rw [List.getElem?_eq_none (by simpa using hk)] at q; cases q
      rw [List.getElem?_set_ne (Ne.symm hm)] at q; exact ⟨hm, q⟩
    obtain ⟨n1, q1⟩ := back j _ h1
    obtain ⟨n2, q2⟩ := back k _ h2
    rw [List.getElem?_set_ne (Ne.symm n1)] at h3
    rw [List.getElem?_set_ne (Ne.symm n2)] at h4
    exact r.tinj j k es es' a q1 q2 h3 h4
theorem Rep.putOwn (r : Rep K B F O H σ ρ) {i : Nat} {a : Addr} {ds es : List Dt} {xs ys : List V} (hi : ρ[i]? = some (some (.own ds))) (hs : σ[i]? = some (some (.ref a))) (ha : a ∈ O) (hH : H a = some (.lst xs)) (h : RpL K (mask (F ++ O) H) es ys) :
    Rep K B F O (upd H a (.lst ys)) σ (ρ.set i (some (.own es))) := by
  have em : mask (F ++ O) (upd H a (.lst ys)) = mask (F ++ O) H := O2 (List.mem_append_right _ ha)
  have hk : i < ρ.length := (List.getElem?_eq_some_iff.mp hi).1
  refine ⟨by simpa using r.len, fun b o e => ?_, r.fr, fun b hb e => ?_, fun j d q => ?_, fun j ks q => ?_, fun j k es' es'' b h1 h2 h3 h4 => ?_, fun j ks q => ?_, fun j k es' es'' b h1 h2 h3 h4 => ?_⟩
  · rw [Bd fun z => by rw [z, r.fr a ha] at e; cases e]; exact r.base b o e
  · by_cases z : b = a
    · rw [z, BR] at e; cases e
    · rw [Bd z] at e; exact r.th b hb e
  · have hj : j ≠ i := fun z => by subst z; rw [List.getElem?_set_self hk] at q; cases q
    rw [List.getElem?_set_ne (Ne.symm hj)] at q
    rw [em]; exact r.is j d q
  · by_cases hj : j = i
    · subst hj
      rw [List.getElem?_set_self hk] at q; cases q
      obtain ⟨b, _, e1, e2, e3, _⟩ := r.own j ds hi
      rw [hs] at e1; cases e1
      exact ⟨a, ys, hs, ha, e3, BR, by rw [em]; exact h⟩
    · rw [List.getElem?_set_ne (Ne.symm hj)] at q
      obtain ⟨b, zs, e1, e2, e3, e4, e5⟩ := r.own j ks q
      have nb : b ≠ a := fun z => by subst z; exact hj (r.inj j i ks ds b q hi e1 hs)
      exact ⟨b, zs, e1, e2, e3, by rw [Bd nb]; exact e4, by rw [em]; exact e5⟩
  · have back : ∀ (m : Nat) ks, (ρ.set i (some (.own es)))[m]? = some (some (.own ks)) → ∃ ks', ρ[m]? = some (some (.own ks')) := fun m ks q => by
      by_cases hm : m = i
      · subst hm; exact ⟨ds, hi⟩
      · rw [List.getElem?_set_ne (Ne.symm hm)] at q; exact ⟨ks, q⟩
    obtain ⟨_, q1⟩ := back j es' h1
    obtain ⟨_, q2⟩ := back k es'' h2
    exact r.inj j k _ _ b q1 q2 h3 h4
  · have hj : j ≠ i := fun z => by subst z; rw [List.getElem?_set_self hk] at q; cases q
    rw [List.getElem?_set_ne (Ne.symm hj)] at q
    obtain ⟨b, zs, e1, e2, e3, e4, e5⟩ := r.tab j ks q
    have nb : b ≠ a := fun z => by rw [z, hH] at e4; cases e4
    exact ⟨b, zs, e1, e2, e3, by rw [Bd nb]; exact e4, by rw [em]; exact e5⟩
  · have back : ∀ (m : Nat) ks, (ρ.set i (some (.own es)))[m]? = some (some (.tab ks)) → ρ[m]? = some (some (.tab ks)) := fun m ks q => by
      have hm : m ≠ i := fun z => by subst z; rw [List.getElem?_set_self hk] at q; cases q
      rw [List.getElem?_set_ne (Ne.symm hm)] at q; exact q
    exact r.tinj j k _ _ b (back j _ h1) (back k _ h2) h3 h4
theorem Rep.freeze (r : Rep K B F O H σ ρ) {i : Nat} {ds : List Dt} (hi : ρ[i]? = some (some (.own ds))) : ∃ O', Rep K B F O' H σ (ρ.set i (some (.is (.lst ds)))) := by
  obtain ⟨a, xs, h1, h2, h3, h4, h5⟩ := r.own i ds hi
  have hk : i < ρ.length := (List.getElem?_eq_some_iff.mp hi).1
  have sub : ∀ b ∈ F ++ O.filter (fun b => decide (b ≠ a)), b ∈ F ++ O := fun b hb => by
    rcases List.mem_append.mp hb with hb | hb
    · exact List.mem_append_left _ hb
    · exact List.mem_append_right _ (List.mem_filter.mp hb).1
  have na : a ∉ F ++ O.filter (fun b => decide (b ≠ a)) := fun z => by
    rcases List.mem_append.mp z with z | z
    · exact h3 z
    · exact of_decide_eq_true (List.mem_filter.mp z).2 rfl
  refine ⟨O.filter fun b => decide (b ≠ a), by simpa using r.len, r.base, fun b hb => r.fr b (List.mem_filter.mp hb).1, fun b hb => r.th b (sub b hb), fun j d q => ?_, fun j es q => ?_, fun j k es es' b q1 q2 q3 q4 => ?_, fun j ks q => ?_, fun j k es es' b q1 q2 q3 q4 => ?_⟩
  · by_cases hj : j = i
    · subst hj
      rw [List.getElem?_set_self hk] at q; cases q
      exact ⟨.ref a, h1, Gx ⟨a, xs, rfl, (by rw [Ay na]; exact h4), h5.mono (Fg sub)⟩⟩
    · rw [List.getElem?_set_ne (Ne.symm hj)] at q
      obtain ⟨v, e1, e2⟩ := r.is j d q
      exact ⟨v, e1, e2.mono (Fg sub)⟩
  · have hj : j ≠ i := fun z => by subst z; rw [List.getElem?_set_self hk] at q; cases q
    rw [List.getElem?_set_ne (Ne.symm hj)] at q
    obtain ⟨b, ys, e1, e2, e3, e4, e5⟩ := r.own j es q
    have nb : b ≠ a := fun z => by subst z; exact hj (r.inj j i es ds b q hi e1 h1)
    exact ⟨b, ys, e1, List.mem_filter.mpr ⟨e2, decide_eq_true nb⟩, e3, e4, e5.mono (Fg sub)⟩
  · have nj : ∀ (m : Nat) ks, (ρ.set i (some (.is (.lst ds))))[m]? = some (some (.own ks)) → ρ[m]? = some (some (.own ks)) := fun m ks q => by
      have hm : m ≠ i := fun z => by subst z; rw [List.getElem?_set_self hk] at q; cases q
      rw [List.getElem?_set_ne (Ne.symm hm)] at q; exact q
    exact r.inj j k es es' b (nj j es q1) (nj k es' q2) q3 q4
  · have hj : j ≠ i := fun z => by subst z; rw [List.getElem?_set_self hk] at q; cases q
    rw [List.getElem?_set_ne (Ne.symm hj)] at q
    obtain ⟨b, ys, e1, e2, e3, e4, e5⟩ := r.tab j ks q
    have nb : b ≠ a := fun z => by rw [z, h4] at e4; cases e4
    exact ⟨b, ys, e1, List.mem_filter.mpr ⟨e2, decide_eq_true nb⟩, e3, e4, e5.mono (Fg sub)⟩
  · have nj : ∀ (m : Nat) ks, (ρ.set i (some (.is (.lst ds))))[m]? = some (some (.tab ks)) → ρ[m]? = some (some (.tab ks)) := fun m ks q => by
      have hm : m ≠ i := fun z => by subst z; rw [List.getElem?_set_self hk] at q; cases q
      rw [List.getElem?_set_ne (Ne.symm hm)] at q; exact q
    exact r.tinj j k es es' b (nj j es q1) (nj k es' q2) q3 q4
end
section
variable {X : Cx} {a b c e : Expr} {es : List Expr} {st : Stmt} {ta tb te : DTE} {tl : DTA} {t : DTS} {pos : Pos}
noncomputable def AbP (i : Nat) (tl : DTA) : DTS := fun D ρ => tl ρ fun ds => ds.length ≤ sizeLine ∧ D.nx (ρ.set i (some (.own ds)))
theorem AaC (i : Nat) {x : Str} {pos' lp : Pos} (hN : X.N.Nodup) (ha : DA X es tl) (hi : X.N[i]? = some x := by rfl) (hx : Loc X.env.scope x := by first | exact Or.inl rfl | exact Or.inr rfl) (hs : swapsWith (.List es lp) (some (.Name x pos')) pos.line X.env = pure false := by rfl)
    (hf : X.fn x = true ∨ X.env.scope.names.lookup x = some .local := by first | exact .inl rfl | exact .inr rfl | assumption) : DS X (.Assign [.Name x pos'] (.List es lp) pos) (AbP i tl) where
  mono := fun hd h => ha.mono (fun ds ⟨h1, h2⟩ => ⟨h1, hd.nx _ h2⟩) h
  ps := (O5 hN hi hx (UL ha.pa) hs hf).imp fun D σ H ⟨B, F, O, ρ, R, h⟩ => ⟨B, F, O, ρ, R, ha.mono (fun ds ⟨h1, h2⟩ vs H1 s1 r1 => ⟨by rw [r1.len]; exact h1, fun p hp => h2 (p :: O) _ _ ((R.same s1).newOwn i hp r1)⟩) h⟩
noncomputable def ownAt (ρ : Bj) (j : Nat) (k : List Dt → Prop) : Prop := match ρ[j]? with
  | some (some (.own ds)) => k ds
  | _ => False
theorem ownAt.mono {ρ : Bj} {j : Nat} {k k' : List Dt → Prop} (hk : ∀ ds, k ds → k' ds) (h : ownAt ρ j k) : ownAt ρ j k' := by
  unfold ownAt at h ⊢
  split at h
  · exact hk _ h
  · exact h.elim
theorem ownAt.get {ρ : Bj} {j : Nat} {k : List Dt → Prop} (h : ownAt ρ j k) : ∃ ds, ρ[j]? = some (some (.own ds)) ∧ k ds := by
  unfold ownAt at h
  split at h
  · rename_i ds e; exact ⟨ds, e, h⟩
  · exact h.elim
noncomputable def Adl (j : Nat) (tb : DTE) : DTE := fun ρ Q => ownAt ρ j fun ds => tb ρ fun k => match k with
  | .int i => match ixL i ds with
    | some v => Q v
    | none => False
  | _ => False
noncomputable def AbE (j : Nat) (te tb : DTE) : DTS := fun D ρ => te ρ fun d => ownAt ρ j fun ds => tb ρ fun k => match k with
  | .int i => (0 ≤ i ∧ i < ds.length) ∧ D.nx (ρ.set j (some (.own (ds.set i.toNat d))))
  | _ => False
noncomputable def YC (j : Nat) (te : DTE) : DTS := fun D ρ => ownAt ρ j fun ds => te ρ fun d => ds.length < sizeLine ∧ D.nx (ρ.set j (some (.own (ds ++ [d]))))
theorem Ov (j : Nat) {x : Str} {px ap cp : Pos} (he : DE X e te) (hN : X.N[j]? = some x := by rfl) (hv : Vis X.env.scope x := by first | exact Or.inl rfl | exact Or.inr (Or.inl rfl) | exact Or.inr (Or.inr rfl)) (hd : (x == ("__debug__" : Str)) = false := by decide)
    (hcd : (x == ("__classdict__" : Str)) = false := by decide) (hbase : attributeBase (.Name x px) "append" X.env (eval (.Name x px) X.env) = eval (.Name x px) X.env := by rfl)
    (hfew : ((backTo cp (starEach [e] X.env)).all (fun x => !x.1) && (backToKw cp (keywordEach [] X.env)).all (fun x => x.1.isSome) && decide ([e].length + ([] : List Keyword).length + (if ([] : List Keyword).isEmpty then 0 else 1) < 30)) = true := by rfl)
    (hline : (ap.endLine == cp.line) = true := by rfl) (hst : starEach [e] X.env = (false, eval e X.env) :: starEach [] X.env := by rfl) (hplain : (backTo cp (starEach [] X.env)).any (·.1) = false := by rfl)
    (hs : swapsWith (.Call (.Attribute (.Name x px) "append" ap) [e] [] cp) none pos.line X.env = pure false := by rfl) : DS X (.Expr (.Call (.Attribute (.Name x px) "append" ap) [e] [] cp) pos) (YC j te) where
  mono := fun hd h => h.mono fun ds h => he.mono (fun d h => ⟨h.1, hd.nx _ h.2⟩) h
  ps := (QG (Yt PySem.F.plainAttrs_list PySem.F.slot_list_append PySem.F.type_list_append HN (Lr hN hv hd hcd) (Ep he.pe GR hst) hbase hfew hline hst hplain) hs).imp fun D σ H ⟨B, F, O, ρ, R, h⟩ => by
    obtain ⟨ds, e1, h⟩ := h.get
    obtain ⟨a, xs, h1, h2, h3, h4, h5⟩ := R.own j ds e1
    refine ⟨_, h1, .inl ⟨rfl, _, SqL.of h4⟩, B, F, O, ρ, R, he.mono (fun d h v H1 s1 r1 => ?_) h⟩
    exact ⟨a, xs, v, rfl, rfl, s1 _ _ h4, by rw [h5.len]; exact h.1, h.2 O σ _ ((R.same s1).putOwn e1 h1 h2 (s1 _ _ h4) ((h5.mono s1.mask).append (.cons r1 .nil)))⟩
noncomputable def Acn (j : Nat) (t : DTS) : DTS := fun D ρ => ownAt ρ j fun ds => t D (ρ.set j (some (.is (.lst ds))))
theorem Aaq (j : Nat) (h : DS X st t) : DS X st (Acn j t) where
  mono := fun hd z => z.mono fun ds z => h.mono hd z
  ps := h.ps.imp fun D σ H ⟨B, F, O, ρ, R, z⟩ => by
    obtain ⟨ds, e1, z⟩ := z.get
    obtain ⟨O', R'⟩ := R.freeze e1
    exact ⟨B, F, O', _, R', z⟩
noncomputable def AbH (j : Nat) : DTE := fun ρ Q => ownAt ρ j fun ds => Q (.int ds.length)
noncomputable def Abo : D2 := fun a b Q => match a with
  | .tup xs => match b with
    | .tup ys => (xs ≠ [] ∧ xs.length + ys.length ≤ sizeLine) ∧ Q (.tup (xs ++ ys))
    | _ => False
  | _ => False
end
end L2
namespace L2
open PySem PySem.Spec PyProof.Rows
section chain3
variable {X : Cx} {a b c e : Expr} {ta tb tc te : TE} {pos : Pos}
end chain3
noncomputable def Wc (t t' t2 : D2) (ta tb tc te : DTE) : DTT := fun ρ Q => ta ρ fun a => tb ρ fun b => t a b fun z => match z with
  | .bl k => if k = true then tc ρ fun c => t' b c fun z => match z with
    | .bl k => if k = true then te ρ fun e => t2 c e fun z => match z with
      | .bl k => Q k
      | _ => False
      else Q false
    | _ => False
    else Q false
  | _ => False
section
variable {X : Cx} {a b c e : Expr} {ta tb tc te : DTE} {pos : Pos}
end
end L2
namespace L2
open PySem PySem.Spec PyProof.Rows PySem.W
end L2
namespace L2
open PySem PySem.Spec PyProof.Rows
variable {X : Cx} {a b : Expr} {ta tb : DTE} {pos : Pos}
theorem Hr {K : PySem.W.Frag} {H : Hp} : ∀ {ns : List Int} {xs : List V}, RpL K H (ns.map Dt.int) xs → xs = ns.map V.int
  | [], _, h => by
    obtain rfl := Bl.mp h
    rfl
  | n :: ns, _, h => by
    obtain ⟨v, r, rfl, r2, r3⟩ := Az.mp h
    rw [Ax] at r2
    subst r2
    rw [Hr r3]
    rfl
noncomputable def dIn : D2 := fun a b Q => ∃ (i : Int) (ns : List Int), a = .int i ∧ b = .lst (ns.map Dt.int) ∧ Q (.bl (decide (i ∈ ns)))
noncomputable def Abn (i : Nat) (te : DTE) : DTS := fun D ρ => match ρ[i]? with
  | some (some (.is (.int a))) => te ρ fun d => match d with
    | .int b => D.nx (ρ.set i (some (.is (.int (a + b)))))
    | _ => False
  | _ => False
noncomputable def AcJ (i j k : Nat) (tl : DTA) : DTS := fun D ρ => tl ρ fun ds => match ds with
  | [d, e, f] => D.nx (((ρ.set i (some (.is d))).set j (some (.is e))).set k (some (.is f)))
  | _ => False
theorem Ky {ti : DTI} {g : DTG} {tb : DTS} {D : Dr} {ρ : Bj} (h : ti ρ fun items => Sh (fun _ R => R items) g tb D ρ) : Sh ti g tb D ρ := h
end L2
namespace L2
open PySem PySem.Spec PyProof.Rows PySem.SeqAt
mutual
noncomputable def Dt.noL : Nat → Dt → Bool
  | _, .non => true
  | _, .bl _ => true
  | _, .int _ => true
  | _, .str _ => true
  | 0, _ => false
  | n + 1, .tup ds => Dt.noLs n ds
  | _, _ => false
noncomputable def Dt.noLs : Nat → List Dt → Bool
  | _, [] => true
  | n, d :: ds => Dt.noL n d && Dt.noLs n ds
end
theorem Ox {n : Nat} {d : Dt} {r : List Dt} : Dt.noLs n (d :: r) = (Dt.noL n d && Dt.noLs n r) := by rw [Dt.noLs]
theorem Vu {n : Nat} : Dt.noLs n [] = true := by rw [Dt.noLs]
theorem Yp {n : Nat} {i : Int} : Dt.noL n (.int i) = true := by cases n <;> rw [Dt.noL] <;> simp
theorem Uc {n : Nat} {r : List Dt} : Dt.noL (n + 1) (.tup r) = Dt.noLs n r := by rw [Dt.noL]
noncomputable def Keep (M M' : Hp) : Prop := ∀ b o, M b = some o → (∀ xs, o ≠ .lst xs) → M' b = some o
mutual
theorem Aaw {K : PySem.W.Frag} {M M' : Hp} (k : Keep M M') : ∀ (n : Nat) (d : Dt) (v : V), d.noL n = true → Rp K M d v → Rp K M' d v
  | _, .non, _, _, r => by rw [K7] at r ⊢; exact r
  | _, .bl _, _, _, r => by rw [CG] at r ⊢; exact r
  | _, .int _, _, _, r => by rw [Ax] at r ⊢; exact r
  | _, .str _, _, _, r => by rw [Mh] at r ⊢; exact r
  | 0, .tup _, _, h, _ => by simp [Dt.noL] at h
  | n + 1, .tup ds, _, h, r => by
    rw [Uc] at h
    obtain ⟨a, xs, e, q, r⟩ := Ci.mp r
    refine Ci.mpr ⟨a, xs, e, ?_, Iz k n ds xs h r⟩
    rcases q with (q | ⟨o, q⟩) | q
    · exact .inl (.inl (k _ _ q fun _ => by simp))
    · exact .inl (.inr ⟨o, k _ _ q fun _ => by simp⟩)
    · exact .inr q
  | 0, .lst _, _, h, _ => by simp [Dt.noL] at h
  | _ + 1, .lst _, _, h, _ => by simp [Dt.noL] at h
  | 0, .fn _, _, h, _ => by simp [Dt.noL] at h
  | _ + 1, .fn _, _, h, _ => by simp [Dt.noL] at h
  | 0, .exc _ _ _, _, h, _ => by simp [Dt.noL] at h
  | _ + 1, .exc _ _ _, _, h, _ => by simp [Dt.noL] at h
  | 0, .obj _ _ _, _, h, _ => by simp [Dt.noL] at h
  | _ + 1, .obj _ _ _, _, h, _ => by simp [Dt.noL] at h
theorem Iz {K : PySem.W.Frag} {M M' : Hp} (k : Keep M M') : ∀ (n : Nat) (ds : List Dt) (vs : List V), Dt.noLs n ds = true → RpL K M ds vs → RpL K M' ds vs
  | _, [], _, _, r => by rw [Bl] at r ⊢; exact r
  | n, d :: ds, _, h, r => by
    rw [Ox, Bool.and_eq_true] at h
    obtain ⟨v, w, rfl, r1, r2⟩ := Az.mp r
    exact Az.mpr ⟨v, w, rfl, Aaw k n d v h.1 r1, Iz k n ds w h.2 r2⟩
end
theorem RpL.memOf {K : PySem.W.Frag} {H : Hp} : ∀ {ds : List Dt} {vs : List V} {d : Dt}, RpL K H ds vs → d ∈ ds → ∃ v ∈ vs, Rp K H d v
  | [], _, _, _, h => by simp at h
  | d :: ds, _, e, r, h => by
    obtain ⟨v, w, rfl, r1, r2⟩ := Az.mp r
    rcases List.mem_cons.mp h with h | h
    · subst h; exact ⟨v, List.mem_cons_self, r1⟩
    · obtain ⟨u, h1, h2⟩ := RpL.memOf r2 h
      exact ⟨u, List.mem_cons_of_mem _ h1, h2⟩
noncomputable def Vm : Option HO → Bool
  | some (.lst _) => true
  | _ => false
theorem O9 {o : Option HO} (h : Vm o = true) : ∃ xs, o = some (.lst xs) := by
  unfold Vm at h
  split at h
  · exact ⟨_, rfl⟩
  · cases h
noncomputable def lists (H : Hp) (n : Nat) : List Addr := (List.range n).filter fun a => Vm (H a)
theorem Rt {H : Hp} {n a : Nat} {xs : List V} (h : H a = some (.lst xs)) (l : a < n) : a ∈ lists H n := List.mem_filter.mpr ⟨List.mem_range.mpr l, by rw [h]; rfl⟩
theorem Tn {H : Hp} {n a : Nat} (h : a ∈ lists H n) : ∃ xs, H a = some (.lst xs) := O9 (List.mem_filter.mp h).2
section
variable {X : Cx} {a b c e : Expr} {es : List Expr} {st : Stmt} {ta tb te : DTE} {tl : DTA} {tA : DTT} {t : DTS} {pos : Pos}
noncomputable def U7 (i : Nat) (sp : DSp) (tl : DTA) : DTS := fun D ρ => tl ρ fun ds => Dt.noLs 4 ds = true ∧ sp ds fun d => ∃ ks, d = .lst ks ∧ (∃ r, Dt.tup r ∈ ks) ∧ Dt.noLs 4 ks = true ∧ D.nx (ρ.set i (some (.own ks)))
theorem TF (i : Nat) {k : Nat} {ps : List Str} {sp : DSp} {f y : Str} {stx : Stmt} {p cp pos' : Pos} (hN : X.N.Nodup) (m : Jx sp) (G : Pm X.prog X.w X.K X.mg X.base k f stx ps sp) (hr : Es k X.A) (hg : Gl X f)
    (ha : DA X (e :: es) tl) (hdb : (f == ("__debug__" : Str)) = false := by decide) (hi : X.N[i]? = some y := by rfl) (hx : Loc X.env.scope y := by first | exact Or.inl rfl | exact Or.inr rfl)
    (he : starEach (e :: es) X.env = (false, eval e X.env) :: starEach es X.env := by rfl) (hpl : (backTo cp (starEach es X.env)).any (·.1) = false := by rfl)
    (hs : swapsWith (.Call (.Name f p) (e :: es) [] cp) (some (.Name y pos')) pos.line X.env = pure false := by rfl)
    (hf : X.fn y = true ∨ X.env.scope.names.lookup y = some .local := by first | exact .inl rfl | exact .inr rfl | assumption) : DS X (.Assign [.Name y pos'] (.Call (.Name f p) (e :: es) [] cp) pos) (U7 i sp tl) where
  mono := fun hd h => ha.mono (fun ds ⟨h1, h2⟩ => ⟨h1, m _ _ _ (fun d ⟨ks, q1, q2, q3, q4⟩ => ⟨ks, q1, q2, q3, hd.nx _ q4⟩) h2⟩) h
  ps := fun pins s σ H D I ⟨B, F, O, ρ, R, h⟩ => by
    obtain ⟨f', fd, FT, G⟩ := G
    refine (O5 hN hi hx (Rf G hr hg FT.mg FT.fn.kp FT.bd .nil Yk ha.pa hdb he hpl) hs hf) pins s σ H D I ?_
    refine ⟨B, F, O, ρ, R, ha.mono (fun ds ⟨hn, z⟩ vs H1 s1 r1 => ?_) h⟩
    show lSp X.K sp (vs ++ []) H1 _ E0
    rw [List.append_nil]
    have hL : ∀ a ∈ lists H s.heap.objs.size, ∃ xs, H1 a = some (.lst xs) := fun a h => by
      obtain ⟨xs, e⟩ := Tn h
      exact ⟨xs, s1 _ _ e⟩
    refine ⟨(F ++ O) ++ lists H s.heap.objs.size, ds, fun a h => ?_, ?_, m _ _ _ (fun d ⟨ks, q1, ⟨rr, q2⟩, q3, q4⟩ v H2 s2 r2 => ?_) z⟩
    · rcases List.mem_append.mp h with h | h
      · exact (R.same s1).th a h
      · obtain ⟨xs, e⟩ := hL a h
        rw [e]; simp
    · refine Iz (fun b o e nl => ?_) 4 ds vs hn r1
      obtain ⟨n1, e⟩ := BX e
      rw [Ay]
      · exact e
      · intro z
        rcases List.mem_append.mp z with z | z
        · exact n1 z
        · obtain ⟨xs, e'⟩ := hL b z
          rw [e] at e'
          exact nl xs (Option.some.inj e')
    · subst q1
      obtain ⟨a, xs, rfl, ls, rl⟩ := IW.mp r2
      have ea : mask ((F ++ O) ++ lists H s.heap.objs.size) H2 a = some (.lst xs) := by
        rcases ls with ls | ⟨_, hi⟩
        · exact ls
        · obtain ⟨v, hv, r⟩ := rl.memOf q2
          obtain ⟨_, _, rfl, _⟩ := Ci.mp r
          obtain ⟨i, e⟩ := hi _ hv
          cases e
      obtain ⟨na, ea⟩ := BX ea
      have Ha : H a = none := by
        cases q : H a with
        | none => rfl
        | some o =>
          have e2 := s2 _ _ (s1 _ _ q)
          rw [ea] at e2
          cases e2
          exact absurd (List.mem_append_right _ (Rt q (I.hok a _ q).lt)) na
      let H3 : Hp := fun b => if b = a then none else H2 b
      have h3n : H3 a = none := if_pos rfl
      have h3o : ∀ b, b ≠ a → H3 b = H2 b := fun b n => if_neg n
      have eU : upd H3 a (.lst xs) = H2 := by
        funext b
        by_cases n : b = a
        · subst n; rw [BR, ea]
        · rw [Bd n, h3o b n]
      have R3 : Rep X.K B F O H3 σ ρ := R.same fun b o q => by
        rw [h3o b fun n => by rw [n, Ha] at q; cases q]
        exact s2 _ _ (s1 _ _ q)
      have rl3 : RpL X.K (mask (F ++ O) H3) ks xs := Iz (fun b o q nl => by
        obtain ⟨n1, q⟩ := BX q
        rw [Ay fun z => n1 (List.mem_append_left _ z), h3o b fun n => by
          subst n
          rw [ea] at q
          exact nl xs (Option.some.inj q).symm]
        exact q) 4 ks xs q3 rl
      have := q4 (a :: O) _ _ (R3.newOwn i h3n rl3)
      rw [eU] at this
      exact this
noncomputable def Tw (j : Nat) (t : DTT) : DTT := fun ρ Q => ownAt ρ j fun ds => t (ρ.set j (some (.is (.lst ds)))) Q
theorem Qm (j : Nat) (h : DT X e tA) : DT X e (Tw j tA) where
  mono := fun hq z => z.mono fun ds z => h.mono hq z
  pt := h.pt.imp fun σ H Q ⟨B, F, O, ρ, R, z⟩ => by
    obtain ⟨ds, e1, z⟩ := z.get
    obtain ⟨O', R'⟩ := R.freeze e1
    exact ⟨B, F, O', _, R', h.mono (fun b q H' s' => q H' s') z⟩
noncomputable def T7 (j : Nat) : DTE := fun ρ Q => ownAt ρ j fun ds => Q (.lst ds)
theorem TQ (j : Nat) {x : Str} {p px : Pos} (hm : X.mg "list" = none) (hN : X.N[j]? = some x := by rfl) (hv : Vis X.env.scope x := by first | exact Or.inl rfl | exact Or.inr (Or.inl rfl) | exact Or.inr (Or.inr rfl)) (hd : (x == ("__debug__" : Str)) = false := by decide)
    (hcd : (x == ("__classdict__" : Str)) = false := by decide) (hg : Gl X "list" := by rfl) (hst : starEach [.Name x px] X.env = (false, eval (.Name x px) X.env) :: starEach [] X.env := by rfl) (hpl : (backTo pos (starEach [] X.env)).any (·.1) = false := by rfl) : DE X (.Call (.Name "list" p) [.Name x px] [] pos) (T7 j) where
  mono := fun hq h => h.mono fun ds h => hq _ h
  pe := (Hy Lh hg hm rfl (Ep (Lr hN hv hd hcd) GR hst) (he := hst) (hpl := hpl)).imp fun σ H Q ⟨B, F, O, ρ, R, h⟩ => by
    obtain ⟨ds, e1, h⟩ := h.get
    obtain ⟨a, xs, h1, h2, h3, h4, h5⟩ := R.own j ds e1
    refine ⟨_, h1, a, xs, rfl, .inl (SqL.of h4), fun l hl => ?_⟩
    have nl : l ∉ F ++ O := fun z => R.th l z hl
    exact h _ _ (Same.upd hl) (Gx ⟨l, xs, rfl, G4 nl, h5.mono (Same.upd hl).mask⟩)
end
end L2
namespace L2
open PySem PySem.Spec PyProof.Rows PySem.W PySem.Builtin PySem.Builtin.ObjectAttr
section
variable {prog : Program} {w : World} {A : Around} {E : Value → Shared → Prop} {s : Shared} {K : PySem.W.Frag} {C U x dx : Addr} {name : Str} {v : Value}
end
section
variable {X : Cx} {pins : List (Addr × Obj)} {σ : St} {H : Hp} {s : Shared} {h' : Heap} {a dx C U f fI : Addr}
end
end L2
namespace L2
open PySem PySem.Spec PyProof.Rows PySem.SeqAt
noncomputable abbrev AaY := Bj → (List Dt → Prop) → (Dt → Prop) → Prop
section
variable {X : Cx} {e : Expr} {es : List Expr} {te : N6} {tl : DTA} {tx : AaY} {pos : Pos}
noncomputable def Aae (te : N6) (tl : DTA) : AaY := fun ρ Q E => te ρ (fun d => tl ρ fun ds => Q (d :: ds)) E
noncomputable def Aa1 (sp : DSp) (tx : AaY) : N6 := fun ρ Q E => tx ρ (fun ds => sp ds Q) E
end
end L2
namespace L2
open PySem PySem.Spec PyProof.Rows
section
variable {prog : Program} {w : World} {A : Around} {I S : Addr} {fp wr : List Addr} {n : Nat} {P : Nat → Value → Prop} {St : Nat → Heap → Prop} {bt : Nat → Nat → Bool} {R : Result → Shared → Prop}
noncomputable def Hv (wr : List Addr) (S : Addr) (h h' : Heap) : Prop := ∀ b o, b ∉ wr → b ≠ S → h.get? b = some o → h'.get? b = some o
noncomputable def O7 (prog : Program) (w : World) (A : Around) (wr : List Addr) (S : Addr) (h : Heap) (P : Nat → Value → Prop) (bt : Nat → Nat → Bool) : Prop :=
  ∀ (i j : Nat) (x y : Value) (s : Shared) (Q : Value → Shared → Prop) (E : Value → Shared → Prop), Hv wr S h s.heap → P i x → P j y → Q (.bool (bt i j)) s → wpAny (model prog w) A (richCompare .Lt x y) Q E s
theorem P0 : (toString "min" ++ toString ".loop" : String) = "min.loop" := by decide
theorem Pg {h0 : Heap} (W : Walks prog w A.in1 I fp wr n P St) (less : O7 prog w A.in1 wr S h0 P bt) (off : S ∉ fp) :
    ∀ (left at' : Nat) (s : Shared) (best : Value) (c : Nat), n = at' + 1 + left → St (at' + 1) s.heap → P (argBest bt at') best → Hv wr S h0 s.heap →
      s.heap.get? S = some ⟨.type "list", none, .seq #[best, best] c, #[]⟩ →
      (∀ v h' tk, P (argBest bt (n - 1)) v → Hv wr S s.heap h' → R (.ok (.ret v)) { s with heap := h', toks := tk }) →
      codeAny (model prog w) A (.builtin "min.loop" ⟨[.ref I, .none, .ref S], []⟩) R s := by
  have off' : S ∉ wr := fun z => off (W.sub _ z)
  have nm := P0
  intro left
  induction left with
  | zero =>
    intro at' s best c hn st hb hk hS fin
    have e : at' + 1 = n := by omega
    refine codeAny_builtin F.entry_min_loop ?_; rw [Around.under_plainId F.plain_min_loop _]; show wpAny _ A.in1 (seqItems? (.ref S) >>= _) _ _ s
    refine wpAny_bind (wpAny_seqItems hS rfl ?_); show wpAny _ A.in1 (tryCatch (pyNext (.ref I)) _ >>= _) _ _ s
    refine wpAny_bind (wpAny_tryCatch (W.done s _ _ (e ▸ st) fun h1 tk k1 => ?_))
    show wpAny _ A.in1 (updateSeq S (fun _ => #[]) >>= _) _ _ _; refine wpAny_bind (wpAny_updateSeq (k1 S _ off' hS) rfl (wpAny_bind (wpAny_letGo (wpAny_pure ?_))))
    exact fin best _ tk (by rw [← e]; exact hb) fun b o nb ns eo => (Heap.get?_update_other _ _ (Ne.symm ns)).trans (k1 b o nb eo)
  | succ left ih =>
    intro at' s best c hn st hb hk hS fin
    refine codeAny_builtin F.entry_min_loop ?_; rw [Around.under_plainId F.plain_min_loop _]; show wpAny _ A.in1 (seqItems? (.ref S) >>= _) _ _ s
    refine wpAny_bind (wpAny_seqItems hS rfl ?_); show wpAny _ A.in1 (tryCatch (pyNext (.ref I)) _ >>= _) _ _ s
    refine wpAny_bind (wpAny_tryCatch (W.item (at' + 1) s _ _ (by omega) st fun v h1 tk hv st1 k1 => ?_))
    have hS1 := k1 S _ off' hS
    have hk1 : Hv wr S h0 h1 := fun b o nb ns eo => k1 b o nb (hk b o nb ns eo)
    show wpAny _ A.in1 (tryCatch (holding [v, v] (richCompare .Lt v best >>= _)) _ >>= _) _ _ _
    refine wpAny_bind (wpAny_tryCatch (wpAny_holding (wpAny_bind (less (at' + 1) (argBest bt at') v best _ _ _ hk1 hv hb ?_))))
    refine wpAny_bind (wpAny_holding (wpAny_truthy_bool ?_)); refine wpAny_bind (wpAny_letGo (wpAny_pure ?_))
    cases hbt : bt (at' + 1) (argBest bt at') with
    | true =>
      simp only [if_true]
      refine wpAny_bind (wpAny_updateSeq hS1 rfl (wpAny_bind (wpAny_letGo ?_)))
      rw [nm]
      refine wpAny_pure ⟨plainId_quiet F.plain_min_loop _, ih (at' + 1) _ v _ (by omega) (W.frame _ _ _ st1 fun b hbf o eo => (Heap.get?_update_other _ _ (fun z : S = b => off (z ▸ hbf))).trans eo) (by simp only [argBest, hbt, if_true]; exact hv) (fun b o nb ns eo => (Heap.get?_update_other _ _ (Ne.symm ns)).trans (hk1 b o nb ns eo)) (Heap.get?_update_self _ hS1 rfl) fun v' h2 tk2 hv' k2 => ?_⟩
      exact fin v' h2 tk2 hv' fun b o nb ns eo => k2 b o nb ns ((Heap.get?_update_other _ _ (Ne.symm ns)).trans (k1 b o nb eo))
    | false =>
      simp only [Bool.false_eq_true, if_false]
      refine wpAny_bind (wpAny_letGo ?_)
      rw [nm]
      refine wpAny_pure ⟨plainId_quiet F.plain_min_loop _, ih (at' + 1) _ best c (by omega) st1 (by simp only [argBest, hbt, Bool.false_eq_true, if_false]; exact hb) hk1 hS1 fun v' h2 tk2 hv' k2 => ?_⟩
      exact fin v' h2 tk2 hv' fun b o nb ns eo => k2 b o nb ns (k1 b o nb eo)
theorem N8 {s : Shared} {c : Nat} (W : Walks prog w A.in1 I fp wr n P St) (less : O7 prog w A.in1 wr S s.heap P bt) (off : S ∉ fp) (n0 : 0 < n) (st : St 0 s.heap) (hS : s.heap.get? S = some ⟨.type "list", none, .seq #[] c, #[]⟩)
    (fin : ∀ v h' tk, P (argBest bt (n - 1)) v → Hv wr S s.heap h' → R (.ok (.ret v)) { s with heap := h', toks := tk }) : codeAny (model prog w) A (.builtin "min.loop" ⟨[.ref I, .none, .ref S], []⟩) R s := by
  have off' : S ∉ wr := fun z => off (W.sub _ z)
  refine codeAny_builtin F.entry_min_loop ?_; rw [Around.under_plainId F.plain_min_loop _]; show wpAny _ A.in1 (seqItems? (.ref S) >>= _) _ _ s
  refine wpAny_bind (wpAny_seqItems hS rfl ?_); show wpAny _ A.in1 (tryCatch (pyNext (.ref I)) _ >>= _) _ _ s
  refine wpAny_bind (wpAny_tryCatch (W.item 0 s _ _ n0 st fun v h1 tk hv st1 k1 => ?_))
  have hS1 := k1 S _ off' hS
  show wpAny _ A.in1 (updateSeq S (fun _ => #[v, v]) >>= _) _ _ _; refine wpAny_bind (wpAny_updateSeq hS1 rfl ?_); rw [P0]
  refine wpAny_pure ⟨plainId_quiet F.plain_min_loop _, Pg (h0 := s.heap) W less off (n - 1) 0 _ v _ (by omega) (W.frame _ _ _ st1 fun b hbf o eo => (Heap.get?_update_other _ _ (fun z : S = b => off (z ▸ hbf))).trans eo) hv (fun b o nb ns eo => (Heap.get?_update_other _ _ (Ne.symm ns)).trans (k1 b o nb eo)) (Heap.get?_update_self _ hS1 rfl) fun v' h2 tk2 hv' k2 => ?_⟩
  exact fin v' h2 tk2 hv' fun b o nb ns eo => k2 b o nb ns ((Heap.get?_update_other _ _ (Ne.symm ns)).trans (k1 b o nb eo))
theorem NK {E : Value → Shared → Prop} {s : Shared} {x : Value} {Q : Value → Shared → Prop}
    (h : wpAny (model prog w) A.in1 (pyIter x) (fun it s2 => ∃ I fp wr n P St bt, it = .ref I ∧ Walks prog w A.in1 I fp wr n P St ∧ St 0 s2.heap ∧ (∀ b ∈ fp, b < s2.heap.objs.size) ∧ 0 < n ∧
      (∀ h1 : Heap, (∀ b o, s2.heap.get? b = some o → h1.get? b = some o) → O7 prog w A.in1 wr s2.heap.objs.size h1 P bt) ∧
      ∀ v h' tk, P (argBest bt (n - 1)) v → (∀ b o, b ∉ wr → s2.heap.get? b = some o → h'.get? b = some o) → Q v { s2 with heap := h', toks := tk }) E s) :
    wpAny (model prog w) A (call (.builtin "min") [x]) Q E s := by
  refine call_function_tree F.kind_min F.plain_min F.entry_min (F.args_min1 _) ?_; show wpAny _ A.in1 (Builtin.Builtins.bindParams "min" ["key", "default"] 0 ⟨[], []⟩ >>= _) _ _ s
  refine wpAny_bind (wpAny_of_eq (show Builtin.Builtins.bindParams "min" ["key", "default"] 0 ⟨[], []⟩ = pure [none, none] from rfl) ?_); refine wpAny_bind (wpAny_pure ?_)
  refine wpAny_bind (wpAny_mono h (fun it s2 h2 => ?_) fun _ _ z => z); obtain ⟨I, fp, wr, n, P, St, bt, rfl, W, st, low, n0, less, fin⟩ := h2
  refine wpAny_bind (wpAny_newObj_type ?_); rw [P0]
  have off : s2.heap.objs.size ∉ fp := fun z => Nat.lt_irrefl _ (low _ z)
  refine wpAny_pure ⟨plainId_quiet F.plain_min_loop _, N8 W (less _ fun b o e => Heap.get?_push_of_some _ e) off n0 (W.frame _ _ _ st fun b _ o e => Heap.get?_push_of_some _ e) (Heap.get?_push_size _ rfl) fun v h' tk hv k => ?_⟩
  exact fin v h' tk hv fun b o nb e => k b o nb (Nat.ne_of_lt (Heap.lt_size e)) (Heap.get?_push_of_some _ e)
end
variable {X : Cx}
noncomputable def Ym (K : PySem.W.Frag) : List V → Hp → VK → Prop := fun xs H Q => ∃ p vs, ∃ nss : Nat → List Int, xs = [.ref p] ∧ SqL K H p vs ∧ 0 < vs.length ∧ (∀ (i : Nat) (v : V), vs[i]? = some v → ∃ a, v = .ref a ∧ SqT K H a ((nss i).map V.int)) ∧
  ∀ v, vs[argBest (fun i j => HT.lexLt (nss i) (nss j)) (vs.length - 1)]? = some v → Q v H
theorem Vals.at {xs : List V} {us : List Value} (r : Vals xs us) : ∀ (i : Nat) (u : Value), us[i]? = some u → ∃ x, xs[i]? = some x ∧ RelV x u := by
  induction r with
  | nil => intro i u h; cases h
  | cons h t ih =>
    intro i u e
    cases i with
    | zero => exact ⟨_, rfl, by cases e; exact h⟩
    | succ i => exact ih i u e
theorem Sw (hc : X.calm = true) (hu : X.A.in1.units < cLine) : Fb X (.builtin "min") (Ym X.K) := by
  intro pins s σ H xs us Q I r h
  obtain ⟨p, vs, nss, rfl, hl, ne, each, q⟩ := h
  obtain ⟨u, rfl, r1⟩ := vals1 r
  cases r1
  obtain ⟨its, rv, pl, _⟩ := I.list hl
  have hlen : its.length = vs.length := rv.length.symm
  have lt : p < s.heap.objs.size := by obtain ⟨_, e, _⟩ := pl.isList; exact Heap.lt_size e
  refine NK (wpAny_pyIter_list pl.isList ?_)
  refine ⟨s.heap.objs.size, [s.heap.objs.size, p], [s.heap.objs.size], its.toArray.size, fun i v => its.toArray[i]? = some v, _, fun i j => HT.lexLt (nss i) (nss j), rfl, Walks.list (A := X.A.in1) (I.ok.hd hc) _ p (Nat.ne_of_lt lt) its.toArray, ⟨⟨_, Heap.get?_push_size _ rfl, rfl, rfl⟩, pl.isList.push _⟩, ?_, ?_, ?_, ?_⟩
  · intro b hb
    show b < (s.heap.push _).objs.size
    rw [Heap.size_push]
    rcases List.mem_cons.mp hb with rfl | hb
    · exact Nat.lt_succ_self _
    · have e : b = p := by simpa using hb
      rw [e]
      exact Nat.lt_succ_of_lt lt
  · rw [List.size_toArray]; omega
  · intro h1 k1 i j x y s' Q' E' kept hx hy q'
    have fact : ∀ (i : Nat) (x : Value), its.toArray[i]? = some x → ∃ a its2, x = .ref a ∧ IsTup s'.heap a its2 ∧ IntsAre its2.toList (nss i) := fun i x hx => by
      obtain ⟨v, e1, r2⟩ := Vals.at rv i x (by simpa using hx)
      obtain ⟨a, rfl, ht⟩ := each i v e1
      cases r2
      obtain ⟨its2, r3, tp, _⟩ := I.tuple ht
      refine ⟨a, its2.toArray, rfl, ?_, intsAre_of r3⟩
      have go : ∀ o, s.heap.get? a = some o → s'.heap.get? a = some o := fun o eo => by
        have la := Heap.lt_size eo
        refine kept a o (fun z => ?_) (fun z => ?_) (k1 a o (Heap.get?_push_of_some _ eo))
        · have e2 : a = s.heap.objs.size := by simpa using z
          rw [e2] at la
          exact Nat.lt_irrefl _ la
        · have e2 : a = (s.heap.push _).objs.size := z
          rw [Heap.size_push] at e2
          rw [e2] at la
          exact Nat.lt_irrefl _ (Nat.lt_of_succ_lt la)
      obtain ⟨o, eo, rest⟩ := tp
      exact ⟨o, go o eo, rest⟩
    obtain ⟨a, i1, rfl, t1, n1⟩ := fact i x hx
    obtain ⟨b, i2, rfl, t2, n2⟩ := fact j y hy
    exact HT.Jv t1 t2 n1 n2 hu q'
  · intro v h' tk hv k
    obtain ⟨x, e1, r2⟩ := Vals.at rv _ v (by simpa using hv)
    rw [hlen] at e1
    exact ⟨x, H, I.kept fun b o e => k b o (fun z => by have e2 : b = s.heap.objs.size := by simpa using z
                                                        have e3 := Heap.lt_size e
                                                        rw [e2] at e3
                                                        exact Nat.lt_irrefl _ e3) (Heap.get?_push_of_some _ e), r2, q x e1⟩
theorem RpL.at' {K : PySem.W.Frag} {H : Hp} : ∀ {ds : List Dt} {vs : List V} (i : Nat) (v : V), RpL K H ds vs → vs[i]? = some v → ∃ d, ds[i]? = some d ∧ Rp K H d v
  | [], vs, i, v, h, e => by
    obtain rfl := Bl.mp h
    cases e
  | d :: ds, vs, i, v, h, e => by
    obtain ⟨v', r, rfl, r2, r3⟩ := Az.mp h
    cases i with
    | zero => exact ⟨d, rfl, by cases e; exact r2⟩
    | succ i => exact RpL.at' i v r3 e
theorem RpL.len' {K : PySem.W.Frag} {H : Hp} : ∀ {ds : List Dt} {vs : List V}, RpL K H ds vs → vs.length = ds.length
  | [], vs, h => by
    obtain rfl := Bl.mp h
    rfl
  | d :: ds, vs, h => by
    obtain ⟨v', r, rfl, r2, r3⟩ := Az.mp h
    rw [List.length_cons, List.length_cons, RpL.len' r3]
noncomputable def Fo (nss : List (List Int)) : Nat := argBest (fun i j => HT.lexLt (nss.getD i []) (nss.getD j [])) (nss.length - 1)
noncomputable abbrev BP (ns : List Int) : Dt := .tup (ns.map Dt.int)
noncomputable def Yq : DL := fun ds Q => ∃ nss : List (List Int), ds = [.lst (nss.map BP)] ∧ 0 < nss.length ∧ Fo nss < nss.length ∧ Q (BP (nss.getD (Fo nss) []))
theorem TY {K : PySem.W.Frag} : Oe K (Ym K) Yq where
  mono := fun hq ⟨nss, e, n0, lt, h⟩ => ⟨nss, e, n0, lt, hq _ h⟩
  ok := fun O H ds xs Q _ r ⟨nss, e, n0, lt, h⟩ => by
    subst e
    obtain ⟨x, r', rfl, r2, r3⟩ := Az.mp r
    obtain rfl := Bl.mp r3
    obtain ⟨p, vs, rfl, hs, hl⟩ := Dh r2
    have hs' := (Bb (O := O) (H := H)).seq hs
    have hl' := hl.mono (Bb (O := O) (H := H))
    have hlen := RpL.len' hl'
    rw [List.length_map] at hlen
    have row : ∀ (i : Nat) (d : Dt), (nss.map BP)[i]? = some d → d = BP (nss.getD i []) := fun i d e => by
      rw [List.getElem?_map] at e
      cases q : nss[i]? with
      | none => rw [q] at e; cases e
      | some ns =>
        rw [q] at e
        cases e
        have : nss.getD i [] = ns := by simp [List.getD, q]
        rw [this]
    refine ⟨p, vs, fun i => nss.getD i [], rfl, hs', by omega, fun i v e => ?_, fun v e => ?_⟩
    · obtain ⟨d, e1, r4⟩ := RpL.at' i v hl' e
      rw [row i d e1] at r4
      obtain ⟨a, ys, rfl, ht, hy⟩ := Ci.mp r4
      obtain rfl := Hr hy
      exact ⟨a, rfl, ht⟩
    · rw [hlen] at e
      obtain ⟨d, e1, r4⟩ := RpL.at' _ v hl e
      rw [row _ d e1] at r4
      exact h v H (Same.refl H) r4
theorem V4 {a : Expr} {tl : DTA} {p pos : Pos} (hm : X.mg "min" = none) (hu : X.A.in1.units < cLine) (ha : DA X [a] tl) (hc : X.calm = true := by rfl) (hg : Gl X "min" := by rfl) (hv : bootBuiltins "min" = some (.builtin "min") := by rfl) (he : starEach [a] X.env = (false, eval a X.env) :: starEach [] X.env := by rfl)
    (hpl : (backTo pos (starEach [] X.env)).any (·.1) = false := by rfl) : DE X (.Call (.Name "min" p) [a] [] pos) (dCB Yq tl) := QJ (Sw hc hu) TY hg hm hv ha (he := he) (hpl := hpl)
end L2
namespace L2
open PySem PySem.Spec PyProof.Rows
variable {X : Cx}
theorem NZ {h : Heap} {a : Addr} {i1 i2 : Array Value} (t1 : IsTup h a i1) (t2 : IsTup h a i2) : i1 = i2 := by
  obtain ⟨o, e1, _, n1, d1⟩ := t1
  obtain ⟨o', e2, _, n2, d2⟩ := t2
  rw [e1] at e2
  cases e2
  rw [d1] at d2
  cases d2
  rfl
noncomputable def Wx (K : PySem.W.Frag) : V → List V → Hp → VK → Prop := fun x ys H Q => ∃ p vs, ∃ nss : Nat → List Int, ∃ b ns j, x = .ref p ∧ ys = [.ref b] ∧ SqL K H p vs ∧ SqT K H b (List.map V.int ns) ∧ (∀ (i : Nat) (v : V), vs[i]? = some v → ∃ a, v = .ref a ∧ SqT K H a ((nss i).map V.int)) ∧
  j < vs.length ∧ nss j = ns ∧ (∀ m, m < j → nss m ≠ ns) ∧ Q (.int (j : Nat)) H
theorem La {K : PySem.W.Frag} {H : Hp} {a : Addr} {ns : List Int} (h : SqT K H a (ns.map V.int)) : Rp K H (BP ns) (.ref a) := Ci.mpr ⟨a, _, rfl, h, RpL.ints ns⟩
theorem K5 : ∀ (ns ms : List Int), Dt.eqs (ns.map Dt.int) (ms.map Dt.int) = decide (ns = ms)
  | [], [] => by simp [Dt.eqs]
  | [], m :: ms => by simp [Dt.eqs]
  | n :: ns, [] => by simp [Dt.eqs]
  | n :: ns, m :: ms => by
    rw [List.map_cons, List.map_cons, Dt.eqs, K5 ns ms, U6, ← Bool.decide_and]
    exact decide_eq_decide.mpr (by simp)
theorem Ht : ∀ (ns : List Int), Dt.flats 7 (ns.map Dt.int) = true
  | [] => rfl
  | n :: ns => by rw [List.map_cons, Dt.flats, Ht ns]; rfl
theorem RX (hu : X.A.units + 64 < cLine) (hu1 : X.A.in1.units + 8 < cLine) : MtR X "list.index" (Wx X.K) := by
  classical
  intro pins s σ H x ys v us Q I rx ry h
  obtain ⟨p, vs, nss, b, ns, j, rfl, rfl, hl, hb, each, jl, ej, before, q⟩ := h
  cases rx
  obtain ⟨u, rfl, r1⟩ := vals1 ry
  cases r1
  obtain ⟨its, rv, pl, hz⟩ := I.list hl
  have hlen : its.length = vs.length := rv.length.symm
  have fl : ∀ ns : List Int, (BP ns).flat 8 = true := fun ns => Ht ns
  have rowAt' : ∀ (i : Nat) (y : Value), its[i]? = some y → ∃ a, y = .ref a ∧ SqT X.K H a ((nss i).map V.int) := fun i y e => by
    obtain ⟨v, e1, r2⟩ := Vals.at rv i y e
    obtain ⟨a, rfl, ht⟩ := each i v e1
    cases r2
    exact ⟨a, rfl, ht⟩
  have uniq : ∀ (i i' : Nat) (y : Value), its[i]? = some y → its[i']? = some y → nss i = nss i' := fun i i' y e e' => by
    obtain ⟨a, rfl, h1⟩ := rowAt' i y e
    obtain ⟨a', ea, h2⟩ := rowAt' i' _ e'
    cases ea
    obtain ⟨i1, v1, t1, _⟩ := I.tuple h1
    obtain ⟨i2, v2, t2, _⟩ := I.tuple h2
    have es := NZ t1 t2
    have n1 : IntsAre i1.toArray.toList (nss i) := intsAre_of v1
    have n2 : IntsAre i2.toArray.toList (nss i') := intsAre_of v2
    rw [← es] at n2
    rw [← n1.numsOf, ← n2.numsOf]
  obtain ⟨o, n, eo, ec, ed, dd⟩ := pl
  obtain ⟨cl, di, da, sl⟩ := o
  dsimp only at ec ed dd
  subst ec ed dd
  have jl' : j < its.toArray.size := by rw [List.size_toArray]; omega
  have at' : ∀ (i : Nat) (hi : i < its.toArray.size), its[i]? = some its.toArray[i] := fun i hi => by
    rw [List.getElem_toArray]
    exact List.getElem?_eq_getElem _
  refine call_meets F.slot_list_index ⟨_, eo, rfl⟩ F.entry_list_index (F.args_list_index_2 _ _) (SeqAt.list_indexAt p its.toArray n none sl (.ref b) (fun y => decide (∃ i, its[i]? = some y ∧ nss i = ns)) j jl' ?_ ?_ ?_) ⟨eo, ?_, ?_⟩
  · have : sizeLine < 2 ^ 63 - 1 := by unfold sizeLine; decide
    omega
  · exact decide_eq_true ⟨j, at' j jl', ej⟩
  · intro m hm lt
    refine decide_eq_false ?_
    rintro ⟨i, e1, e2⟩
    exact before m lt ((uniq m i _ (at' m hm) e1).trans e2)
  · intro y hy
    obtain ⟨i, hi, e⟩ := List.getElem_of_mem (show y ∈ its by simpa using hy)
    have e1 : its[i]? = some y := by rw [← e]; exact List.getElem?_eq_getElem hi
    obtain ⟨a, rfl, ht⟩ := rowAt' i y e1
    obtain ⟨ca, da⟩ := Dn _ 8 (fl (nss i))
    obtain ⟨cb, db⟩ := Dn _ 8 (fl ns)
    obtain ⟨as, q1⟩ := Dk I ca (La ht) (rfl : RelV (.ref a) (.ref a))
    obtain ⟨bs, q2⟩ := Dk I cb (La hb) (rfl : RelV (.ref b) (.ref b))
    have := SeqAt.eqAt_reads _ _ X.A.in1 s _ _ as bs q1 q2 ca cb (by omega)
    rw [Jc _ _ ca cb] at this
    have ee : (BP (nss i)).eq (BP ns) = decide (∃ i, its[i]? = some (Value.ref a) ∧ nss i = ns) := by
      show Dt.eqs _ _ = _
      rw [K5]
      refine decide_eq_decide.mpr ⟨fun z => ⟨i, e1, z⟩, ?_⟩
      rintro ⟨i', e2, e3⟩
      exact (uniq i i' _ e1 e2).trans e3
    rw [ee] at this
    exact this
  · exact ⟨.int _, H, I.tok _, ⟨_, rfl⟩, q⟩
noncomputable def Xz (j : Nat) (te : DTE) : DTE := fun ρ Q => ∃ nss : List (List Int), ρ[j]? = some (some (.is (.lst (nss.map BP)))) ∧ te ρ fun d => ∃ ns k, d = BP ns ∧ k < nss.length ∧ nss.getD k [] = ns ∧ (∀ m, m < k → nss.getD m [] ≠ ns) ∧ Q (.int (k : Nat))
theorem Qs {K : PySem.W.Frag} {H : Hp} {nss : List (List Int)} {vs : List V} (h : RpL K H (nss.map BP) vs) : vs.length = nss.length ∧ ∀ (i : Nat) (v : V), vs[i]? = some v → ∃ a, v = .ref a ∧ SqT K H a ((nss.getD i []).map V.int) := by
  refine ⟨by rw [RpL.len' h, List.length_map], fun i v e => ?_⟩
  obtain ⟨d, e1, r⟩ := RpL.at' i v h e
  rw [List.getElem?_map] at e1
  cases q : nss[i]? with
  | none => rw [q] at e1; cases e1
  | some ns =>
    rw [q] at e1
    cases e1
    have : nss.getD i [] = ns := by simp [List.getD, q]
    rw [this]
    obtain ⟨a, ys, rfl, ht, hy⟩ := Ci.mp r
    obtain rfl := Hr hy
    exact ⟨a, rfl, ht⟩
theorem RJ (j : Nat) {e : Expr} {te : DTE} {x : Str} {px ap cp : Pos} (hu : X.A.units + 64 < cLine) (hu1 : X.A.in1.units + 8 < cLine) (he : DE X e te) (hN : X.N[j]? = some x := by rfl) (hv : Vis X.env.scope x := by first | exact Or.inl rfl | exact Or.inr (Or.inl rfl) | exact Or.inr (Or.inr rfl)) (hd : (x == ("__debug__" : Str)) = false := by decide)
    (hcd : (x == ("__classdict__" : Str)) = false := by decide) (hbase : attributeBase (.Name x px) "index" X.env (eval (.Name x px) X.env) = eval (.Name x px) X.env := by rfl)
    (hfew : ((backTo cp (starEach [e] X.env)).all (fun x => !x.1) && (backToKw cp (keywordEach [] X.env)).all (fun x => x.1.isSome) && decide ([e].length + ([] : List Keyword).length + (if ([] : List Keyword).isEmpty then 0 else 1) < 30)) = true := by rfl)
    (hline : (ap.endLine == cp.line) = true := by rfl) (hst : starEach [e] X.env = (false, eval e X.env) :: starEach [] X.env := by rfl) (hplain : (backTo cp (starEach [] X.env)).any (·.1) = false := by rfl) :
    DE X (.Call (.Attribute (.Name x px) "index" ap) [e] [] cp) (Xz j te) where
  mono := fun hq ⟨nss, e1, h⟩ => ⟨nss, e1, he.mono (fun d ⟨ns, k, a, b, c, d', h⟩ => ⟨ns, k, a, b, c, d', hq _ h⟩) h⟩
  pe := (Yt PySem.F.plainAttrs_list PySem.F.slot_list_index PySem.F.type_list_index (RX hu hu1) (Lr hN hv hd hcd) (Ep he.pe GR hst) hbase hfew hline hst hplain).imp fun σ H Q ⟨B, F, O, ρ, R, nss, e1, h⟩ => by
    obtain ⟨v, h1, r⟩ := R.is j _ e1
    obtain ⟨p, vs, rfl, hs, hl⟩ := Dh r
    refine ⟨_, h1, .inl ⟨rfl, _, (Bb (O := F ++ O) (H := H)).seq hs⟩, B, F, O, ρ, R, he.mono (fun d h v H1 s1 r1 => ?_) h⟩
    obtain ⟨ns, k, rfl, kl, ek, before, q⟩ := h
    obtain ⟨b, ys, rfl, hb, hy⟩ := Ci.mp r1
    obtain rfl := Hr hy
    obtain ⟨ll, each⟩ := Qs (hl.mono s1.mask)
    refine ⟨p, vs, fun i => nss.getD i [], b, ns, k, rfl, rfl, (Bb (O := F ++ O) (H := H1)).seq (s1.mask.seq hs), (Bb (O := F ++ O) (H := H1)).seqT hb, fun i v e => ?_, by omega, ek, before, q _ H1 (Same.refl H1 |> fun _ => s1) (Ax.mpr rfl)⟩
    obtain ⟨a, ea, ht⟩ := each i v e
    exact ⟨a, ea, (Bb (O := F ++ O) (H := H1)).seqT ht⟩
theorem Aap {A : Around} (h : A.units + 64 < cLine) : A.in1.units < cLine := by show A.units + 1 < cLine; omega
theorem X8 {A : Around} (h : A.units + 64 < cLine) : A.in1.units + 8 < cLine := by show A.units + 1 + 8 < cLine; omega
end L2
namespace L2
open PySem PySem.Spec PyProof.Rows PySem.SeqAt
section
variable {X : Cx} {a b c e o : Expr} {es : List Expr} {ta tb te : DTE} {tl : DTA} {pos apos : Pos}
end
end L2
namespace L2
open PySem PySem.Spec PyProof.Rows PySem.SeqAt
section
variable {K : PySem.W.Frag} {B : Hp} {F O : List Addr} {H : Hp} {σ : St} {ρ : Bj} {x : Addr}
end
section
variable {X : Cx} {e e1 e2 e3 : Expr} {es : List Expr} {te1 te2 te3 : DTE} {tl : DTA} {pos apos : Pos}
end
section
variable {X : Cx} {e o : Expr} {es : List Expr} {te : DTE} {tl : DTA} {pos apos : Pos}
end
end L2
namespace L2
open PySem PySem.Spec PyProof.Rows
section
open PySem.SeqAt PySem.AutoSeq1 PySem.MeetsSeq PySem.MeetsSeq2 PySem.MeetsSeq3
end
section
variable {prog : Program} {w : World} {A : Around} {E : Value → Shared → Prop} {s : Shared}
end
end L2
namespace L2
open PySem PySem.Spec PyProof.Rows PySem.SeqAt
section
variable {X : Cx}
theorem ints_of {K : PySem.W.Frag} {M : Hp} {ns : List Int} {xs : List V} (r : RpL K M (ns.map Dt.int) xs) : xs = ns.map V.int := by
  induction ns generalizing xs with
  | nil => exact Bl.mp r
  | cons n ns ih =>
    obtain ⟨v, w, rfl, r1, r2⟩ := Az.mp r
    rw [Ax.mp r1, ih r2]
    rfl
end
end L2
namespace L2
open PySem PySem.Spec PyProof.Rows PySem.SeqAt
section
variable {X : Cx} {a b : Expr} {ta tb : DTE} {pos : Pos}
noncomputable def Zq : D2 := fun a b Q => ∃ ns ms : List Int, a = BP ns ∧ b = BP ms ∧ Q (.bl (HT.lexLt ns ms))
theorem SM {K : PySem.W.Frag} {M : Hp} {ns : List Int} {v : V} (r : Rp K M (BP ns) v) : ∃ p, v = .ref p ∧ SqT K M p (ns.map V.int) := by
  obtain ⟨p, xs, rfl, h1, h2⟩ := Ci.mp r
  rw [ints_of h2] at h1
  exact ⟨p, rfl, h1⟩
theorem Qf {K : PySem.W.Frag} : Gn K (AcF K) Zq where
  mono := fun hq ⟨ns, ms, e1, e2, h⟩ => ⟨ns, ms, e1, e2, hq _ h⟩
  ok := fun O H a b x y Q _ ra rb ⟨ns, ms, e1, e2, h⟩ => by
    subst e1 e2
    obtain ⟨p, rfl, h1⟩ := SM ra
    obtain ⟨q, rfl, h2⟩ := SM rb
    exact ⟨p, q, ns, ms, rfl, rfl, Bb.seqT h1, Bb.seqT h2, h _ H (Same.refl H) (CG.mpr rfl)⟩
theorem Ad3 (hu : X.A.units + 64 < cLine) (ha : DE X a ta) (hb : DE X b tb) : DE X (.Compare a [.Lt] [b] pos) (dOp Zq ta tb) := Qd (T6 (by omega)) Qf ha hb (Gj _)
theorem YX (hu : X.A.units + 64 < cLine) (ha : DE X a ta) (hb : DE X b tb) : DT X (.Compare a [.Lt] [b] pos) (Jz (dOp Zq ta tb)) := Hz (T6 (by omega)) Qf ha hb (Gj _)
end
end L2
namespace L2
open PySem PySem.Spec PyProof.Rows PySem.SeqAt
section
variable {P : Program} {w : World}
theorem Kh : ∀ {ks : List Int} {us : List Value}, Vals (ks.map V.int) us → ItemsAre (Cg P w) (ks.map Sum.inl) us
  | [], _, r => by cases r; exact .nil
  | _ :: ks, _, r => by
    cases r with
    | cons h t =>
      obtain ⟨t', rfl⟩ := h
      exact .cons (Mx P w _ t') (Kh t)
theorem Qh : ∀ {a b : List Int}, a.map (Sum.inl : Int → Key) = b.map Sum.inl → a = b
  | [], [], _ => rfl
  | [], _ :: _, e => by cases e
  | _ :: _, [], e => by cases e
  | x :: xs, y :: ys, e => by
    obtain ⟨h1, h2⟩ := List.cons.inj e
    rw [Sum.inl.inj h1, Qh h2]
end
section
variable {X : Cx} {pins : List (Addr × Obj)} {σ : St} {H : Hp} {s : Shared} {a b : Addr} {ks : List (List Int)} {xs : List (List Key × Addr × Value)} {A : Around} {E : Value → Shared → Prop} {k : List Int}
theorem Xq (I : Inv X pins σ H s) (h : SqT X.K H b (k.map V.int)) : (tupleKind (Cg X.prog X.w)).is s.heap (k.map Sum.inl) b := by
  obtain ⟨its, r, ⟨o, h1, h2, n, h3⟩, _⟩ := I.tuple h
  exact ⟨o, its.toArray, n, h1, h2, h3, by simpa using Kh r⟩
end
section
variable {K : PySem.W.Frag} {B : Hp} {F O : List Addr} {H : Hp} {σ : St} {ρ : Bj}
end
section
variable {X : Cx} {e : Expr} {te : DTE} {pos : Pos}
theorem QS {K : PySem.W.Frag} {H : Hp} {k : List Int} {v : V} (r : Rp K H (BP k) v) : ∃ b, v = .ref b ∧ SqT K H b (k.map V.int) := by
  obtain ⟨b, ys, rfl, ht, hy⟩ := Ci.mp r
  obtain rfl := Hr hy
  exact ⟨b, rfl, ht⟩
end
end L2
namespace L2
open PySem PySem.Spec PyProof.Rows
variable {X : Cx} {a b : Expr} {ta tb : DTE} {pos : Pos}
noncomputable def X5 (K : PySem.W.Frag) : R2 := fun x y H Q => ∃ b ns p vs, ∃ nss : Nat → List Int, x = .ref b ∧ y = .ref p ∧ SqL K H p vs ∧ SqT K H b (List.map V.int ns) ∧ (∀ (i : Nat) (v : V), vs[i]? = some v → ∃ a, v = .ref a ∧ SqT K H a ((nss i).map V.int)) ∧
  ∀ k : Bool, (k = true ↔ ∃ i, i < vs.length ∧ nss i = ns) → Q (.bl (!k)) H
theorem VN (hu : X.A.units + 64 < cLine) : OpR X (compareOp .NotIn) (X5 X.K) := by
  classical
  intro pins s σ H x y v u Q I rx ry h
  obtain ⟨b, ns, p, vs, nss, rfl, rfl, hl, hb, each, q⟩ := h
  cases rx
  cases ry
  obtain ⟨its, rv, pl, hz⟩ := I.list hl
  have hlen : its.length = vs.length := rv.length.symm
  have fl : ∀ ns : List Int, (BP ns).flat 8 = true := fun ns => Ht ns
  have rowAt' : ∀ (i : Nat) (y : Value), its[i]? = some y → ∃ a, y = .ref a ∧ SqT X.K H a ((nss i).map V.int) := fun i y e => by
    obtain ⟨v, e1, r2⟩ := Vals.at rv i y e
    obtain ⟨a, rfl, ht⟩ := each i v e1
    cases r2
    exact ⟨a, rfl, ht⟩
  have uniq : ∀ (i i' : Nat) (y : Value), its[i]? = some y → its[i']? = some y → nss i = nss i' := fun i i' y e e' => by
    obtain ⟨a, rfl, h1⟩ := rowAt' i y e
    obtain ⟨a', ea, h2⟩ := rowAt' i' _ e'
    cases ea
    obtain ⟨i1, v1, t1, _⟩ := I.tuple h1
    obtain ⟨i2, v2, t2, _⟩ := I.tuple h2
    have es := NZ t1 t2
    have n1 : IntsAre i1.toArray.toList (nss i) := intsAre_of v1
    have n2 : IntsAre i2.toArray.toList (nss i') := intsAre_of v2
    rw [← es] at n2
    rw [← n1.numsOf, ← n2.numsOf]
  refine SeqAt.notIn_listAt (fun y => decide (∃ i, its[i]? = some y ∧ nss i = ns)) pl.isList (fun y hy => ?_) ?_
  · obtain ⟨i, hi, e⟩ := List.getElem_of_mem (show y ∈ its by simpa using hy)
    have e1 : its[i]? = some y := by rw [← e]; exact List.getElem?_eq_getElem hi
    obtain ⟨a, rfl, ht⟩ := rowAt' i y e1
    obtain ⟨ca, da⟩ := Dn _ 8 (fl (nss i))
    obtain ⟨cb, db⟩ := Dn _ 8 (fl ns)
    obtain ⟨as, q1⟩ := Dk I ca (La ht) (rfl : RelV (.ref a) (.ref a))
    obtain ⟨bs, q2⟩ := Dk I cb (La hb) (rfl : RelV (.ref b) (.ref b))
    have := SeqAt.eqAt_reads _ _ X.A.in1 s _ _ as bs q1 q2 ca cb (by have := X8 hu; omega)
    rw [Jc _ _ ca cb] at this
    have ee : (BP (nss i)).eq (BP ns) = decide (∃ i, its[i]? = some (Value.ref a) ∧ nss i = ns) := by
      show Dt.eqs _ _ = _
      rw [K5]
      refine decide_eq_decide.mpr ⟨fun z => ⟨i, e1, z⟩, ?_⟩
      rintro ⟨i', e2, e3⟩
      exact (uniq i i' _ e1 e2).trans e3
    rw [ee] at this
    exact this
  · refine ⟨.bl _, H, I, rfl, q _ ?_⟩
    rw [Array.any_eq_true]
    constructor
    · rintro ⟨i, hi, e⟩
      obtain ⟨j, e1, e2⟩ := of_decide_eq_true e
      have := (List.getElem?_eq_some_iff.mp e1).1
      exact ⟨j, by omega, e2⟩
    · rintro ⟨i, hi, e⟩
      have hi' : i < its.toArray.size := by rw [List.size_toArray]; omega
      refine ⟨i, hi', decide_eq_true ⟨i, ?_, e⟩⟩
      rw [List.getElem_toArray]
      exact List.getElem?_eq_getElem _
noncomputable def TJ : D2 := fun a b Q => ∃ (ns : List Int) (nss : List (List Int)), a = BP ns ∧ b = .lst (nss.map BP) ∧ Q (.bl (!decide (ns ∈ nss)))
theorem VD {K : PySem.W.Frag} : Gn K (X5 K) TJ := ⟨fun hq ⟨i, ns, e1, e2, h⟩ => ⟨i, ns, e1, e2, hq _ h⟩, fun O H a b x y Q _ ra rb ⟨ns, nss, e1, e2, h⟩ => by
  subst e1 e2
  obtain ⟨c, rfl, hc⟩ := QS ra
  obtain ⟨p, vs, rfl, hs, hl⟩ := Dh rb
  obtain ⟨ll, each⟩ := Qs hl
  refine ⟨c, ns, p, vs, fun i => nss.getD i [], rfl, rfl, Bb.seq hs, Bb.seqT hc, fun i v e => ?_, fun k hk => ?_⟩
  · obtain ⟨a, ea, ht⟩ := each i v e
    exact ⟨a, ea, Bb.seqT ht⟩
  · have : k = decide (ns ∈ nss) := by
      rw [Bool.eq_iff_iff, hk, decide_eq_true_eq]
      constructor
      · rintro ⟨i, hi, e⟩
        have hi' : i < nss.length := by omega
        rw [← e]
        show nss.getD i [] ∈ nss
        have : nss.getD i [] = nss[i] := by simp [List.getD, hi']
        rw [this]
        exact List.getElem_mem hi'
      · intro m
        obtain ⟨i, hi, e⟩ := List.getElem_of_mem m
        exact ⟨i, by omega, by simp [List.getD, hi, e]⟩
    rw [this]
    exact h _ H (Same.refl H) (CG.mpr rfl)⟩
theorem Xn (hu : X.A.units + 64 < cLine) (ha : DE X a ta) (hb : DE X b tb) (hm : behindInMarks .NotIn b = false := by with_unfolding_all rfl) : DT X (.Compare a [.NotIn] [b] pos) (Jz (dOp TJ ta tb)) := Hz (VN hu) VD ha hb hm
end L2
namespace L2
open PySem PySem.Spec PyProof.Rows PySem.SeqAt
section
variable {P : Program} {w : World} {H : Hp} {h h' : Heap} {a : Addr} {o : HO}
end
section
variable {X : Cx} {C U : Addr} {e : Expr} {es : List Expr} {p pos : Pos} {t : TA} {tl : DTA} {c : Str} {bm : List Value}
end
section
variable {K : PySem.W.Frag} {c : Str} {C U A : Addr} {cd : ClassData}
end
section
variable {t1 t2 t3 t4 u : DTS} {D : Dr} {ρ : Bj}
theorem VG (S : Bj → Prop) (h1 : ∀ N : Bj → Prop, (∀ ρ', S ρ' → N ρ') → Lk t1 (Lk t2 (Lk t3 t4)) { D with nx := N } ρ) (h2 : ∀ ρ', S ρ' → u D ρ') : Lk t1 (Lk t2 (Lk t3 (Lk t4 u))) D ρ := h1 (u D) h2
end
end L2
namespace L2
open PySem
namespace Tb
noncomputable def Rs (xs : Array Nat) : Prop := ∀ i k, i < k → k < xs.size → xs.getD i 0 < xs.getD k 0
theorem WY {xs : Array Nat} {i j : Nat} (h : i < xs.size) : xs.getD i j = xs.getD i 0 := by
  simp [Array.getD, h]
theorem Ma {xs : Array Nat} {j : Nat} (R : Rs xs) : ∀ (fuel lo hi : Nat), lo ≤ hi → hi ≤ xs.size → hi - lo ≤ fuel → (∀ i, i < lo → xs.getD i 0 < j) → (∀ i, hi ≤ i → i < xs.size → j ≤ xs.getD i 0) →
    SetTable.below.go xs j fuel lo hi ≤ xs.size ∧ (∀ i, i < SetTable.below.go xs j fuel lo hi → xs.getD i 0 < j) ∧ ∀ i, SetTable.below.go xs j fuel lo hi ≤ i → i < xs.size → j ≤ xs.getD i 0
  | 0, lo, hi, h1, h2, h3, h4, h5 => by
    have : lo = hi := by omega
    subst this
    exact ⟨h2, h4, h5⟩
  | fuel + 1, lo, hi, h1, h2, h3, h4, h5 => by
    unfold SetTable.below.go
    by_cases h : lo < hi
    · rw [if_pos h]
      dsimp only
      have hm : (lo + hi) / 2 < hi := by omega
      have hl : lo ≤ (lo + hi) / 2 := by omega
      rw [WY (show (lo + hi) / 2 < xs.size by omega)]
      by_cases q : xs.getD ((lo + hi) / 2) 0 < j
      · rw [if_pos q]
        refine Ma R fuel _ _ (by omega) h2 (by omega) (fun i hi' => ?_) h5
        by_cases e : i = (lo + hi) / 2
        · rw [e]; exact q
        · have := R i ((lo + hi) / 2) (by omega) (by omega)
          omega
      · rw [if_neg q]
        refine Ma R fuel _ _ hl (by omega) (by omega) h4 (fun i hi' hs => ?_)
        by_cases e : i = (lo + hi) / 2
        · rw [e]; omega
        · have := R ((lo + hi) / 2) i (by omega) hs
          omega
    · rw [if_neg h]
      have : lo = hi := by omega
      subst this
      exact ⟨h2, h4, h5⟩
theorem Jw {xs : Array Nat} (R : Rs xs) (j : Nat) : SetTable.below xs j ≤ xs.size ∧ (∀ i, i < SetTable.below xs j → xs.getD i 0 < j) ∧ ∀ i, SetTable.below xs j ≤ i → i < xs.size → j ≤ xs.getD i 0 :=
  Ma R xs.size 0 xs.size (Nat.zero_le _) (Nat.le_refl _) (by omega) (fun i h => by omega) (fun i h1 h2 => by omega)
theorem below_at {xs : Array Nat} (R : Rs xs) {k : Nat} (h : k < xs.size) : SetTable.below xs (xs.getD k 0) = k := by
  obtain ⟨h1, h2, h3⟩ := Jw R (xs.getD k 0)
  rcases Nat.lt_trichotomy (SetTable.below xs (xs.getD k 0)) k with z | z | z
  · have := h3 _ (Nat.le_refl _) (by omega)
    have := R _ k z h
    omega
  · exact z
  · have := h2 k z
    omega
noncomputable def Has (xs : Array Nat) (j : Nat) : Prop := ∃ k, k < xs.size ∧ xs.getD k 0 = j
theorem Oj {xs : Array Nat} {i : Nat} (h : i < xs.size) : xs[i]? = some (xs.getD i 0) := by simp [Array.getD, h]
structure Ok (t : SetTable) (n : Nat) : Prop where
  rs : Rs t.place
  sz : t.place.size = n
  le : ∀ k, k < t.place.size → t.place.getD k 0 ≤ t.mask
  nd : t.dummies = #[]
  lt : n ≤ t.mask
theorem JN {t : SetTable} {n j : Nat} (h : Ok t n) (hj : ¬ Has t.place j) : t.slot j = .empty := by
  unfold SetTable.slot
  dsimp only
  have e : (t.place[SetTable.below t.place j]? == some j) = false := by
    rw [beq_eq_false_iff_ne]
    intro z
    by_cases q : SetTable.below t.place j < t.place.size
    · rw [Oj q] at z
      exact hj ⟨_, q, Option.some.inj z⟩
    · rw [Array.getElem?_eq_none (by omega)] at z
      cases z
  rw [e, h.nd]
  rfl
theorem Sv {t : SetTable} {n k : Nat} (h : Ok t n) (hk : k < t.place.size) : t.slot (t.place.getD k 0) = .live k := by
  unfold SetTable.slot
  dsimp only
  rw [below_at h.rs hk, Oj hk]
  simp
theorem Oz {t : SetTable} {n : Nat} (h : Ok t n) (j : Nat) : (¬ Has t.place j ∧ t.slot j = .empty) ∨ ∃ k, k < t.place.size ∧ t.place.getD k 0 = j ∧ t.slot j = .live k := by
  by_cases q : Has t.place j
  · obtain ⟨k, hk, rfl⟩ := q
    exact .inr ⟨k, hk, rfl, Sv h hk⟩
  · exact .inl ⟨q, JN h q⟩
noncomputable def orb (M : Nat) : Nat → Nat
  | 0 => 0
  | n + 1 => (orb M n * 5 + 1) % M
noncomputable def Ke (M : Nat) : Nat → Nat → Nat → Nat
  | 0, _, acc => acc
  | n + 1, x, acc => Ke M n ((x * 5 + 1) % M) (acc ||| 2 ^ x)
theorem KD {M j : Nat} : ∀ (n s acc : Nat), (Ke M n (orb M s) acc).testBit j = true → acc.testBit j = true ∨ ∃ m, m < n ∧ orb M (s + m) = j
  | 0, s, acc, h => .inl h
  | n + 1, s, acc, h => by
    unfold Ke at h
    rcases KD n (s + 1) _ h with z | ⟨m, hm, e⟩
    · rw [Nat.testBit_or, Bool.or_eq_true] at z
      rcases z with z | z
      · exact .inl z
      · right
        refine ⟨0, by omega, ?_⟩
        rw [Nat.testBit_two_pow] at z
        exact of_decide_eq_true z
    · exact .inr ⟨m + 1, by omega, by rw [← e]; congr 1; omega⟩
noncomputable def Cyc (M : Nat) : Prop := (∀ j, j < M → ∃ m, m < M ∧ orb M m = j) ∧ orb M M = 0 ∧ 0 < M ∧ M % 2 = 0
theorem HB {M : Nat} (h1 : Ke M M 0 0 = 2 ^ M - 1) (h2 : orb M M = 0) (h3 : 0 < M) (h4 : M % 2 = 0) : Cyc M := by
  refine ⟨fun j hj => ?_, h2, h3, h4⟩
  have e : (Ke M M (orb M 0) 0).testBit j = true := by
    show (Ke M M 0 0).testBit j = true
    rw [h1, Nat.testBit_two_pow_sub_one]
    exact decide_eq_true hj
  rcases KD M 0 0 e with z | ⟨m, hm, e⟩
  · simp at z
  · exact ⟨m, hm, by rw [← e, Nat.zero_add]⟩
theorem Qj {M : Nat} (h : orb M M = 0) : ∀ k, orb M (M + k) = orb M k
  | 0 => h
  | k + 1 => by
    show (orb M (M + k) * 5 + 1) % M = (orb M k * 5 + 1) % M
    rw [Qj h k]
noncomputable def Pa (M : Nat) : Nat → Nat → Nat
  | 0, x => x
  | n + 1, x => Pa M n ((x * 5 + 1) % M)
theorem IK (M : Nat) : ∀ n s, Pa M n (orb M s) = orb M (s + n)
  | 0, s => rfl
  | n + 1, s => by
    show Pa M n (orb M (s + 1)) = _
    rw [IK M n (s + 1)]
    congr 1
    omega
theorem RQ {M : Nat} (h : Pa M M 0 = 0) : orb M M = 0 := by
  have := IK M M 0
  rw [Nat.zero_add] at this
  rw [← this]; exact h
set_option maxRecDepth 1000000 in
theorem AeD : Cyc 8 := HB (by decide +kernel) (RQ (by decide +kernel)) (by decide) (by decide)
set_option maxRecDepth 1000000 in
theorem Acv : Cyc 32 := HB (by decide +kernel) (RQ (by decide +kernel)) (by decide) (by decide)
set_option maxRecDepth 1000000 in
theorem AaX : Cyc 128 := HB (by decide +kernel) (RQ (by decide +kernel)) (by decide) (by decide)
set_option maxRecDepth 1000000 in
theorem Aaa : Cyc 512 := HB (by decide +kernel) (RQ (by decide +kernel)) (by decide) (by decide)
set_option maxRecDepth 1000000 in
theorem Wq : Cyc 2048 := HB (by decide +kernel) (RQ (by decide +kernel)) (by decide) (by decide)
set_option maxRecDepth 1000000 in
theorem WR : Cyc 8192 := HB (by decide +kernel) (RQ (by decide +kernel)) (by decide) (by decide)
theorem UG {M i j : Nat} (c : Cyc M) (hi : i < M) (hj : j < M) : ∃ m, m < M ∧ Pa M m i = j := by
  obtain ⟨h1, h2, h3, _⟩ := c
  obtain ⟨a, ha, rfl⟩ := h1 i hi
  obtain ⟨b, hb, rfl⟩ := h1 j hj
  by_cases z : a ≤ b
  · exact ⟨b - a, by omega, by rw [IK]; congr 1; omega⟩
  · refine ⟨M + b - a, by omega, ?_⟩
    rw [IK, show a + (M + b - a) = M + b by omega, Qj h2]
noncomputable def lp (mask : Nat) : Nat → Nat × Nat → Nat × Nat
  | 0, x => x
  | n + 1, x => lp mask n (SetTable.leap mask x.1 x.2)
theorem VF (mask : Nat) : ∀ n m x, lp mask (n + m) x = lp mask m (lp mask n x)
  | 0, m, x => by rw [Nat.zero_add]; rfl
  | n + 1, m, x => by
    rw [show n + 1 + m = (n + m) + 1 by omega]
    exact VF mask n m _
theorem Vl (mask : Nat) : ∀ n x, (lp mask n x).2 = x.2 / 32 ^ n
  | 0, x => by simp [lp]
  | n + 1, x => by
    show (lp mask n (SetTable.leap mask x.1 x.2)).2 = _
    rw [Vl mask n]
    show x.2 / 32 / 32 ^ n = _
    rw [Nat.div_div_eq_div_mul, Nat.pow_succ, Nat.mul_comm]
theorem Q0 (mask : Nat) : ∀ n i, lp mask n (i, 0) = (Pa (mask + 1) n i, 0)
  | 0, i => rfl
  | n + 1, i => by
    show lp mask n (SetTable.leap mask i 0) = (Pa (mask + 1) n ((i * 5 + 1) % (mask + 1)), 0)
    rw [← Q0 mask n]
    rfl
theorem KZ (mask : Nat) : ∀ n x, x.1 < mask + 1 → (lp mask n x).1 < mask + 1
  | 0, x, h => h
  | n + 1, x, h => KZ mask n _ (Nat.mod_lt _ (by omega))
theorem Ws (h : Int) : SetTable.bits h < 2 ^ 64 := by
  unfold SetTable.bits
  have := Int.emod_lt_of_pos h (show (0 : Int) < 2 ^ 64 by decide)
  have := Int.emod_nonneg h (show (2 ^ 64 : Int) ≠ 0 by decide)
  omega
theorem U5 {mask j : Nat} {h : Int} (c : Cyc (mask + 1)) (hj : j < mask + 1) : ∃ m, m < mask + 14 ∧ (lp mask m (SetTable.bits h % (mask + 1), SetTable.bits h)).1 = j := by
  have h0 := Vl mask 13 (SetTable.bits h % (mask + 1), SetTable.bits h)
  have hz : SetTable.bits h / 32 ^ 13 = 0 := Nat.div_eq_of_lt (Nat.lt_trans (Ws h) (by decide))
  rw [hz] at h0
  have hl := KZ mask 13 (SetTable.bits h % (mask + 1), SetTable.bits h) (Nat.mod_lt _ (by omega))
  obtain ⟨m, hm, e⟩ := UG c hl hj
  refine ⟨13 + m, by omega, ?_⟩
  rw [VF]
  have : lp mask 13 (SetTable.bits h % (mask + 1), SetTable.bits h) = ((lp mask 13 (SetTable.bits h % (mask + 1), SetTable.bits h)).1, 0) := Prod.ext rfl h0
  rw [this, Q0]
  exact e
end Tb
end L2
namespace L2
open PySem
namespace Tb
noncomputable def adv (t : SetTable) : Nat → SetTable.Probe → SetTable.Probe
  | 0, p => p
  | s + 1, p => adv t s (t.advance p)
theorem IV (t : SetTable) : ∀ a b p, adv t (a + b) p = adv t b (adv t a p)
  | 0, b, p => by rw [Nat.zero_add]; rfl
  | a + 1, b, p => by
    rw [show a + 1 + b = (a + b) + 1 by omega]
    exact IV t a b _
theorem Vw (t : SetTable) (s : Nat) (p : SetTable.Probe) : adv t (s + 1) p = t.advance (adv t s p) := IV t s 1 p
theorem Ew {mask i : Nat} (h : i ≤ mask) : SetTable.runEnd mask i ≤ mask ∧ i ≤ SetTable.runEnd mask i ∧ SetTable.runEnd mask i ≤ i + 9 := by
  unfold SetTable.runEnd
  split <;> omega
structure PI (t : SetTable) (p : SetTable.Probe) : Prop where
  i : p.i ≤ t.mask
  j : p.j + p.more ≤ t.mask
  d : p.dummy = none
theorem PI.adv {t : SetTable} {p : SetTable.Probe} (h : PI t p) : PI t (t.advance p) := by
  unfold SetTable.advance
  by_cases q : p.more > 0
  · rw [if_pos q]
    exact ⟨h.i, by have := h.j; show p.j + 1 + (p.more - 1) ≤ _; omega, h.d⟩
  · rw [if_neg q]
    have hl : (SetTable.leap t.mask p.i p.perturb).1 ≤ t.mask := Nat.le_of_lt_succ (Nat.mod_lt _ (by omega))
    obtain ⟨h1, h2, _⟩ := Ew hl
    exact ⟨hl, by show (SetTable.leap t.mask p.i p.perturb).1 + (SetTable.runEnd t.mask (SetTable.leap t.mask p.i p.perturb).1 - (SetTable.leap t.mask p.i p.perturb).1) ≤ _; omega, h.d⟩
theorem PI.advs {t : SetTable} {p : SetTable.Probe} (h : PI t p) : ∀ s, PI t (Tb.adv t s p)
  | 0 => h
  | s + 1 => by rw [Vw]; exact (h.advs s).adv
noncomputable def Jr (mask : Nat) (x : Nat × Nat) : SetTable.Probe := { j := x.1, more := SetTable.runEnd mask x.1 - x.1, i := x.1, perturb := x.2, dummy := none }
theorem KR (t : SetTable) (h : Int) : t.probeStart h = Jr t.mask (SetTable.bits h % (t.mask + 1), SetTable.bits h) := rfl
theorem AaD {t : SetTable} {x : Nat × Nat} (h : x.1 ≤ t.mask) : PI t (Jr t.mask x) := by
  obtain ⟨h1, h2, _⟩ := Ew h
  exact ⟨h, by show x.1 + (SetTable.runEnd t.mask x.1 - x.1) ≤ _; omega, rfl⟩
theorem Tz {t : SetTable} : ∀ (r : Nat) (p : SetTable.Probe), p.more = r → adv t (r + 1) p = { p with j := (SetTable.leap t.mask p.i p.perturb).1, more := SetTable.runEnd t.mask (SetTable.leap t.mask p.i p.perturb).1 - (SetTable.leap t.mask p.i p.perturb).1, i := (SetTable.leap t.mask p.i p.perturb).1, perturb := (SetTable.leap t.mask p.i p.perturb).2 }
  | 0, p, e => by
    show t.advance p = _
    unfold SetTable.advance
    rw [if_neg (by omega)]
  | r + 1, p, e => by
    show adv t (r + 1) (t.advance p) = _
    have ea : t.advance p = { p with j := p.j + 1, more := p.more - 1 } := by unfold SetTable.advance; rw [if_pos (by omega)]
    rw [ea, Tz r _ (by show p.more - 1 = r; omega)]
theorem Vz {t : SetTable} {x : Nat × Nat} (h : x.1 ≤ t.mask) : ∃ s, s ≤ 10 ∧ adv t s (Jr t.mask x) = Jr t.mask (SetTable.leap t.mask x.1 x.2) := by
  obtain ⟨_, _, h3⟩ := Ew h
  refine ⟨(SetTable.runEnd t.mask x.1 - x.1) + 1, by omega, ?_⟩
  rw [Tz (SetTable.runEnd t.mask x.1 - x.1) (Jr t.mask x) rfl]
  rfl
theorem Vk {t : SetTable} : ∀ (m : Nat) (x : Nat × Nat), x.1 ≤ t.mask → ∃ s, s ≤ 10 * m ∧ adv t s (Jr t.mask x) = Jr t.mask (lp t.mask m x)
  | 0, x, _ => ⟨0, by omega, rfl⟩
  | m + 1, x, h => by
    obtain ⟨s, hs, e⟩ := Vz h
    obtain ⟨s2, hs2, e2⟩ := Vk m (SetTable.leap t.mask x.1 x.2) (Nat.le_of_lt_succ (Nat.mod_lt _ (by omega)))
    exact ⟨s + s2, by omega, by rw [IV, e, e2]; rfl⟩
theorem V5 {t : SetTable} {n : Nat} (h : Ok t n) : ∃ j, j < t.mask + 1 ∧ ¬ Has t.place j := by
  refine Classical.byContradiction fun c => ?_
  have all : ∀ j, j < t.mask + 1 → Has t.place j := fun j hj => Classical.byContradiction fun q => c ⟨j, hj, q⟩
  have sub : ∀ x ∈ List.range (t.mask + 1), x ∈ t.place.toList := fun x hx => by
    obtain ⟨k, hk, e⟩ := all x (List.mem_range.mp hx)
    rw [← e]
    have : t.place.getD k 0 = t.place[k] := by simp [Array.getD, hk]
    rw [this]
    simp
  have len : ∀ {l m : List Nat}, l.Nodup → (∀ x ∈ l, x ∈ m) → l.length ≤ m.length := by
    intro l
    induction l with
    | nil => intro m _ _; exact Nat.zero_le _
    | cons x l ih =>
      intro m h hs
      obtain ⟨h1, h2⟩ := List.nodup_cons.mp h
      have hx := hs x List.mem_cons_self
      have := ih (m := m.erase x) h2 fun y hy => (List.mem_erase_of_ne fun z => h1 (by rw [← z]; exact hy)).mpr (hs y (List.mem_cons_of_mem _ hy))
      rw [List.length_erase_of_mem hx] at this
      have := List.length_pos_of_mem hx
      rw [List.length_cons]
      omega
  have := len List.nodup_range sub
  rw [List.length_range, Array.length_toList, h.sz] at this
  have := h.lt
  omega
theorem Tq {t : SetTable} {n : Nat} (h : Ok t n) (c : Cyc (t.mask + 1)) (x : Int) : ∃ s, s < 10 * SetTable.turns t.mask ∧ t.slot (adv t s (t.probeStart x)).j = .empty := by
  obtain ⟨j, hj, nj⟩ := V5 h
  obtain ⟨m, hm, e⟩ := U5 (h := x) c hj
  obtain ⟨s, hs, e2⟩ := Vk (t := t) m (SetTable.bits x % (t.mask + 1), SetTable.bits x) (Nat.le_of_lt_succ (Nat.mod_lt _ (by omega)))
  refine ⟨s, by unfold SetTable.turns; omega, ?_⟩
  rw [KR, e2]
  show t.slot (lp t.mask m (SetTable.bits x % (t.mask + 1), SetTable.bits x)).1 = _
  rw [e]
  exact JN h nj
theorem Nj {t : SetTable} {n : Nat} {hashAt : Nat → Int} {x : Int} (h : Ok t n) : ∀ (s fuel : Nat) (p : SetTable.Probe), PI t p → s < fuel → t.slot (adv t s p).j = .empty →
    (∃ j, j ≤ t.mask ∧ ¬ Has t.place j ∧ SetTable.probe.go t hashAt x fuel p = some (.empty j none)) ∨
    ∃ j i s', SetTable.probe.go t hashAt x fuel p = some (.candidate j i (adv t (s' + 1) p)) ∧ s' < s ∧ t.slot j = .live i ∧ i < n ∧ hashAt i = x
  | s, 0, p, _, hf, _ => by omega
  | s, fuel + 1, p, hp, hf, he => by
    unfold SetTable.probe.go
    rcases Oz h p.j with ⟨nh, e⟩ | ⟨k, hk, ek, e⟩
    · rw [e]
      exact .inl ⟨p.j, by have := hp.j; omega, nh, by rw [hp.d]⟩
    · rw [e]
      dsimp only
      cases s with
      | zero =>
        have he : t.slot p.j = .empty := he
        rw [e] at he
        cases he
      | succ s =>
        by_cases q : (hashAt k == x) = true
        · rw [if_pos q]
          exact .inr ⟨p.j, k, 0, rfl, by omega, e, by rw [← h.sz]; exact hk, beq_iff_eq.mp q⟩
        · rw [if_neg q]
          rcases Nj h s fuel (t.advance p) hp.adv (by omega) he with ⟨j, z⟩ | ⟨j, i, s', z1, z2, z3⟩
          · exact .inl ⟨j, z⟩
          · exact .inr ⟨j, i, s' + 1, z1, by omega, z3⟩
theorem RD {t : SetTable} {n s : Nat} {hashAt : Nat → Int} {x : Int} {p : SetTable.Probe} (h : Ok t n) (hp : PI t p) (hs : s < 10 * SetTable.turns t.mask) (he : t.slot (adv t s p).j = .empty) :
    (∃ j, j ≤ t.mask ∧ ¬ Has t.place j ∧ t.probe hashAt x p = some (.empty j none)) ∨
    ∃ j i s', t.probe hashAt x p = some (.candidate j i (adv t (s' + 1) p)) ∧ s' < s ∧ t.slot j = .live i ∧ i < n ∧ hashAt i = x := Nj h s _ p hp hs he
theorem getD_insert {xs : Array Nat} {p x i : Nat} (hp : p ≤ xs.size) : (SetTable.insertAt xs p x).getD i 0 = if i < p then xs.getD i 0 else if i = p then x else xs.getD (i - 1) 0 := by
  unfold SetTable.insertAt
  simp only [Array.getD_eq_getD_getElem?, Array.getElem?_append, Array.size_push, Array.size_extract, Array.getElem?_push, Array.getElem?_extract]
  have e : min p xs.size - 0 = p := by omega
  by_cases h1 : i < p
  · rw [if_pos h1]
    rw [if_pos (by omega), if_neg (by omega), if_pos (by omega)]
    simp
  · by_cases h2 : i = p
    · subst h2
      rw [if_neg h1, if_pos rfl, if_pos (by omega), if_pos (by omega)]
      rfl
    · rw [if_neg h1, if_neg h2, if_neg (by omega)]
      by_cases h3 : i - 1 < xs.size
      · rw [if_pos (by omega)]
        congr 2
        omega
      · rw [if_neg (by omega), Array.getElem?_eq_none (by omega)]
theorem size_insert {α : Type} {xs : Array α} {p : Nat} {x : α} (hp : p ≤ xs.size) : (SetTable.insertAt xs p x).size = xs.size + 1 := by
  unfold SetTable.insertAt
  simp only [Array.size_append, Array.size_push, Array.size_extract]
  omega
theorem Nr {α : Type} {xs : Array α} {p : Nat} {x : α} (hp : p ≤ xs.size) : (SetTable.insertAt xs p x).toList = xs.toList.take p ++ x :: xs.toList.drop p := by
  unfold SetTable.insertAt
  simp [Array.toList_append, Array.toList_push, Array.toList_extract, List.extract_eq_drop_take]
  exact List.take_of_length_le (by rw [List.length_drop, Array.length_toList]; exact Nat.le_refl _)
theorem MJ {α : Type} {xs : Array α} {p : Nat} {x : α} (hp : p ≤ xs.size) : (SetTable.insertAt xs p x).toList.Perm (x :: xs.toList) := by
  rw [Nr hp]
  refine List.perm_middle.trans ?_
  rw [List.take_append_drop]
theorem YS {t : SetTable} {n j : Nat} (h : Ok t n) (hj : j ≤ t.mask) (nj : ¬ Has t.place j) (hn : n + 1 ≤ t.mask) : Ok (t.put j).1 (n + 1) ∧ (t.put j).2 ≤ n ∧ (t.put j).1.mask = t.mask ∧ (t.put j).1.led = t.led ∧ (t.put j).1.plain = t.plain ∧ (t.put j).1.moves = t.moves ∧ (t.put j).1.finger = t.finger := by
  obtain ⟨h1, h2, h3⟩ := Jw h.rs j
  have hd : (SetTable.has t.dummies j) = false := by rw [h.nd]; rfl
  have e : t.put j = ({ t with place := SetTable.insertAt t.place (SetTable.below t.place j) j }, SetTable.below t.place j) := by
    unfold SetTable.put
    rw [hd]
    rfl
  rw [e]
  refine ⟨⟨fun a b hab hb => ?_, ?_, fun k hk => ?_, h.nd, hn⟩, by show SetTable.below t.place j ≤ n; rw [← h.sz]; exact h1, rfl, rfl, rfl, rfl, rfl⟩
  · dsimp only at hb ⊢
    rw [size_insert h1] at hb
    rw [getD_insert h1, getD_insert h1]
    by_cases a1 : a < SetTable.below t.place j
    · rw [if_pos a1]
      by_cases b1 : b < SetTable.below t.place j
      · rw [if_pos b1]; exact h.rs a b hab (by omega)
      · rw [if_neg b1]
        by_cases b2 : b = SetTable.below t.place j
        · rw [if_pos b2]; exact h2 a a1
        · rw [if_neg b2]
          have := h2 a a1
          have := h3 (b - 1) (by omega) (by omega)
          omega
    · have b1 : ¬ b < SetTable.below t.place j := by omega
      have b2 : ¬ b = SetTable.below t.place j := by omega
      rw [if_neg a1, if_neg b1, if_neg b2]
      by_cases a2 : a = SetTable.below t.place j
      · rw [if_pos a2]
        have w := h3 (b - 1) (by omega) (by omega)
        rcases Nat.lt_or_ge j (t.place.getD (b - 1) 0) with z | z
        · exact z
        · exact absurd ⟨b - 1, by omega, by omega⟩ nj
      · rw [if_neg a2]
        exact h.rs (a - 1) (b - 1) (by omega) (by omega)
  · dsimp only
    rw [size_insert h1, h.sz]
  · dsimp only at hk ⊢
    rw [size_insert h1] at hk
    rw [getD_insert h1]
    by_cases a1 : k < SetTable.below t.place j
    · rw [if_pos a1]; exact h.le k (by omega)
    · rw [if_neg a1]
      by_cases a2 : k = SetTable.below t.place j
      · rw [if_pos a2]; exact hj
      · rw [if_neg a2]; exact h.le (k - 1) (by omega)
theorem Mg {t : SetTable} {n : Nat} (h : Ok t n) : t.fits n = true := by
  unfold SetTable.fits SetTable.fill
  rw [h.sz, h.nd]
  have := h.lt
  simp [this]
theorem S7 (a b : Nat) (l : Bool) : Ok (SetTable.fresh a b l) 0 := ⟨(fun _ _ _ hk => absurd hk (Nat.not_lt_zero _)), rfl, (fun _ hk => absurd hk (Nat.not_lt_zero _)), rfl, Nat.zero_le _⟩
end Tb
end L2
namespace L2
open PySem
namespace Tb
theorem KY {mask : Nat} {owner : Array (Option Nat)} : ∀ (m fuel : Nat) (x : Nat × Nat), x.1 ≤ mask → m < fuel → owner.getD (lp mask m x).1 (some 0) = none →
    ∃ j, SetTable.layClean.free mask owner fuel x.1 x.2 = some j ∧ j ≤ mask ∧ owner.getD j (some 0) = none
  | m, 0, x, _, h, _ => by omega
  | m, fuel + 1, x, hx, hf, he => by
    unfold SetTable.layClean.free
    cases q : (List.range (SetTable.runEnd mask x.1 + 1 - x.1)).find? fun k => (owner.getD (x.1 + k) (some 0)).isNone with
    | some k =>
      have h1 := List.mem_of_find?_eq_some q
      have h2 := List.find?_some q
      rw [List.mem_range] at h1
      obtain ⟨r1, r2, _⟩ := Ew hx
      exact ⟨x.1 + k, rfl, by omega, Option.isNone_iff_eq_none.mp h2⟩
    | none =>
      cases m with
      | zero =>
        exfalso
        have he : owner.getD x.1 (some 0) = none := he
        obtain ⟨r1, r2, _⟩ := Ew hx
        have := List.find?_eq_none.mp q 0 (List.mem_range.mpr (by omega))
        rw [Nat.add_zero, he] at this
        exact this rfl
      | succ m =>
        exact KY m fuel (SetTable.leap mask x.1 x.2) (Nat.le_of_lt_succ (Nat.mod_lt _ (by omega))) (by omega) he
structure Laid (mask : Nat) (owner : Array (Option Nat)) (js : List Nat) : Prop where
  sz : owner.size = mask + 1
  nd : js.Nodup
  le : ∀ j ∈ js, j ≤ mask
  at_ : ∀ j idx, j ≤ mask → (owner.getD j (some 0) = some idx ↔ js[idx]? = some j)
theorem Laid.none_iff {mask : Nat} {owner : Array (Option Nat)} {js : List Nat} (L : Laid mask owner js) {j : Nat} (hj : j ≤ mask) : owner.getD j (some 0) = none ↔ j ∉ js := by
  constructor
  · intro h m
    obtain ⟨idx, e⟩ := List.getElem?_of_mem m
    have := (L.at_ j idx hj).mpr e
    rw [h] at this
    cases this
  · intro h
    cases q : owner.getD j (some 0) with
    | none => rfl
    | some idx => exact absurd (List.mem_of_getElem? ((L.at_ j idx hj).mp q)) h
theorem Laid.start (mask : Nat) : Laid mask (Array.replicate (mask + 1) none) [] where
  sz := Array.size_replicate
  nd := List.nodup_nil
  le := fun j h => by cases h
  at_ := fun j idx hj => by
    have : (Array.replicate (mask + 1) (none : Option Nat)).getD j (some 0) = none := by
      simp [Array.getD, show j < mask + 1 by omega]
    rw [this]
    constructor
    · intro h; cases h
    · intro h; cases h
theorem Laid.put {mask : Nat} {owner : Array (Option Nat)} {js : List Nat} (L : Laid mask owner js) {j : Nat} (hj : j ≤ mask) (nj : owner.getD j (some 0) = none) : Laid mask (owner.setIfInBounds j (some js.length)) (js ++ [j]) where
  sz := by rw [Array.size_setIfInBounds]; exact L.sz
  nd := by
    rw [List.nodup_append]
    refine ⟨L.nd, by simp, fun a ha b hb e => ?_⟩
    rw [List.mem_singleton] at hb
    rw [e, hb] at ha
    exact (L.none_iff hj).mp nj ha
  le := fun a h => by
    rcases List.mem_append.mp h with h | h
    · exact L.le a h
    · rw [List.mem_singleton.mp h]; exact hj
  at_ := fun a idx ha => by
    have ow : (owner.setIfInBounds j (some js.length)).getD a (some 0) = if a = j then some js.length else owner.getD a (some 0) := by
      have hs := L.sz
      simp only [Array.getD_eq_getD_getElem?, Array.getElem?_setIfInBounds]
      by_cases e : j = a
      · rw [if_pos e, if_pos (by omega), if_pos e.symm]
        rfl
      · rw [if_neg e, if_neg (Ne.symm e)]
    rw [ow]
    have nm := (L.none_iff hj).mp nj
    by_cases e : a = j
    · rw [if_pos e]
      subst e
      constructor
      · intro h
        cases h
        simp
      · intro h
        rw [List.getElem?_append] at h
        split at h
        · exact absurd (List.mem_of_getElem? h) nm
        · rename_i hl
          have : idx - js.length = 0 := by
            cases q : idx - js.length with
            | zero => rfl
            | succ m => rw [q] at h; cases h
          have : idx = js.length := by omega
          rw [this]
    · rw [if_neg e, L.at_ a idx ha]
      rw [List.getElem?_append]
      split
      · exact Iff.rfl
      · rename_i hl
        constructor
        · intro h
          rw [List.getElem?_eq_none (by omega)] at h
          cases h
        · intro h
          cases q : idx - js.length with
          | zero => rw [q] at h; cases h; exact absurd rfl e
          | succ m => rw [q] at h; cases h
theorem Laid.step {mask : Nat} {owner : Array (Option Nat)} {js : List Nat} (L : Laid mask owner js) (c : Cyc (mask + 1)) (hl : js.length ≤ mask) (h : Int) :
    ∃ j, SetTable.layClean.free mask owner (SetTable.turns mask) (SetTable.bits h % (mask + 1)) (SetTable.bits h) = some j ∧ Laid mask (owner.setIfInBounds j (some js.length)) (js ++ [j]) := by
  obtain ⟨j0, h0, n0⟩ : ∃ j, j < mask + 1 ∧ j ∉ js := by
    refine Classical.byContradiction fun q => ?_
    have all : ∀ x ∈ List.range (mask + 1), x ∈ js := fun x hx => Classical.byContradiction fun z => q ⟨x, List.mem_range.mp hx, z⟩
    have len : ∀ {l m : List Nat}, l.Nodup → (∀ x ∈ l, x ∈ m) → l.length ≤ m.length := by
      intro l
      induction l with
      | nil => intro m _ _; exact Nat.zero_le _
      | cons x l ih =>
        intro m h hs
        obtain ⟨h1, h2⟩ := List.nodup_cons.mp h
        have hx := hs x List.mem_cons_self
        have := ih (m := m.erase x) h2 fun y hy => (List.mem_erase_of_ne fun z => h1 (by rw [← z]; exact hy)).mpr (hs y (List.mem_cons_of_mem _ hy))
        rw [List.length_erase_of_mem hx] at this
        have := List.length_pos_of_mem hx
        rw [List.length_cons]
        omega
    have := len List.nodup_range all
    rw [List.length_range] at this
    omega
  obtain ⟨m, hm, e⟩ := U5 (h := h) c h0
  obtain ⟨j, e1, e2, e3⟩ := KY (owner := owner) m (SetTable.turns mask) (SetTable.bits h % (mask + 1), SetTable.bits h) (Nat.le_of_lt_succ (Nat.mod_lt _ (by omega))) (by unfold SetTable.turns; omega) (by rw [e]; exact (L.none_iff (by omega)).mpr n0)
  exact ⟨j, e1, L.put e2 e3⟩
theorem Ko {mask : Nat} (c : Cyc (mask + 1)) : ∀ (hs : List Int) (owner : Array (Option Nat)) (js : List Nat), Laid mask owner js → js.length + hs.length ≤ mask →
    ∃ owner' js', hs.foldl (fun acc h => do
        let (owner, k) ← acc
        let j ← SetTable.layClean.free mask owner (SetTable.turns mask) (SetTable.bits h % (mask + 1)) (SetTable.bits h)
        pure (owner.setIfInBounds j (some k), k + 1)) (some (owner, js.length)) = some (owner', js'.length) ∧ Laid mask owner' js' ∧ js'.length = js.length + hs.length
  | [], owner, js, L, _ => ⟨owner, js, rfl, L, rfl⟩
  | h :: hs, owner, js, L, hl => by
    rw [List.length_cons] at hl
    obtain ⟨j, e, L2⟩ := L.step c (by omega) h
    obtain ⟨o', js', e2, L3, e3⟩ := Ko c hs _ _ L2 (by rw [List.length_append]; simp only [List.length_singleton]; omega)
    refine ⟨o', js', ?_, L3, ?_⟩
    · rw [List.foldl_cons]
      have : (do
        let (owner, k) ← (some (owner, js.length) : Option (Array (Option Nat) × Nat))
        let j ← SetTable.layClean.free mask owner (SetTable.turns mask) (SetTable.bits h % (mask + 1)) (SetTable.bits h)
        pure (owner.setIfInBounds j (some k), k + 1)) = some (owner.setIfInBounds j (some js.length), js.length + 1) := by
        show (SetTable.layClean.free mask owner (SetTable.turns mask) (SetTable.bits h % (mask + 1)) (SetTable.bits h)).bind _ = _
        rw [e]
        rfl
      rw [this]
      rw [List.length_append] at e2
      exact e2
    · rw [e3, List.length_append]
      simp only [List.length_cons, List.length_nil]
      omega
theorem Ow {mask : Nat} (c : Cyc (mask + 1)) (hs : Array Int) (hl : hs.size ≤ mask) : ∃ owner js, SetTable.layClean mask hs = some owner ∧ Laid mask owner js ∧ js.length = hs.size := by
  obtain ⟨o, js, e, L, el⟩ := Ko c hs.toList (Array.replicate (mask + 1) none) [] (Laid.start mask) (by simpa using hl)
  refine ⟨o, js, ?_, L, by simpa using el⟩
  unfold SetTable.layClean
  rw [← Array.foldl_toList, show (some (Array.replicate (mask + 1) (none : Option Nat), 0)) = some (Array.replicate (mask + 1) none, ([] : List Nat).length) from rfl]
  rw [e]
  rfl
theorem Wo {l m : List Nat} (hl : l.Nodup) (hm : m.Nodup) (h : ∀ x, x ∈ l ↔ x ∈ m) : l.Perm m := by
  rw [List.perm_iff_count]
  intro a
  rw [List.Nodup.count hl, List.Nodup.count hm]
  by_cases z : a ∈ l
  · rw [if_pos z, if_pos ((h a).mp z)]
  · rw [if_neg z, if_neg fun y => z ((h a).mpr y)]
theorem Xi {mask finger moves : Nat} {led plain : Bool} (c : Cyc (mask + 1)) (hs : Array Int) (hl : hs.size ≤ mask) : ∃ t order, SetTable.laid mask finger moves led plain hs = some (t, order) ∧ Ok t hs.size ∧ t.mask = mask ∧ t.led = led ∧ t.plain = plain ∧ order.toList.Perm (List.range hs.size) := by
  obtain ⟨owner, js, e, L, el⟩ := Ow c hs hl
  have gd : ∀ j, j ≤ mask → owner.getD j none = owner.getD j (some 0) := fun j hj => by
    have := L.sz
    simp [Array.getD, show j < owner.size by omega]
  let live := (List.range (mask + 1)).filterMap fun j => (owner.getD j none).map (j, ·)
  have mem : ∀ j idx, (j, idx) ∈ live ↔ j ≤ mask ∧ js[idx]? = some j := fun j idx => by
    show (j, idx) ∈ (List.range (mask + 1)).filterMap _ ↔ _
    rw [List.mem_filterMap]
    constructor
    · rintro ⟨a, ha, h⟩
      rw [List.mem_range] at ha
      obtain ⟨b, hb, h⟩ := Option.map_eq_some_iff.mp h
      cases h
      rw [gd _ (by omega)] at hb
      exact ⟨by omega, (L.at_ _ _ (by omega)).mp hb⟩
    · rintro ⟨hj, h⟩
      exact ⟨j, List.mem_range.mpr (by omega), by rw [gd j hj, (L.at_ j idx hj).mpr h]; rfl⟩
  have inc : live.Pairwise fun a b => a.1 < b.1 := by
    show ((List.range (mask + 1)).filterMap _).Pairwise _
    rw [List.pairwise_filterMap]
    refine List.pairwise_lt_range.imp fun {a b} hab x hx y hy => ?_
    obtain ⟨_, _, rfl⟩ := Option.map_eq_some_iff.mp hx
    obtain ⟨_, _, rfl⟩ := Option.map_eq_some_iff.mp hy
    exact hab
  have nd : (live.map (·.2)).Nodup := by
    unfold List.Nodup
    rw [List.pairwise_map]
    refine List.Pairwise.imp_of_mem (fun {a b} ha hb h z => ?_) inc
    have h1 := ((mem a.1 a.2).mp ha).2
    have h2 := ((mem b.1 b.2).mp hb).2
    rw [z, h2] at h1
    have := Option.some.inj h1
    omega
  have perm : (live.map (·.2)).Perm (List.range hs.size) := by
    refine Wo nd List.nodup_range fun x => ?_
    rw [List.mem_range]
    constructor
    · intro h
      obtain ⟨⟨j, idx⟩, hm, rfl⟩ := List.mem_map.mp h
      have := (List.getElem?_eq_some_iff.mp ((mem j idx).mp hm).2).1
      show idx < _
      omega
    · intro h
      obtain ⟨j, hj⟩ : ∃ j, js[x]? = some j := ⟨_, List.getElem?_eq_getElem (by omega)⟩
      exact List.mem_map.mpr ⟨(j, x), (mem j x).mpr ⟨L.le j (List.mem_of_getElem? hj), hj⟩, rfl⟩
  have len : live.length = hs.size := by
    have := perm.length_eq
    rw [List.length_map, List.length_range] at this
    exact this
  refine ⟨{ mask, place := (live.map (·.1)).toArray, dummies := #[], finger, led, moves, plain }, (live.map (·.2)).toArray, ?_, ⟨fun i k hik hk => ?_, ?_, fun k hk => ?_, rfl, hl⟩, rfl, rfl, rfl, by simpa using perm⟩
  · unfold SetTable.laid
    rw [e]
    rfl
  · dsimp only at hk ⊢
    rw [List.size_toArray, List.length_map] at hk
    have := List.pairwise_iff_getElem.mp inc i k (by omega) hk hik
    simp only [Array.getD_eq_getD_getElem?, List.getElem?_toArray, List.getElem?_map, List.getElem?_eq_getElem (show i < live.length by omega), List.getElem?_eq_getElem hk]
    exact this
  · show ((live.map (·.1)).toArray).size = hs.size
    rw [List.size_toArray, List.length_map, len]
  · dsimp only at hk ⊢
    rw [List.size_toArray, List.length_map] at hk
    have := ((mem (live[k]).1 (live[k]).2).mp (List.getElem_mem hk)).1
    simp only [Array.getD_eq_getD_getElem?, List.getElem?_toArray, List.getElem?_map, List.getElem?_eq_getElem hk]
    exact this
theorem Ph {α : Type} {es : Array α} {order : Array Nat} (h : order.toList.Perm (List.range es.size)) : (order.filterMap (es[·]?)).toList.Perm es.toList := by
  rw [Array.toList_filterMap]
  refine (h.filterMap _).trans ?_
  have e : (List.range es.size).filterMap (es[·]?) = es.toList := by
    refine List.ext_getElem? fun i => ?_
    have : (List.range es.size).filterMap (es[·]?) = (List.range es.size).pmap (fun i (hi : i < es.size) => es[i]) (fun i hi => List.mem_range.mp hi) := by
      have : ∀ (l : List Nat) (hl : ∀ i ∈ l, i < es.size), l.filterMap (es[·]?) = l.pmap (fun i (hi : i < es.size) => es[i]) hl := by
        intro l
        induction l with
        | nil => intro _; rfl
        | cons x l ih =>
          intro hl
          have hx := hl x List.mem_cons_self
          rw [List.filterMap_cons, List.pmap_cons, ← ih]
          simp [hx]
      exact this _ _
    rw [this]
    by_cases hi : i < es.size
    · simp [hi]
    · simp [hi]
  rw [e]
noncomputable def stages : List Nat := [8, 32, 128, 512, 2048, 8192]
theorem Ks {M : Nat} (h : M ∈ stages) : Cyc M := by
  simp only [stages, List.mem_cons, List.not_mem_nil, or_false] at h
  rcases h with rfl | rfl | rfl | rfl | rfl | rfl
  · exact AeD
  · exact Acv
  · exact AaX
  · exact Aaa
  · exact Wq
  · exact WR
structure Good (t : SetTable) (n : Nat) : Prop where
  ok : Ok t n
  st : t.mask + 1 ∈ stages
  few : n * 5 < t.mask * 3
theorem Good.fresh (a b : Nat) (l : Bool) : Good (SetTable.fresh a b l) 0 := ⟨S7 a b l, (show 8 ∈ stages by decide), (show 0 * 5 < 7 * 3 by decide)⟩
theorem Good.room {t : SetTable} {n : Nat} (h : Good t n) : n + 1 ≤ t.mask := by
  have h1 := h.st
  have h2 := h.few
  have h3 := h.ok.lt
  simp only [stages, List.mem_cons, List.not_mem_nil, or_false] at h1
  omega
theorem Good.odd {t : SetTable} {n : Nat} (h : Good t n) : t.gaveWay = false := by
  have h1 := h.st
  simp only [stages, List.mem_cons, List.not_mem_nil, or_false] at h1
  unfold SetTable.gaveWay
  rw [beq_eq_false_iff_ne]
  omega
theorem Ny {t : SetTable} {n : Nat} (h : Ok t n) : t.tooFull = decide (t.mask * 3 ≤ n * 5) := by
  unfold SetTable.tooFull SetTable.fill
  rw [h.sz, h.nd]
  simp
theorem Pb {t : SetTable} {n : Nat} (h : Good t n) (hf : t.mask * 3 ≤ (n + 1) * 5) (hn : n < 4914) : SetTable.sizeAbove (SetTable.grown (n + 1)) ∈ stages ∧ (n + 1) * 5 < (SetTable.sizeAbove (SetTable.grown (n + 1)) - 1) * 3 ∧ n + 1 ≤ SetTable.sizeAbove (SetTable.grown (n + 1)) - 1 ∧ 0 < SetTable.sizeAbove (SetTable.grown (n + 1)) ∧ SetTable.sizeAbove (SetTable.grown (n + 1)) ≤ 8192 := by
  have h1 := h.st
  have h2 := h.few
  simp only [stages, List.mem_cons, List.not_mem_nil, or_false] at h1
  obtain rfl | rfl | rfl | rfl | rfl : n = 4 ∨ n = 18 ∨ n = 76 ∨ n = 306 ∨ n = 1228 := by omega
  all_goals decide
end Tb
end L2
namespace L2
open PySem PySem.Spec PyProof.Rows PySem.SeqAt
section
variable {prog : Program} {w : World} {A : Around} {E : Value → Shared → Prop} {s : Shared} {h : Heap} {r : List Int} {b : Addr}
noncomputable def Cz (prog : Program) (w : World) (h : Heap) (r : List Int) (b : Addr) : Prop := (tupleKind (Cg prog w)).is h (r.map Sum.inl) b
theorem Nq : ∀ {r : List Int} {vs : List Value}, ItemsAre (Cg prog w) (r.map Sum.inl) vs → ∀ v ∈ vs, ∃ i t, v = .int i t
  | [], _, h, v, hv => by cases h; cases hv
  | i :: r, _, h, v, hv => by
    cases h with
    | cons h1 h2 =>
      rcases List.mem_cons.mp hv with rfl | hv
      · have h1 : Value.isInt i v = true := h1
        cases v <;> simp [Value.isInt] at h1
        exact ⟨_, _, rfl⟩
      · exact Nq h2 v hv
theorem Cz.items (x : Cz prog w h r b) : ∃ o items n, h.get? b = some o ∧ o.cls = .type "tuple" ∧ o.data = .seq items n ∧ ∀ v ∈ items.toList, ∃ i t, v = .int i t := by
  obtain ⟨o, items, n, h1, h2, h3, h4⟩ := x
  exact ⟨o, items, n, h1, h2, h3, Nq h4⟩
theorem Rn {Q : Bool → Shared → Prop} (x : Cz prog w s.heap r b) (q : Q true s) : wpAny (model prog w) A (hashByValue 8 (.ref b)) Q E s := by
  obtain ⟨o, items, n, ho, hc, hd, hi⟩ := x.items
  unfold hashByValue
  refine wpAny_bind (wpAny_specialOf ⟨o, ho, hc⟩ F.slot_tuple_hash.lookup ?_)
  show wpAny _ _ (seqItems? (.ref b) >>= _) _ _ s
  refine wpAny_bind (wpAny_seqItems ho hd ?_)
  refine wpAny_bind ?_
  show wpAny _ _ (forIn items _ _) _ _ s
  rw [← Array.forIn_toList]
  refine wpAny_forIn_list _ (fun rest r s' => r.1 = none ∧ s' = s ∧ ∀ v ∈ rest, ∃ i t, v = .int i t) _ ?_ ?_ _ _ ⟨rfl, rfl, hi⟩
  · rintro v rest r s' ⟨hr, rfl, hall⟩
    obtain ⟨i, t, rfl⟩ := hall v List.mem_cons_self
    refine wpAny_bind (wpAny_pure ?_)
    simp only [Bool.not_true, Bool.false_eq_true, if_false]
    exact wpAny_pure ⟨rfl, rfl, fun u hu' => hall u (List.mem_cons_of_mem _ hu')⟩
  · rintro ⟨r1, r2⟩ s' ⟨hr, rfl, _⟩
    simp only at hr
    subst hr
    exact wpAny_pure q
theorem KC {Q : Bool → Shared → Prop} (x : Cz prog w s.heap r b) (q : Q false s) : wpAny (model prog w) A (ofAClassStatement 8 (.ref b)) Q E s := by
  obtain ⟨o, items, n, ho, hc, hd, hi⟩ := x.items
  unfold ofAClassStatement
  refine wpAny_bind (wpAny_typeOf ⟨o, ho, hc⟩ ?_)
  dsimp only
  refine wpAny_bind (wpAny_pure ?_)
  simp only [Bool.not_true, Bool.false_eq_true, if_false]
  refine wpAny_bind (wpAny_seqItems ho hd ?_)
  dsimp only
  refine wpAny_bind ?_
  rw [← Array.forIn_toList]
  refine wpAny_forIn_list _ (fun rest r s' => r.1 = none ∧ s' = s ∧ ∀ v ∈ rest, ∃ i t, v = .int i t) _ ?_ ?_ _ _ ⟨rfl, rfl, hi⟩
  · rintro v rest r s' ⟨hr, rfl, hall⟩
    obtain ⟨i, t, rfl⟩ := hall v List.mem_cons_self
    refine wpAny_bind (wpAny_pure ?_)
    simp only [Bool.false_eq_true, if_false]
    exact wpAny_pure ⟨rfl, rfl, fun u hu' => hall u (List.mem_cons_of_mem _ hu')⟩
  · rintro ⟨r1, r2⟩ s' ⟨hr, rfl, _⟩
    simp only at hr
    subst hr
    exact wpAny_pure q
theorem Uz {Q : Bool → Shared → Prop} (x : Cz prog w s.heap r b) {stored : List Value} (hs : ∀ y ∈ stored, ∃ r' b', y = .ref b' ∧ Cz prog w s.heap r' b') (q : Q false s) : wpAny (model prog w) A (searchCouldBeSeen (.ref b) stored) Q E s := by
  unfold searchCouldBeSeen
  refine wpAny_bind ?_
  refine wpAny_forIn_list _ (fun rest r s' => r.1 = none ∧ s' = s ∧ ∀ y ∈ rest, ∃ r' b', y = .ref b' ∧ Cz prog w s.heap r' b') _ ?_ ?_ _ _ ⟨rfl, rfl, hs⟩
  · rintro v rest r s' ⟨hr, rfl, hall⟩
    obtain ⟨r', b', rfl, hb'⟩ := hall v List.mem_cons_self
    have fin : ∀ u ∈ rest, ∃ r' b', u = .ref b' ∧ Cz prog w s'.heap r' b' := fun u hu' => hall u (List.mem_cons_of_mem _ hu')
    dsimp only
    by_cases e : (b == b' || (carriedByValue (.ref b) && carriedByValue (.ref b'))) = true
    · rw [if_pos e]
      exact wpAny_pure ⟨rfl, rfl, fin⟩
    · rw [if_neg e]
      refine wpAny_bind (wpAny_eqIsQuiet_tuple x ?_)
      simp only [Bool.not_true, Bool.false_eq_true, if_false]
      refine wpAny_bind (wpAny_eqIsQuiet_tuple hb' ?_)
      simp only [Bool.not_true, Bool.false_eq_true, if_false]
      refine wpAny_bind (KC x ?_)
      simp only [Bool.false_eq_true, if_false]
      refine wpAny_bind (KC hb' ?_)
      simp only [Bool.false_eq_true, if_false]
      exact wpAny_pure ⟨rfl, rfl, fin⟩
  · rintro ⟨r1, r2⟩ s' ⟨hr, rfl, _⟩
    simp only at hr
    subst hr
    exact wpAny_pure q
noncomputable def M8 (prog : Program) (w : World) (x : List Int × Addr) : Int × Value := ((tupleKind (Cg prog w)).hash (x.1.map Sum.inl), .ref x.2)
structure Fz (prog : Program) (w : World) (h : Heap) (a : Addr) (es : Array (Int × Value)) (ep : Nat) (t : SetTable) (xs : List (List Int × Addr)) : Prop where
  at_ : h.get? a = some ⟨.type "set", none, .set es ep t, #[]⟩
  good : Tb.Good t es.size
  pm : es.toList.Perm (xs.map (M8 prog w))
  rows : ∀ x ∈ xs, Cz prog w h x.1 x.2
  pl : t.plain = true
theorem Fz.len {a : Addr} {es : Array (Int × Value)} {ep : Nat} {t : SetTable} {xs : List (List Int × Addr)} (S : Fz prog w h a es ep t xs) : es.size = xs.length := by
  have := S.pm.length_eq
  rw [Array.length_toList, List.length_map] at this
  exact this
theorem Fz.entry {a : Addr} {es : Array (Int × Value)} {ep : Nat} {t : SetTable} {xs : List (List Int × Addr)} (S : Fz prog w h a es ep t xs) {i : Nat} (hi : i < es.size) : ∃ x ∈ xs, es[i]? = some (M8 prog w x) := by
  have : es[i] ∈ es.toList := by simp
  obtain ⟨x, hx, e⟩ := List.mem_map.mp (S.pm.mem_iff.mp this)
  exact ⟨x, hx, by rw [Array.getElem?_eq_getElem hi, e]⟩
theorem Hf {a : Addr} {es : Array (Int × Value)} {ep : Nat} {t : SetTable} {xs : List (List Int × Addr)} {Q : (Array (Int × Value) × Nat × SetTable) → Shared → Prop} (S : Fz prog w s.heap a es ep t xs) (q : Q (es, ep, t) s) : wpAny (model prog w) A (setState a) Q E s :=
  wpAny_setState_of S.at_ rfl (Tb.Mg S.good.ok) q
theorem JK {a : Addr} {es : Array (Int × Value)} {ep : Nat} {t : SetTable} {xs : List (List Int × Addr)} {x : Int} {Q : SetFound → Shared → Prop} (S : Fz prog w s.heap a es ep t xs) (hu : A.units < cLine) (hb : Cz prog w s.heap r b) (new : ∀ y ∈ xs, y.1 ≠ r)
    (q : ∀ j, j ≤ t.mask → ¬ Tb.Has t.place j → Q (.free j false) s) : ∀ (m fuel : Nat) (st : Option SetTable.Probe), Tb.PI t (st.getD (t.probeStart x)) → m < 10 * SetTable.turns t.mask → m < fuel → t.slot (Tb.adv t m (st.getD (t.probeStart x))).j = .empty →
      wpAny (model prog w) A (setSearchFrom a (.ref b) x true fuel st) Q E s
  | m, 0, st, _, _, hf, _ => by omega
  | m, fuel + 1, st, hp, hm, hf, he => by
    unfold setSearchFrom
    refine wpAny_bind (Hf S ?_)
    dsimp only
    rw [S.good.odd]
    simp only [Bool.false_eq_true, if_false]
    rcases Tb.RD (hashAt := _) (x := x) S.good.ok hp hm he with ⟨j, h1, h2, e⟩ | ⟨j, i, m', e, hm', hsl, hi, _⟩
    · rw [e]
      exact wpAny_pure (q j h1 h2)
    · rw [e]
      dsimp only
      obtain ⟨y, hy, ey⟩ := S.entry hi
      have rest : wpAny (model prog w) A (do
          let some (_, y) := es[i]? | unsupported "internal:set-entry"
          let equal ← holding [y] (eqBool y (.ref b))
          let (es', _, t') ← setState a
          if true && equal then return .there none
          let some same := t'.sameMemory t.moves t.mask | unsupported "set.changed-during-lookup:is-the-new-block-at-the-old-address"
          let still ← match (if same then t'.slot j else .empty) with
            | .live i' => match es'[i']? with
              | some (_, y') => do pure (if ← isSame y' y then some i' else none)
              | none => pure none
            | _ => pure none
          match still with
          | none => rule "set.search.anew"; setSearchFrom a (.ref b) x true fuel none
          | some i' => if equal then return .there (some i') else setSearchFrom a (.ref b) x true fuel (some (Tb.adv t (m' + 1) (st.getD (t.probeStart x))))) Q E s := by
        rw [ey]
        dsimp only [M8]
        have ne : decide (y.1.map (Sum.inl : Int → Key) = r.map Sum.inl) = false := decide_eq_false fun z => new y hy (Qh z)
        refine wpAny_bind (wpAny_holding ((tupleKind (Cg prog w)).eqBool hu (S.rows y hy) hb ?_))
        rw [ne]
        refine wpAny_bind (Hf S ?_)
        dsimp only
        have sm : t.sameMemory t.moves t.mask = some true := by unfold SetTable.sameMemory; rw [if_pos (by simp)]
        simp only [Bool.and_false, Bool.false_eq_true, if_false]
        rw [sm]
        dsimp only
        simp only [if_true]
        rw [hsl]
        dsimp only
        rw [ey]
        dsimp only [M8]
        refine wpAny_bind (wpAny_isSame_ref_self (wpAny_bind (wpAny_pure ?_)))
        simp only [if_true]
        refine JK S hu hb new q (m - (m' + 1)) fuel (some (Tb.adv t (m' + 1) (st.getD (t.probeStart x)))) (hp.advs _) (by omega) (by omega) ?_
        show t.slot (Tb.adv t (m - (m' + 1)) (Tb.adv t (m' + 1) (st.getD (t.probeStart x)))).j = .empty
        rw [← Tb.IV, show m' + 1 + (m - (m' + 1)) = m by omega]
        exact he
      cases hl : t.led with
      | true =>
        rw [Bool.not_true, if_neg Bool.false_ne_true]
        first | exact rest | exact wpAny_bind (wpAny_pure rest)
      | false =>
        rw [Bool.not_false, if_pos rfl]
        refine wpAny_bind (Uz hb (fun z hz => ?_) ?_)
        · obtain ⟨e0, he0, rfl⟩ := List.mem_map.mp hz
          have : e0 ∈ es.toList := by
            have := Array.mem_toList_iff.mp he0
            exact Array.mem_toList_iff.mpr (Array.mem_filter.mp this).1
          obtain ⟨y', hy', rfl⟩ := List.mem_map.mp (S.pm.mem_iff.mp this)
          exact ⟨y'.1, y'.2, rfl, S.rows y' hy'⟩
        · rw [if_neg Bool.false_ne_true]
          first | exact rest | exact wpAny_pure rest
theorem Cz.stays {h' : Heap} {a : Addr} {o : Obj} {es : Array (Int × Value)} {ep : Nat} {t : SetTable} (x : Cz prog w h r b) (ho : h.get? a = some o) (hd : o.data = .set es ep t) (hs : Heap.SameBut a h h') : Cz prog w h' r b := by
  obtain ⟨o', items, n, h1, h2, h3, h4⟩ := x
  have ne : b ≠ a := by
    rintro rfl
    rw [ho] at h1
    cases h1
    rw [hd] at h3
    cases h3
  exact ⟨o', items, n, (hs.2 b ne).trans h1, h2, h3, h4⟩
theorem N7 {a : Addr} {es es' : Array (Int × Value)} {ep : Nat} {t t' : SetTable} {xs : List (List Int × Addr)} {Q : Unit → Shared → Prop} (ho : s.heap.get? a = some ⟨.type "set", none, .set es ep t, #[]⟩) (hz : es'.size ≤ 30000)
    (q : ∀ h', Heap.SameBut a s.heap h' → h'.get? a = some ⟨.type "set", none, .set es' (ep + 1) t', #[]⟩ → Q () { s with heap := h' }) : wpAny (model prog w) A (storeSet a es' t') Q E s := by
  have hg : (s.heap.update a (Obj.putSet es' t')).get? a = some ⟨.type "set", none, .set es' (ep + 1) t', #[]⟩ := by
    have := Heap.get?_update_self (Obj.putSet es' t') ho (by rw [putSet_of es' t' rfl]; rfl)
    rw [putSet_of es' t' rfl] at this
    exact this
  exact wpAny_storeSet_of ho rfl (q _ (Heap.SameBut.update s.heap a _) hg) (by rw [sizeLine_eq]; omega)
theorem Uq {a : Addr} {es : Array (Int × Value)} {ep wanted : Nat} {t : SetTable} {xs : List (List Int × Addr)} {Q : Unit → Shared → Prop} (ho : s.heap.get? a = some ⟨.type "set", none, .set es ep t, #[]⟩) (ok : Tb.Ok t es.size)
    (st : SetTable.sizeAbove wanted ∈ Tb.stages) (few : es.size * 5 < (SetTable.sizeAbove wanted - 1) * 3) (le : es.size ≤ SetTable.sizeAbove wanted - 1) (pos : 0 < SetTable.sizeAbove wanted) (top : SetTable.sizeAbove wanted ≤ 8192) (hz : es.size ≤ 30000)
    (q : ∀ h' es' t', Heap.SameBut a s.heap h' → h'.get? a = some ⟨.type "set", none, .set es' (ep + 1) t', #[]⟩ → Tb.Good t' es'.size → es'.toList.Perm es.toList → t'.plain = t.plain → Q () { s with heap := h' }) : wpAny (model prog w) A (setRelay a wanted) Q E s := by
  unfold setRelay
  refine wpAny_bind (wpAny_setState_of ho rfl (Tb.Mg ok) ?_)
  dsimp only
  have hs : ¬ SetTable.sizeAbove wanted > sizeLine := by rw [sizeLine_eq]; omega
  have cy : Tb.Cyc (SetTable.sizeAbove wanted - 1 + 1) := by rw [Nat.sub_add_cancel pos]; exact Tb.Ks st
  obtain ⟨t', order, e, ok', m', _, p', pm⟩ := Tb.Xi (finger := t.finger) (moves := t.movedTo (SetTable.sizeAbove wanted - 1)) (led := t.led) (plain := t.plain) cy (es.map (·.1)) (by rw [Array.size_map]; exact le)
  rw [Array.size_map] at ok' pm
  have pm' := Tb.Ph pm
  have sz : (order.filterMap (es[·]?)).size = es.size := by rw [← Array.length_toList, pm'.length_eq, Array.length_toList]
  have er : t.relaid (es.map (·.1)) wanted = some (t', order) := e
  rw [if_neg hs, er]
  have fin : wpAny (model prog w) A (storeSet a (order.filterMap (es[·]?)) t') Q E s := N7 (xs := xs) ho (by rw [sz]; exact hz) fun h' sb g => q h' _ t' sb g ⟨by rw [sz]; exact ok', by rw [m', Nat.sub_add_cancel pos]; exact st, by rw [sz, m']; exact few⟩ pm' p'
  have re : wpAny (model prog w) A (do
      let some (t, order) := (some (t', order) : Option (SetTable × Array Nat)) | unsupported "internal:set-table-without-room"
      let es' := order.filterMap (es[·]?)
      if es'.size != es.size then unsupported "internal:set-table-lost-an-element"
      pure (es', t)) (fun x s' => wpAny (model prog w) A (storeSet a x.1 x.2) Q E s') E s := by
    dsimp only
    have : ((order.filterMap (es[·]?)).size != es.size) = false := by rw [sz]; simp
    rw [this]
    simp only [Bool.false_eq_true, if_false]
    exact wpAny_pure fin
  first | exact wpAny_bind re | exact wpAny_bind (wpAny_pure (wpAny_bind re))
theorem V8 {a : Addr} {es : Array (Int × Value)} {ep : Nat} {t : SetTable} {xs : List (List Int × Addr)} {Q : Bool → Shared → Prop} (S : Fz prog w s.heap a es ep t xs) (hu : A.units < cLine) (hb : Cz prog w s.heap r b) (new : ∀ y ∈ xs, y.1 ≠ r) (hn : xs.length < 4914)
    (q : ∀ h' es' ep' t' tk, s.toks ≤ tk → Heap.SameBut a s.heap h' → Fz prog w h' a es' ep' t' ((r, b) :: xs) → Q true { s with heap := h', toks := tk }) : wpAny (model prog w) A (setAdd a (.ref b)) Q E s := by
  have len := S.len
  unfold setAdd
  refine wpAny_holding (wpAny_bind ((tupleKind (Cg prog w)).pyHash hu hb ?_))
  have S1 : Fz prog w ({ s with toks := s.toks + (tupleKind (Cg prog w)).draws (r.map Sum.inl) } : Shared).heap a es ep t xs := S
  have hb1 : Cz prog w ({ s with toks := s.toks + (tupleKind (Cg prog w)).draws (r.map Sum.inl) } : Shared).heap r b := hb
  generalize hx : (tupleKind (Cg prog w)).hash (r.map Sum.inl) = x
  unfold setAddHashed
  refine wpAny_holding ?_
  unfold setAddHashedIn
  refine wpAny_bind (Hf S1 ?_)
  dsimp only
  have bs : byScan (.ref b) es = false := rfl
  rw [bs]
  simp only [Bool.false_eq_true, if_false]
  obtain ⟨m, hm, he⟩ := Tb.Tq S.good.ok (Tb.Ks S.good.st) x
  unfold setSearch
  have st := S.good.st
  have m1 : m < 100000 := by
    unfold SetTable.turns at hm
    simp only [Tb.stages, List.mem_cons, List.not_mem_nil, or_false] at st
    omega
  have pi : Tb.PI t ((none : Option SetTable.Probe).getD (t.probeStart x)) := by
    show Tb.PI t (t.probeStart x)
    rw [Tb.KR]
    exact Tb.AaD (Nat.le_of_lt_succ (Nat.mod_lt _ (by omega)))
  have room := S.good.room
  refine wpAny_bind (JK S1 hu hb1 new (fun j hj nj => ?_) m 100000 none pi hm m1 he)
  dsimp only
  refine wpAny_bind (Hf S1 ?_)
  dsimp only
  obtain ⟨ok2, p2, mk2, _, pl2, _, _⟩ := Tb.YS S.good.ok hj nj room
  generalize hput : t.put j = P at ok2 p2 mk2 pl2 ⊢
  obtain ⟨t2, p⟩ := P
  dsimp only at ok2 p2 mk2 pl2 ⊢
  have pl2' : t2.plain = true := pl2.trans S.pl
  rw [pl2']
  simp only [if_true]
  refine wpAny_bind (Rn hb1 ?_)
  simp only [if_true]
  have isz : (SetTable.insertAt es p (x, Value.ref b)).size = es.size + 1 := Tb.size_insert p2
  have ipm : (SetTable.insertAt es p (x, Value.ref b)).toList.Perm (((r, b) :: xs).map (M8 prog w)) := by
    refine (Tb.MJ p2).trans ?_
    rw [List.map_cons]
    have : M8 prog w (r, b) = (x, Value.ref b) := by unfold M8; rw [hx]
    rw [this]
    exact S.pm.cons _
  have rows' : ∀ h' : Heap, Heap.SameBut a s.heap h' → ∀ y ∈ (r, b) :: xs, Cz prog w h' y.1 y.2 := fun h' sb y hy => by
    rcases List.mem_cons.mp hy with rfl | hy
    · exact hb.stays S.at_ rfl sb
    · exact (S.rows y hy).stays S.at_ rfl sb
  refine wpAny_bind (N7 (xs := xs) S1.at_ (by rw [isz]; omega) fun h1 sb1 g1 => ?_)
  by_cases tf : t2.mask * 3 ≤ (es.size + 1) * 5
  · have : (!false && t2.tooFull) = true := by rw [Tb.Ny ok2, decide_eq_true tf]; rfl
    rw [if_pos this]
    rw [mk2] at tf
    obtain ⟨n1, n2, n3, n4, n5⟩ := Tb.Pb S.good tf (by omega)
    have ok2' : Tb.Ok t2 (SetTable.insertAt es p (x, Value.ref b)).size := by rw [isz]; exact ok2
    refine wpAny_bind (Uq (xs := xs) g1 ok2' n1 (by rw [isz]; exact n2) (by rw [isz]; exact n3) n4 n5 (by rw [isz]; omega) fun h2 es2 t3 sb2 g2 gd2 pm2 pp2 => ?_)
    exact wpAny_pure (q h2 es2 _ t3 _ (Nat.le_add_right _ _) (sb1.trans sb2) ⟨g2, gd2, pm2.trans ipm, rows' h2 (sb1.trans sb2), pp2.trans pl2'⟩)
  · have : (!false && t2.tooFull) = false := by rw [Tb.Ny ok2, decide_eq_false tf]; rfl
    rw [if_neg (by rw [this]; exact Bool.false_ne_true)]
    refine wpAny_pure (q h1 _ _ t2 _ (Nat.le_add_right _ _) sb1 ⟨g1, ⟨by rw [isz]; exact ok2, by rw [mk2]; exact S.good.st, by rw [isz]; omega⟩, ipm, rows' h1 sb1, pl2'⟩)
end
end L2
namespace L2
open PySem PySem.Spec PyProof.Rows PySem.SeqAt
section
variable {prog : Program} {w : World} {A : Around} {E : Value → Shared → Prop} {s : Shared}
theorem Cz.kept {h h' : Heap} {r : List Int} {b : Addr} (x : Cz prog w h r b) (k : ∀ o, h.get? b = some o → h'.get? b = some o) : Cz prog w h' r b := by
  obtain ⟨o, its, n, h1, z⟩ := x
  exact ⟨o, its, n, k _ h1, z⟩
theorem Fz.kept {h h' : Heap} {a : Addr} {es : Array (Int × Value)} {ep : Nat} {t : SetTable} {xs : List (List Int × Addr)} (S : Fz prog w h a es ep t xs) (k : ∀ o, h.get? a = some o → h'.get? a = some o) (kr : ∀ x ∈ xs, ∀ o, h.get? x.2 = some o → h'.get? x.2 = some o) : Fz prog w h' a es ep t xs :=
  ⟨k _ S.at_, S.good, S.pm, fun x hx => (S.rows x hx).kept (kr x hx), S.pl⟩
theorem Ul {R : Result → Shared → Prop} {I Sa : Addr} {fp wr : List Addr} {G : Array GenState → Array GenState → Prop} {n : Nat} {P : Nat → Value → Prop} {St : Nat → Shared → Prop} (W : WalksS prog w A.in1 I fp wr G n P St) (sf : Sa ∉ fp) (hu : A.in1.units < cLine) (xs : List (List Int × Addr)) (hlen : xs.length = n)
    (val : ∀ i v, P i v → ∃ x, xs[i]? = some x ∧ v = .ref x.2) (nd : (xs.map (·.1)).Nodup) (few : n < 4914) (far : ∀ x ∈ xs, x.2 ∉ Sa :: wr) :
    ∀ (k i : Nat) (s : Shared) (es : Array (Int × Value)) (ep : Nat) (t : SetTable), n - i = k → i ≤ n → St i s → Fz prog w s.heap Sa es ep t (xs.take i).reverse → (∀ x ∈ xs, Cz prog w s.heap x.1 x.2) →
      (∀ s' es' ep' t', Moved (Sa :: wr) G s s' → Fz prog w s'.heap Sa es' ep' t' xs.reverse → R (.ok (.ret .none)) s') → codeAny (model prog w) A (.builtin "set.update.loop" ⟨[.ref Sa, .ref I], []⟩) R s := by
  have sw : Sa ∉ wr := fun z => sf (W.sub _ z)
  have up : ∀ b ∈ wr, b ∈ Sa :: wr := fun b z => List.mem_cons_of_mem _ z
  intro k
  induction k with
  | zero =>
    intro i s es ep t ek li st S rw0 fin
    obtain rfl : i = n := by omega
    refine codeAny_builtin F.entry_set_update_loop ?_
    rw [Around.under_plainId F.plain_set_update_loop _]
    show wpAny _ A.in1 (pyNext (.ref I) >>= fun v => _) _ _ s
    refine wpAny_bind (W.done s _ _ st fun s1 mv => ?_)
    show wpAny _ A.in1 (ret .none) _ _ s1
    rw [List.take_of_length_le (by omega)] at S
    exact wpAny_pure (fin s1 es ep t (mv.mono up) (S.kept (fun o e => mv.heap _ o sw e) fun x hx o e => mv.heap _ o (fun z => far x (List.mem_reverse.mp hx) (up _ z)) e))
  | succ k ih =>
    intro i s es ep t ek li st S rw0 fin
    have lt : i < n := by omega
    refine codeAny_builtin F.entry_set_update_loop ?_
    rw [Around.under_plainId F.plain_set_update_loop _]
    show wpAny _ A.in1 (pyNext (.ref I) >>= fun v => _) _ _ s
    refine wpAny_bind (W.item i s _ _ lt st fun v s1 hv st1 mv => ?_)
    obtain ⟨x, hx, rfl⟩ := val i v hv
    have xm := List.mem_of_getElem? hx
    have S1 : Fz prog w s1.heap Sa es ep t (xs.take i).reverse := S.kept (fun o e => mv.heap _ o sw e) fun y hy o e => mv.heap _ o (fun z => far y (List.mem_of_mem_take (List.mem_reverse.mp hy)) (up _ z)) e
    have R1 : ∀ y ∈ xs, Cz prog w s1.heap y.1 y.2 := fun y hy => (rw0 y hy).kept fun o e => mv.heap _ o (fun z => far y hy (up _ z)) e
    have new : ∀ y ∈ (xs.take i).reverse, y.1 ≠ x.1 := fun y hy e => by
      obtain ⟨j, hj⟩ := List.getElem?_of_mem (List.mem_reverse.mp hy)
      have jl : j < i := by
        have := (List.getElem?_eq_some_iff.mp hj).1
        rw [List.length_take] at this
        omega
      rw [List.getElem?_take_of_lt jl] at hj
      have h1 : (xs.map (·.1))[j]? = some x.1 := by rw [List.getElem?_map, hj, ← e]; rfl
      have h2 : (xs.map (·.1))[i]? = some x.1 := by rw [List.getElem?_map, hx]; rfl
      have := (List.getElem?_inj (List.getElem?_eq_some_iff.mp h1).1 nd).mp (h1.trans h2.symm)
      omega
    show wpAny _ A.in1 (holding [Value.ref x.2] (setAdd Sa (.ref x.2)) >>= fun _ => _) _ _ s1
    refine wpAny_bind (wpAny_holding (V8 S1 hu (R1 x xm) new (by rw [List.length_reverse, List.length_take]; omega) fun h' es' ep' t' tk tl sb S2 => ?_))
    have e2 : x :: (xs.take i).reverse = (xs.take (i + 1)).reverse := by rw [List.take_add_one, hx, Option.toList_some, List.reverse_append]; rfl
    have S2 : Fz prog w h' Sa es' ep' t' (xs.take (i + 1)).reverse := by rw [← e2]; exact S2
    refine wpAny_pure ⟨plainId_quiet F.plain_set_update_loop _, ih (i + 1) { s1 with heap := h', toks := tk } es' ep' t' (by omega) lt (W.frame _ s1 h' tk st1 tl fun b hb o e => ?_) S2 (fun y hy => (R1 y hy).stays S1.at_ rfl sb) fun s2 es2 ep2 t2 mv2 S3 => ?_⟩
    · rw [sb.2 b fun z => sf (by rw [← z]; exact hb)]; exact e
    · exact fin s2 es2 ep2 t2 (Moved.trans W.gtrans ((mv.mono up).then_heap tl fun b o hb e => by rw [sb.2 b fun z => hb (by rw [z]; exact List.mem_cons_self)]; exact e) mv2) S3
set_option maxHeartbeats 3200000 in
theorem Rx {l : Addr} {vs : List Value} {xs : List (List Int × Addr)} {Q : Value → Shared → Prop} (hh : A.handled = none) (hu : A.units + 16 < cLine) (hl : s.heap.IsList l vs.toArray) (ev : vs = xs.map fun x => .ref x.2) (rows : ∀ x ∈ xs, Cz prog w s.heap x.1 x.2) (nd : (xs.map (·.1)).Nodup) (few : xs.length < 4914)
    (q : ∀ h' tk es ep t, Fz prog w h' s.heap.objs.size es ep t xs.reverse → (∀ b o, s.heap.get? b = some o → h'.get? b = some o) → Q (.ref s.heap.objs.size) { s with heap := h', toks := tk }) : wpAny (model prog w) A (call (.type "set") [.ref l]) Q E s := by
  obtain ⟨mc, mt, hmro⟩ := F.called_set.mro
  have hmade := F.called_set.made
  have hsub := F.called_set.sub
  refine wpAny_call (codeAny_of_tree ?_)
  show wpAny _ _ (callAny (.type "set") _) _ _ _
  refine wpAny_pure ⟨Code.quiet_builtin _ (by decide +kernel), codeAny_builtin F.entry_type_call ?_⟩
  rw [Around.under_plain (weight_type_call_type "set" [.ref l] []) rfl]
  have i1 := F.called_set.notType
  have i2 := F.called_set.canCreate
  have i3 := F.typeCall_set_1 (.ref l)
  repeat (any_goals (first | assumption | wp_step))
  refine codeAny_mono (code_set_new_1 (.ref l) (E := E) (Q₁ := fun obj s₁ => ∃ led : Bool, obj = .ref s.heap.objs.size ∧ s₁ = { s with heap := s.heap.push ⟨.type "set", none, .set #[] 0 (.fresh 0 0 led), #[]⟩ }) fun led => ⟨led, rfl, rfl⟩) fun res s₁ hr => ?_
  cases res with
  | error e => exact hr
  | ok fl =>
    cases fl with
    | next => exact hr.elim
    | brk => exact hr.elim
    | cont => exact hr.elim
    | ret obj =>
      obtain ⟨led, rfl, rfl⟩ := hr
      generalize ob : (⟨.type "set", none, .set #[] 0 (.fresh 0 0 led), #[]⟩ : Obj) = o0
      have at0 : (s.heap.push o0).get? s.heap.objs.size = some o0 := Heap.get?_push_size _ (by rw [← ob]; rfl)
      have ty : Shared.TypeIs { s with heap := s.heap.push o0 } (.ref s.heap.objs.size) "set" := ⟨_, at0, by rw [← ob]⟩
      have j1 := F.called_set.init.lookup
      have j2 := F.called_set.init.bind (.ref s.heap.objs.size)
      repeat (any_goals (first | assumption | wp_step))
      refine codeAny_mono (codeAny_call_builtin (R := wants (fun v s₂ => v = .none ∧ ∃ h' tk es ep t, s₂ = { s with heap := h', toks := tk } ∧ Fz prog w h' s.heap.objs.size es ep t xs.reverse ∧ ∀ b o, s.heap.get? b = some o → h'.get? b = some o) E) F.called_set.init.plain F.entry_set_init (check_set_init_1 ty ?_)) fun res2 s₂ hr₂ => ?_
      · obtain ⟨ol, k1, k2, nl, k3⟩ := hl
        obtain ⟨c0, d0, dt0, sl0⟩ := ol
        cases k2
        cases k3
        have lat : (s.heap.push o0).get? l = some ⟨.type "list", d0, .seq vs.toArray nl, sl0⟩ := Heap.get?_push_of_some _ k1
        have m1 := F.sub_list_set
        have m2 := F.sub_list_frozenset
        have m3 : (Value.type "list" == Value.type "dict") = false := by decide
        have il : (s.heap.push o0).IsList l vs.toArray := ⟨_, lat, rfl, nl, rfl⟩
        have ls : l < s.heap.objs.size := Heap.lt_size k1
        have h3 : A.in1.in1.in1.handled = none := by simp [hh]
        have sz1 : (s.heap.push o0).objs.size = s.heap.objs.size + 1 := Heap.size_push _ _
        have ni : l ≠ (s.heap.push o0).objs.size := by rw [sz1]; exact Nat.ne_of_lt (Nat.lt_succ_of_lt ls)
        have lx : vs.toArray.size = xs.length := by rw [ev, List.size_toArray, List.length_map]
        have old : ∀ x ∈ xs, x.2 < s.heap.objs.size := fun x hx => by
          obtain ⟨o, _, _, e, _⟩ := rows x hx
          exact Heap.lt_size e
        subst ob
        unfold Builtin.«set.__init__» noKeywords Builtin.Frozenset.updateFrom
        generalize hPI : pyIter = PI
        wp_walk
        subst hPI
        refine wpAny_pyIter_list il ?_
        refine wpAny_bind (m := runValue _) (wpAny_runValue ?_)
        refine Ul ((Walks.list h3 _ l ni vs.toArray).toS) (Sa := s.heap.objs.size) (by rw [sz1]; simp only [List.mem_cons, List.not_mem_nil, or_false, not_or]; exact ⟨Nat.ne_of_lt (Nat.lt_succ_self _), Nat.ne_of_gt ls⟩) (by show A.units + 1 + 1 + 1 < cLine; omega) xs lx.symm (fun i v hv => ?_) nd (by omega) (fun x hx => ?_) (vs.toArray.size - 0) 0 _ #[] 0 (.fresh 0 0 led) (by omega) (Nat.zero_le _) ⟨⟨_, Heap.get?_push_size _ rfl, rfl, rfl⟩, il.push _⟩ ⟨?_, Tb.Good.fresh 0 0 led, List.Perm.refl _, (fun x hx => by cases hx), rfl⟩ (fun x hx => (rows x hx).kept fun o e => Heap.get?_push_of_some _ (Heap.get?_push_of_some _ e)) fun s' es' ep' t' mv S' => ?_
        · have : vs[i]? = some v := by rw [← hv]; simp
          rw [ev, List.getElem?_map] at this
          obtain ⟨x, h1, h2⟩ := Option.map_eq_some_iff.mp this
          exact ⟨x, h1, h2.symm⟩
        · have := old x hx
          rw [sz1]
          simp only [List.mem_cons, List.not_mem_nil, or_false, not_or]
          exact ⟨Nat.ne_of_lt this, Nat.ne_of_lt (Nat.lt_succ_of_lt this)⟩
        · exact Heap.get?_push_of_some _ at0
        · obtain ⟨h', g', d', tk', os'⟩ := s'
          obtain rfl : g' = s.gens := mv.gens
          obtain rfl : d' = s.drawn := mv.drawn
          obtain rfl : os' = s.os := mv.os
          refine wpAny_pure ?_
          show wpAny _ _ (ret .none) _ _ _
          refine wpAny_pure ⟨rfl, h', tk', es', ep', t', rfl, S', fun b o e => mv.heap b o ?_ (Heap.get?_push_of_some _ (Heap.get?_push_of_some _ e))⟩
          have := Heap.lt_size e
          rw [sz1]
          simp only [List.mem_cons, List.not_mem_nil, or_false, not_or]
          exact ⟨Nat.ne_of_lt this, Nat.ne_of_lt (Nat.lt_succ_of_lt this)⟩
      · cases res2 with
        | error e => exact hr₂
        | ok fl₂ =>
          cases fl₂ with
          | next => exact hr₂.elim
          | brk => exact hr₂.elim
          | cont => exact hr₂.elim
          | ret v =>
            obtain ⟨rfl, h', tk, es, ep, t, rfl, S', kp⟩ := hr₂
            repeat (any_goals (first | assumption | wp_step))
            exact q h' tk es ep t S' kp
end
end L2
namespace L2
open PySem PySem.Spec PyProof.Rows PySem.SeqAt
noncomputable def setAt (a : Addr) (xs : List (List Int × Addr)) (h : Heap) : Prop := ∃ (P : Program) (w : World) (es : Array (Int × Value)) (ep : Nat) (t : SetTable), h.get? a = some ⟨.type "set", none, .set es ep t, #[]⟩ ∧ Tb.Good t es.size ∧ es.toList.Perm (xs.map (M8 P w)) ∧ t.plain = true
theorem OD {a : Addr} {xs : List (List Int × Addr)} (h1 h2 : Heap) (x : setAt a xs h1) (k : ∀ o, h1.get? a = some o → h2.get? a = some o) : setAt a xs h2 := let ⟨P, w, es, ep, t, e, r⟩ := x; ⟨P, w, es, ep, t, k _ e, r⟩
noncomputable def Yi (K : PySem.W.Frag) (H : Hp) (xs : List (List Int × Addr)) : Prop := ∀ x ∈ xs, SqT K H x.2 (x.1.map V.int)
theorem Kv : ∀ {bs : List Addr} {its : List Value}, Vals (bs.map V.ref) its → its = bs.map Value.ref
  | [], _, r => by cases r; rfl
  | b :: bs, _, r => by
    cases r with
    | cons z1 z2 => rw [Kv z2]; rw [show _ = Value.ref b from z1]; rfl
section
variable {X : Cx} {e : Expr} {te : DTE} {pos : Pos}
theorem RN (hc : X.calm = true) (hu : X.A.units + 16 < cLine) : Fb X (.type "set") (fun vs H Q => ∃ p xs, vs = [.ref p] ∧ SqL X.K H p (xs.map fun x => V.ref x.2) ∧ Yi X.K H xs ∧ (xs.map (·.1)).Nodup ∧ xs.length < 4914 ∧ ∀ a, H a = none → Q (.ref a) (upd H a (.ext (setAt a xs.reverse)))) := by
  intro pins s σ H vs us Q I r h
  obtain ⟨p, xs, rfl, hq, rows, nd, few, q⟩ := h
  obtain ⟨u, rfl, rx⟩ := vals1 r
  cases rx
  obtain ⟨its, r', pl, hz⟩ := I.list hq
  have ei : its = xs.map fun x => Value.ref x.2 := by
    have : (xs.map fun x => V.ref x.2) = (xs.map (·.2)).map V.ref := by rw [List.map_map]; rfl
    rw [this] at r'
    rw [Kv r', List.map_map]
    rfl
  refine Rx (I.ok.hd hc) hu pl.isList ei (fun x hx => Xq I (rows x hx)) nd few fun h' tk es ep t S kp => ?_
  refine ⟨.ref s.heap.objs.size, _, I.laid (t' := tk) (o := .ext (setAt s.heap.objs.size xs.reverse)) kp (Nat.le_refl _) ⟨⟨_, _, es, ep, t, S.at_, S.good, S.pm, S.pl⟩, ⟨_, S.at_⟩, OD⟩, rfl, q _ (I.hok.fresh (Nat.le_refl _))⟩
theorem Sd : Fb X (.builtin "len") (fun vs H Q => ∃ a xs, vs = [.ref a] ∧ H a = some (.ext (setAt a xs)) ∧ xs.length < 4914 ∧ Q (.int xs.length) H) := by
  intro pins s σ H vs us Q I r h
  obtain ⟨a, xs, rfl, ha, few, q⟩ := h
  obtain ⟨u, rfl, rx⟩ := vals1 r
  cases rx
  obtain ⟨⟨P, w, es, ep, t, e1, e2, e3, _⟩, _, _⟩ := I.hok a _ ha
  have len : es.size = xs.length := by
    have := e3.length_eq
    rw [Array.length_toList, List.length_map] at this
    exact this
  refine call_len_set e1 ⟨rfl, rfl, rfl⟩ rfl (Tb.Mg e2.ok) (by omega) ⟨.int xs.length, H, I.tok _, ⟨s.toks + 1, by rw [len]⟩, q⟩
noncomputable def QM (te : DTE) : DTE := fun ρ Q => te ρ fun d => match d with
  | .lst ks => ∃ nss : List (List Int), ks = nss.map BP ∧ nss.Nodup ∧ nss.length < 4914 ∧ Q (.int nss.length)
  | _ => False
theorem QW {K : PySem.W.Frag} {H : Hp} : ∀ {nss : List (List Int)} {vs : List V}, RpL K H (nss.map BP) vs → ∃ xs : List (List Int × Addr), vs = xs.map (fun x => V.ref x.2) ∧ xs.map (·.1) = nss ∧ Yi K H xs
  | [], _, h => by rw [Bl.mp h]; exact ⟨[], rfl, rfl, fun x hx => by cases hx⟩
  | r :: nss, _, h => by
    obtain ⟨v, vr, rfl, h1, h2⟩ := Az.mp h
    obtain ⟨b, rfl, hb⟩ := QS h1
    obtain ⟨xs, e1, e2, e3⟩ := QW h2
    refine ⟨(r, b) :: xs, by rw [e1]; rfl, by rw [List.map_cons, e2], fun x hx => ?_⟩
    rcases List.mem_cons.mp hx with rfl | hx
    · exact hb
    · exact e3 x hx
theorem RB {p p2 cp : Pos} (hmL : X.mg "len" = none) (hmS : X.mg "set" = none) (hu : X.A.units + 16 < cLine) (hc : X.calm = true) (he : DE X e te) (hgL : Gl X "len" := by rfl) (hgS : Gl X "set" := by rfl) (hv : bootBuiltins "set" = some (.type "set") := by rfl)
    (hs1 : starEach [e] X.env = (false, eval e X.env) :: starEach [] X.env := by rfl) (hp1 : (backTo cp (starEach [] X.env)).any (·.1) = false := by rfl)
    (hs2 : starEach [.Call (.Name "set" p2) [e] [] cp] X.env = (false, eval (.Call (.Name "set" p2) [e] [] cp) X.env) :: starEach [] X.env := by rfl) (hp2 : (backTo pos (starEach [] X.env)).any (·.1) = false := by rfl) :
    DE X (.Call (.Name "len" p) [.Call (.Name "set" p2) [e] [] cp] [] pos) (QM te) where
  mono := fun hq h => he.mono (fun d z => by
    split at z
    · obtain ⟨nss, h1, h2, h3, h4⟩ := z
      exact ⟨nss, h1, h2, h3, hq _ h4⟩
    · exact z.elim) h
  pe := (Jm Sd hgL hmL PySem.boot_len (Ep (Hy (RN hc hu) hgS hmS hv (Ep he.pe GR hs1) (he := hs1) (hpl := hp1)) GR hs2) (he := hs2) (hpl := hp2)).imp fun σ H Q ⟨B, F, O, ρ, R, h⟩ => ⟨B, F, O, ρ, R, he.mono (fun d z v H1 s1 r1 => by
    split at z
    · obtain ⟨nss, rfl, nd, few, q⟩ := z
      obtain ⟨pa, ys, rfl, hs, hl⟩ := Dh r1
      obtain ⟨xs, rfl, ex, rv⟩ := QW hl
      have lx : xs.length = nss.length := by rw [← ex, List.length_map]
      refine ⟨pa, xs, rfl, Bb.seq hs, fun x hx => Bb.seqT (rv x hx), by rw [ex]; exact nd, by rw [lx]; exact few, fun a ha => ⟨a, xs.reverse, rfl, BR, by rw [List.length_reverse, lx]; exact few, ?_⟩⟩
      rw [List.length_reverse, lx]
      exact q _ _ (s1.trans (Same.upd ha)) (Ax.mpr rfl)
    · exact z.elim) h⟩
end
end L2
namespace L2
open PySem
theorem Ael {A : Around} (h : A.units + 64 < cLine) : A.units + 16 < cLine := by omega
end L2
namespace My
open PySem L2
noncomputable abbrev Li : DSp := Yr
noncomputable abbrev I4 := Int × Int × Int × Int
noncomputable abbrev I2 := Int × Int
noncomputable abbrev t4 (p : I4) : Dt := T4 p.1 p.2.1 p.2.2.1 p.2.2.2
noncomputable abbrev t2 (p : I2) : Dt := T2 p.1 p.2
noncomputable def B4 (n : Nat) (p : I4) : Prop := Bt n p.1 ∧ Bt n p.2.1 ∧ Bt n p.2.2.1 ∧ Bt n p.2.2.2
noncomputable def B2 (n : Nat) (p : I2) : Prop := Bt n p.1 ∧ Bt n p.2
noncomputable def det (p : I4) : Int := p.1 * p.2.2.2 - p.2.1 * p.2.2.1
noncomputable def Zv (t : I4) (p : I2) : I2 := (t.1 * p.1 + t.2.1 * p.2, t.2.2.1 * p.1 + t.2.2.2 * p.2)
noncomputable def Aj (a b : I4) : I4 := (a.1 * b.1 + a.2.1 * b.2.2.1, a.1 * b.2.1 + a.2.1 * b.2.2.2, a.2.2.1 * b.1 + a.2.2.2 * b.2.2.1, a.2.2.1 * b.2.1 + a.2.2.2 * b.2.2.2)
noncomputable def Aw (t : I4) : I4 := (t.2.2.2, -t.2.1, -t.2.2.1, t.1)
theorem B4.le {n m : Nat} {t : I4} (h : B4 n t) (l : n ≤ m) : B4 m t := ⟨h.1.le l, h.2.1.le l, h.2.2.1.le l, h.2.2.2.le l⟩
theorem B2.led {n m : Nat} {t : I4} {p : I2} (h : B4 n t) (q : B2 m p) : B2 (n + m + 1) (Zv t p) :=
  ⟨((h.1.mul q.1).add (h.2.1.mul q.2)).le (by omega), ((h.2.2.1.mul q.1).add (h.2.2.2.mul q.2)).le (by omega)⟩
theorem B4.then {n m : Nat} {t u : I4} (h : B4 n t) (q : B4 m u) : B4 (n + m + 1) (Aj t u) :=
  ⟨((h.1.mul q.1).add (h.2.1.mul q.2.2.1)).le (by omega), ((h.1.mul q.2.1).add (h.2.1.mul q.2.2.2)).le (by omega), ((h.2.2.1.mul q.1).add (h.2.2.2.mul q.2.2.1)).le (by omega), ((h.2.2.1.mul q.2.1).add (h.2.2.2.mul q.2.2.2)).le (by omega)⟩
theorem Fe {t : I4} : det (Aw t) = det t := by obtain ⟨a, b, c, d⟩ := t; simp only [det, Aw]; grind
theorem Dy {t u : I4} : det (Aj t u) = det t * det u := by obtain ⟨a, b, c, d⟩ := t; obtain ⟨e, f, g, h⟩ := u; simp only [det, Aj]; grind
theorem Gv {t : I4} (h : det t = 1) : Aj t (Aw t) = (1, 0, 0, 1) := by
  obtain ⟨a, b, c, d⟩ := t
  simp only [det, Aj, Aw, Prod.mk.injEq] at *
  refine ⟨?_, ?_, ?_, ?_⟩ <;> grind
theorem Kd {t : I4} (h : det t = 1) : Aj (Aw t) t = (1, 0, 0, 1) := by
  obtain ⟨a, b, c, d⟩ := t
  simp only [det, Aj, Aw, Prod.mk.injEq] at *
  refine ⟨?_, ?_, ?_, ?_⟩ <;> grind
noncomputable abbrev I3 := Int × Int × Int
noncomputable abbrev t3 (p : I3) : Dt := T3 p.1 p.2.1 p.2.2
noncomputable def B3 (n : Nat) (p : I3) : Prop := Bt n p.1 ∧ Bt n p.2.1 ∧ Bt n p.2.2
theorem B3.le {n m : Nat} {t : I3} (h : B3 n t) (l : n ≤ m) : B3 m t := ⟨h.1.le l, h.2.1.le l, h.2.2.le l⟩
noncomputable def meas (f : I3) : Int := f.2.1 * f.2.1 - 4 * f.1 * f.2.2
noncomputable def val (f : I3) (p : I2) : Int := f.1 * p.1 * p.1 + f.2.1 * p.1 * p.2 + f.2.2 * p.2 * p.2
noncomputable def mid (f : I3) (l r : I2) : Int := 2 * f.1 * l.1 * r.1 + f.2.1 * (l.1 * r.2 + r.1 * l.2) + 2 * f.2.2 * l.2 * r.2
noncomputable def mov (f : I3) (t : I4) : I3 := (val f (t.1, t.2.2.1), mid f (t.1, t.2.2.1) (t.2.1, t.2.2.2), val f (t.2.1, t.2.2.2))
theorem Ac8 {f : I3} {t : I4} {p : I2} : val (mov f t) p = val f (Zv t p) := by
  obtain ⟨a, b, c⟩ := f; obtain ⟨e, g, h, i⟩ := t; obtain ⟨x, y⟩ := p
  simp only [val, mov, mid, Zv]; grind
theorem Bp {f : I3} {t : I4} (h : det t = 1) : meas (mov f t) = meas f := by
  obtain ⟨a, b, c⟩ := f; obtain ⟨e, g, i, j⟩ := t
  simp only [det] at h
  have e1 : meas (mov (a, b, c) (e, g, i, j)) = (e * j - g * i) * (e * j - g * i) * meas (a, b, c) := by simp only [meas, mov, val, mid]; grind
  rw [e1, h]; simp
theorem Bh {f : I3} {t u : I4} : mov (mov f t) u = mov f (Aj t u) := by
  obtain ⟨a, b, c⟩ := f; obtain ⟨e, g, i, j⟩ := t; obtain ⟨k, l, m, n⟩ := u
  simp only [mov, val, mid, Aj, Prod.mk.injEq]
  refine ⟨?_, ?_, ?_⟩ <;> grind
theorem Ei {f : I3} : mov f (1, 0, 0, 1) = f := by
  obtain ⟨a, b, c⟩ := f
  simp only [mov, val, mid, Prod.mk.injEq]
  refine ⟨?_, ?_, ?_⟩ <;> grind
theorem Td {s t : I3} : Dt.eq (t3 s) (t3 t) = decide (s = t) := by
  obtain ⟨a, b, c⟩ := s
  obtain ⟨e, f, g⟩ := t
  simp only [Yc, Uh, Vv, U6, Prod.mk.injEq, Bool.and_true]
  simp only [Bool.decide_and]
noncomputable def Sq (n r : Int) : Prop := 0 ≤ r ∧ r * r ≤ n ∧ n < (r + 1) * (r + 1)
theorem Sq.uniq {n r s : Int} (a : Sq n r) (b : Sq n s) : r = s := by
  obtain ⟨a0, a1, a2⟩ := a
  obtain ⟨b0, b1, b2⟩ := b
  rcases Int.lt_trichotomy r s with h | h | h
  · have := Int.mul_le_mul (show r + 1 ≤ s by omega) (show r + 1 ≤ s by omega) (by omega) b0
    omega
  · exact h
  · have := Int.mul_le_mul (show s + 1 ≤ r by omega) (show s + 1 ≤ r by omega) (by omega) a0
    omega
theorem Kp {n g : Int} (hn : 0 ≤ n) (hg : 0 < g) : n < ((g + n / g) / 2 + 1) * ((g + n / g) / 2 + 1) := by
  have h1 : n < g * (n / g) + g := Int.lt_mul_ediv_self_add hg
  have h0 : 0 ≤ n / g := Int.ediv_nonneg hn (by omega)
  generalize n / g = q at *
  have hb : g + q ≤ 2 * ((g + q) / 2) + 1 := by omega
  have hb0 : 0 ≤ (g + q) / 2 := by omega
  generalize (g + q) / 2 = b at *
  have z1 : 0 ≤ (g - q - 1) * (g - q - 1) := by
    rcases Int.le_total 0 (g - q - 1) with h | h
    · exact Int.mul_nonneg h h
    · exact Int.mul_nonneg_of_nonpos_of_nonpos h h
  have z2 : (g + q + 1) * (g + q + 1) = (g - q - 1) * (g - q - 1) + 4 * (g * q + g) := by grind
  have z3 : (g + q + 1) * (g + q + 1) ≤ (2 * (b + 1)) * (2 * (b + 1)) := Int.mul_le_mul (by omega) (by omega) (by omega) (by omega)
  have z4 : (2 * (b + 1)) * (2 * (b + 1)) = 4 * ((b + 1) * (b + 1)) := by grind
  omega
theorem OJ {n g : Int} (hg : 0 < g) (h : g ≤ (g + n / g) / 2) : g * g ≤ n := by
  have h1 : g * (n / g) ≤ n := Int.mul_ediv_self_le (by omega)
  have h2 : g ≤ n / g := by omega
  have := Int.mul_le_mul_of_nonneg_left h2 (show 0 ≤ g by omega)
  omega
theorem Nz {n g : Int} (hg : 0 < g) (h : n < g * g) : (g + n / g) / 2 < g := by
  have h2 : n / g < g := Int.ediv_lt_of_lt_mul hg (by rw [Int.mul_comm] at h; exact h)
  omega
theorem PJ {n g : Int} (hn : 1 ≤ n) (hg : 0 < g) : 0 < (g + n / g) / 2 := by
  have h0 : 0 ≤ n / g := Int.ediv_nonneg (by omega) (by omega)
  rcases Int.lt_or_le g 2 with h | h
  · have : g = 1 := by omega
    subst this
    rw [Int.ediv_one]; omega
  · omega
theorem MN {n : Int} (hn : 0 ≤ n) : n < (1 * 2 ^ ((((Builtin.Int.intBits n : Nat) : Int) + 1).fdiv 2).toNat + 1) * (1 * 2 ^ ((((Builtin.Int.intBits n : Nat) : Int) + 1).fdiv 2).toNat + 1) := by
  have h1 : n.natAbs < 2 ^ Builtin.Int.intBits n := intBits_le_iff.mp (Nat.le_refl _)
  generalize Builtin.Int.intBits n = b at *
  have e : ((((b : Nat) : Int) + 1).fdiv 2).toNat = (b + 1) / 2 := by
    rw [Int.fdiv_eq_ediv_of_nonneg _ (by decide)]; omega
  rw [e]
  generalize hk : (b + 1) / 2 = k
  have h2 : 2 ^ b ≤ 2 ^ k * 2 ^ k := by rw [← Nat.pow_add]; exact Nat.pow_le_pow_right (by decide) (by omega)
  have h3 : n < ((2 ^ k * 2 ^ k : Nat) : Int) := by omega
  have h4 : ((2 ^ k * 2 ^ k : Nat) : Int) = (2 ^ k : Int) * 2 ^ k := by push_cast; rfl
  rw [h4] at h3
  have h5 : (0 : Int) ≤ 2 ^ k := Int.pow_nonneg (by decide)
  generalize (2 ^ k : Int) = z at *
  have : (1 * z + 1) * (1 * z + 1) = z * z + 2 * z + 1 := by grind
  omega
theorem Ie {n : Int} (h : Bt 4000 n) : Wn 1 ((((Builtin.Int.intBits n : Nat) : Int) + 1).fdiv 2) ∧ Bt 2001 (1 * 2 ^ ((((Builtin.Int.intBits n : Nat) : Int) + 1).fdiv 2).toNat) ∧ 0 < (1 * 2 ^ ((((Builtin.Int.intBits n : Nat) : Int) + 1).fdiv 2).toNat : Int) := by
  have hb : Builtin.Int.intBits n ≤ 4000 := intBits_le_iff.mpr h
  generalize Builtin.Int.intBits n = b at *
  rw [Int.fdiv_eq_ediv_of_nonneg _ (by decide)]
  refine ⟨⟨by omega, by omega, by decide⟩, ?_, ?_⟩
  · have e : (((b : Int) + 1) / 2).toNat ≤ 2000 := by omega
    generalize (((b : Int) + 1) / 2).toNat = k at *
    unfold Bt
    rw [Int.one_mul, Int.natAbs_pow]
    exact Nat.pow_lt_pow_right (by decide) (by omega)
  · rw [Int.one_mul]
    exact Int.pow_pos (by decide)
theorem Mp {n g : Int} (hg : 0 < g) : (g + n.fdiv g).fdiv 2 = (g + n / g) / 2 := by
  rw [Int.fdiv_eq_ediv_of_nonneg _ (by decide), Int.fdiv_eq_ediv_of_nonneg _ (by omega)]
noncomputable def FQ (n : Int) : Prop := ∃ r : Int, r * r = n
theorem Hl {n r : Int} (h : Sq n r) : FQ n ↔ r * r = n := by
  refine ⟨fun ⟨s, e⟩ => ?_, fun e => ⟨r, e⟩⟩
  have hs : Sq n (s.natAbs : Int) := by
    have e2 : (s.natAbs : Int) * (s.natAbs : Int) = n := (Int.natAbs_mul_self' s).trans e
    refine ⟨by omega, by omega, ?_⟩
    have : ((s.natAbs : Int) + 1) * ((s.natAbs : Int) + 1) = (s.natAbs : Int) * (s.natAbs : Int) + 2 * (s.natAbs : Int) + 1 := by grind
    omega
  rw [h.uniq hs]
  exact (Int.natAbs_mul_self' s).trans e
theorem SQ {n : Int} (h : n < 0) : ¬ FQ n := fun ⟨r, e⟩ => by
  have : 0 ≤ r * r := by
    rcases Int.le_total 0 r with h | h
    · exact Int.mul_nonneg h h
    · exact Int.mul_nonneg_of_nonpos_of_nonpos h h
  omega
noncomputable abbrev Iu : DSp := spec (fun n : Int => [.int n]) (fun n => 0 ≤ n ∧ Bt 4000 n) fun n d => ∃ r, d = .int r ∧ Sq n r ∧ Bt 2001 r
noncomputable abbrev Hj : DSp := spec (fun n : Int => [.int n]) (fun n => Bt 4000 n) fun n d => ∃ b : Bool, d = .bl b ∧ (b = true ↔ FQ n)
noncomputable def g3 (f : I3) : Nat := Int.gcd ((Int.gcd f.1 f.2.1 : Nat) : Int) f.2.2
inductive Vb (f : I3) : Dt → Prop
  | flat : FQ (meas f) → Vb f (.str "flat")
  | saddle : ¬ FQ (meas f) → 0 < meas f → Vb f (.str "saddle")
  | bowl : ¬ FQ (meas f) → ¬ 0 < meas f → 0 < f.1 → Vb f (.str "bowl")
  | dome : ¬ FQ (meas f) → ¬ 0 < meas f → ¬ 0 < f.1 → Vb f (.str "dome")
theorem sq_pos {x : Int} (h : x ≠ 0) : 1 ≤ x * x := by
  rcases Int.lt_or_lt_of_ne h with h | h
  · have := Int.mul_le_mul_of_nonneg_left (show 1 ≤ -x by omega) (show 0 ≤ -x by omega)
    have e : (-x) * (-x) = x * x := by grind
    omega
  · have := Int.mul_le_mul_of_nonneg_left (show 1 ≤ x by omega) (show 0 ≤ x by omega)
    omega
theorem Z6 {a b c x : Int} : val (a, b, c) (x, 0) = a * (x * x) := by simp only [val]; grind
theorem AaI {a b c y : Int} : val (a, b, c) (0, y) = c * (y * y) := by simp only [val]; grind
theorem Dp {f : I3} {t : I4} (h : det t = 1) : mov (mov f t) (Aw t) = f := by rw [Bh, Gv h, Ei]
theorem Aai {ds : List Dt} {k : Int} (h0 : 0 ≤ k) (h1 : k < ds.length) : ∃ d, ixD k (.lst ds) = some d ∧ ixL k ds = some d ∧ ds[k.toNat]? = some d := by
  obtain ⟨j, rfl⟩ := Int.eq_ofNat_of_zero_le h0
  have hj : j < ds.length := by omega
  have e : ds[j]? = some ds[j] := by simp [hj]
  exact ⟨_, e, e, e⟩
theorem CJ (x : Int) {m : Int} (h : 0 < m) : 0 ≤ x.fmod m ∧ x.fmod m < m := ⟨Int.fmod_nonneg_of_pos x h, Int.fmod_lt_of_pos x h⟩
theorem V1 {zs : List Int} {k : Int} {P : Int → Prop} (h0 : 0 ≤ k) (h1 : k < zs.length) (hP : ∀ z ∈ zs, P z) : ∃ z, ixD k (.lst (zs.map Dt.int)) = some (.int z) ∧ P z := by
  refine ⟨_, Rb h0 h1, hP _ ?_⟩
  have : k.toNat < zs.length := by omega
  simp [this]
theorem sq_nonneg (x : Int) : 0 ≤ x * x := by
  rcases Int.le_total 0 x with h | h
  · exact Int.mul_nonneg h h
  · exact Int.mul_nonneg_of_nonpos_of_nonpos h h
end My
namespace My
open PySem L2
noncomputable def stands (f : I3) : Bool := decide (-f.1 ≤ f.2.1 ∧ f.2.1 ≤ f.1 ∧ f.1 ≤ f.2.2) && (decide (0 ≤ f.2.1) || (decide (f.2.1 ≠ -f.1) && decide (f.1 ≠ f.2.2)))
end My
namespace My
open PySem L2
structure Sad (f : I3) : Prop where
  no : ¬ FQ (meas f)
  pos : 0 < meas f
  most : meas f ≤ 4000
noncomputable def Level (f : I3) (far : Int) : Prop := (0 < f.2.1 ∧ f.2.1 ≤ far) ∧ far - f.2.1 < 2 * (if f.1 < 0 then -f.1 else f.1) ∧ 2 * (if f.1 < 0 then -f.1 else f.1) ≤ far + f.2.1
instance {f : I3} {far : Int} : Decidable (Level f far) := by unfold Level; infer_instance
theorem Sad.mov {f : I3} {t : I4} (h : Sad f) (d : det t = 1) : Sad (mov f t) := by
  have e := Bp (f := f) d
  exact ⟨by rw [e]; exact h.no, by rw [e]; exact h.pos, by rw [e]; exact h.most⟩
theorem Va {s x : Int} (h : s = 1 ∨ s = -1) : s * s = 1 := by rcases h with h | h <;> subst h <;> rfl
theorem Ou {o s m b k : Int} (hs : s * s = 1) (hm : 0 < m) :
    meas (o * s * m, o * b, o * s * ((b * b - ((b * b).fmod (4 * m) + 4 * m * k)).fdiv (4 * m))) = o * o * ((b * b).fmod (4 * m) + 4 * m * k) := by
  have h4 : (0 : Int) < 4 * m := by omega
  have e := Int.fmod_def (b * b) (4 * m)
  have e1 : b * b - ((b * b).fmod (4 * m) + 4 * m * k) = 4 * m * ((b * b).fdiv (4 * m) - k) := by rw [e]; grind
  rw [e1, Int.mul_fdiv_cancel_left _ (by omega)]
  generalize (b * b).fdiv (4 * m) = q at *
  rw [e]
  simp only [meas]
  grind
theorem Lx {x m : Int} (h : 0 < m) : m * x.fdiv m ≤ x := by
  rw [Int.fdiv_eq_ediv_of_nonneg _ (by omega)]
  exact Int.mul_ediv_self_le (by omega)
theorem TX {x m : Int} (hx : 0 ≤ x) (h : 0 < m) : 0 ≤ x.fdiv m := by
  rw [Int.fdiv_eq_ediv_of_nonneg _ (by omega)]
  exact Int.ediv_nonneg hx (by omega)
theorem QK {x m : Int} (h : 0 < m) : x < m * x.fdiv m + m := by
  rw [Int.fdiv_eq_ediv_of_nonneg _ (by omega)]
  exact Int.lt_mul_ediv_self_add h
theorem MK {r m most x : Int} (hm : 0 < m) (hr : 0 ≤ r) (hrm : r ≤ most) : 1 ≤ 1 + (most - r).fdiv (4 * m) ∧ 0 ≤ r + 4 * m * x.fmod (1 + (most - r).fdiv (4 * m)) ∧ r + 4 * m * x.fmod (1 + (most - r).fdiv (4 * m)) ≤ most := by
  have h4 : (0 : Int) < 4 * m := by omega
  have h1 := TX (x := most - r) (by omega) h4
  have h2 := Lx (x := most - r) h4
  have ⟨h3, h5⟩ := CJ x (m := 1 + (most - r).fdiv (4 * m)) (by omega)
  generalize (most - r).fdiv (4 * m) = q at *
  generalize x.fmod (1 + q) = y at *
  have h6 := Int.mul_le_mul_of_nonneg_left (show y ≤ q by omega) (show 0 ≤ 4 * m by omega)
  have h7 := Int.mul_nonneg (show 0 ≤ 4 * m by omega) h3
  exact ⟨by omega, by omega, by omega⟩
theorem Gk {n : Nat} {x : Int} {k : Int} (h0 : 0 ≤ x) (h1 : x ≤ k) (hk : k < 2 ^ n) : Bt n x := Bt.of (by have : (0 : Int) < 2 ^ n := Int.pow_pos (by decide); omega) (by omega)
theorem Pr {o s m y z : Int} (o1 : 1 ≤ o) (o6 : o ≤ 6) (m1 : 1 ≤ m) (m4 : m ≤ 400) (hmo : o = 1 ∨ m ≤ 12) (hs : s = 1 ∨ s = -1) :
    ∃ b r most k : Int, b = y.fmod (2 * m) ∧ r = (b * b).fmod (4 * m) ∧ most = Int.fdiv 4000 (o * o) ∧ k = z.fmod (1 + (most - r).fdiv (4 * m)) ∧
      (0 ≤ b ∧ b ≤ 800) ∧ (0 ≤ r ∧ r < 1600) ∧ (0 ≤ k ∧ k ≤ 4000) ∧ 1 + (most - r).fdiv (4 * m) ≠ 0 ∧ Bt 22 ((b * b - (r + 4 * m * k)).fdiv (4 * m)) ∧ Bt 22 (b * b - (r + 4 * m * k)) ∧ Bt 13 (most - r) ∧
      0 ≤ meas (o * s * m, o * b, o * s * ((b * b - (r + 4 * m * k)).fdiv (4 * m))) ∧ meas (o * s * m, o * b, o * s * ((b * b - (r + 4 * m * k)).fdiv (4 * m))) ≤ 4000 ∧ o * s * m ≠ 0 := by
  refine ⟨_, _, _, _, rfl, rfl, rfl, rfl, ?_⟩
  have hb := CJ y (m := 2 * m) (by omega)
  generalize y.fmod (2 * m) = b at *
  have hr := CJ (b * b) (m := 4 * m) (by omega)
  have hoo : 1 ≤ o * o := sq_pos (by omega)
  have ho1 := Lx (x := 4000) (m := o * o) (by omega)
  have ho2 := QK (x := 4000) (m := o * o) (by omega)
  have ho36 : o * o ≤ 36 := Int.mul_le_mul o6 o6 (by omega) (by omega)
  have hmost : 111 ≤ Int.fdiv 4000 (o * o) := by
    rcases Int.lt_or_le (Int.fdiv 4000 (o * o)) 111 with h | h
    · exfalso
      have := Int.mul_le_mul_of_nonneg_left (show Int.fdiv 4000 (o * o) ≤ 110 by omega) (show 0 ≤ o * o by omega)
      omega
    · exact h
  have hmost4 : Int.fdiv 4000 (o * o) ≤ 4000 := by
    have := Int.mul_le_mul_of_nonneg_right hoo (show 0 ≤ Int.fdiv 4000 (o * o) by omega)
    omega
  have hrm : (b * b).fmod (4 * m) ≤ Int.fdiv 4000 (o * o) := by
    rcases hmo with h | h
    · subst h
      have : Int.fdiv 4000 (1 * 1) = 4000 := rfl
      omega
    · omega
  have ⟨s1, s2, s3⟩ := MK (x := z) (m := m) (by omega) hr.1 hrm
  have hss := Va (x := 0) hs
  have hme := Ou (o := o) (s := s) (m := m) (b := b) (k := z.fmod (1 + (Int.fdiv 4000 (o * o) - (b * b).fmod (4 * m)).fdiv (4 * m))) hss (by omega)
  have hk := CJ z (m := 1 + (Int.fdiv 4000 (o * o) - (b * b).fmod (4 * m)).fdiv (4 * m)) (by omega)
  have hb2 : b * b ≤ 800 * 800 := Int.mul_le_mul (by omega) (by omega) hb.1 (by omega)
  have hb0 : 0 ≤ b * b := sq_nonneg b
  rw [hme]
  generalize (b * b).fmod (4 * m) = r at *
  generalize Int.fdiv 4000 (o * o) = most at *
  generalize z.fmod (1 + (most - r).fdiv (4 * m)) = k at *
  have hk2 : k ≤ 4000 := by
    have := Int.mul_le_mul_of_nonneg_right (show 1 ≤ 4 * m by omega) hk.1
    omega
  have hmul : o * o * (r + 4 * m * k) ≤ o * o * most := Int.mul_le_mul_of_nonneg_left s3 (by omega)
  have hbar : Bt 22 (b * b - (r + 4 * m * k)) := Bt.of (by omega) (by omega)
  have hdiv : Bt 22 ((b * b - (r + 4 * m * k)).fdiv (4 * m)) := by
    have d1 := Lx (x := b * b - (r + 4 * m * k)) (m := 4 * m) (by omega)
    have d2 := QK (x := b * b - (r + 4 * m * k)) (m := 4 * m) (by omega)
    generalize (b * b - (r + 4 * m * k)).fdiv (4 * m) = w at *
    rcases Int.le_total 0 w with hw | hw
    · have := Int.mul_le_mul_of_nonneg_right (show 1 ≤ 4 * m by omega) hw
      exact Bt.of (by omega) (by omega)
    · have := Int.mul_le_mul_of_nonneg_right (show 1 ≤ 4 * m by omega) (show 0 ≤ -w by omega)
      have e : 4 * m * -w = -(4 * m * w) := by grind
      exact Bt.of (by omega) (by omega)
  refine ⟨⟨hb.1, by omega⟩, ⟨hr.1, by omega⟩, ⟨hk.1, hk2⟩, by omega, hdiv, hbar, Bt.of (by omega) (by omega), Int.mul_nonneg (by omega) s2, by omega, ?_⟩
  intro h0
  have : (o * s * m) * (o * s * m) = 0 := by rw [h0]; rfl
  have e : (o * s * m) * (o * s * m) = (o * o) * ((s * s) * (m * m)) := by grind
  rw [e, hss, Int.one_mul] at this
  have := Int.mul_le_mul hoo (sq_pos (x := m) (by omega)) (by decide) (by omega)
  omega
end My
namespace My
open PySem L2
noncomputable abbrev ab (x : Int) : Int := if x < 0 then -x else x
theorem Al (x : Int) : (0 ≤ x ∧ ab x = x) ∨ (x < 0 ∧ ab x = -x) := by
  rcases Int.lt_or_le x 0 with h | h
  · exact .inr ⟨h, if_pos h⟩
  · exact .inl ⟨h, if_neg (by omega)⟩
theorem Bg (x : Int) : 0 ≤ ab x := by rcases Al x with ⟨h, e⟩ | ⟨h, e⟩ <;> omega
theorem Qp {n : Nat} {x : Int} (h : Bt n x) : Bt n (ab x) := by
  rcases Al x with ⟨_, e⟩ | ⟨_, e⟩ <;> rw [e]
  · exact h
  · exact h.neg
theorem QX {n : Nat} {x y : Int} (h : Bt n y) (l : ab x ≤ ab y) : Bt n x := by
  unfold Bt at *
  rcases Al x with ⟨_, e⟩ | ⟨_, e⟩ <;> rcases Al y with ⟨_, e'⟩ | ⟨_, e'⟩ <;> omega
theorem KJ {n : Nat} {x k : Int} (l : ab x ≤ k) (hk : k < 2 ^ n) : Bt n x := by
  rcases Al x with ⟨_, e⟩ | ⟨_, e⟩ <;> exact Bt.of (by omega) (by omega)
noncomputable def dB (f : I3) (top : Int) : Int := top - (top + f.2.1).fmod (2 * ab f.2.2)
noncomputable def kB (f : I3) (top : Int) : Int := (f.2.1 + dB f top).fdiv (2 * f.2.2)
noncomputable def Bu (f : I3) (top : Int) : I4 := (0, -1, 1, kB f top)
theorem Bq {f : I3} {top : Int} : det (Bu f top) = 1 := by simp [det, Bu]
theorem Ga {f : I3} {top : Int} (h : f.2.2 ≠ 0) : top - 2 * ab f.2.2 < dB f top ∧ dB f top ≤ top := by
  have hc : 0 < 2 * ab f.2.2 := by rcases Al f.2.2 with ⟨_, e⟩ | ⟨_, e⟩ <;> omega
  have := CJ (top + f.2.1) hc
  unfold dB
  omega
theorem Et {f : I3} {top : Int} (h : f.2.2 ≠ 0) : 2 * f.2.2 * kB f top = f.2.1 + dB f top := by
  unfold kB dB
  have e := Int.fmod_def (top + f.2.1) (2 * ab f.2.2)
  generalize (top + f.2.1).fdiv (2 * ab f.2.2) = q at *
  have e1 : f.2.1 + (top - (top + f.2.1).fmod (2 * ab f.2.2)) = 2 * ab f.2.2 * q := by omega
  rw [e1]
  rcases Al f.2.2 with ⟨_, e2⟩ | ⟨_, e2⟩
  · rw [e2, Int.mul_fdiv_cancel_left _ (by omega)]
  · have e3 : 2 * ab f.2.2 * q = 2 * f.2.2 * (-q) := by rw [e2]; grind
    rw [e3, Int.mul_fdiv_cancel_left _ (by omega)]
theorem Hh {f : I3} {top : Int} (h : f.2.2 ≠ 0) : ∃ e, mov f (Bu f top) = (f.2.2, dB f top, e) := by
  have hk := Et (top := top) h
  obtain ⟨a, b, c⟩ := f
  refine ⟨(mov (a, b, c) (Bu (a, b, c) top)).2.2, ?_⟩
  have e1 : (mov (a, b, c) (Bu (a, b, c) top)).1 = c := by simp only [mov, val, Bu]; grind
  have e2 : (mov (a, b, c) (Bu (a, b, c) top)).2.1 = dB (a, b, c) top := by
    simp only [mov, mid, Bu]
    simp only at hk
    generalize kB (a, b, c) top = k at *
    have : 2 * a * 0 * -1 + b * (0 * k + -1 * 1) + 2 * c * 1 * k = 2 * c * k - b := by grind
    omega
  ext1
  · exact e1
  · ext1
    · exact e2
    · rfl
theorem PB {D far : Int} (r : Sq D far) (n : ¬ FQ D) : far * far < D := by
  rcases Int.lt_or_le (far * far) D with h | h
  · exact h
  · exact absurd ⟨far, by have := r.2.1; omega⟩ n
theorem HS {D far : Int} (r : Sq D far) (m : D ≤ 4000) : far ≤ 63 := by
  rcases Int.lt_or_le far 64 with h | h
  · omega
  · have := Int.mul_le_mul h h (by decide) r.1
    have := r.2.1
    omega
theorem Ef {f : I3} (S : Sad f) : f.2.2 ≠ 0 := fun h => S.no ⟨f.2.1, by
  obtain ⟨a, b, c⟩ := f
  simp only at h
  subst h
  simp only [meas]
  omega⟩
theorem QL {f : I3} (S : Sad f) : f.1 ≠ 0 := fun h => S.no ⟨f.2.1, by
  obtain ⟨a, b, c⟩ := f
  simp only at h
  subst h
  simp only [meas]
  omega⟩
theorem JB (x y : Int) : ab x * ab y = ab (x * y) := by
  rcases Al x with ⟨h1, e1⟩ | ⟨h1, e1⟩ <;> rcases Al y with ⟨h2, e2⟩ | ⟨h2, e2⟩ <;> rw [e1, e2]
  · have := Int.mul_nonneg h1 h2
    exact (if_neg (by omega)).symm
  · have := Int.mul_nonneg h1 (show 0 ≤ -y by omega)
    have e : x * -y = -(x * y) := by grind
    by_cases h : x * y < 0
    · rw [ab, if_pos h, e]
    · rw [ab, if_neg h]; omega
  · have := Int.mul_nonneg (show 0 ≤ -x by omega) h2
    have e : -x * y = -(x * y) := by grind
    by_cases h : x * y < 0
    · rw [ab, if_pos h, e]
    · rw [ab, if_neg h]; omega
  · have := Int.mul_nonneg (show 0 ≤ -x by omega) (show 0 ≤ -y by omega)
    have e : -x * -y = x * y := by grind
    rw [ab, if_neg (by omega), e]
theorem FP {x k : Int} (h : ab x ≤ k) : x * x ≤ k * k := by
  have e : x * x = ab x * ab x := by
    rcases Al x with ⟨_, e⟩ | ⟨_, e⟩ <;> rw [e]
    grind
  rw [e]
  have := Bg x
  exact Int.mul_le_mul h h this (by omega)
theorem last_eq {c d e D : Int} (h : meas (c, d, e) = D) : 4 * (ab c * ab e) = ab (d * d - D) := by
  have : d * d - D = 4 * (c * e) := by rw [← h]; simp only [meas]; grind
  rw [this, JB]
  rcases Al (c * e) with ⟨h1, e1⟩ | ⟨h1, e1⟩
  · rw [e1, ab, if_neg (by omega)]
  · rw [e1, ab, if_pos (by omega)]; omega
theorem Xv {c d e D far : Int} (r : Sq D far) (D0 : 0 < D) (h : meas (c, d, e) = D) (hc : far < ab c) (h1 : -ab c < d) (h2 : d ≤ ab c) : 4 * ab e ≤ ab c := by
  have k := last_eq h
  have hd : d * d ≤ ab c * ab c := by
    refine FP ?_
    rcases Al d with ⟨_, e1⟩ | ⟨_, e1⟩ <;> omega
  have hD : D ≤ ab c * ab c := by
    have := Int.mul_le_mul (show far + 1 ≤ ab c by omega) (show far + 1 ≤ ab c by omega) (by have := r.1; omega) (Bg c)
    have := r.2.2
    omega
  have h0 := sq_nonneg d
  have : ab (d * d - D) ≤ ab c * ab c := by
    rcases Al (d * d - D) with ⟨_, e1⟩ | ⟨_, e1⟩ <;> omega
  have hc0 : 0 < ab c := by have := r.1; omega
  rcases Int.lt_or_le (ab c) (4 * ab e) with z | z
  · exfalso
    have := Int.mul_lt_mul_of_pos_left z hc0
    have e2 : ab c * (4 * ab e) = 4 * (ab c * ab e) := by grind
    omega
  · exact z
theorem Tf {c d e D far : Int} (r : Sq D far) (n : ¬ FQ D) (h : meas (c, d, e) = D) (hc : ab c ≤ far) (hc2 : far < 2 * ab c) (h1 : far - 2 * ab c < d) (h2 : d ≤ far) : 2 * ab e ≤ far := by
  have k := last_eq h
  have hf := PB r n
  have hd : d * d ≤ far * far := by
    refine FP ?_
    rcases Al d with ⟨_, e1⟩ | ⟨_, e1⟩ <;> omega
  have h0 := sq_nonneg d
  have hD := r.2.2
  have : ab (d * d - D) < (far + 1) * (far + 1) := by
    rcases Al (d * d - D) with ⟨_, e1⟩ | ⟨_, e1⟩ <;> omega
  rcases Int.lt_or_le far (2 * ab e) with z | z
  · exfalso
    have := Int.mul_le_mul (show far + 1 ≤ 2 * ab c by omega) (show far + 1 ≤ 2 * ab e by omega) (by have := r.1; omega) (by have := Bg c; omega)
    have e2 : 2 * ab c * (2 * ab e) = 4 * (ab c * ab e) := by grind
    omega
  · exact z
theorem Qt {c d e far : Int} (hc : 2 * ab c ≤ far) (h1 : far - 2 * ab c < d) (h2 : d ≤ far) : Level (c, d, e) far := by
  refine ⟨⟨?_, h2⟩, ?_, ?_⟩
  · show 0 < d; omega
  · show far - d < 2 * ab c; omega
  · show 2 * ab c ≤ far + d; omega
theorem Pz {c d e D far : Int} (r : Sq D far) (hm : D ≤ 4000) (D0 : 0 < D) (h : meas (c, d, e) = D) (c0 : c ≠ 0) (hd : ab d ≤ far) : ab e ≤ 1000 := by
  have k := last_eq h
  have h2 : d * d ≤ far * far := FP hd
  have h0 := sq_nonneg d
  have h3 := r.2.1
  have : ab (d * d - D) ≤ 4000 := by
    rcases Al (d * d - D) with ⟨_, e1⟩ | ⟨_, e1⟩ <;> omega
  have hc : 1 ≤ ab c := by rcases Al c with ⟨_, e1⟩ | ⟨_, e1⟩ <;> omega
  have := Int.mul_le_mul_of_nonneg_right hc (Bg e)
  omega
theorem Ft {f : I3} {far : Int} (r : Sq (meas f) far) (n : ¬ FQ (meas f)) (L : Level f far) : far - f.2.1 < 2 * ab f.2.2 ∧ 2 * ab f.2.2 ≤ far + f.2.1 := by
  obtain ⟨a, b, c⟩ := f
  obtain ⟨⟨l1, l2⟩, l3, l4⟩ := L
  have l1 : 0 < b := l1
  have l2 : b ≤ far := l2
  have l3 : far - b < 2 * ab a := l3
  have l4 : 2 * ab a ≤ far + b := l4
  show far - b < 2 * ab c ∧ 2 * ab c ≤ far + b
  have hf := PB r n
  have hD := r.2.2
  have k : 4 * (ab a * ab c) = ab (b * b - meas (a, b, c)) := last_eq (c := a) (d := b) (e := c) rfl
  generalize meas (a, b, c) = D at *
  have hb : b * b ≤ far * far := Int.mul_le_mul l2 l2 (by omega) (by omega)
  have k2 : (2 * ab a) * (2 * ab c) = D - b * b := by
    have e1 : (2 * ab a) * (2 * ab c) = 4 * (ab a * ab c) := by grind
    rcases Al (b * b - D) with ⟨_, e⟩ | ⟨_, e⟩ <;> omega
  generalize 2 * ab a = A at *
  have hC0 : 0 ≤ 2 * ab c := by have := Bg c; omega
  generalize 2 * ab c = C at *
  constructor
  · rcases Int.lt_or_le (far - b) C with z | z
    · exact z
    · exfalso
      have z1 : A * C ≤ (far + b) * (far - b) := Int.mul_le_mul l4 z hC0 (by omega)
      have e1 : (far + b) * (far - b) = far * far - b * b := by grind
      omega
  · rcases Int.lt_or_le (far + b) C with z | z
    · exfalso
      have z1 : (far - b + 1) * (far + b + 1) ≤ A * C := Int.mul_le_mul (by omega) (by omega) (by omega) (by omega)
      have e1 : (far - b + 1) * (far + b + 1) = (far + 1) * (far + 1) - b * b := by grind
      omega
    · exact z
theorem Py {f : I3} {far : Int} (S : Sad f) (r : Sq (meas f) far) (L : Level f far) : Level (mov f (Bu f far)) far := by
  have hc := Ef S
  obtain ⟨e, he⟩ := Hh (top := far) hc
  rw [he]
  have ⟨d1, d2⟩ := Ga (top := far) hc
  have ⟨c1, c2⟩ := Ft r S.no L
  obtain ⟨⟨l1, l2⟩, _, _⟩ := L
  have hk := Et (top := far) hc
  have d3 : far - 2 * ab f.2.2 < dB f far := d1
  by_cases hC : 2 * ab f.2.2 ≤ far
  · exact Qt hC d1 d2
  ·
    have hd : dB f far = 2 * ab f.2.2 - f.2.1 := by
      have e1 : f.2.1 + dB f far = 2 * (f.2.2 * kB f far) := by rw [← hk]; grind
      have hx : ab (f.2.2 * kB f far) = ab f.2.2 * ab (kB f far) := (JB _ _).symm
      have hpos : 0 < f.2.2 * kB f far := by omega
      have hx2 : f.2.2 * kB f far = ab f.2.2 * ab (kB f far) := by rw [← hx, ab, if_neg (by omega)]
      have hk0 : 0 < ab (kB f far) := by
        rcases Int.lt_or_le 0 (ab (kB f far)) with z | z
        · exact z
        · have : ab (kB f far) = 0 := by have := Bg (kB f far); omega
          rw [this] at hx2
          omega
      have hk1 : ab (kB f far) = 1 := by
        rcases Int.lt_or_le (ab (kB f far)) 2 with z | z
        · omega
        · exfalso
          have := Int.mul_le_mul_of_nonneg_left z (Bg f.2.2)
          omega
      rw [hk1] at hx2
      omega
    refine ⟨⟨?_, d2⟩, ?_, ?_⟩
    · show 0 < dB f far; omega
    · show far - dB f far < 2 * ab f.2.2; omega
    · show 2 * ab f.2.2 ≤ far + dB f far; omega
theorem Ni {f : I3} {far : Int} (S : Sad f) (r : Sq (meas f) far) (L : Level f far) : B3 7 f := by
  have ⟨c1, c2⟩ := Ft r S.no L
  have h6 := HS r S.most
  obtain ⟨⟨l1, l2⟩, l3, l4⟩ := L
  have l4 : 2 * ab f.1 ≤ far + f.2.1 := l4
  exact ⟨KJ (k := 63) (by omega) (by decide), Bt.of (by omega) (by omega), KJ (k := 63) (by omega) (by decide)⟩
end My
namespace My
open PySem L2
noncomputable abbrev bl (x : Int) : Nat := Builtin.Int.intBits x
theorem Ri {x : Int} : Bt (bl x) x := intBits_le_iff.mp (Nat.le_refl _)
theorem Rg {n : Nat} {x : Int} (h : Bt n x) : bl x ≤ n := intBits_le_iff.mpr h
theorem Pq {x : Int} (h : x ≠ 0) : 1 ≤ bl x := by
  rcases Nat.lt_or_ge 0 (bl x) with z | z
  · exact z
  · have := Ri (x := x)
    unfold Bt at this
    rw [show bl x = 0 by omega] at this
    omega
theorem UW {x : Int} (h : x ≠ 0) : 2 ^ (bl x - 1) ≤ x.natAbs := by
  rcases Nat.lt_or_ge x.natAbs (2 ^ (bl x - 1)) with z | z
  · have := Rg (n := bl x - 1) z
    have := Pq h
    omega
  · exact z
theorem Ro {x y : Int} (h : 4 * ab x ≤ ab y) (hy : y ≠ 0) : bl x + 2 ≤ bl y ∨ x = 0 := by
  by_cases hx : x = 0
  · exact .inr hx
  · refine .inl ?_
    have h1 := UW hx
    have h2 := Ri (x := y)
    unfold Bt at h2
    have p := Pq hx
    rcases Nat.lt_or_ge (bl y) (bl x + 2) with z | z
    · exfalso
      have h3 : 2 ^ bl y ≤ 2 ^ (bl x - 1 + 2) := Nat.pow_le_pow_right (by decide) (by omega)
      rw [Nat.pow_add] at h3
      have h4 : 4 * x.natAbs ≤ y.natAbs := by
        rcases Al x with ⟨_, e⟩ | ⟨_, e⟩ <;> rcases Al y with ⟨_, e'⟩ | ⟨_, e'⟩ <;> omega
      omega
    · exact z
theorem Np {b c d k : Int} {x : Nat} (hc : c ≠ 0) (hb : Bt x b) (hx : bl c ≤ x) (hd : ab d ≤ ab c) (hk : 2 * c * k = b + d) : Bt (x + 1 - bl c) k := by
  have h1 := UW hc
  have h2 := Ri (x := c)
  have hp := Pq hc
  unfold Bt at *
  have e1 : 2 * (c.natAbs * k.natAbs) = (b + d).natAbs := by
    rw [← hk, Int.mul_assoc, Int.natAbs_mul, Int.natAbs_mul]; rfl
  have e2 : (b + d).natAbs < 2 ^ x + 2 ^ bl c := by
    rcases Al d with ⟨_, e⟩ | ⟨_, e⟩ <;> rcases Al c with ⟨_, e'⟩ | ⟨_, e'⟩ <;> omega
  have e3 : 2 ^ bl c ≤ 2 ^ x := Nat.pow_le_pow_right (by decide) hx
  rcases Nat.lt_or_ge k.natAbs (2 ^ (x + 1 - bl c)) with z | z
  · exact z
  · exfalso
    have := Nat.mul_le_mul h1 z
    rw [← Nat.pow_add, show bl c - 1 + (x + 1 - bl c) = x by omega] at this
    omega
theorem Jb {f : I3} {top : Int} {m : Nat} (h : Bt m (kB f top)) (hm : 1 ≤ m) : B4 m (Bu f top) := ⟨Bt.zero.le (by omega), (Bt.one.le hm).neg, Bt.one.le hm, h⟩
noncomputable def Il (n : Nat) (far : Int) (f0 : I3) (t : I4) : Prop :=
  det t = 1 ∧ B3 n (mov f0 t) ∧
  (if far < ab (mov f0 t).2.2 then ∃ β x, B4 β t ∧ Bt x (mov f0 t).2.1 ∧ bl (mov f0 t).2.2 ≤ x ∧ β + x + bl (mov f0 t).2.2 ≤ 2 * n + 1
   else if Level (mov f0 t) far then B4 (5 * n + 30) t else if far < 2 * ab (mov f0 t).2.2 then B4 (3 * n + 10) t else B4 (4 * n + 20) t)
noncomputable def eM (far : Int) (f : I3) : Nat := if far < ab f.2.2 then (ab f.2.2).toNat + 3 else if Level f far then 0 else if far < 2 * ab f.2.2 then 2 else 1
theorem Il.b4 {n : Nat} {far : Int} {f0 : I3} {t : I4} (h : Il n far f0 t) : B4 (5 * n + 30) t := by
  obtain ⟨_, _, h⟩ := h
  split at h
  · obtain ⟨β, x, hb, _, _, _⟩ := h
    exact hb.le (by omega)
  · split at h
    · exact h
    · split at h
      · exact h.le (by omega)
      · exact h.le (by omega)
theorem Il.start {n : Nat} {far : Int} {f : I3} (hn : 1 ≤ n) (hf : B3 n f) : Il n far f (1, 0, 0, 1) := by
  have one : B4 1 (1, 0, 0, 1) := ⟨Bt.one, Bt.zero.le (by omega), Bt.zero.le (by omega), Bt.one⟩
  unfold Il
  rw [Ei]
  refine ⟨rfl, hf, ?_⟩
  split
  · exact ⟨1, n, one, hf.2.1, Rg hf.2.2, by have := Rg hf.2.2; omega⟩
  · split
    · exact one.le (by omega)
    · split
      · exact one.le (by omega)
      · exact one.le (by omega)
theorem Kq {n : Nat} {far : Int} {f0 : I3} {t : I4} (hn : 12 ≤ n) (S : Sad f0) (r : Sq (meas f0) far) (I : Il n far f0 t) (nl : ¬ Level (mov f0 t) far) :
    Il n far f0 (Aj t (Bu (mov f0 t) (if far > ab (mov f0 t).2.2 then far else ab (mov f0 t).2.2))) ∧
    eM far (mov f0 (Aj t (Bu (mov f0 t) (if far > ab (mov f0 t).2.2 then far else ab (mov f0 t).2.2)))) < eM far (mov f0 t) ∧
    B4 (n + 3) (Bu (mov f0 t) (if far > ab (mov f0 t).2.2 then far else ab (mov f0 t).2.2)) := by
  have hb4 := I.b4
  obtain ⟨hd, hb, hI⟩ := I
  have Sf := S.mov hd
  have hm := Bp (f := f0) hd
  have rf : Sq (meas (mov f0 t)) far := by rw [hm]; exact r
  have f63 := HS rf Sf.most
  have far0 := r.1
  simp only [Il, ← Bh]
  rw [Dy, hd, Bq]
  generalize hf : mov f0 t = f at *
  have hc := Ef Sf
  have c1 : 1 ≤ ab f.2.2 := by rcases Al f.2.2 with ⟨_, e1⟩ | ⟨_, e1⟩ <;> omega
  by_cases h1 : far < ab f.2.2
  ·
    rw [if_pos h1] at hI
    obtain ⟨β, x, hβ, hx, hlx, hsum⟩ := hI
    rw [if_neg (show ¬ far > ab f.2.2 by omega)]
    have ⟨d1, d2⟩ := Ga (top := ab f.2.2) hc
    have hk := Et (top := ab f.2.2) hc
    obtain ⟨e, he⟩ := Hh (top := ab f.2.2) hc
    have hme : meas (f.2.2, dB f (ab f.2.2), e) = meas f := by rw [← he, Bp Bq]
    have hdc : ab (dB f (ab f.2.2)) ≤ ab f.2.2 := by rcases Al (dB f (ab f.2.2)) with ⟨_, e1⟩ | ⟨_, e1⟩ <;> omega
    have h4 := Xv rf Sf.pos hme h1 (by omega) d2
    have kbt := Np hc hx hlx hdc hk
    have k1 : 1 ≤ x + 1 - bl f.2.2 := by omega
    have hbeh := Jb kbt k1
    have hxn : bl f.2.2 ≤ n := Rg hb.2.2
    have hS' := Sf.mov (t := Bu f (ab f.2.2)) Bq
    rw [he] at hS'
    have he0 : e ≠ 0 := Ef hS'
    have hfour := (Ro h4 hc).resolve_right he0
    have hβ' := B4.then hβ hbeh
    rw [he]
    refine ⟨⟨rfl, ⟨hb.2.2, QX hb.2.2 hdc, QX hb.2.2 (show ab e ≤ ab f.2.2 by have := Bg e; omega)⟩, ?_⟩, ?_, ?_⟩
    · show if far < ab e then _ else _
      split
      · refine ⟨_, bl f.2.2, hβ', ?_, ?_, ?_⟩
        · exact QX Ri hdc
        · show bl e ≤ bl f.2.2; omega
        · show _ + bl f.2.2 + bl e ≤ _; omega
      · split
        · exact hβ'.le (by omega)
        · split
          · exact hβ'.le (by omega)
          · exact hβ'.le (by omega)
    · unfold eM
      rw [if_pos h1]
      show (if far < ab e then (ab e).toNat + 3 else _) < _
      split
      · have := Bg e; omega
      · split
        · omega
        · split <;> omega
    ·
      have : Bt (n + 1 - bl f.2.2) (kB f (ab f.2.2)) := Np hc hb.2.1 hxn hdc hk
      exact (Jb this (by omega)).le (by omega)
  · rw [if_neg h1, if_neg nl] at hI
    have etop : (if far > ab f.2.2 then far else ab f.2.2) = far := by split <;> omega
    rw [etop]
    have ⟨d1, d2⟩ := Ga (top := far) hc
    have hk := Et (top := far) hc
    obtain ⟨e, he⟩ := Hh (top := far) hc
    have hme : meas (f.2.2, dB f far, e) = meas f := by rw [← he, Bp Bq]
    have hdf : ab (dB f far) ≤ far := by rcases Al (dB f far) with ⟨_, e1⟩ | ⟨_, e1⟩ <;> omega
    have hel := Pz rf Sf.most Sf.pos hme hc hdf
    have kb : Bt (n + 2) (kB f far) := by
      have e1 : 2 * (ab f.2.2 * ab (kB f far)) = ab (f.2.1 + dB f far) := by
        rw [← hk, JB]
        have : 2 * f.2.2 * kB f far = 2 * (f.2.2 * kB f far) := by grind
        rw [this]
        rcases Al (f.2.2 * kB f far) with ⟨h1, e1⟩ | ⟨h1, e1⟩
        · rw [e1, ab, if_neg (by omega)]
        · rw [e1, ab, if_pos (by omega)]; omega
      have e2 := Int.mul_le_mul_of_nonneg_right c1 (Bg (kB f far))
      have e3 : Bt (n + 1) (f.2.1 + dB f far) := by
        have := (hb.2.1).add (show Bt 7 (dB f far) from KJ (k := 63) (by omega) (by decide))
        exact this.le (by omega)
      refine Bt.le (n := n + 1) (QX e3 ?_) (by omega)
      have := Bg (kB f far)
      omega
    have hbeh := Jb kb (by omega)
    rw [he]
    have hB : B3 n (f.2.2, dB f far, e) := ⟨hb.2.2, Bt.le (n := 7) (KJ (k := 63) (show ab (dB f far) ≤ 63 by omega) (by decide)) (by omega), Bt.le (n := 12) (KJ (x := e) hel (by decide)) (by omega)⟩
    by_cases h2 : far < 2 * ab f.2.2
    · rw [if_pos h2] at hI
      have hβ' := B4.then hI hbeh
      have hh := Tf rf Sf.no hme (by omega) h2 (by omega) d2
      have h3 : ¬ far < ab e := by have := Bg e; omega
      refine ⟨⟨rfl, hB, ?_⟩, ?_, hbeh.le (by omega)⟩
      · show if far < ab e then _ else _
        rw [if_neg h3]
        split
        · exact hβ'.le (by omega)
        · rw [if_neg (show ¬ far < 2 * ab (f.2.2, dB f far, e).2.2 by show ¬ far < 2 * ab e; omega)]
          exact hβ'.le (by omega)
      · unfold eM
        rw [if_neg h1, if_neg nl, if_pos h2]
        show (if far < ab e then _ else _) < 2
        rw [if_neg h3]
        split
        · omega
        · rw [if_neg (show ¬ far < 2 * ab (f.2.2, dB f far, e).2.2 by show ¬ far < 2 * ab e; omega)]
          omega
    · rw [if_neg h2] at hI
      have hβ' := B4.then hI hbeh
      have hL : Level (f.2.2, dB f far, e) far := Qt (by omega) d1 d2
      have h3 : ¬ far < ab e := by
        have := (Ft (f := (f.2.2, dB f far, e)) (by rw [hme]; exact rf) (by rw [hme]; exact Sf.no) hL).2
        simp only at this
        omega
      refine ⟨⟨rfl, hB, ?_⟩, ?_, hbeh.le (by omega)⟩
      · show if far < ab e then _ else _
        rw [if_neg h3, if_pos hL]
        exact hβ'.le (by omega)
      · unfold eM
        rw [if_neg h1, if_neg nl, if_neg h2]
        show (if far < ab e then _ else _) < 1
        rw [if_neg h3, if_pos hL]
        omega
end My
namespace My
open PySem L2
noncomputable def Riv (f : I3) : Prop := (0 < f.1 ∧ f.2.2 < 0) ∧ ¬ FQ (meas f)
noncomputable abbrev tR : I4 := (1, 1, 0, 1)
noncomputable abbrev tL : I4 := (1, 0, 1, 1)
noncomputable def sm (f : I3) : Int := f.1 + f.2.1 + f.2.2
theorem T9 {a b c : Int} : mov (a, b, c) tR = (a, b + 2 * a, a + b + c) := by
  simp only [mov, val, mid, Prod.mk.injEq]
  refine ⟨?_, ?_, ?_⟩ <;> grind
theorem Ub {a b c : Int} : mov (a, b, c) tL = (a + b + c, b + 2 * c, c) := by
  simp only [mov, val, mid, Prod.mk.injEq]
  refine ⟨?_, ?_, ?_⟩ <;> grind
theorem Yd {f : I3} (n : ¬ FQ (meas f)) : sm f ≠ 0 := fun h => n ⟨f.1 - f.2.2, by
  obtain ⟨a, b, c⟩ := f
  simp only [sm, meas] at *
  have : b = -(a + c) := by omega
  subst this
  grind⟩
noncomputable def stT (f : I3) : I4 := if sm f < 0 then tR else tL
noncomputable def nx (f : I3) : I3 := mov f (stT f)
theorem AaU {f : I3} : det (stT f) = 1 := by unfold stT; split <;> rfl
theorem Riv.next {f : I3} (h : Riv f) : Riv (nx f) := by
  have hm := Bp (f := f) (AaU (f := f))
  refine ⟨?_, by unfold nx; rw [hm]; exact h.2⟩
  have hs := Yd h.2
  obtain ⟨a, b, c⟩ := f
  obtain ⟨⟨h1, h2⟩, _⟩ := h
  by_cases h : sm (a, b, c) < 0
  · have e : nx (a, b, c) = (a, b + 2 * a, a + b + c) := by unfold nx; rw [show stT (a, b, c) = tR from if_pos h]; exact T9
    rw [e]; exact ⟨h1, h⟩
  · have e : nx (a, b, c) = (a + b + c, b + 2 * c, c) := by unfold nx; rw [show stT (a, b, c) = tL from if_neg h]; exact Ub
    rw [e]
    refine ⟨?_, h2⟩
    simp only [sm] at h hs ⊢
    omega
structure NN (t : I4) : Prop where
  p : 1 ≤ t.1
  q : 0 ≤ t.2.1
  r : 0 ≤ t.2.2.1
  s : 1 ≤ t.2.2.2
  d : det t = 1
noncomputable def sz (t : I4) : Nat := (t.1 + t.2.1 + t.2.2.1 + t.2.2.2).toNat
theorem NN.split {t : I4} (h : NN t) : t = (1, 0, 0, 1) ∨ (∃ u, NN u ∧ t = Aj tR u ∧ sz u < sz t) ∨ (∃ u, NN u ∧ t = Aj tL u ∧ sz u < sz t) := by
  obtain ⟨p, q, r, s⟩ := t
  obtain ⟨hp, hq, hr, hs, hd⟩ := h
  simp only [det] at *
  by_cases c1 : r ≤ p ∧ s ≤ q
  · refine .inr (.inl ⟨(p - r, q - s, r, s), ⟨?_, by simp only; omega, hr, hs, ?_⟩, ?_, ?_⟩)
    · show 1 ≤ p - r
      have e : (p - r) * s - (q - s) * r = 1 := by grind
      have z := Int.mul_nonneg (show 0 ≤ q - s by omega) hr
      rcases Int.lt_or_le (p - r) 1 with w | w
      · have : (p - r) * s ≤ 0 * s := Int.mul_le_mul_of_nonneg_right (by omega) (by omega)
        omega
      · exact w
    · show (p - r) * s - (q - s) * r = 1
      grind
    · simp only [Aj, Prod.mk.injEq]
      refine ⟨?_, ?_, ?_, ?_⟩ <;> omega
    · simp only [sz]; omega
  · by_cases c2 : p ≤ r ∧ q ≤ s
    · refine .inr (.inr ⟨(p, q, r - p, s - q), ⟨hp, hq, by simp only; omega, ?_, ?_⟩, ?_, ?_⟩)
      · show 1 ≤ s - q
        have e : p * (s - q) - q * (r - p) = 1 := by grind
        have z := Int.mul_nonneg hq (show 0 ≤ r - p by omega)
        rcases Int.lt_or_le (s - q) 1 with w | w
        · have : p * (s - q) ≤ p * 0 := Int.mul_le_mul_of_nonneg_left (by omega) (by omega)
          omega
        · exact w
      · show p * (s - q) - q * (r - p) = 1
        grind
      · simp only [Aj, Prod.mk.injEq]
        refine ⟨?_, ?_, ?_, ?_⟩ <;> omega
      · simp only [sz]; omega
    · rcases Int.lt_or_le r p with w | w
      ·
        have w2 : q < s := by omega
        have z := Int.mul_le_mul (show r + 1 ≤ p by omega) (show q + 1 ≤ s by omega) (by omega) (by omega)
        have e : (r + 1) * (q + 1) = r * q + r + q + 1 := by grind
        have e2 : r * q = q * r := Int.mul_comm r q
        have r0 : r = 0 := by omega
        have q0 : q = 0 := by omega
        subst r0 q0
        left
        have hps : p * s = 1 := by omega
        have p1 : p = 1 := by
          rcases Int.lt_or_le p 2 with v | v
          · omega
          · have := Int.mul_le_mul v hs (by decide) (by omega)
            omega
        subst p1
        have : s = 1 := by omega
        rw [this]
      ·
        have w2 : s < q := by omega
        have w3 : p < r := by
          rcases Int.lt_or_le p r with v | v
          · exact v
          · have : p = r := by omega
            subst this
            exfalso
            have e : p * s - q * p = p * (s - q) := by grind
            have := Int.mul_le_mul_of_nonneg_left (show s - q ≤ -1 by omega) (show 0 ≤ p by omega)
            omega
        exfalso
        have z := Int.mul_le_mul (show p ≤ r - 1 by omega) (show s ≤ q - 1 by omega) (by omega) (by omega)
        have e : (r - 1) * (q - 1) = q * r - r - q + 1 := by grind
        omega
noncomputable def wd : Nat → I3 → I4
  | 0, _ => (1, 0, 0, 1)
  | n + 1, f => Aj (stT f) (wd n (nx f))
noncomputable def nxs : Nat → I3 → I3
  | 0, f => f
  | n + 1, f => nxs n (nx f)
theorem Eu {t : I4} : Aj (1, 0, 0, 1) t = t := by
  obtain ⟨p, q, r, s⟩ := t
  simp only [Aj, Prod.mk.injEq]
  refine ⟨?_, ?_, ?_, ?_⟩ <;> omega
theorem Ea {t : I4} : Aj t (1, 0, 0, 1) = t := by
  obtain ⟨p, q, r, s⟩ := t
  simp only [Aj, Prod.mk.injEq]
  refine ⟨?_, ?_, ?_, ?_⟩ <;> omega
theorem then_assoc {t u v : I4} : Aj (Aj t u) v = Aj t (Aj u v) := by
  obtain ⟨a, b, c, d⟩ := t; obtain ⟨e, f, g, h⟩ := u; obtain ⟨i, j, k, l⟩ := v
  simp only [Aj, Prod.mk.injEq]
  refine ⟨?_, ?_, ?_, ?_⟩ <;> grind
theorem GQ : ∀ (n : Nat) (f : I3), mov f (wd n f) = nxs n f
  | 0, f => Ei
  | n + 1, f => by rw [wd, ← Bh]; exact GQ n (nx f)
theorem Ql {a b c x y : Int} (ha : 0 < a) (hb : 0 < b) (hc : 0 < c) (hx : 0 ≤ x) (hy : 0 ≤ y) : 0 ≤ val (a, b, c) (x, y) := by
  have e : val (a, b, c) (x, y) = a * (x * x) + b * (x * y) + c * (y * y) := by simp only [val]; grind
  have h1 := Int.mul_nonneg (show 0 ≤ a by omega) (Int.mul_nonneg hx hx)
  have h2 := Int.mul_nonneg (show 0 ≤ b by omega) (Int.mul_nonneg hx hy)
  have h3 := Int.mul_nonneg (show 0 ≤ c by omega) (Int.mul_nonneg hy hy)
  omega
theorem neg_val {a b c x y : Int} (ha : a < 0) (hb : b < 0) (hc : c < 0) (hx : 0 ≤ x) (hy : 0 ≤ y) : val (a, b, c) (x, y) ≤ 0 := by
  have := Ql (a := -a) (b := -b) (c := -c) (by omega) (by omega) (by omega) hx hy
  have e : val (-a, -b, -c) (x, y) = -val (a, b, c) (x, y) := by simp only [val]; grind
  omega
theorem along : ∀ (m : Nat) (f : I3) (t : I4), sz t ≤ m → Riv f → NN t → Riv (mov f t) → ∃ n, t = wd n f := by
  intro m
  induction m with
  | zero =>
    intro f t hs _ hN _
    exfalso
    have := hN.p; have := hN.q; have := hN.r; have := hN.s
    unfold sz at hs
    omega
  | succ m ih =>
    intro f t hs hf hN hg
    rcases hN.split with e | ⟨u, hu, e, hl⟩ | ⟨u, hu, e, hl⟩
    · exact ⟨0, e⟩
    · have hsm : sm f < 0 := by
        have hne := Yd hf.2
        rcases Int.lt_or_le (sm f) 0 with z | z
        · exact z
        · exfalso
          rw [e, ← Bh] at hg
          obtain ⟨a, b, c⟩ := f
          obtain ⟨p, q, r, s⟩ := u
          rw [T9] at hg
          have h1 : (mov (a, b + 2 * a, a + b + c) (p, q, r, s)).2.2 < 0 := hg.1.2
          have h2 : 0 < a := hf.1.1
          have h3 : c < 0 := hf.1.2
          simp only [sm] at hne z
          have h4 : 0 ≤ val (a, b + 2 * a, a + b + c) (q, s) := Ql h2 (by omega) (by omega) hu.q (by have := hu.s; simp only at this; omega)
          have h5 : (mov (a, b + 2 * a, a + b + c) (p, q, r, s)).2.2 = val (a, b + 2 * a, a + b + c) (q, s) := rfl
          omega
      have hst : stT f = tR := by unfold stT; rw [if_pos hsm]
      have hnx : nx f = mov f tR := by unfold nx; rw [hst]
      have hr := hf.next
      obtain ⟨n, en⟩ := ih (nx f) u (by omega) hr hu (by rw [hnx, Bh, ← e]; exact hg)
      exact ⟨n + 1, by rw [wd, hst, ← en]; exact e⟩
    · have hsm : ¬ sm f < 0 := by
        intro z
        rw [e, ← Bh] at hg
        obtain ⟨a, b, c⟩ := f
        obtain ⟨p, q, r, s⟩ := u
        rw [Ub] at hg
        have h1 : 0 < (mov (a + b + c, b + 2 * c, c) (p, q, r, s)).1 := hg.1.1
        have h2 : 0 < a := hf.1.1
        have h3 : c < 0 := hf.1.2
        simp only [sm] at z
        have h4 : val (a + b + c, b + 2 * c, c) (p, r) ≤ 0 := neg_val (by omega) (by omega) h3 (by have := hu.p; simp only at this; omega) hu.r
        have h5 : (mov (a + b + c, b + 2 * c, c) (p, q, r, s)).1 = val (a + b + c, b + 2 * c, c) (p, r) := rfl
        omega
      have hst : stT f = tL := by unfold stT; rw [if_neg hsm]
      have hnx : nx f = mov f tL := by unfold nx; rw [hst]
      have hr := hf.next
      obtain ⟨n, en⟩ := ih (nx f) u (by omega) hr hu (by rw [hnx, Bh, ← e]; exact hg)
      exact ⟨n + 1, by rw [wd, hst, ← en]; exact e⟩
noncomputable def Ed (t : I4) : I4 := (-t.1, -t.2.1, -t.2.2.1, -t.2.2.2)
theorem Iw {f : I3} {t : I4} : mov f (Ed t) = mov f t := by
  obtain ⟨a, b, c⟩ := f; obtain ⟨p, q, r, s⟩ := t
  simp only [mov, val, mid, Ed, Prod.mk.injEq]
  refine ⟨?_, ?_, ?_⟩ <;> grind
theorem neg_neg {t : I4} : Ed (Ed t) = t := by
  obtain ⟨p, q, r, s⟩ := t
  simp only [Ed, Prod.mk.injEq]
  refine ⟨?_, ?_, ?_, ?_⟩ <;> omega
theorem Wt {t : I4} : det (Ed t) = det t := by
  obtain ⟨p, q, r, s⟩ := t
  simp only [det, Ed]; grind
theorem Ol {t : I4} : Aw (Ed t) = Ed (Aw t) := by
  obtain ⟨p, q, r, s⟩ := t
  simp only [Aw, Ed]
theorem signs {f : I3} {t : I4} (hf : Riv f) (hd : det t = 1) (hg : Riv (mov f t)) (hp : 0 ≤ t.1) : NN t ∨ NN (Aw t) := by
  obtain ⟨a, b, c⟩ := f
  obtain ⟨p, q, r, s⟩ := t
  have ha : 0 < a := hf.1.1
  have hc : c < 0 := hf.1.2
  have hu : 0 < val (a, b, c) (p, r) := hg.1.1
  have hv : val (a, b, c) (q, s) < 0 := hg.1.2
  have hp : 0 ≤ p := hp
  have p0 : p ≠ 0 := fun e => by
    subst e
    rw [AaI] at hu
    have := Int.mul_nonneg (show 0 ≤ -c by omega) (sq_nonneg r)
    have e : -c * (r * r) = -(c * (r * r)) := by grind
    omega
  have s0 : s ≠ 0 := fun e => by
    subst e
    rw [Z6] at hv
    have := Int.mul_nonneg (show 0 ≤ a by omega) (sq_nonneg q)
    omega
  have hd' : p * s - q * r = 1 := hd
  have key : val (a, b, c) (p, r) * (q * s) - val (a, b, c) (q, s) * (p * r) = (p * s - q * r) * (a * (p * q) - c * (r * s)) := by simp only [val]; grind
  have hs : 0 < s := by
    rcases Int.lt_or_le 0 s with z | z
    · exact z
    · exfalso
      have z : s ≤ -1 := by omega
      have h1 : p * s ≤ 1 * -1 := by
        have := Int.mul_le_mul_of_nonneg_left z (show 0 ≤ p by omega)
        omega
      have hqr : q * r ≤ -2 := by omega
      rw [hd', Int.one_mul] at key
      rcases Int.lt_or_le q 0 with hq | hq
      · have hr : 0 < r := by
          rcases Int.lt_or_le 0 r with w | w
          · exact w
          · have := Int.mul_nonneg_of_nonpos_of_nonpos (show q ≤ 0 by omega) w
            omega
        have k1 := Int.mul_pos hu (Int.mul_pos_of_neg_of_neg hq (show s < 0 by omega))
        have k2 := Int.mul_neg_of_neg_of_pos hv (Int.mul_pos (show 0 < p by omega) hr)
        have k3 := Int.mul_neg_of_pos_of_neg ha (Int.mul_neg_of_pos_of_neg (show 0 < p by omega) hq)
        have k4 := Int.mul_pos_of_neg_of_neg hc (Int.mul_neg_of_pos_of_neg hr (show s < 0 by omega))
        omega
      · have hq' : 0 < q := by
          rcases Int.lt_or_le 0 q with w | w
          · exact w
          · have : q = 0 := by omega
            subst this
            omega
        have hr : r < 0 := by
          rcases Int.lt_or_le r 0 with w | w
          · exact w
          · have := Int.mul_nonneg hq w
            omega
        have k1 := Int.mul_neg_of_pos_of_neg hu (Int.mul_neg_of_pos_of_neg hq' (show s < 0 by omega))
        have k2 := Int.mul_pos_of_neg_of_neg hv (Int.mul_neg_of_pos_of_neg (show 0 < p by omega) hr)
        have k3 := Int.mul_pos ha (Int.mul_pos (show 0 < p by omega) hq')
        have k4 := Int.mul_neg_of_neg_of_pos hc (Int.mul_pos_of_neg_of_neg hr (show s < 0 by omega))
        omega
  have hps := Int.mul_le_mul (show 1 ≤ p by omega) (show 1 ≤ s by omega) (by decide) (by omega)
  by_cases hq : 0 ≤ q ∧ 0 ≤ r
  · exact .inl ⟨by simp only; omega, hq.1, hq.2, by simp only; omega, hd⟩
  · right
    have hqr : q ≤ 0 ∧ r ≤ 0 := by
      rcases Int.lt_trichotomy q 0 with w | w | w
      · refine ⟨by omega, ?_⟩
        rcases Int.lt_or_le 0 r with v | v
        · have := Int.mul_neg_of_neg_of_pos w v; omega
        · exact v
      · omega
      · exfalso
        have : r < 0 := by omega
        have := Int.mul_neg_of_pos_of_neg w this
        omega
    exact ⟨by simp only [Aw]; omega, by simp only [Aw]; omega, by simp only [Aw]; omega, by simp only [Aw]; omega, Fe.trans hd⟩
theorem AcB {f : I3} {t : I4} (hf : Riv f) (hd : det t = 1) (hg : Riv (mov f t)) :
    (∃ n, t = wd n f ∨ t = Ed (wd n f)) ∨ (∃ n, Aw t = wd n (mov f t) ∨ Aw t = Ed (wd n (mov f t))) := by
  have core : ∀ t : I4, det t = 1 → Riv (mov f t) → 0 ≤ t.1 → (∃ n, t = wd n f) ∨ (∃ n, Aw t = wd n (mov f t)) := fun t hd hg hp => by
    rcases signs hf hd hg hp with h | h
    · exact .inl (along _ f t (Nat.le_refl _) hf h hg)
    · exact .inr (along _ (mov f t) (Aw t) (Nat.le_refl _) hg h (by rw [Dp hd]; exact hf))
  rcases Int.le_total 0 t.1 with hp | hp
  · rcases core t hd hg hp with ⟨n, h⟩ | ⟨n, h⟩
    · exact .inl ⟨n, .inl h⟩
    · exact .inr ⟨n, .inl h⟩
  · rcases core (Ed t) (Wt.trans hd) (by rw [Iw]; exact hg) (by show 0 ≤ -t.1; omega) with ⟨n, h⟩ | ⟨n, h⟩
    · exact .inl ⟨n, .inr (by rw [← h, neg_neg])⟩
    · rw [Iw, Ol] at h
      exact .inr ⟨n, .inr (by rw [← h, neg_neg])⟩
end My
namespace My
open PySem L2
structure Lv (far : Int) (f : I3) : Prop where
  S : Sad f
  r : Sq (meas f) far
  L : Level f far
noncomputable abbrev aft (far : Int) (f : I3) : I3 := mov f (Bu f far)
theorem Lv.next {far : Int} {f : I3} (h : Lv far f) : Lv far (aft far f) :=
  ⟨h.S.mov Bq, by rw [Bp Bq]; exact h.r, Py h.S h.r h.L⟩
theorem Lv.ac {far : Int} {f : I3} (h : Lv far f) : f.1 * f.2.2 < 0 := by
  have hf := PB h.r h.S.no
  obtain ⟨⟨l1, l2⟩, _, _⟩ := h.L
  obtain ⟨a, b, c⟩ := f
  have l1 : 0 < b := l1
  have l2 : b ≤ far := l2
  have hb : b * b ≤ far * far := Int.mul_le_mul l2 l2 (by omega) (by omega)
  have e : meas (a, b, c) = b * b - 4 * (a * c) := by simp only [meas]; grind
  show a * c < 0
  omega
theorem Lv.neg {far : Int} {f : I3} (h : Lv far f) (ha : 0 < f.1) : f.2.2 < 0 := by
  rcases Int.lt_or_le f.2.2 0 with z | z
  · exact z
  · have := h.ac
    have := Int.mul_nonneg (show 0 ≤ f.1 by omega) z
    omega
theorem Lv.pos {far : Int} {f : I3} (h : Lv far f) (ha : f.1 < 0) : 0 < f.2.2 := by
  rcases Int.lt_or_le 0 f.2.2 with z | z
  · exact z
  · have := h.ac
    have := Int.mul_nonneg_of_nonpos_of_nonpos (show f.1 ≤ 0 by omega) z
    omega
theorem DX {far : Int} {f : I3} (h : Lv far f) : (aft far f).1 = f.2.2 ∧ (aft far f).2.1 = dB f far ∧ (aft far f).2.2 = f.1 - f.2.1 * kB f far + f.2.2 * (kB f far * kB f far) := by
  obtain ⟨e, he⟩ := Hh (top := far) (Ef h.S)
  refine ⟨by show (mov f (Bu f far)).1 = _; rw [he], by show (mov f (Bu f far)).2.1 = _; rw [he], ?_⟩
  show val f (-1, kB f far) = _
  simp only [val]; grind
theorem Lv.riv {far : Int} {f : I3} (h : Lv far f) (ha : 0 < f.1) : Riv f := ⟨⟨ha, h.neg ha⟩, h.S.no⟩
theorem Qg {far : Int} {f g : I3} (hf : Lv far f) (hg : Lv far g) (hm : meas f = meas g) (h : aft far f = aft far g) : f = g := by
  have ⟨f1, f2, _⟩ := DX hf
  have ⟨g1, g2, _⟩ := DX hg
  have hc : f.2.2 = g.2.2 := by rw [← f1, h, g1]
  have hd : dB f far = dB g far := by rw [← f2, h, g2]
  have kf := Et (top := far) (Ef hf.S)
  have kg := Et (top := far) (Ef hg.S)
  have cf := (Ft hf.r hf.S.no hf.L).1
  have cg := (Ft hg.r hg.S.no hg.L).1
  have lf := hf.L.1.2
  have lg := hg.L.1.2
  have c0 := Ef hf.S
  obtain ⟨a, b, c⟩ := f
  obtain ⟨a', b', c'⟩ := g
  simp only at hc hd kf kg cf cg lf lg c0
  subst hc
  rw [← hd] at kg
  have hb : b = b' := by
    have e : b - b' = 2 * (c * (kB (a, b, c) far - kB (a', b', c) far)) := by
      have : 2 * (c * (kB (a, b, c) far - kB (a', b', c) far)) = 2 * c * kB (a, b, c) far - 2 * c * kB (a', b', c) far := by grind
      omega
    generalize kB (a, b, c) far - kB (a', b', c) far = k at *
    have hx : ab (c * k) = ab c * ab k := (JB c k).symm
    have hk : ab k = 0 := by
      rcases Int.lt_or_le (ab k) 1 with z | z
      · have := Bg k; omega
      · exfalso
        have := Int.mul_le_mul_of_nonneg_left z (Bg c)
        rcases Al (c * k) with ⟨_, e1⟩ | ⟨_, e1⟩ <;> omega
    rw [hk] at hx
    have : c * k = 0 := by rcases Al (c * k) with ⟨_, e1⟩ | ⟨_, e1⟩ <;> omega
    omega
  subst hb
  have e1 : 4 * c * a = 4 * c * a' := by
    simp only [meas] at hm
    have x1 : 4 * a * c = 4 * c * a := by grind
    have x2 : 4 * a' * c = 4 * c * a' := by grind
    omega
  have : a = a' := Int.eq_of_mul_eq_mul_left (show 4 * c ≠ 0 by omega) e1
  rw [this]
theorem Ac6 : ∀ (k : Nat) (a b c : Int), (∀ j : Nat, 1 ≤ j → j ≤ k → 0 < a + b * j + c * (j * j)) → wd k (a, b, c) = (1, 0, (k : Int), 1)
  | 0, _, _, _, _ => rfl
  | k + 1, a, b, c, h => by
    have h1 := h 1 (by omega) (by omega)
    have hs : ¬ sm (a, b, c) < 0 := by simp only [sm]; simp at h1; omega
    have e : nx (a, b, c) = (a + b + c, b + 2 * c, c) := by unfold nx; rw [show stT (a, b, c) = tL from if_neg hs]; exact Ub
    rw [wd, e, show stT (a, b, c) = tL from if_neg hs, Ac6 k _ _ _ fun j j1 jk => ?_]
    · simp only [Aj, Prod.mk.injEq]
      refine ⟨by omega, by omega, by push_cast; omega, by omega⟩
    · have := h (j + 1) (by omega) (by omega)
      have e2 : a + b + c + (b + 2 * c) * (j : Int) + c * ((j : Int) * j) = a + b * ((j + 1 : Nat) : Int) + c * (((j + 1 : Nat) : Int) * ((j + 1 : Nat) : Int)) := by push_cast; grind
      rw [e2]; exact this
theorem AcZ : ∀ (k : Nat) (a b c : Int), (∀ j : Nat, 1 ≤ j → j ≤ k → a * (j * j) + b * j + c < 0) → wd k (a, b, c) = (1, (k : Int), 0, 1)
  | 0, _, _, _, _ => rfl
  | k + 1, a, b, c, h => by
    have h1 := h 1 (by omega) (by omega)
    have hs : sm (a, b, c) < 0 := by simp only [sm]; simp at h1; omega
    have e : nx (a, b, c) = (a, b + 2 * a, a + b + c) := by unfold nx; rw [show stT (a, b, c) = tR from if_pos hs]; exact T9
    rw [wd, e, show stT (a, b, c) = tR from if_pos hs, AcZ k _ _ _ fun j j1 jk => ?_]
    · simp only [Aj, Prod.mk.injEq]
      refine ⟨by omega, by push_cast; omega, by omega, by omega⟩
    · have := h (j + 1) (by omega) (by omega)
      have e2 : a * ((j : Int) * j) + (b + 2 * a) * (j : Int) + (a + b + c) = a * (((j + 1 : Nat) : Int) * ((j + 1 : Nat) : Int)) + b * ((j + 1 : Nat) : Int) + c := by push_cast; grind
      rw [e2]; exact this
theorem Pu : ∀ (m n : Nat) (f : I3), wd (m + n) f = Aj (wd m f) (wd n (nxs m f))
  | 0, n, f => by rw [Nat.zero_add]; exact Eu.symm
  | m + 1, n, f => by
    rw [show m + 1 + n = (m + n) + 1 by omega, wd, Pu m n (nx f), wd, then_assoc]; rfl
theorem Mi : ∀ (m n : Nat) (f : I3), nxs (m + n) f = nxs n (nxs m f)
  | 0, n, f => by rw [Nat.zero_add]; rfl
  | m + 1, n, f => by rw [show m + 1 + n = (m + n) + 1 by omega]; exact Mi m n (nx f)
theorem AbU {a b c k j : Int} (hc : c ≤ 0) (h0 : 0 < a) (hk : 0 < a + b * k + c * (k * k)) (j0 : 0 ≤ j) (jk : j ≤ k) (k0 : 0 < k) : 0 < a + b * j + c * (j * j) := by
  have e : k * (a + b * j + c * (j * j)) = (k - j) * a + j * (a + b * k + c * (k * k)) + (-c) * (j * (k - j) * k) := by grind
  have h1 := Int.mul_nonneg (show 0 ≤ k - j by omega) (show 0 ≤ a by omega)
  have h2 := Int.mul_nonneg j0 (show 0 ≤ a + b * k + c * (k * k) by omega)
  have h3 := Int.mul_nonneg (show 0 ≤ -c by omega) (Int.mul_nonneg (Int.mul_nonneg j0 (show 0 ≤ k - j by omega)) (show 0 ≤ k by omega))
  have h4 : 0 < (k - j) * a + j * (a + b * k + c * (k * k)) := by
    by_cases z : j = k
    · subst z
      have := Int.mul_pos k0 hk
      omega
    · have := Int.mul_pos (show 0 < k - j by omega) h0
      omega
  rcases Int.lt_or_le 0 (a + b * j + c * (j * j)) with z | z
  · exact z
  · have := Int.mul_le_mul_of_nonneg_left z (show 0 ≤ k by omega)
    omega
theorem Lv.k_sign {far : Int} {f : I3} (h : Lv far f) : (0 < f.1 → kB f far < 0) ∧ (f.1 < 0 → 0 < kB f far) := by
  have hk := Et (top := far) (Ef h.S)
  have hd : 0 < dB f far := by
    have := h.next.L.1.1
    rw [(DX h).2.1] at this
    exact this
  have hb := h.L.1.1
  constructor
  · intro ha
    have hc := h.neg ha
    rcases Int.lt_or_le (kB f far) 0 with z | z
    · exact z
    · have := Int.mul_nonneg (show 0 ≤ -(2 * f.2.2) by omega) z
      have e : -(2 * f.2.2) * kB f far = -(2 * f.2.2 * kB f far) := by grind
      omega
  · intro ha
    have hc := h.pos ha
    rcases Int.lt_or_le 0 (kB f far) with z | z
    · exact z
    · have := Int.mul_nonneg (show 0 ≤ 2 * f.2.2 by omega) (show 0 ≤ -kB f far by omega)
      have e : 2 * f.2.2 * -kB f far = -(2 * f.2.2 * kB f far) := by grind
      omega
theorem R9 {far : Int} {f : I3} (h : Lv far f) (ha : 0 < f.1) :
    ∃ N : Nat, 2 ≤ N ∧ nxs N f = aft far (aft far f) ∧ wd N f = Ed (Aj (Bu f far) (Bu (aft far f) far)) ∧ ∀ j, 0 < j → j < N → ¬ Lv far (nxs j f) := by
  have h' := h.next
  have h'' := h'.next
  have hc := h.neg ha
  have ⟨g1, g2, g3⟩ := DX h
  have a' : (aft far f).1 < 0 := by rw [g1]; exact hc
  have he := h'.pos a'
  have ⟨q1, q2, q3⟩ := DX h'
  have a'' : 0 < (aft far (aft far f)).1 := by rw [q1]; exact he
  have he'' := h''.neg a''
  have kn := h.k_sign.1 ha
  have kp := h'.k_sign.2 a'
  have hk1 := Et (top := far) (Ef h.S)
  have hk2 := Et (top := far) (Ef h'.S)
  have lb := h.L.1.2
  have ld' := h''.L.1.2
  rw [q2] at ld'
  rw [g2] at hk2
  rw [q3, g1, g2] at he''
  rw [g3] at he
  have hbeh1 : Bu f far = (0, -1, 1, kB f far) := rfl
  have hbeh2 : Bu (aft far f) far = (0, -1, 1, kB (aft far f) far) := rfl
  rw [hbeh1, hbeh2]
  have e22 : (aft far f).2.2 = f.1 - f.2.1 * kB f far + f.2.2 * (kB f far * kB f far) := g3
  generalize hF : aft far (aft far f) = F at *
  generalize hd' : dB (aft far f) far = d' at *
  generalize hk2' : kB (aft far f) far = k2 at *
  have hform : nxs 0 f = f := rfl
  generalize hg : aft far f = g at *
  generalize hd : dB f far = d at *
  generalize hk1' : kB f far = k1 at *
  obtain ⟨a, b, c⟩ := f
  have ha : 0 < a := ha
  have hc : c < 0 := hc
  have lb : b ≤ far := lb
  have he : 0 < a - b * k1 + c * (k1 * k1) := he
  have hk1 : 2 * c * k1 = b + d := hk1
  have he'' : c - d * k2 + g.2.2 * (k2 * k2) < 0 := he''
  have e22 : g.2.2 = a - b * k1 + c * (k1 * k1) := e22
  rw [e22] at he'' hk2
  obtain ⟨n1, hn1⟩ : ∃ n : Nat, -k1 = n := ⟨(-k1).toNat, by omega⟩
  obtain ⟨n2, hn2⟩ : ∃ n : Nat, k2 = n := ⟨k2.toNat, by omega⟩
  have hk1n : k1 = -(n1 : Int) := by omega
  have hw1 : ∀ i : Nat, i ≤ n1 → wd i (a, b, c) = (1, 0, (i : Int), 1) := fun i hi => Ac6 i a b c fun j j1 ji => by
    refine AbU (k := n1) (by omega) ha ?_ (by omega) (by omega) (by omega)
    have : a + b * (n1 : Int) + c * ((n1 : Int) * n1) = a - b * k1 + c * (k1 * k1) := by rw [hk1n]; grind
    omega
  have hF1 : nxs n1 (a, b, c) = (a - b * k1 + c * (k1 * k1), -d, c) := by
    rw [← GQ, hw1 n1 (Nat.le_refl _)]
    have e1 : -d = b + 2 * c * n1 := by
      have : 2 * c * (n1 : Int) = -(2 * c * k1) := by rw [hk1n]; grind
      omega
    rw [e1, hk1n]
    simp only [mov, val, mid, Prod.mk.injEq]
    refine ⟨?_, ?_, ?_⟩ <;> grind
  generalize hee : a - b * k1 + c * (k1 * k1) = e at *
  have hw2 : ∀ i : Nat, i ≤ n2 → wd i (e, -d, c) = (1, (i : Int), 0, 1) := fun i hi => AcZ i e (-d) c fun j j1 ji => by
    have := AbU (a := -c) (b := d) (c := -e) (k := n2) (j := j) (by omega) (by omega) (by
      have : -c + d * (n2 : Int) + -e * ((n2 : Int) * n2) = -(c - d * k2 + e * (k2 * k2)) := by rw [hn2]; grind
      omega) (by omega) (by omega) (by omega)
    have e1 : e * ((j : Int) * j) + -d * j + c = -(-c + d * (j : Int) + -e * ((j : Int) * j)) := by grind
    omega
  have hF2 : ∀ i : Nat, i ≤ n2 → nxs (n1 + i) (a, b, c) = (e, -d + 2 * e * i, e * ((i : Int) * i) - d * i + c) := fun i hi => by
    rw [Mi, hF1, ← GQ, hw2 i hi]
    simp only [mov, val, mid, Prod.mk.injEq]
    refine ⟨?_, ?_, ?_⟩ <;> grind
  have hwd : wd (n1 + n2) (a, b, c) = Ed (Aj (0, -1, 1, k1) (0, -1, 1, k2)) := by
    rw [Pu, hF1, hw1 n1 (Nat.le_refl _), hw2 n2 (Nat.le_refl _), hk1n, hn2]
    simp only [Aj, Ed, Prod.mk.injEq]
    refine ⟨?_, ?_, ?_, ?_⟩ <;> grind
  refine ⟨n1 + n2, by omega, ?_, hwd, ?_⟩
  · rw [← GQ, hwd, Iw, ← Bh, ← hF, ← hg]
    show mov (mov (a, b, c) (0, -1, 1, k1)) (0, -1, 1, k2) = _
    rw [← hk1', ← hk2', ← hg]; rfl
  · intro j j0 jn hL
    rcases Nat.lt_or_ge n1 j with z | z
    · obtain ⟨i, rfl⟩ : ∃ i, j = n1 + i := ⟨j - n1, by omega⟩
      rw [hF2 i (by omega)] at hL
      have l1 := hL.L.2.1
      have l1 : far - (-d + 2 * e * i) < 2 * ab e := l1
      rw [show ab e = e from if_neg (by omega)] at l1
      have hi : (i : Int) ≤ n2 - 1 := by omega
      have := Int.mul_le_mul_of_nonneg_left hi (show 0 ≤ 2 * e by omega)
      have e1 : 2 * e * ((n2 : Int) - 1) = 2 * e * k2 - 2 * e := by rw [hn2]; grind
      omega
    · have hj : nxs j (a, b, c) = (a + b * j + c * ((j : Int) * j), b + 2 * c * j, c) := by
        rw [← GQ, hw1 j z]
        simp only [mov, val, mid, Prod.mk.injEq]
        refine ⟨?_, ?_, ?_⟩ <;> grind
      rw [hj] at hL
      have l1 := (Ft hL.r hL.S.no hL.L).1
      have l1 : far - (b + 2 * c * j) < 2 * ab c := l1
      rw [show ab c = -c from if_pos hc] at l1
      have := Int.mul_le_mul_of_nonneg_left (show (1 : Int) ≤ j by omega) (show 0 ≤ -(2 * c) by omega)
      have e1 : -(2 * c) * (j : Int) = -(2 * c * j) := by grind
      omega
end My
namespace My
open PySem L2
noncomputable def Sg (t u : I4) : Prop := t = u ∨ t = Ed u
theorem NP {t u : I4} : Aj (Ed t) u = Ed (Aj t u) := by
  obtain ⟨a, b, c, d⟩ := t; obtain ⟨e, f, g, h⟩ := u
  simp only [Aj, Ed, Prod.mk.injEq]
  refine ⟨?_, ?_, ?_, ?_⟩ <;> grind
theorem Mw {t u : I4} : Aj t (Ed u) = Ed (Aj t u) := by
  obtain ⟨a, b, c, d⟩ := t; obtain ⟨e, f, g, h⟩ := u
  simp only [Aj, Ed, Prod.mk.injEq]
  refine ⟨?_, ?_, ?_, ?_⟩ <;> grind
theorem Dv {t : I4} : Aw (Aw t) = t := by
  obtain ⟨a, b, c, d⟩ := t
  simp only [Aw, Prod.mk.injEq]
  refine ⟨trivial, ?_, ?_, trivial⟩ <;> omega
theorem Jy {t u : I4} : Aw (Aj t u) = Aj (Aw u) (Aw t) := by
  obtain ⟨a, b, c, d⟩ := t; obtain ⟨e, f, g, h⟩ := u
  simp only [Aj, Aw, Prod.mk.injEq]
  refine ⟨?_, ?_, ?_, ?_⟩ <;> grind
theorem Sg.refl {t : I4} : Sg t t := .inl rfl
theorem Sg.trans {t u v : I4} (h : Sg t u) (k : Sg u v) : Sg t v := by
  rcases h with rfl | rfl <;> rcases k with rfl | rfl
  · exact .inl rfl
  · exact .inr rfl
  · exact .inr rfl
  · exact .inl neg_neg
theorem Sg.then {t u t' u' : I4} (h : Sg t t') (k : Sg u u') : Sg (Aj t u) (Aj t' u') := by
  rcases h with rfl | rfl <;> rcases k with rfl | rfl
  · exact .inl rfl
  · exact .inr Mw
  · exact .inr NP
  · exact .inl (by rw [NP, Mw, neg_neg])
theorem Sg.back {t u : I4} (h : Sg t u) : Sg (Aw t) (Aw u) := by
  rcases h with rfl | rfl
  · exact .inl rfl
  · exact .inr Ol
theorem Sg.mov {f : I3} {t u : I4} (h : Sg t u) : mov f t = mov f u := by
  rcases h with rfl | rfl
  · rfl
  · exact Iw
noncomputable def rF (far : Int) : Nat → I3 → I3
  | 0, f => f
  | n + 1, f => rF far n (aft far f)
noncomputable def rT (far : Int) : Nat → I3 → I4
  | 0, _ => (1, 0, 0, 1)
  | n + 1, f => Aj (Bu f far) (rT far n (aft far f))
theorem El {far : Int} : ∀ (n : Nat) (f : I3), mov f (rT far n f) = rF far n f
  | 0, _ => Ei
  | n + 1, f => by rw [rT, ← Bh]; exact El n (aft far f)
theorem Mf {far : Int} : ∀ (n : Nat) (f : I3), det (rT far n f) = 1
  | 0, _ => rfl
  | n + 1, f => by rw [rT, Dy, Bq, Mf n (aft far f)]; rfl
theorem BL {far : Int} : ∀ (m n : Nat) (f : I3), rF far (m + n) f = rF far n (rF far m f)
  | 0, n, f => by rw [Nat.zero_add]; rfl
  | m + 1, n, f => by rw [show m + 1 + n = (m + n) + 1 by omega]; exact BL m n (aft far f)
theorem Mu {far : Int} : ∀ (m n : Nat) (f : I3), rT far (m + n) f = Aj (rT far m f) (rT far n (rF far m f))
  | 0, n, f => by rw [Nat.zero_add]; exact Eu.symm
  | m + 1, n, f => by rw [show m + 1 + n = (m + n) + 1 by omega, rT, Mu m n (aft far f), rT, then_assoc]; rfl
theorem K6 {far : Int} {n : Nat} {f : I3} : rF far (n + 1) f = aft far (rF far n f) := by rw [BL]; rfl
theorem QC {far : Int} {n : Nat} {f : I3} : rT far (n + 1) f = Aj (rT far n f) (Bu (rF far n f) far) := by
  rw [Mu]
  show Aj _ (Aj _ (1, 0, 0, 1)) = _
  rw [Ea]
theorem Lv.rF {far : Int} : ∀ (n : Nat) {f : I3}, Lv far f → Lv far (rF far n f)
  | 0, _, h => h
  | n + 1, _, h => Lv.rF n h.next
theorem Dl {far : Int} (n : Nat) (f : I3) : meas (rF far n f) = meas f := by rw [← El, Bp (Mf n f)]
theorem Ra {far : Int} : ∀ (n : Nat) (f : I3), Lv far f → 0 < f.1 → Lv far (nxs n f) → ∃ m, Sg (wd n f) (rT far m f) := by
  intro n
  induction n using Nat.strongRecOn with
  | ind n ih =>
    intro f hf ha hg
    by_cases h0 : n = 0
    · subst h0
      exact ⟨0, Sg.refl⟩
    · obtain ⟨N, hN, e1, e2, e3⟩ := R9 hf ha
      have hn : N ≤ n := by
        rcases Nat.lt_or_ge n N with z | z
        · exact absurd hg (e3 n (by omega) z)
        · exact z
      obtain ⟨k, rfl⟩ : ∃ k, n = N + k := ⟨n - N, by omega⟩
      have a2 : 0 < (aft far (aft far f)).1 := by
        rw [(DX hf.next).1]
        exact hf.next.pos (by rw [(DX hf).1]; exact hf.neg ha)
      rw [Mi, e1] at hg
      obtain ⟨m, hm⟩ := ih k (by omega) (aft far (aft far f)) hf.next.next a2 hg
      refine ⟨m + 2, ?_⟩
      rw [Pu, e1, e2]
      show Sg _ (Aj (Bu f far) (Aj (Bu (aft far f) far) (rT far m (aft far (aft far f)))))
      rw [← then_assoc]
      exact Sg.then (.inr rfl) hm
noncomputable def Ring (far : Int) (f g : I3) (t : I4) : Prop := (∃ m, Sg t (rT far m f)) ∨ (∃ m, Sg (Aw t) (rT far m g))
theorem Ring.swap {far : Int} {f g : I3} {t : I4} (h : Ring far f g t) : Ring far g f (Aw t) := by
  rcases h with ⟨m, h⟩ | ⟨m, h⟩
  · exact .inr ⟨m, by rw [Dv]; exact h⟩
  · exact .inl ⟨m, h⟩
theorem Qy {far : Int} {f g : I3} {t : I4} (hf : Lv far f) (hg : Lv far g) (hd : det t = 1) (e : mov f t = g) (fa : 0 < f.1) (ga : 0 < g.1) : Ring far f g t := by
  have hr : Riv (mov f t) := by rw [e]; exact hg.riv ga
  rcases AcB (hf.riv fa) hd hr with ⟨n, h⟩ | ⟨n, h⟩
  · have hs : Sg t (wd n f) := h
    have hn : Lv far (nxs n f) := by rw [← GQ, ← hs.mov, e]; exact hg
    obtain ⟨m, hm⟩ := Ra n f hf fa hn
    exact .inl ⟨m, hs.trans hm⟩
  · rw [e] at h
    have hs : Sg (Aw t) (wd n g) := h
    have hn : Lv far (nxs n g) := by rw [← GQ, ← hs.mov, ← e, Dp hd]; exact hf
    obtain ⟨m, hm⟩ := Ra n g hg ga hn
    exact .inr ⟨m, hs.trans hm⟩
theorem Qw {far : Int} {f g : I3} {t : I4} {m : Nat} (hf : Lv far f) (hg : Lv far g) (hm : meas f = meas g) (h : Sg (Aj t (Bu g far)) (rT far m f)) (e : rF far m f = aft far g) : (∃ k, Sg t (rT far k f)) ∨ Sg t (Aw (Bu g far)) := by
  have cancel : ∀ {u : I4}, Sg (Aj t (Bu g far)) (Aj u (Bu g far)) → Sg t u := fun {u} h => by
    have := Sg.then h (Sg.refl (t := Aw (Bu g far)))
    rw [then_assoc, then_assoc, Gv Bq, Ea, Ea] at this
    exact this
  match m, h, e with
  | 0, h, e =>
    right
    refine cancel (h.trans ?_)
    rw [Kd Bq]
    exact Sg.refl
  | m + 1, h, e =>
    left
    rw [K6] at e
    have e' := Qg (Lv.rF m hf) hg (by rw [Dl]; exact hm) e
    rw [QC, e'] at h
    exact ⟨m, cancel h⟩
theorem Ly {far : Int} {f g : I3} {t : I4} (hf : Lv far f) (hg : Lv far g) (hd : det t = 1) (e : mov f t = g) (fa : 0 < f.1) (ga : g.1 < 0) : Ring far f g t := by
  have hm : meas f = meas g := by rw [← e, Bp hd]
  have hd' : det (Aj t (Bu g far)) = 1 := by rw [Dy, hd, Bq]; rfl
  have e' : mov f (Aj t (Bu g far)) = aft far g := by rw [← Bh, e]
  have ga' : 0 < (aft far g).1 := by rw [(DX hg).1]; exact hg.pos ga
  rcases Qy hf hg.next hd' e' fa ga' with ⟨m, h⟩ | ⟨m, h⟩
  · have er : rF far m f = aft far g := by rw [← El, ← h.mov, e']
    rcases Qw hf hg hm h er with h | h
    · exact .inl h
    · refine .inr ⟨1, ?_⟩
      have := h.back
      rw [Dv] at this
      show Sg _ (Aj (Bu g far) (1, 0, 0, 1))
      rw [Ea]
      exact this
  · refine .inr ⟨m + 1, ?_⟩
    have h2 := Sg.then (Sg.refl (t := Bu g far)) h
    rw [Jy, ← then_assoc, Gv Bq, Eu] at h2
    exact h2
theorem Je {far : Int} {f g : I3} {t : I4} (hf : Lv far f) (hg : Lv far g) (hd : det t = 1) (e : mov f t = g) : Ring far f g t := by
  have fa := QL hf.S
  have ga := QL hg.S
  have eb : mov g (Aw t) = f := by rw [← e, Dp hd]
  have hdb : det (Aw t) = 1 := Fe.trans hd
  rcases Int.lt_or_lt_of_ne fa with fa | fa
  · rcases Int.lt_or_lt_of_ne ga with ga | ga
    ·
      have fa' : 0 < (aft far f).1 := by rw [(DX hf).1]; exact hf.pos fa
      have hd' : det (Aj (Aw (Bu f far)) t) = 1 := by rw [Dy, Fe, Bq, hd]; rfl
      have e' : mov (aft far f) (Aj (Aw (Bu f far)) t) = g := by
        rw [← Bh, Dp Bq, e]
      have hm : meas g = meas f := by rw [← e, Bp hd]
      rcases Ly hf.next hg hd' e' fa' ga with ⟨m, h⟩ | ⟨m, h⟩
      · refine .inl ⟨m + 1, ?_⟩
        have h2 := Sg.then (Sg.refl (t := Bu f far)) h
        rw [← then_assoc, Gv Bq, Eu] at h2
        exact h2
      · rw [Jy, Dv] at h
        have er : rF far m g = aft far f := by rw [← El, ← h.mov, ← Bh, eb]
        rcases Qw hg hf hm h er with h | h
        · exact .inr h
        · refine .inl ⟨1, ?_⟩
          have := h.back
          rw [Dv, Dv] at this
          show Sg _ (Aj (Bu f far) (1, 0, 0, 1))
          rw [Ea]
          exact this
    · have := (Ly hg hf hdb eb ga fa).swap
      rw [Dv] at this
      exact this
  · rcases Int.lt_or_lt_of_ne ga with ga | ga
    · exact Ly hf hg hd e fa ga
    · exact Qy hf hg hd e fa ga
theorem Te : ∀ (M : Nat) (x : Nat → Nat), (∀ i, i ≤ M → x i < M) → ∃ i j, i < j ∧ j ≤ M ∧ x i = x j := by
  intro M
  induction M with
  | zero => intro x h; exact absurd (h 0 (Nat.le_refl _)) (by omega)
  | succ M ih =>
    intro x h
    by_cases hex : ∃ i j, i < j ∧ j ≤ M + 1 ∧ x i = x j
    · exact hex
    · have ne : ∀ i j, i < j → j ≤ M + 1 → x i ≠ x j := fun i j h1 h2 h3 => hex ⟨i, j, h1, h2, h3⟩
      obtain ⟨i, j, h1, h2, h3⟩ := ih (fun i => if x i = M then x (M + 1) else x i) (fun i hi => by
        have h1 := h i (by omega)
        have h2 := h (M + 1) (Nat.le_refl _)
        have h3 := ne i (M + 1) (by omega) (Nat.le_refl _)
        show (if x i = M then x (M + 1) else x i) < M
        split <;> omega)
      exfalso
      have n1 := ne i j h1 (by omega)
      have n2 := ne i (M + 1) (by omega) (Nat.le_refl _)
      have n3 := ne j (M + 1) (by omega) (Nat.le_refl _)
      have h3 : (if x i = M then x (M + 1) else x i) = (if x j = M then x (M + 1) else x j) := h3
      split at h3 <;> split at h3 <;> omega
theorem Dw {far : Int} : ∀ (i : Nat) {f g : I3}, Lv far f → Lv far g → meas f = meas g → rF far i f = rF far i g → f = g
  | 0, _, _, _, _, _, h => h
  | i + 1, f, g, hf, hg, hm, h => Qg hf hg hm (Dw i hf.next hg.next (by rw [Bp Bq, Bp Bq]; exact hm) h)
noncomputable def Nt (f : I3) : Nat := ((f.1 + 63) * 64 + f.2.1).toNat
theorem Lv.range {far : Int} {f : I3} (h : Lv far f) : (-63 ≤ f.1 ∧ f.1 ≤ 63) ∧ (0 < f.2.1 ∧ f.2.1 ≤ 63) := by
  have h6 := HS h.r h.S.most
  obtain ⟨⟨l1, l2⟩, _, l4⟩ := h.L
  have l4 : 2 * ab f.1 ≤ far + f.2.1 := l4
  rcases Al f.1 with ⟨_, e⟩ | ⟨_, e⟩ <;> omega
theorem code_inj {far : Int} {f g : I3} (hf : Lv far f) (hg : Lv far g) (hm : meas f = meas g) (h : Nt f = Nt g) : f = g := by
  have rf := hf.range
  have rg := hg.range
  have ha := QL hf.S
  obtain ⟨a, b, c⟩ := f
  obtain ⟨a', b', c'⟩ := g
  simp only [Nt] at h rf rg ha
  have e1 : a = a' := by omega
  have e2 : b = b' := by omega
  subst e1 e2
  have e3 : 4 * a * c = 4 * a * c' := by simp only [meas] at hm; omega
  have : c = c' := Int.eq_of_mul_eq_mul_left (show 4 * a ≠ 0 by omega) e3
  rw [this]
theorem Ig {far : Int} {f : I3} (h : Lv far f) : ∃ N, 0 < N ∧ N ≤ 8128 ∧ rF far N f = f ∧ ∀ j, 0 < j → j < N → rF far j f ≠ f := by
  have ex : ∃ N, 0 < N ∧ N ≤ 8128 ∧ rF far N f = f := by
    obtain ⟨i, j, hij, hj, e⟩ := Te 8128 (fun i => Nt (rF far i f)) (fun i _ => by
      have := (Lv.rF i h).range
      unfold Nt
      omega)
    have e' := code_inj (Lv.rF i h) (Lv.rF j h) (by rw [Dl, Dl]) e
    obtain ⟨k, rfl⟩ : ∃ k, j = k + i := ⟨j - i, by omega⟩
    rw [BL k i f] at e'
    have := Dw i h (Lv.rF k h) (by rw [Dl]) e'
    exact ⟨k, by omega, by omega, this.symm⟩
  have least : ∀ M, (∃ N, 0 < N ∧ N ≤ M ∧ rF far N f = f) → ∃ N, 0 < N ∧ N ≤ M ∧ rF far N f = f ∧ ∀ j, 0 < j → j < N → rF far j f ≠ f := by
    intro M
    induction M with
    | zero => intro ⟨N, h1, h2, _⟩; omega
    | succ M ih =>
      intro hN
      by_cases hM : ∃ N, 0 < N ∧ N ≤ M ∧ rF far N f = f
      · obtain ⟨N, h1, h2, h3, h4⟩ := ih hM
        exact ⟨N, h1, by omega, h3, h4⟩
      · obtain ⟨N, h1, h2, h3⟩ := hN
        exact ⟨N, h1, h2, h3, fun j j0 jN e => hM ⟨j, j0, by omega, e⟩⟩
  exact least 8128 ex
theorem QZ {f : I3} {far : Int} (h : Lv far f) : Bt 9 (kB f far) := by
  have hc := Ef h.S
  have hk := Et (top := far) hc
  have ⟨d1, d2⟩ := Ga (top := far) hc
  have h6 := HS h.r h.S.most
  have ⟨c1, c2⟩ := Ft h.r h.S.no h.L
  obtain ⟨⟨l1, l2⟩, _, _⟩ := h.L
  have e1 : 2 * (ab f.2.2 * ab (kB f far)) = ab (f.2.1 + dB f far) := by
    rw [← hk, JB]
    have : 2 * f.2.2 * kB f far = 2 * (f.2.2 * kB f far) := by grind
    rw [this]
    rcases Al (f.2.2 * kB f far) with ⟨h1, e1⟩ | ⟨h1, e1⟩
    · rw [e1, ab, if_neg (by omega)]
    · rw [e1, ab, if_pos (by omega)]; omega
  have c0 : 1 ≤ ab f.2.2 := by rcases Al f.2.2 with ⟨_, e1⟩ | ⟨_, e1⟩ <;> omega
  have e2 := Int.mul_le_mul_of_nonneg_right c0 (Bg (kB f far))
  have e3 : ab (f.2.1 + dB f far) ≤ 252 := by rcases Al (f.2.1 + dB f far) with ⟨_, e1⟩ | ⟨_, e1⟩ <;> omega
  have := Bg (kB f far)
  exact KJ (k := 252) (by omega) (by decide)
theorem Yz {far : Int} : ∀ (n : Nat) {f : I3}, Lv far f → B4 (10 * n + 1) (rT far n f)
  | 0, _, _ => ⟨Bt.one, Bt.zero.le (by omega), Bt.zero.le (by omega), Bt.one⟩
  | n + 1, f, h => by
    have h1 := Jb (QZ h) (by decide)
    exact (B4.then h1 (Yz n h.next)).le (by omega)
end My
namespace My
open PySem L2
noncomputable def tr (t : I4) : Int := t.1 + t.2.2.2
theorem W2 {t x : I4} (h : det x = 1) : tr (Aj (Aj x t) (Aw x)) = tr t := by
  obtain ⟨p, q, r, s⟩ := t; obtain ⟨a, b, c, d⟩ := x
  simp only [det] at h
  have : tr (Aj (Aj (a, b, c, d) (p, q, r, s)) (Aw (a, b, c, d))) = (a * d - b * c) * (p + s) := by simp only [tr, Aj, Aw]; grind
  rw [this, h, Int.one_mul]; rfl
theorem Uj {t x : I4} (h : det x = 1) : tr (Aj (Aj (Aw x) t) x) = tr t := by
  have := W2 (t := t) (x := Aw x) (Fe.trans h)
  rw [Dv] at this
  exact this
noncomputable def pl (f : I3) : I3 := (f.1 / (g3 f : Int), f.2.1 / (g3 f : Int), f.2.2 / (g3 f : Int))
theorem QV {far : Int} {f : I3} {N m : Nat} (e : rF far N f = f) : tr (rT far N (rF far m f)) = tr (rT far N f) := by
  have h1 := Mu (far := far) m N f
  have h2 := Mu (far := far) N m f
  rw [e, Nat.add_comm N m] at h2
  have hd := Mf (far := far) m f
  have : rT far N (rF far m f) = Aj (Aj (Aw (rT far m f)) (rT far N f)) (rT far m f) := by
    rw [then_assoc, ← h2, h1, ← then_assoc, Kd hd, Eu]
  rw [this, Uj hd]
theorem Om {far : Int} {f : I3} {N M m : Nat} (h : Lv far f) (e : rF far N f = f) (min : ∀ j, 0 < j → j < N → rF far j f ≠ f) (e' : rF far M (rF far m f) = rF far m f) (min' : ∀ j, 0 < j → j < M → rF far j (rF far m f) ≠ rF far m f) (hN : 0 < N) (hM : 0 < M) : N = M := by
  have a1 : rF far M f = f := by
    rw [← BL, Nat.add_comm, BL] at e'
    exact Dw m (Lv.rF M h) h (by rw [Dl]) e'
  have a2 : rF far N (rF far m f) = rF far m f := by rw [← BL, Nat.add_comm, BL, e]
  rcases Nat.lt_trichotomy N M with z | z | z
  · exact absurd a2 (min' N hN z)
  · exact z
  · exact absurd a1 (min M hM z)
theorem R6 {far : Int} {f g : I3} {t : I4} {N M : Nat} (hf : Lv far f) (hg : Lv far g) (hd : det t = 1) (e : mov f t = g) (eN : rF far N f = f) (minN : ∀ j, 0 < j → j < N → rF far j f ≠ f) (eM : rF far M g = g) (minM : ∀ j, 0 < j → j < M → rF far j g ≠ g) (hN : 0 < N) (hM : 0 < M) : N = M ∧ tr (rT far M g) = tr (rT far N f) := by
  rcases Je hf hg hd e with ⟨m, h⟩ | ⟨m, h⟩
  · have eg : rF far m f = g := by rw [← El, ← h.mov, e]
    subst eg
    have := Om hf eN minN eM minM hN hM
    subst this
    exact ⟨rfl, QV eN⟩
  · have ef : rF far m g = f := by rw [← El, ← h.mov, ← e, Dp hd]
    subst ef
    have := Om hg eM minM eN minN hM hN
    subst this
    exact ⟨rfl, (QV eM).symm⟩
end My
namespace My
open PySem L2
end My
namespace My
open PySem L2
theorem Zf {far : Int} {g : I3} {N : Nat} (e : rF far N g = g) (i : Nat) : rF far (N + i) g = rF far i g := by rw [BL, e]
theorem rotate {far : Int} {g : I3} {N k : Nat} (e : rF far N g = g) (hk : k < N) :
    (((List.range N).map fun i => rF far (i + 1) g).drop k) ++ (((List.range N).map fun i => rF far (i + 1) g).take k) = (List.range N).map fun i => rF far i (rF far (k + 1) g) := by
  apply List.ext_getElem
  · simp only [List.length_append, List.length_drop, List.length_take, List.length_map, List.length_range]
    omega
  · intro i h1 h2
    rw [List.length_map, List.length_range] at h2
    rw [List.getElem_map, List.getElem_range, ← BL]
    rcases Nat.lt_or_ge i (N - k) with z | z
    · rw [List.getElem_append_left (by simp only [List.length_drop, List.length_map, List.length_range]; exact z), List.getElem_drop, List.getElem_map, List.getElem_range]
      rw [show k + i + 1 = k + 1 + i by omega]
    · rw [List.getElem_append_right (by simp only [List.length_drop, List.length_map, List.length_range]; exact z), List.getElem_take, List.getElem_map, List.getElem_range]
      simp only [List.length_drop, List.length_map, List.length_range]
      rw [← Zf e, show N + (i - (N - k) + 1) = k + 1 + i by omega]
end My
namespace My
open PySem L2
local macro_rules | `(tactic| walk_at "sc") => `(tactic| (exact ⟨rfl, rfl, rfl, by decide +kernel, rfl, by decide +kernel, by decide +kernel⟩))
local macro_rules | `(tactic| walk_at "lE") => `(tactic| (exact fun ds Q ⟨p, e, _⟩ => by rw [e]; rfl))
local macro_rules | `(tactic| walk_at "b1") => `(tactic| (intro _ _ _ _ _ _ us hl; exact match us, hl with | [_], _ => rfl))
local macro_rules | `(tactic| walk_at "b2") => `(tactic| (intro _ _ _ _ _ _ us hl; exact match us, hl with | [_, _], _ => rfl))
local macro_rules | `(tactic| walk_at "b3") => `(tactic| (intro _ _ _ _ _ _ us hl; exact match us, hl with | [_, _, _], _ => rfl))
local macro_rules | `(tactic| walk_at "rd1") => `(tactic| dsimp only [Ace, Abw, Lk, Yu, dIf, Vd, Yj, Aam, Pk, Qu, AbR, Vr, Q9, Ls, Acf, AcJ, Abn, dIn, dOp, dUn, XJ, dC, dIx, AdK, AdZ, Ad4, AeS, Ad2, AdE, Ac9, AeQ, AbX, AcQ, Aa7, AcI, Aca, AeB, Acr, AeN, dI, dI0, dB0, dLt, dLe, dGt, dGe, dEq, dNe, dIs, AbS, Abu, dOr, VP, Jz, Ye, X7, AbT, Ad6, AbK, Yb, dTup, AcK, dCall, dCB, Vo, Vc, Tj, Adg, Mv, Aby, Uk, Qn, Yh, JQ, Wc, Ob, inner, YD, Yv, Ui, Zr, ZV, Yo, dOf, Abv, Qx, X4, YT, ZQ, Zd, Ab6, Adt, YG, Ac2, AcW, AaL, Aa4, Adv, Ti, AdQ, AcD, Adx, Acz, AbZ, AbP, Adl, AbE, YC, Acn, AbH, ownAt, Abo, U7, Tw, T7, Aae, Aa1, QM, TJ,
  List.length_cons, List.length_nil, List.getElem?_cons_zero, List.getElem?_cons_succ, List.set_cons_zero, List.set_cons_succ, Nat.reduceAdd, List.map_cons, List.map_nil, Option.join_some])
local macro_rules | `(tactic| walk_at "rd2") => `(tactic| simp only [Ab7, Acp, AbY, Acy, ZR, Aa9, AbD, Ac1, Abk, Acm, AcO, Adc, Aey, Adr, AdJ, AeG, AdF, Zn, Aaf, Aak, Y4, AaE, ZM, Z9, AaJ, Aav, YQ, U6, Ack, Yx, Abx, AcM, Ac7, Abd, Yc, Ys, Vv, Uh, Aax, Z7, S9, ZD, Aao, QF, QT, Qi, WD, XH, Qz, Qk, if_true, if_false, Bool.and_true, Bool.true_and, Bool.false_and, Bool.and_false, Bool.not_true, Bool.not_false, Bool.false_eq_true, true_and, and_true, ite_true, ite_false, List.length_map])
local macro_rules | `(tactic| walk_at "rd") => `(tactic| ((try walk_at "rd1"); (try walk_at "rd2")))
local macro_rules | `(tactic| walk_at "go") => `(tactic| ((try simp only [Nx, Od, Nv]); walk_at "rd"))
local macro_rules | `(tactic| walk_at "bts") => `(tactic| first | assumption | (with_reducible apply Bt.mul <;> walk_at "bts") | (with_reducible apply Bt.add <;> walk_at "bts") | (with_reducible apply Bt.sub <;> walk_at "bts") | (with_reducible apply Bt.neg <;> walk_at "bts") | exact Bt.of_abs (n := 1) (by decide) | exact Bt.of_abs (n := 8) (by decide) | exact Bt.of_abs (n := 400) (by decide))
local macro_rules | `(tactic| walk_at "bt") => `(tactic| exact Bt.le (by walk_at "bts") (by decide))
local macro_rules | `(tactic| walk_at "mul") => `(tactic| exact Bt.mulOk (by walk_at "bts") (by walk_at "bts") (by decide) (by decide))
local macro_rules | `(tactic| walk_at "muls") => `(tactic| repeat (refine ⟨by first | walk_at "mul" | exact Bk (by decide) | decide | exact ⟨by decide, by decide⟩, ?_⟩))
noncomputable def top (i : Nat) : Stmt := PySem.Challenge.pw_formcycle_k24_rings.main.body.getD i (.Pass ⟨0, 0, 0, 0⟩)
noncomputable abbrev Gg : Stmt := top 7
theorem Hg : Aq ["number", "guess", "better"] ["number"] (Ah Gg) := by walk_at "sc"
noncomputable abbrev CZ : Stmt := top 8
theorem G6 : Aq ["number", "side"] ["number"] (Ah CZ) := by walk_at "sc"
noncomputable abbrev Bv : Stmt := top 9
theorem Hw : Aq ["number", "most"] ["number", "most"] (Ah Bv) := by walk_at "sc"
noncomputable abbrev Eb : Stmt := top 12
theorem PL : Aq ["turn"] ["turn"] (Ah Eb) := by walk_at "sc"
noncomputable abbrev Cw : Stmt := top 13
theorem J7 : Aq ["turn"] ["turn"] (Ah Cw) := by walk_at "sc"
noncomputable abbrev Cq : Stmt := top 14
theorem JW : Aq ["one", "other"] ["one", "other"] (Ah Cq) := by walk_at "sc"
noncomputable abbrev Cy : Stmt := top 16
theorem O8 : Aq ["form"] ["form"] (Ah Cy) := by walk_at "sc"
noncomputable abbrev Gq : Stmt := top 17
theorem JH : Aq ["form", "point", "x", "y"] ["form", "point"] (Ah Gq) := by walk_at "sc"
noncomputable abbrev Gp : Stmt := top 18
theorem Jq : Aq ["form", "turn", "left", "right"] ["form", "turn"] (Ah Gp) := by walk_at "sc"
noncomputable abbrev Fd : Stmt := top 19
theorem KH : Aq ["form", "left", "right", "crossed"] ["form", "left", "right"] (Ah Fd) := by walk_at "sc"
noncomputable abbrev Gw : Stmt := top 20
theorem Oo : Aq ["form", "number"] ["form"] (Ah Gw) := by walk_at "sc"
noncomputable abbrev Bo : Stmt := top 23
theorem Im : Aq ["form"] ["form"] (Ah Bo) := by walk_at "sc"
noncomputable abbrev BW : Stmt := top 24
theorem Fx : Aq ["form", "far", "b"] ["form", "far"] (Ah BW) := by walk_at "sc"
noncomputable abbrev Ce : Stmt := top 25
theorem Dj : Aq ["form", "top", "b", "c", "d"] ["form", "top"] (Ah Ce) := by walk_at "sc"
noncomputable abbrev Bx : Stmt := top 26
theorem FW : Aq ["stop", "top", "turn"] ["stop", "top"] (Ah Bx) := by walk_at "sc"
noncomputable abbrev Gu : Stmt := top 27
theorem Hq : Aq ["form", "far", "stop"] ["form"] (Ah Gu) := by walk_at "sc"
noncomputable abbrev Ca : Stmt := top 28
theorem BZ : Aq ["form", "far", "first", "stops", "stop"] ["form"] (Ah Ca) := by walk_at "sc"
noncomputable abbrev CP : Stmt := top 29
theorem Ge : Aq ["form", "forms", "place"] ["form"] (Ah CP) := by walk_at "sc"
noncomputable abbrev CT : Stmt := top 31
theorem K4 : Aq ["_law_script", "_law_k"] ["_law_script", "_law_k"] (Ah CT) := by walk_at "sc"
noncomputable abbrev Cr : Stmt := top 32
theorem J4 : Aq ["_law_found"] ["_law_found"] (Ah Cr) := by walk_at "sc"
noncomputable abbrev BK : Stmt := top 33
theorem JM : Aq ["_law_found", "_law_many"] ["_law_found", "_law_many"] (Ah BK) := by walk_at "sc"
noncomputable abbrev Cj : Stmt := top 34
theorem NQ : Aq ["_law_form"] ["_law_form"] (Ah Cj) := by walk_at "sc"
noncomputable abbrev Ck : Stmt := top 35
theorem Fp : Aq ["_law_number", "_law_near"] ["_law_number"] (Ah Ck) := by walk_at "sc"
noncomputable abbrev CQ : Stmt := top 36
theorem Fv : Aq ["_law_form", "_law_bar_here", "_law_far"] ["_law_form"] (Ah CQ) := by walk_at "sc"
noncomputable abbrev Cv : Stmt := top 37
theorem J5 : Aq ["_law_form", "_law_far"] ["_law_form", "_law_far"] (Ah Cv) := by walk_at "sc"
noncomputable abbrev BJ : Stmt := top 38
theorem Cp : Aq ["_law_form", "_law_top", "_law_a", "_law_b", "_law_c", "_law_d"] ["_law_form", "_law_top"] (Ah BJ) := by walk_at "sc"
noncomputable abbrev Cd : Stmt := top 39
theorem Bf : Aq ["_law_one", "_law_two", "_law_three", "_law_often", "_law_size", "_law_m", "_law_b", "_law_rest", "_law_most", "_law_bar_here", "_law_sign"] ["_law_one", "_law_two", "_law_three"] (Ah Cd) := by walk_at "sc"
noncomputable abbrev Cu : Stmt := top 40
theorem GC : Aq ["_law_form", "_law_far"] ["_law_form", "_law_far"] (Ah Cu) := by walk_at "sc"
noncomputable abbrev CV : Stmt := top 41
theorem Fl : Aq ["_law_form", "_law_found", "_law_far", "_law_k"] ["_law_form", "_law_found"] (Ah CV) := by walk_at "sc"
noncomputable abbrev G9 : Stmt := top 42
theorem Gf : Aq ["_law_script", "_law_one", "_law_other", "_law_found", "_law_kept", "_law_beside"] ["_law_script"] (Ah G9) := by walk_at "sc"
structure Txt (K : PySem.W.Frag) (mg : Str → Option Value) : Prop where
  t_root : ∃ f fd, FnT K mg "root" Gg ["number"] f fd
  t_is_square : ∃ f fd, FnT K mg "is_square" CZ ["number"] f fd
  t_check_at_most : ∃ f fd, FnT K mg "check_at_most" Bv ["number", "most"] f fd
  t_is_turn : ∃ f fd, FnT K mg "is_turn" Eb ["turn"] f fd
  t_check_turn : ∃ f fd, FnT K mg "check_turn" Cw ["turn"] f fd
  t_put_behind : ∃ f fd, FnT K mg "put_behind" Cq ["one", "other"] f fd
  t_measure : ∃ f fd, FnT K mg "measure" Cy ["form"] f fd
  t_value : ∃ f fd, FnT K mg "value" Gq ["form", "point"] f fd
  t_moved : ∃ f fd, FnT K mg "moved" Gp ["form", "turn"] f fd
  t_middle : ∃ f fd, FnT K mg "middle" Fd ["form", "left", "right"] f fd
  t_shape : ∃ f fd, FnT K mg "shape" Gw ["form"] f fd
  t_check_saddle : ∃ f fd, FnT K mg "check_saddle" Bo ["form"] f fd
  t_stands_level : ∃ f fd, FnT K mg "stands_level" BW ["form", "far"] f fd
  t_turn_behind : ∃ f fd, FnT K mg "turn_behind" Ce ["form", "top"] f fd
  t_stop_behind : ∃ f fd, FnT K mg "stop_behind" Bx ["stop", "top"] f fd
  t_eased : ∃ f fd, FnT K mg "eased" Gu ["form"] f fd
  t_stops_round : ∃ f fd, FnT K mg "stops_round" Ca ["form"] f fd
  t_round_of : ∃ f fd, FnT K mg "round_of" CP ["form"] f fd
  t__law_cell : ∃ f fd, FnT K mg "_law_cell" CT ["_law_script", "_law_k"] f fd
  t__law_whole : ∃ f fd, FnT K mg "_law_whole" Cr ["_law_found"] f fd
  t__law_wholes : ∃ f fd, FnT K mg "_law_wholes" BK ["_law_found", "_law_many"] f fd
  t__law_bar : ∃ f fd, FnT K mg "_law_bar" Cj ["_law_form"] f fd
  t__law_root : ∃ f fd, FnT K mg "_law_root" Ck ["_law_number"] f fd
  t__law_flat : ∃ f fd, FnT K mg "_law_flat" CQ ["_law_form"] f fd
  t__law_level : ∃ f fd, FnT K mg "_law_level" Cv ["_law_form", "_law_far"] f fd
  t__law_behind : ∃ f fd, FnT K mg "_law_behind" BJ ["_law_form", "_law_top"] f fd
  t__law_saddle : ∃ f fd, FnT K mg "_law_saddle" Cd ["_law_one", "_law_two", "_law_three"] f fd
  t__law_eased : ∃ f fd, FnT K mg "_law_eased" Cu ["_law_form", "_law_far"] f fd
  t__law_good : ∃ f fd, FnT K mg "_law_good" CV ["_law_form", "_law_found"] f fd
  t_law : ∃ f fd, FnT K mg "law" G9 ["_law_script"] f fd
  m_MOST_MEASURE : ∃ t, mg "MOST_MEASURE" = some (.int (4000) t)
  z_abs : mg "abs" = none
  z_bool : mg "bool" = none
  z_int : mg "int" = none
  z_isinstance : mg "isinstance" = none
  z_len : mg "len" = none
  z_list : mg "list" = none
  z_max : mg "max" = none
  z_min : mg "min" = none
  z_range : mg "range" = none
  z_set : mg "set" = none
  z_tuple : mg "tuple" = none
  k_SAME : ∃ a, mg "SAME" = some (.ref a) ∧ ∀ H, Rp K H (.tup [.int (1), .int (0), .int (0), .int (1)]) (.ref a)
noncomputable abbrev Jp : DSp := CW (fun t : I4 => [t4 t]) (B4 20000) fun t => .bl (decide (det t = 1))
noncomputable abbrev GK : DSp := CW (fun t : I4 => [t4 t]) (fun t => B4 20000 t ∧ det t = 1) fun _ => .non
noncomputable abbrev GF : DSp := CW (fun p : I4 × I4 => [t4 p.1, t4 p.2]) (fun p => B4 400000 p.1 ∧ B4 400000 p.2) fun p => t4 (Aj p.1 p.2)
section
variable (P : Program) (w : World) {K : PySem.W.Frag} {mg : Str → Option Value} (base : Heap)
theorem Qa (T : Txt K mg)
    : Pm P w K mg base 1 "is_turn" Eb ["turn"] Jp := by
  obtain ⟨f, fd, F⟩ := T.t_is_turn
  refine ⟨f, fd, F, F.fn.okD PL (by walk_at "lE") fun cdv A outer s H E hr => ⟨_, (Ai (Av (Jl hr.units (Ec (Ak (Ac (dv 0) Ab) (Ac (dv 0) Ab)) (Ak (Ac (dv 0) Ab) (Ac (dv 0) Ab))) Ab))), fun ds Q h => ?_⟩⟩
  obtain ⟨⟨a, b, c, d⟩, rfl, ⟨ha, hb, hc, hd⟩, q⟩ := h
  walk_at "go"
  exact ⟨by walk_at "mul", by walk_at "mul", q _ rfl⟩
theorem J2 (T : Txt K mg)
    (G_is_turn : Pm P w K mg base 1 "is_turn" Eb ["turn"] Jp)
    : Pm P w K mg base 2 "check_turn" Cw ["turn"] GK := by
  obtain ⟨f, fd, F⟩ := T.t_check_turn
  refine ⟨f, fd, F, F.fn.okD J7 (by walk_at "lE") fun cdv A outer s H E hr => ⟨_, (Ai (Ds (Gm (Dz (Ag Ae G_is_turn (hr.mono (by decide)) rfl (Aa (dv 0) Af)))) (Ai G8) Bs)), fun ds Q h => ?_⟩⟩
  obtain ⟨t, rfl, ⟨hb, hd⟩, q⟩ := h
  walk_at "go"
  refine Am t hb ?_
  walk_at "rd"
  rw [decide_eq_true hd]
  exact q _ rfl
theorem J0 (T : Txt K mg)
    : Pm P w K mg base 1 "put_behind" Cq ["one", "other"] GF := by
  obtain ⟨f, fd, F⟩ := T.t_put_behind
  refine ⟨f, fd, F, F.fn.okD JW (by walk_at "lE") fun cdv A outer s H E hr => ⟨_, (Ai (Av (DP (Aa (Bm (Ak (Ac (dv 0) Ab) (Ac (dv 1) Ab)) (Ak (Ac (dv 0) Ab) (Ac (dv 1) Ab))) (Aa (Bm (Ak (Ac (dv 0) Ab) (Ac (dv 1) Ab)) (Ak (Ac (dv 0) Ab) (Ac (dv 1) Ab))) (Aa (Bm (Ak (Ac (dv 0) Ab) (Ac (dv 1) Ab)) (Ak (Ac (dv 0) Ab) (Ac (dv 1) Ab))) (Aa (Bm (Ak (Ac (dv 0) Ab) (Ac (dv 1) Ab)) (Ak (Ac (dv 0) Ab) (Ac (dv 1) Ab))) Af))))))), fun ds Q h => ?_⟩⟩
  obtain ⟨⟨⟨a, b, c, d⟩, e, f, g, i⟩, rfl, ⟨⟨ha, hb, hc, hd⟩, he, hf, hg, hi⟩, q⟩ := h
  walk_at "go"
  exact ⟨by walk_at "mul", by walk_at "mul", by walk_at "mul", by walk_at "mul", by walk_at "mul", by walk_at "mul", by walk_at "mul", by walk_at "mul", Bk (by decide), q _ rfl⟩
theorem Xf (T : Txt K mg)
    : Pm P w K mg base 1 "root" Gg ["number"] Iu := by
  obtain ⟨f, fd, F⟩ := T.t_root
  refine ⟨f, fd, F, F.fn.okD Hg (by walk_at "lE") fun cdv A outer s H E hr => ⟨_, (Ad (Ds (Q6 (dv 0) Ab) (Ai G8) Bs) (Ad (Ds (S8 hr.units (dv 0) Ab) (Ai (Av Ab)) Bs) (Ad (Ao 1 Hg.nd (S6 Ab (Cm (Bm (QB (dv 0)) Ab) Ab))) (Ad (Ao 2 Hg.nd (Cm (Bm (dv 1) (Cm (dv 0) (dv 1))) Ab)) (Ad (Gi PassesOwn.never (Q6 (dv 2) (dv 1)) (Ad (Ao 1 Hg.nd (dv 2)) (Ai (Ao 2 Hg.nd (Cm (Bm (dv 1) (Cm (dv 0) (dv 1))) Ab))))) (Ai (Av (dv 1)))))))), fun ds Q h => ?_⟩⟩
  obtain ⟨n, rfl, ⟨h0, hb⟩, q⟩ := h
  walk_at "go"
  refine Ez (decide_eq_false (by omega)) ?_
  by_cases hz : n = 0
  · subst hz
    exact ift rfl (q _ ⟨0, rfl, ⟨by omega, by omega, by omega⟩, Bt.zero.le (by decide)⟩)
  refine Ez (decide_eq_false hz) ?_
  obtain ⟨c1, c2, c3⟩ := Ie hb
  have hu := MN h0
  refine ⟨⟨by decide, by decide⟩, c1, ?_⟩
  generalize (1 * 2 ^ ((((Builtin.Int.intBits n : Nat) : Int) + 1).fdiv 2).toNat : Int) = g at *
  refine ⟨Bt.divOk c2 (by omega), ⟨by decide, by decide⟩, ?_⟩
  rw [Mp c3]
  refine Gh (fun m ρ => ∃ g : Int, ρ = [some (.is (.int n)), some (.is (.int g)), some (.is (.int ((g + n / g) / 2)))] ∧ 0 < g ∧ Bt 2001 g ∧ n < (g + 1) * (g + 1) ∧ m = g.toNat) _ ⟨g, rfl, c3, c2, hu, rfl⟩ ?_
  rintro m _ ⟨g, rfl, hg, hgb, hgu, rfl⟩
  walk_at "rd"
  refine Ju (fun hw => ?_) (fun hw => ?_)
  · have hw := of_decide_eq_true hw
    have hp := PJ (show 1 ≤ n by omega) hg
    have hu' := Kp h0 hg
    have hbb : Bt 2001 ((g + n / g) / 2) := by unfold Bt at *; omega
    generalize (g + n / g) / 2 = b at *
    refine ⟨Bt.divOk hbb (by omega), ⟨by decide, by decide⟩, ?_⟩
    rw [Mp hp]
    exact ⟨_, by omega, b, rfl, hp, hbb, hu', rfl⟩
  · have hw : ¬ (g + n / g) / 2 < g := fun z => hw (decide_eq_true z)
    exact q _ ⟨g, rfl, ⟨by omega, OJ hg (by omega), hgu⟩, hgb⟩
theorem Lb (T : Txt K mg)
    (G_root : Pm P w K mg base 1 "root" Gg ["number"] Iu)
    : Pm P w K mg base 2 "is_square" CZ ["number"] Hj := by
  obtain ⟨f, fd, F⟩ := T.t_is_square
  refine ⟨f, fd, F, F.fn.okD G6 (by walk_at "lE") fun cdv A outer s H E hr => ⟨_, (Ad (Ds (Q6 (dv 0) Ab) (Ai (Av Jj)) Bs) (Ad (Ao 1 G6.nd (Ag Ae G_root (hr.mono (by decide)) rfl (Aa (dv 0) Af))) (Ai (Av (Jl hr.units (Ak (dv 1) (dv 1)) (dv 0)))))), fun ds Q h => ?_⟩⟩
  obtain ⟨n, rfl, hb, q⟩ := h
  walk_at "go"
  refine Ju (fun hw => ?_) (fun hw => ?_)
  · have hw := of_decide_eq_true hw
    exact q _ ⟨false, rfl, by simp [SQ hw]⟩
  · have hw : ¬ n < 0 := fun z => hw (decide_eq_true z)
    refine Br n ⟨by omega, hb⟩ ?_
    rintro _ ⟨r, rfl, hs, hr'⟩
    walk_at "rd"
    refine ⟨by walk_at "mul", q _ ⟨_, rfl, ?_⟩⟩
    rw [Hl hs]; simp
noncomputable abbrev Ej : DSp := CW (fun f : I3 => [t3 f]) (B3 20000) fun f => .int (meas f)
noncomputable abbrev Nk : DSp := CW (fun p : I3 × I2 => [t3 p.1, t2 p.2]) (fun p => B3 20000 p.1 ∧ B2 20000 p.2) fun p => .int (val p.1 p.2)
noncomputable abbrev KQ : DSp := CW (fun p : I3 × I2 × I2 => [t3 p.1, t2 p.2.1, t2 p.2.2]) (fun p => B3 20000 p.1 ∧ B2 20000 p.2.1 ∧ B2 20000 p.2.2) fun p => .int (mid p.1 p.2.1 p.2.2)
noncomputable abbrev M7 : DSp := CW (fun p : I3 × I4 => [t3 p.1, t4 p.2]) (fun p => B3 20000 p.1 ∧ B4 20000 p.2 ∧ det p.2 = 1) fun p => t3 (mov p.1 p.2)
theorem Px (T : Txt K mg)
    : Pm P w K mg base 1 "measure" Cy ["form"] Ej := by
  obtain ⟨f, fd, F⟩ := T.t_measure
  refine ⟨f, fd, F, F.fn.okD O8 (by walk_at "lE") fun cdv A outer s H E hr => ⟨_, (Ai (Av (Ec (Ak (Ac (dv 0) Ab) (Ac (dv 0) Ab)) (Ak (Ak Ab (Ac (dv 0) Ab)) (Ac (dv 0) Ab))))), fun ds Q h => ?_⟩⟩
  obtain ⟨⟨a, b, c⟩, rfl, ⟨ha, hb, hc⟩, q⟩ := h
  walk_at "go"
  have h2 : Bt 3 4 := Bt.of_abs (by decide)
  exact ⟨by walk_at "mul", by walk_at "mul", by walk_at "mul", q _ rfl⟩
theorem Um (T : Txt K mg)
    : Pm P w K mg base 1 "value" Gq ["form", "point"] Nk := by
  obtain ⟨f, fd, F⟩ := T.t_value
  refine ⟨f, fd, F, F.fn.okD JH (by walk_at "lE") fun cdv A outer s H E hr => ⟨_, (Ad (Ao 2 JH.nd (Ac (dv 1) Ab)) (Ad (Ao 3 JH.nd (Ac (dv 1) Ab)) (Ai (Av (Bm (Bm (Ak (Ak (Ac (dv 0) Ab) (dv 2)) (dv 2)) (Ak (Ak (Ac (dv 0) Ab) (dv 2)) (dv 3))) (Ak (Ak (Ac (dv 0) Ab) (dv 3)) (dv 3))))))), fun ds Q h => ?_⟩⟩
  obtain ⟨⟨⟨a, b, c⟩, x, y⟩, rfl, ⟨⟨ha, hb, hc⟩, hx, hy⟩, q⟩ := h
  walk_at "go"
  exact ⟨by walk_at "mul", by walk_at "mul", by walk_at "mul", by walk_at "mul", by walk_at "mul", by walk_at "mul", q _ rfl⟩
theorem Rq (T : Txt K mg)
    : Pm P w K mg base 1 "middle" Fd ["form", "left", "right"] KQ := by
  obtain ⟨f, fd, F⟩ := T.t_middle
  refine ⟨f, fd, F, F.fn.okD KH (by walk_at "lE") fun cdv A outer s H E hr => ⟨_, (Ad (Ao 3 KH.nd (Bm (Ak (Ac (dv 1) Ab) (Ac (dv 2) Ab)) (Ak (Ac (dv 2) Ab) (Ac (dv 1) Ab)))) (Ai (Av (Bm (Bm (Ak (Ak (Ak Ab (Ac (dv 0) Ab)) (Ac (dv 1) Ab)) (Ac (dv 2) Ab)) (Ak (Ac (dv 0) Ab) (dv 3))) (Ak (Ak (Ak Ab (Ac (dv 0) Ab)) (Ac (dv 1) Ab)) (Ac (dv 2) Ab)))))), fun ds Q h => ?_⟩⟩
  obtain ⟨⟨⟨a, b, c⟩, ⟨x, y⟩, u, v⟩, rfl, ⟨⟨ha, hb, hc⟩, ⟨hx, hy⟩, hu, hv⟩, q⟩ := h
  walk_at "go"
  have h2 : Bt 2 2 := Bt.of_abs (by decide)
  walk_at "muls"
  exact q _ rfl
theorem Vp (T : Txt K mg)
    (G_check_turn : Pm P w K mg base 2 "check_turn" Cw ["turn"] GK)
    (G_value : Pm P w K mg base 1 "value" Gq ["form", "point"] Nk)
    (G_middle : Pm P w K mg base 1 "middle" Fd ["form", "left", "right"] KQ)
    : Pm P w K mg base 3 "moved" Gp ["form", "turn"] M7 := by
  obtain ⟨f, fd, F⟩ := T.t_moved
  refine ⟨f, fd, F, F.fn.okD Jq (by walk_at "lE") fun cdv A outer s H E hr => ⟨_, (Ad (Ja (Ag Ae G_check_turn (hr.mono (by decide)) rfl (Aa (dv 1) Af))) (Ad (Ao 2 Jq.nd (DP (Aa (Ac (dv 1) Ab) (Aa (Ac (dv 1) Ab) Af)))) (Ad (Ao 3 Jq.nd (DP (Aa (Ac (dv 1) Ab) (Aa (Ac (dv 1) Ab) Af)))) (Ai (Av (DP (Aa (Ag Ae G_value (hr.mono (by decide)) rfl (Aa (dv 0) (Aa (dv 2) Af))) (Aa (Ag Ae G_middle (hr.mono (by decide)) rfl (Aa (dv 0) (Aa (dv 2) (Aa (dv 3) Af)))) (Aa (Ag Ae G_value (hr.mono (by decide)) rfl (Aa (dv 0) (Aa (dv 3) Af))) Af))))))))), fun ds Q h => ?_⟩⟩
  obtain ⟨⟨f, t⟩, rfl, ⟨hf, ht, hd⟩, q⟩ := h
  walk_at "go"
  have hl : B2 20000 (t.1, t.2.2.1) := ⟨ht.1.le (by decide), ht.2.2.1.le (by decide)⟩
  have hr' : B2 20000 (t.2.1, t.2.2.2) := ⟨ht.2.1.le (by decide), ht.2.2.2.le (by decide)⟩
  refine Am t ⟨ht, hd⟩ ⟨Bk (by decide), Bk (by decide), ?_⟩
  refine Am (f, (t.1, t.2.2.1)) ⟨hf, hl⟩ ?_
  refine Am (f, (t.1, t.2.2.1), (t.2.1, t.2.2.2)) ⟨hf, hl, hr'⟩ ?_
  refine Am (f, (t.2.1, t.2.2.2)) ⟨hf, hr'⟩ ⟨Bk (by decide), ?_⟩
  exact q _ rfl
noncomputable abbrev MP : DSp := spec (fun f : I3 => [t3 f]) (fun f => B3 1500 f) Vb
theorem Tt (T : Txt K mg)
    (G_measure : Pm P w K mg base 1 "measure" Cy ["form"] Ej)
    (G_is_square : Pm P w K mg base 2 "is_square" CZ ["number"] Hj)
    : Pm P w K mg base 3 "shape" Gw ["form"] MP := by
  obtain ⟨f, fd, F⟩ := T.t_shape
  refine ⟨f, fd, F, F.fn.okD Oo (by walk_at "lE") fun cdv A outer s H E hr => ⟨_, (Ad (Ao 1 Oo.nd (Ag Ae G_measure (hr.mono (by decide)) rfl (Aa (dv 0) Af))) (Ad (Ds (Dz (Ag Ae G_is_square (hr.mono (by decide)) rfl (Aa (dv 1) Af))) (Ai (Av Jo)) Bs) (Ad (Ds (M6 (dv 1) Ab) (Ai (Av Jo)) Bs) (Ad (Ds (M6 (Ac (dv 0) Ab) Ab) (Ai (Av Jo)) Bs) (Ai (Av Jo)))))), fun ds Q h => ?_⟩⟩
  obtain ⟨f, rfl, hf, q⟩ := h
  walk_at "go"
  refine Am f (hf.le (by decide)) ?_
  have hm : Bt 4000 (meas f) := by
    obtain ⟨h1, h2, h3⟩ := hf
    have h4 : Bt 3 4 := Bt.of_abs (by decide)
    exact ((h2.mul h2).sub ((h4.mul h1).mul h3)).le (by decide)
  refine Br (meas f) hm ?_
  rintro _ ⟨b, rfl, hb⟩
  walk_at "rd"
  refine Ju (fun h => q _ (.flat (hb.mp h))) (fun h => ?_)
  have hn : ¬ FQ (meas f) := fun z => h (hb.mpr z)
  refine Ju (fun h => q _ (.saddle hn (of_decide_eq_true h))) (fun h => ?_)
  have hp : ¬ 0 < meas f := fun z => h (decide_eq_true z)
  refine Ju (fun h => q _ (.bowl hn hp (of_decide_eq_true h))) (fun h => q _ (.dome hn hp fun z => h (decide_eq_true z)))
noncomputable abbrev EY : DSp := CW (fun p : I2 => [.int p.1, .int p.2]) (fun p => p.1 ≤ p.2) fun _ => .non
theorem HW (T : Txt K mg)
    : Pm P w K mg base 1 "check_at_most" Bv ["number", "most"] EY := by
  obtain ⟨f, fd, F⟩ := T.t_check_at_most
  refine ⟨f, fd, F, F.fn.okD Hw (by walk_at "lE") fun cdv A outer s H E hr => ⟨_, (Ai (Ds (M6 (dv 0) (dv 1)) (Ai G8) Bs)), fun ds Q h => ?_⟩⟩
  obtain ⟨⟨n, m⟩, rfl, h0, q⟩ := h
  have h0 : n ≤ m := h0
  walk_at "go"
  exact Ez (decide_eq_false (by omega)) (q _ rfl)
noncomputable abbrev DK : DSp := CW (fun f : I3 => [t3 f]) (fun f => B3 1500 f ∧ Sad f) fun _ => .non
noncomputable abbrev Fy : DSp := CW (fun p : I3 × Int => [t3 p.1, .int p.2]) (fun p => B3 20000 p.1) fun p => .bl (decide (Level p.1 p.2))
theorem Io (T : Txt K mg)
    (G_check_at_most : Pm P w K mg base 1 "check_at_most" Bv ["number", "most"] EY)
    (G_shape : Pm P w K mg base 3 "shape" Gw ["form"] MP)
    (G_measure : Pm P w K mg base 1 "measure" Cy ["form"] Ej)
    : Pm P w K mg base 4 "check_saddle" Bo ["form"] DK := by
  obtain ⟨f, fd, F⟩ := T.t_check_saddle
  obtain ⟨t_MOST_MEASURE, m_MOST_MEASURE⟩ := T.m_MOST_MEASURE
  refine ⟨f, fd, F, F.fn.okD Im (by walk_at "lE") fun cdv A outer s H E hr => ⟨_, (Ad (Ds (Mz hr.units (Ag Ae G_shape (hr.mono (by decide)) rfl (Aa (dv 0) Af)) Jo) (Ai G8) Bs) (Ai (Ja (Ag Ae G_check_at_most (hr.mono (by decide)) rfl (Aa (Ag Ae G_measure (hr.mono (by decide)) rfl (Aa (dv 0) Af)) (Aa (Rh (v := .int (4000)) (d := .int (4000)) rfl m_MOST_MEASURE ⟨_, rfl⟩ (fun _ => Ax.mpr rfl)) Af)))))), fun ds Q h => ?_⟩⟩
  obtain ⟨f, rfl, ⟨hb, hs⟩, q⟩ := h
  have hs : Sad f := hs
  have nb : Dt.flat 8 (.str "saddle") = true := by rw [Z0]; decide +kernel
  walk_at "go"
  refine Br f hb ?_
  rintro _ hw
  have h0 := hs.pos
  cases hw with
  | flat z => exact absurd z hs.no
  | bowl _ z _ => exact absurd h0 z
  | dome _ z _ => exact absurd h0 z
  | saddle _ _ =>
    refine ⟨⟨nb, nb⟩, ifn (by rw [Yx]; rfl) (Am f (hb.le (by decide)) (Am (meas f, 4000) hs.most (q _ rfl)))⟩
theorem Ij (T : Txt K mg)
    : Pm P w K mg base 1 "stands_level" BW ["form", "far"] Fy := by
  obtain ⟨f, fd, F⟩ := T.t_stands_level
  refine ⟨f, fd, F, F.fn.okD Fx (by walk_at "lE") fun cdv A outer s H E hr => ⟨_, (Ad (Ao 2 Fx.nd (Ac (dv 0) Ab)) (Ai (Av (Mj (Ho Nb Qq Eh Eh Ab (dv 2) (dv 1)) (JG (Ho Nb Qq Eh Eh (Ec (dv 1) (dv 2)) (Ak Ab (HX T.z_abs (Aa (Ac (dv 0) Ab) Af))) (Bm (dv 1) (dv 2)))))))), fun ds Q h => ?_⟩⟩
  obtain ⟨⟨⟨a, b, c⟩, far⟩, rfl, hb, q⟩ := h
  have q' := q _ rfl
  obtain ⟨ha, _, _⟩ := (show B3 20000 (a, b, c) from hb)
  have ha : Bt 20000 a := ha
  have two : Bt 2 2 := Bt.of_abs (by decide)
  have ha' : Bt 20000 (if a < 0 then -a else a) := by split <;> first | exact ha.neg | exact ha
  have q' : Q (.bl (decide (Level (a, b, c) far))) := q'
  walk_at "go"
  have hL : Level (a, b, c) far ↔ (0 < b ∧ b ≤ far) ∧ far - b < 2 * (if a < 0 then -a else a) ∧ 2 * (if a < 0 then -a else a) ≤ far + b := Iff.rfl
  generalize (if a < 0 then -a else a) = A at *
  by_cases h1 : 0 < b
  · refine ift (decide_eq_true h1) ?_
    by_cases h2 : b ≤ far
    · refine ift (decide_eq_true h2) ⟨two.mulOk ha', ?_⟩
      by_cases h3 : far - b < 2 * A
      · refine ift (decide_eq_true h3) ?_
        have e : decide (Level (a, b, c) far) = decide (2 * A ≤ far + b) := decide_eq_decide.mpr (hL.trans ⟨fun z => z.2.2, fun z => ⟨⟨h1, h2⟩, h3, z⟩⟩)
        rw [e] at q'
        exact q'
      · refine Ez (decide_eq_false h3) ?_
        rw [decide_eq_false fun z => h3 (hL.mp z).2.1] at q'
        exact q'
    · refine Ez (decide_eq_false h2) ?_
      rw [decide_eq_false fun z => h2 (hL.mp z).1.2] at q'
      exact q'
  · refine Ez (decide_eq_false h1) ?_
    rw [decide_eq_false fun z => h1 (hL.mp z).1.1] at q'
    exact q'
noncomputable abbrev FZ : DSp := CW (fun p : I3 × Int => [t3 p.1, .int p.2]) (fun p => B3 8000 p.1 ∧ p.1.2.2 ≠ 0) fun p => t4 (Bu p.1 p.2)
theorem JT (T : Txt K mg)
    : Pm P w K mg base 1 "turn_behind" Ce ["form", "top"] FZ := by
  obtain ⟨f, fd, F⟩ := T.t_turn_behind
  refine ⟨f, fd, F, F.fn.okD Dj (by walk_at "lE") fun cdv A outer s H E hr => ⟨_, (Ad (Ao 2 Dj.nd (Ac (dv 0) Ab)) (Ad (Ao 3 Dj.nd (Ac (dv 0) Ab)) (Ad (Ao 4 Dj.nd (Ec (dv 1) (Ek (Bm (dv 1) (dv 2)) (Ak Ab (HX T.z_abs (Aa (dv 3) Af)))))) (Ai (Av (DP (Aa Ab (Aa (Qc Ab) (Aa Ab (Aa (Cm (Bm (dv 2) (dv 4)) (Ak Ab (dv 3))) Af)))))))))), fun ds Q h => ?_⟩⟩
  obtain ⟨⟨⟨a, b, c⟩, top⟩, rfl, ⟨⟨_, _, hc⟩, h0⟩, q⟩ := h
  have hc : Bt 8000 c := hc
  have h0 : c ≠ 0 := h0
  have two : Bt 2 2 := Bt.of_abs (by decide)
  have hac : 2 * ab c ≠ 0 := by rcases Al c with ⟨_, e⟩ | ⟨_, e⟩ <;> omega
  walk_at "go"
  exact ⟨two.mulOk (Qp hc), hac, two.mulOk hc, Bt.divOk (two.mul hc) (by omega), Bk (by decide), q _ rfl⟩
noncomputable abbrev Hu (f : I3) (t : I4) : Dt := .tup [t3 f, t4 t]
noncomputable abbrev Dd : DSp := CW (fun p : I3 × I4 × Int => [Hu p.1 p.2.1, .int p.2.2]) (fun p => B3 8000 p.1 ∧ p.1.2.2 ≠ 0 ∧ B4 300000 p.2.1 ∧ B4 5000 (Bu p.1 p.2.2)) fun p => Hu (mov p.1 (Bu p.1 p.2.2)) (Aj p.2.1 (Bu p.1 p.2.2))
theorem Jg (T : Txt K mg)
    (G_turn_behind : Pm P w K mg base 1 "turn_behind" Ce ["form", "top"] FZ)
    (G_moved : Pm P w K mg base 3 "moved" Gp ["form", "turn"] M7)
    (G_put_behind : Pm P w K mg base 1 "put_behind" Cq ["one", "other"] GF)
    : Pm P w K mg base 4 "stop_behind" Bx ["stop", "top"] Dd := by
  obtain ⟨f, fd, F⟩ := T.t_stop_behind
  refine ⟨f, fd, F, F.fn.okD FW (by walk_at "lE") fun cdv A outer s H E hr => ⟨_, (Ad (Ao 2 FW.nd (Ag Ae G_turn_behind (hr.mono (by decide)) rfl (Aa (Ac (dv 0) Ab) (Aa (dv 1) Af)))) (Ai (Av (DP (Aa (Ag Ae G_moved (hr.mono (by decide)) rfl (Aa (Ac (dv 0) Ab) (Aa (dv 2) Af))) (Aa (Ag Ae G_put_behind (hr.mono (by decide)) rfl (Aa (Ac (dv 0) Ab) (Aa (dv 2) Af))) Af)))))), fun ds Q h => ?_⟩⟩
  obtain ⟨⟨f, t, top⟩, rfl, ⟨hf, h0, ht, hb⟩, q⟩ := h
  walk_at "go"
  exact Am (f, top) ⟨hf, h0⟩ (Am (f, Bu f top) ⟨B3.le hf (by decide), B4.le hb (by decide), Bq⟩ (Am (t, Bu f top) ⟨B4.le ht (by decide), B4.le hb (by decide)⟩ ⟨Bk (by decide), q _ rfl⟩))
noncomputable def AbM (f : I3) (d : Dt) : Prop := ∃ (t : I4) (far : Int), d = Hu (mov f t) t ∧ det t = 1 ∧ Sq (meas f) far ∧ Level (mov f t) far ∧ B4 7600 t
noncomputable abbrev Nm : DSp := spec (fun f : I3 => [t3 f]) (fun f => B3 1500 f ∧ Sad f) AbM
theorem Jd {f : I3} (S : Sad f) : 0 ≤ meas f ∧ Bt 4000 (meas f) := by
  have := S.pos
  have := S.most
  exact ⟨by omega, Bt.le (n := 13) (Bt.of (by omega) (by omega)) (by decide)⟩
theorem Tv (T : Txt K mg)
    (G_check_saddle : Pm P w K mg base 4 "check_saddle" Bo ["form"] DK)
    (G_root : Pm P w K mg base 1 "root" Gg ["number"] Iu)
    (G_measure : Pm P w K mg base 1 "measure" Cy ["form"] Ej)
    (G_stands_level : Pm P w K mg base 1 "stands_level" BW ["form", "far"] Fy)
    (G_stop_behind : Pm P w K mg base 4 "stop_behind" Bx ["stop", "top"] Dd)
    : Pm P w K mg base 5 "eased" Gu ["form"] Nm := by
  obtain ⟨f, fd, F⟩ := T.t_eased
  obtain ⟨a_SAME, m_SAME, q_SAME⟩ := T.k_SAME
  refine ⟨f, fd, F, F.fn.okD Hq (by walk_at "lE") fun cdv A outer s H E hr => ⟨_, (Ad (Ja (Ag Ae G_check_saddle (hr.mono (by decide)) rfl (Aa (dv 0) Af))) (Ad (Ao 1 Hq.nd (Ag Ae G_root (hr.mono (by decide)) rfl (Aa (Ag Ae G_measure (hr.mono (by decide)) rfl (Aa (dv 0) Af)) Af))) (Ad (Ao 2 Hq.nd (DP (Aa (dv 0) (Aa (Rh (v := .ref a_SAME) rfl m_SAME rfl q_SAME) Af)))) (Ad (Gi PassesOwn.never (Gm (Dz (Ag Ae G_stands_level (hr.mono (by decide)) rfl (Aa (Ac (dv 2) Ab) (Aa (dv 1) Af))))) (Ai (Ao 2 Hq.nd (Ag Ae G_stop_behind (hr.mono (by decide)) rfl (Aa (dv 2) (Aa (S5 T.z_max (Aa (HX T.z_abs (Aa (Ac (Ac (dv 2) Ab) Ab) Af)) (Aa (dv 1) Af))) Af)))))) (Ai (Av (dv 2))))))), fun ds Q h => ?_⟩⟩
  obtain ⟨f, rfl, ⟨hb, hS⟩, q⟩ := h
  have hS : Sad f := hS
  have hb : B3 1500 f := hb
  walk_at "go"
  refine Am f ⟨hb, hS⟩ (Am f (hb.le (by decide)) (Br (meas f) (Jd hS) ?_))
  rintro _ ⟨far, rfl, hr', hfb⟩
  walk_at "rd"
  refine ⟨Bk (by decide), ?_⟩
  refine Gh (fun m ρ => ∃ t, ρ = [some (.is (t3 f)), some (.is (.int far)), some (.is (Hu (mov f t) t))] ∧ Il 1500 far f t ∧ m = eM far (mov f t)) _ ⟨(1, 0, 0, 1), by rw [Ei], Il.start (by decide) hb, rfl⟩ ?_
  rintro m _ ⟨t, rfl, hI, rfl⟩
  have hd := hI.1
  have hg := hI.2.1
  have ht := hI.b4
  walk_at "rd"
  refine Am (mov f t, far) (hg.le (by decide)) ?_
  walk_at "rd"
  by_cases hL : Level (mov f t) far
  · exact Ez (by rw [decide_eq_true hL]; rfl) (q _ ⟨t, far, rfl, hd, hr', hL, ht.le (by decide)⟩)
  · refine ift (by rw [decide_eq_false hL]; rfl) ?_
    have hst := Kq (by decide) hS hr' hI hL
    refine Am (mov f t, t, _) ⟨hg.le (by decide), Ef (hS.mov hd), ht.le (by decide), hst.2.2.le (by decide)⟩ ?_
    dsimp only
    rw [Bh]
    exact ⟨_, hst.2.1, _, rfl, hst.1, rfl⟩
structure Gb (f : I3) (t0 : I4) (far : Int) (N : Nat) : Prop where
  d : det t0 = 1
  r : Sq (meas f) far
  v : Lv far (mov f t0)
  b : B4 7600 t0
  n : 0 < N
  m : N ≤ 8128
  e : rF far N (mov f t0) = mov f t0
  l : ∀ j, 0 < j → j < N → rF far j (mov f t0) ≠ mov f t0
noncomputable abbrev Dg (f : I3) (t0 : I4) (far : Int) (i : Nat) : Dt := Hu (rF far i (mov f t0)) (Aj t0 (rT far i (mov f t0)))
theorem Gb.bt {f : I3} {t0 : I4} {far : Int} {N : Nat} (R : Gb f t0 far N) (i : Nat) (h : i ≤ N) : B4 90000 (Aj t0 (rT far i (mov f t0))) := by
  have := R.m
  exact (B4.then R.b (Yz i R.v)).le (by omega)
noncomputable abbrev FJ : DSp := spec (fun f : I3 => [t3 f]) (fun f => B3 1500 f ∧ Sad f) fun f d => ∃ t0 far N, Gb f t0 far N ∧ d = .lst ((List.range (N + 1)).map (Dg f t0 far))
theorem Ip {n : Nat} (h : n ≤ 9000) : n < PySem.sizeLine := by unfold PySem.sizeLine; omega
theorem Jh (T : Txt K mg)
    (G_root : Pm P w K mg base 1 "root" Gg ["number"] Iu)
    (G_eased : Pm P w K mg base 5 "eased" Gu ["form"] Nm)
    (G_stop_behind : Pm P w K mg base 4 "stop_behind" Bx ["stop", "top"] Dd)
    (G_measure : Pm P w K mg base 1 "measure" Cy ["form"] Ej)
    : Pm P w K mg base 6 "stops_round" Ca ["form"] FJ := by
  obtain ⟨f, fd, F⟩ := T.t_stops_round
  refine ⟨f, fd, F, F.fn.okD BZ (by walk_at "lE") fun cdv A outer s H E hr => ⟨_, (Ad (Ao 1 BZ.nd (Ag Ae G_root (hr.mono (by decide)) rfl (Aa (Ag Ae G_measure (hr.mono (by decide)) rfl (Aa (dv 0) Af)) Af))) (Ad (Ao 2 BZ.nd (Ag Ae G_eased (hr.mono (by decide)) rfl (Aa (dv 0) Af))) (Ad (AaC 3 BZ.nd (Aa (dv 2) Af)) (Ad (Ao 4 BZ.nd (Ag Ae G_stop_behind (hr.mono (by decide)) rfl (Aa (dv 2) (Aa (dv 1) Af)))) (Ad (Gi PassesOwn.never (Mz hr.units (Ac (dv 4) Ab) (Ac (dv 2) Ab)) (Ad (Ov 3 (dv 4)) (Ai (Ao 4 BZ.nd (Ag Ae G_stop_behind (hr.mono (by decide)) rfl (Aa (dv 4) (Aa (dv 1) Af))))))) (Ad (Ov 3 (dv 4)) (Ai (Aaq 3 (Av (dv 3)))))))))), fun ds Q h => ?_⟩⟩
  obtain ⟨f, rfl, ⟨hb, hS⟩, q⟩ := h
  have hS : Sad f := hS
  have hb : B3 1500 f := hb
  walk_at "go"
  refine Am f (hb.le (by decide)) (Br (meas f) (Jd hS) ?_)
  rintro _ ⟨far, rfl, hr', hfb⟩
  refine Br f ⟨hb, hS⟩ ?_
  rintro _ ⟨t0, far', rfl, dt, hs, hL, bt⟩
  obtain rfl := hs.uniq hr'
  have hv : Lv far' (mov f t0) := ⟨hS.mov dt, by rw [Bp dt]; exact hs, hL⟩
  obtain ⟨N, n0, nm, ne, nl⟩ := Ig hv
  have R : Gb f t0 far' N := ⟨dt, hs, hv, bt, n0, nm, ne, nl⟩
  walk_at "rd"
  refine ⟨Bk (by decide), ?_⟩
  have stp : ∀ {Q : Dt → Prop} (i : Nat), i ≤ N → Q (Dg f t0 far' (i + 1)) → Dd [Dg f t0 far' i, .int far'] Q := fun {Q} i hi h => by
    have hi' := Lv.rF i hv
    refine Am (rF far' i (mov f t0), Aj t0 (rT far' i (mov f t0)), far') ⟨(Ni hi'.S hi'.r hi'.L).le (by decide), Ef hi'.S, (R.bt i hi).le (by decide), (Jb (QZ hi') (by decide)).le (by decide)⟩ ?_
    have h : Q (Hu (rF far' (i + 1) (mov f t0)) (Aj t0 (rT far' (i + 1) (mov f t0)))) := h
    rw [K6, QC, ← then_assoc] at h
    exact h
  have e0 : Hu (mov f t0) t0 = Dg f t0 far' 0 := by
    show Hu (mov f t0) t0 = Hu (mov f t0) (Aj t0 (1, 0, 0, 1))
    rw [Ea]
  rw [e0]
  refine stp 0 (by omega) ?_
  have last : (List.range (N + 1)).map (Dg f t0 far') = (List.range N).map (Dg f t0 far') ++ [Dg f t0 far' N] := by rw [List.range_succ, List.map_append]; rfl
  refine Gh (fun m ρ => ∃ i : Nat, 1 ≤ i ∧ i ≤ N ∧ ρ = [some (.is (t3 f)), some (.is (.int far')), some (.is (Dg f t0 far' 0)), some (.own ((List.range i).map (Dg f t0 far'))), some (.is (Dg f t0 far' i))] ∧ m = N - i) _ ⟨1, by omega, by omega, rfl, rfl⟩ ?_
  rintro m _ ⟨i, i1, iN, rfl, rfl⟩
  walk_at "rd"
  have hl : (List.range i).length < sizeLine := by rw [List.length_range]; exact Ip (by omega)
  refine Ju (fun hw => ?_) (fun hw => ?_)
  · have hi : i < N := by
      rcases Nat.lt_or_ge i N with z | z
      · exact z
      · exfalso
        have : i = N := by omega
        subst this
        rw [ne] at hw
        simp [rF] at hw
    refine ⟨hl, stp i iN ⟨N - (i + 1), by omega, i + 1, by omega, by omega, ?_, rfl⟩⟩
    rw [List.range_succ, List.map_append]; rfl
  · have hi : i = N := by
      rcases Nat.lt_or_ge i N with z | z
      · exfalso
        refine nl i (by omega) z ?_
        have hw : rF far' i (mov f t0) = rF far' 0 (mov f t0) := by
          generalize rF far' i (mov f t0) = g at *
          generalize rF far' 0 (mov f t0) = g' at *
          obtain ⟨a, b, c⟩ := g
          obtain ⟨a', b', c'⟩ := g'
          simp at hw
          obtain ⟨h1, h2, h3⟩ := hw
          rw [h1, h2, h3]
        exact hw
      · omega
    subst hi
    refine ⟨hl, q _ ⟨t0, far', i, R, ?_⟩⟩
    rw [last]
theorem Pn {sl : List Nat} {ti : DTI} {tt : DTT} {te : DTE} {ρ : Bj} {Q : Dt → Prop} (h : ti ρ fun items => GP sl (fun _ R => R items) tt te ρ Q) : GP sl ti tt te ρ Q := h
theorem Oa (ds : List Dt) (k : Nat) (h : k ≤ ds.length) : cutD ds (some (k : Int)) none = ds.drop k := by
  unfold cutD
  rw [HT.Qo, HT.Oi, Nat.min_eq_left h, List.take_of_length_le (by rw [List.length_drop]; omega)]
theorem VB (ds : List Dt) (k : Nat) (h : k ≤ ds.length) : cutD ds none (some (k : Int)) = ds.take k := by
  unfold cutD
  rw [HT.Qo, HT.Oi, Nat.min_eq_left h, List.drop_zero, Nat.sub_zero]
theorem JD (bt : Nat → Nat → Bool) : ∀ k, argBest bt k ≤ k
  | 0 => Nat.le_refl _
  | k + 1 => by
    have := JD bt k
    unfold argBest
    split <;> omega
noncomputable def Dc (f : I3) : List Int := [f.1, f.2.1, f.2.2]
noncomputable def Ar (far : Int) (g : I3) (N : Nat) : List (List Int) := (List.range N).map fun i => Dc (rF far (i + 1) g)
theorem M4 {far : Int} {g : I3} {N : Nat} (hv : Lv far g) (l : ∀ j, 0 < j → j < N → rF far j g ≠ g) {i j : Nat} (hij : i < j) (hj : j < N) : rF far (i + 1) g ≠ rF far (j + 1) g := fun e => by
  have e2 : rF far (j + 1) g = rF far (i + 1) (rF far (j - i) g) := by rw [← BL, show j - i + (i + 1) = j + 1 by omega]
  rw [e2] at e
  have := Dw (i + 1) hv (Lv.rF (j - i) hv) (Dl (j - i) g).symm e
  exact l (j - i) (by omega) (by omega) this.symm
theorem R5 (f g : I3) : HT.lexLt (Dc f) (Dc g) = true ↔ f.1 < g.1 ∨ (f.1 = g.1 ∧ (f.2.1 < g.2.1 ∨ (f.2.1 = g.2.1 ∧ f.2.2 < g.2.2))) := by
  unfold Dc
  rw [HT.Fi, HT.Fi, HT.Fi, HT.Gy]
  split
  · split
    · split
      · simp; omega
      · simp; omega
    · simp; omega
  · simp; omega
theorem Er (bt : Nat → Nat → Bool) (ir : ∀ i, bt i i = false) (tr : ∀ a b c, bt a b = true → bt b c = true → bt a c = true) : ∀ k j, j ≤ k → bt j (argBest bt k) = false
  | 0, j, h => by
    have : j = 0 := by omega
    subst this
    exact ir 0
  | k + 1, j, h => by
    unfold argBest
    split
    · rename_i hb
      rcases Nat.lt_or_ge j (k + 1) with z | z
      · cases q : bt j (k + 1) with
        | false => rfl
        | true =>
          have := Er bt ir tr k j (by omega)
          rw [tr _ _ _ q hb] at this
          cases this
      · have : j = k + 1 := by omega
        subst this
        exact ir _
    · rename_i hb
      rcases Nat.lt_or_ge j (k + 1) with z | z
      · exact Er bt ir tr k j (by omega)
      · have : j = k + 1 := by omega
        subst this
        simpa using hb
noncomputable abbrev DN (far : Int) (z : I3) (N : Nat) : Dt := .lst ((List.range N).map fun i => t3 (rF far i z))
noncomputable abbrev Ib : DSp := spec (fun f : I3 => [t3 f]) (fun f => B3 1500 f ∧ Sad f) fun f d => ∃ t0 far N k, Gb f t0 far N ∧ k < N ∧ (∀ i, i < N → HT.lexLt (Dc (rF far (i + 1) (mov f t0))) (Dc (rF far (k + 1) (mov f t0))) = false) ∧ d = DN far (rF far (k + 1) (mov f t0)) N
theorem Og (T : Txt K mg)
    (G_check_saddle : Pm P w K mg base 4 "check_saddle" Bo ["form"] DK)
    (G_stops_round : Pm P w K mg base 6 "stops_round" Ca ["form"] FJ)
    : Pm P w K mg base 7 "round_of" CP ["form"] Ib := by
  obtain ⟨f, fd, F⟩ := T.t_round_of
  refine ⟨f, fd, F, F.fn.okD Ge (by walk_at "lE") fun cdv A outer s H E hr => ⟨_, (Ad (Ja (Ag Ae G_check_saddle (hr.mono (by decide)) rfl (Aa (dv 0) Af))) (Ad (Xl 1 Ge.nd (Kf (sc := Ah CP) (NN := ["form", "forms", "place"]) (x := "stop") (N := []) (sl := []) rfl rfl (by decide +kernel)) rfl (YW (Vj (Ag Ae G_stops_round (hr.mono (by decide)) rfl (Aa (dv 0) Af)) (K1 Ab) LC)) (fun cl C s0 H0 ex => (Ac (dv 0) Ab))) (Ad (Ao 2 Ge.nd (RJ 1 hr.units (X8 hr.units) (V4 T.z_min (Aap hr.units) (Aa (dv 1) Af)))) (Ai (Av (DF.de (YF (Nu (dv 1) (K1 (dv 2)) LC) (Nu (dv 1) LC (K1 (dv 2)))))))))), fun ds Q h => ?_⟩⟩
  obtain ⟨f, rfl, ⟨hb, hS⟩, q⟩ := h
  have hS : Sad f := hS
  have hb : B3 1500 f := hb
  walk_at "go"
  refine Am f ⟨hb, hS⟩ (Pn ?_)
  walk_at "rd"
  refine Br f ⟨hb, hS⟩ ?_
  rintro _ ⟨t0, far, N, R, rfl⟩
  walk_at "rd"
  have n0 := R.n
  have nm := R.m
  have ec : cutD ((List.range (N + 1)).map (Dg f t0 far)) (some 1) none = (List.range N).map fun i => Dg f t0 far (i + 1) := by
    have := Oa ((List.range (N + 1)).map (Dg f t0 far)) 1 (by rw [List.length_map, List.length_range]; omega)
    refine this.trans ?_
    rw [List.range_succ_eq_map, List.map_cons, List.drop_succ_cons, List.drop_zero, List.map_map]
    rfl
  rw [ec]
  have hl : ∀ {α : Type} (F : Nat → α), ((List.range N).map F).length = N := fun F => by rw [List.length_map, List.length_range]
  refine RG _ (fun d => match d with | .tup (a :: _) => a | _ => .non) (fun R h => h) (by rw [hl]; exact Nat.le_of_lt (Ip (by omega))) JF (fun d hd R hR => ?_) ?_
  · obtain ⟨i, _, rfl⟩ := List.mem_map.mp hd
    unfold inner
    walk_at "rd"
    exact hR
  have en : ((List.range N).map fun i => Dg f t0 far (i + 1)).map (fun d => match d with | .tup (a :: _) => a | _ => .non) = (Ar far (mov f t0) N).map BP := by
    unfold Ar
    rw [List.map_map, List.map_map]
    rfl
  rw [en]
  have lr : (Ar far (mov f t0) N).length = N := hl _
  have kl : Fo (Ar far (mov f t0) N) < N := by
    have := JD (fun i j => HT.lexLt ((Ar far (mov f t0) N).getD i []) ((Ar far (mov f t0) N).getD j [])) ((Ar far (mov f t0) N).length - 1)
    rw [lr] at this
    unfold Fo
    rw [lr]
    omega
  have at' : ∀ i, i < N → (Ar far (mov f t0) N).getD i [] = Dc (rF far (i + 1) (mov f t0)) := fun i hi => by
    unfold Ar
    simp [List.getD, hi]
  have least : ∀ i, i < N → HT.lexLt (Dc (rF far (i + 1) (mov f t0))) (Dc (rF far (Fo (Ar far (mov f t0) N) + 1) (mov f t0))) = false := fun i hi => by
    have cs : ∀ n : Nat, (∃ h : I3, (Ar far (mov f t0) N).getD n [] = Dc h) ∨ (Ar far (mov f t0) N).getD n [] = [] := fun n => by
      rcases Nat.lt_or_ge n N with z | z
      · exact .inl ⟨_, at' n z⟩
      · exact .inr (by simp [Ar, List.getD, z])
    have un : Fo (Ar far (mov f t0) N) = argBest (fun i j => HT.lexLt ((Ar far (mov f t0) N).getD i []) ((Ar far (mov f t0) N).getD j [])) ((Ar far (mov f t0) N).length - 1) := rfl
    rw [← at' i hi, ← at' _ kl, un]
    refine Er (fun i j => HT.lexLt ((Ar far (mov f t0) N).getD i []) ((Ar far (mov f t0) N).getD j [])) (fun a => ?_) (fun a b c h1 h2 => ?_) _ i (by omega)
    · rcases cs a with ⟨h, e⟩ | e
      · rw [e]
        exact Bool.eq_false_iff.mpr fun z => by have := (R5 h h).mp z; omega
      · rw [e]; rfl
    · rcases cs a with ⟨x, ea⟩ | ea <;> rcases cs b with ⟨y, eb⟩ | eb <;> rcases cs c with ⟨z, ec'⟩ | ec' <;> rw [ea, eb] at h1 <;> rw [eb, ec'] at h2 <;> rw [ea, ec']
      · have a1 := (R5 _ _).mp h1
        have a2 := (R5 _ _).mp h2
        exact (R5 _ _).mpr (by omega)
      all_goals first | rfl | (cases h1; done) | (cases h2; done)
  generalize hk : Fo (Ar far (mov f t0) N) = k at *
  refine ⟨Ar far (mov f t0) N, rfl, ?_⟩
  walk_at "rd"
  refine ⟨Ar far (mov f t0) N, rfl, by omega, by rw [hk, lr]; exact kl, ?_⟩
  rw [hk]
  have dl : ((Ar far (mov f t0) N).map BP).length = N := by rw [List.length_map, lr]
  refine ⟨_, k, rfl, by omega, rfl, fun m hm e => ?_, ?_⟩
  · rw [at' m (by omega), at' k kl] at e
    unfold Dc at e
    simp only [List.cons.injEq, and_true] at e
    exact M4 R.v R.l hm kl (Prod.ext e.1 (Prod.ext e.2.1 e.2.2))
  · rw [Oa _ k (by omega), VB _ k (by omega)]
    have er := congrArg (List.map t3) (rotate R.e kl)
    have e5 : ((Ar far (mov f t0) N).map BP).drop k ++ ((Ar far (mov f t0) N).map BP).take k = (List.range N).map fun i => t3 (rF far i (rF far (k + 1) (mov f t0))) := by
      have e6 : (Ar far (mov f t0) N).map BP = ((List.range N).map fun i => rF far (i + 1) (mov f t0)).map t3 := by
        unfold Ar
        rw [List.map_map, List.map_map]
        rfl
      rw [e6, ← List.map_drop, ← List.map_take, ← List.map_append, rotate R.e kl, List.map_map]
      rfl
    rw [e5]
    refine ⟨?_, q _ ⟨t0, far, N, k, R, kl, least, rfl⟩⟩
    rw [List.length_drop, List.length_take, dl]
    have := Ip (n := N) (by omega)
    omega
noncomputable abbrev Fw : DSp := CW (fun p : List Int × Int => [.lst (p.1.map Dt.int), .int p.2]) (fun p => 0 ≤ p.2) fun p => .int (p.1.getD p.2.toNat 0)
theorem Gs {Q : Dt → Prop} (ns : List Int) (k : Int) (h : 0 ≤ k) (q : Q (.int (ns.getD k.toNat 0))) : Fw [.lst (ns.map Dt.int), .int k] Q := Am (ns, k) h q
theorem Le (T : Txt K mg)
    : Pm P w K mg base 1 "_law_cell" CT ["_law_script", "_law_k"] Fw := by
  obtain ⟨f, fd, F⟩ := T.t__law_cell
  refine ⟨f, fd, F, F.fn.okD K4 (by walk_at "lE") fun cdv A outer s H E hr => ⟨_, (Ad (Ds (Q6 (dv 1) (G3 T.z_len (Aa (dv 0) Af))) (Ai (Av (Ac (dv 0) (dv 1)))) Bs) (Ai (Av Ab))), fun ds Q h => ?_⟩⟩
  obtain ⟨⟨ns, k⟩, rfl, h0, q⟩ := h
  walk_at "go"
  by_cases hk : k < ns.length
  · simp only [decide_eq_true hk, Rb h0 hk, if_true]
    exact q _ rfl
  · simp only [decide_eq_false hk]
    have e : ns.getD k.toNat 0 = 0 := by
      have : ns.length ≤ k.toNat := by have h0' : 0 ≤ k := h0; omega
      simp [this]
    have q' := q _ rfl
    dsimp only at q'
    rw [e] at q'
    exact q'
noncomputable def isI : Dt → Bool
  | .int _ => true
  | _ => false
noncomputable abbrev Gz : DSp := CW (fun d : Dt => [d]) (fun d => noFn d = true) fun d => .bl (isI d)
noncomputable abbrev Dm : DSp := CW (fun p : List Int × Int => [.tup (p.1.map Dt.int), .int p.2]) (fun p => p.1.length ≤ 1000) fun p => .bl (decide ((p.1.length : Int) = p.2))
theorem R0 {Q : Dt → Prop} (ns : List Int) (k : Int) (h : (ns.length : Int) = k) (hl : ns.length ≤ 1000) (q : Q (.bl true)) : Dm [.tup (ns.map Dt.int), .int k] Q :=
  Am (ns, k) hl (by dsimp only; rw [decide_eq_true h]; exact q)
theorem XS {Q : Dt → Prop} (a b c : Int) (q : Q (.bl true)) : Dm [T3 a b c, .int 3] Q := R0 [a, b, c] 3 rfl (by show 3 ≤ 1000; decide) q
theorem JZ (T : Txt K mg)
    : Pm P w K mg base 1 "_law_whole" Cr ["_law_found"] Gz := by
  obtain ⟨f, fd, F⟩ := T.t__law_whole
  refine ⟨f, fd, F, F.fn.okD J4 (by walk_at "lE") fun cdv A outer s H E hr => ⟨_, (Ai (Av (Mj (LQ T.z_isinstance T.z_int Xk (dv 0)) (JG (Zw (LQ T.z_isinstance T.z_bool Uy (dv 0))))))), fun ds Q h => ?_⟩⟩
  obtain ⟨d, rfl, h0, q⟩ := h
  walk_at "go"
  have q' := q _ rfl
  cases d <;> first | exact ⟨rfl, q'⟩ | exact ⟨rfl, rfl, q'⟩ | cases h0
theorem JC (T : Txt K mg)
    (G__law_whole : Pm P w K mg base 1 "_law_whole" Cr ["_law_found"] Gz)
    : Pm P w K mg base 2 "_law_wholes" BK ["_law_found", "_law_many"] Dm := by
  obtain ⟨f, fd, F⟩ := T.t__law_wholes
  refine ⟨f, fd, F, F.fn.okD JM (by walk_at "lE") fun cdv A outer s H E hr => ⟨_, (Ad (Ds (DW.dt (Kz (Gm (Dz (LQ T.z_isinstance T.z_tuple Rk (dv 0)))) (LR (Mz hr.units (G3 T.z_len (Aa (dv 0) Af)) (dv 1))))) (Ai (Av Jj)) Bs) (Ai (Av (Jl hr.units (G3 T.z_len (Aa (Uw (Kf (sc := Ah BK) (NN := ["_law_found", "_law_many"]) (x := "_law_one") (N := []) (sl := []) rfl rfl (by decide +kernel)) rfl (Aaj (dv 0)) (fun cl C s0 H0 ex => (Dz (Ag Ae G__law_whole (hr.mono (by decide)) rfl (Aa (dv 0) Af)))) (fun cl C s0 H0 ex => (dv 0))) Af)) (dv 1))))), fun ds Q h => ?_⟩⟩
  obtain ⟨⟨ns, k⟩, rfl, h0, q⟩ := h
  walk_at "go"
  have q' := q _ rfl
  dsimp only at q'
  by_cases hk : (ns.length : Int) = k
  · rw [decide_eq_true hk] at q'
    simp only [decide_eq_true hk]
    walk_at "rd"
    refine Lg (ns.map Dt.int) isI id (fun R h => h) (by rw [List.length_map]; exact Bk h0) JF (fun d hd R hR => ?_) (fun d hd hp R hR => hR) ?_
    · unfold inner
      walk_at "rd"
      obtain ⟨n, _, rfl⟩ := List.mem_map.mp hd
      exact Am (Dt.int n) rfl hR
    · have e : (List.filter isI (ns.map Dt.int)).map id = ns.map Dt.int := by
        rw [List.map_id, List.filter_eq_self]
        intro d hd
        obtain ⟨n, _, rfl⟩ := List.mem_map.mp hd
        rfl
      rw [e]
      walk_at "rd"
      rw [decide_eq_true hk]
      exact q'
  · rw [decide_eq_false hk] at q'
    simp only [decide_eq_false hk]
    exact q'
noncomputable abbrev Eo : DSp := CW (fun f : I3 => [t3 f]) (B3 20000) fun f => .int (meas f)
theorem N5 (T : Txt K mg)
    : Pm P w K mg base 1 "_law_bar" Cj ["_law_form"] Eo := by
  obtain ⟨f, fd, F⟩ := T.t__law_bar
  refine ⟨f, fd, F, F.fn.okD NQ (by walk_at "lE") fun cdv A outer s H E hr => ⟨_, (Ai (Av (Ec (Ak (Ac (dv 0) Ab) (Ac (dv 0) Ab)) (Ak (Ak Ab (Ac (dv 0) Ab)) (Ac (dv 0) Ab))))), fun ds Q h => ?_⟩⟩
  obtain ⟨⟨a, b, c⟩, rfl, ⟨ha, hb, hc⟩, q⟩ := h
  walk_at "go"
  have h2 : Bt 3 4 := Bt.of_abs (by decide)
  exact ⟨by walk_at "mul", by walk_at "mul", by walk_at "mul", q _ rfl⟩
noncomputable abbrev Fj : DSp := spec (fun n : Int => [.int n]) (fun n => 0 ≤ n ∧ Bt 4000 n) fun n d => ∃ r, d = .int r ∧ Sq n r ∧ Bt 2001 r
theorem Ml (T : Txt K mg)
    : Pm P w K mg base 1 "_law_root" Ck ["_law_number"] Fj := by
  obtain ⟨f, fd, F⟩ := T.t__law_root
  refine ⟨f, fd, F, F.fn.okD Fp (by walk_at "lE") fun cdv A outer s H E hr => ⟨_, (Ad (Ao 1 Fp.nd (S6 Ab (Cm (Bm (QB (dv 0)) Ab) Ab))) (Ad (Gi PassesOwn.never (M6 (Ak (dv 1) (dv 1)) (dv 0)) (Ai (Ao 1 Fp.nd (Cm (Bm (dv 1) (Cm (dv 0) (dv 1))) Ab)))) (Ai (Av (dv 1))))), fun ds Q h => ?_⟩⟩
  obtain ⟨n, rfl, ⟨h0, hb⟩, q⟩ := h
  walk_at "go"
  obtain ⟨c1, c2, c3⟩ := Ie hb
  have hu := MN h0
  refine ⟨⟨by decide, by decide⟩, c1, ?_⟩
  generalize (1 * 2 ^ ((((Builtin.Int.intBits n : Nat) : Int) + 1).fdiv 2).toNat : Int) = g at *
  refine Gh (fun m ρ => ∃ g : Int, ρ = [some (.is (.int n)), some (.is (.int g))] ∧ 0 ≤ g ∧ Bt 2001 g ∧ n < (g + 1) * (g + 1) ∧ m = g.toNat) _ ⟨g, rfl, by omega, c2, hu, rfl⟩ ?_
  rintro m _ ⟨g, rfl, hg, hgb, hgu, rfl⟩
  walk_at "rd"
  refine ⟨hgb.mulOk hgb, Ju (fun hw => ?_) (fun hw => ?_)⟩
  · have hw := of_decide_eq_true hw
    have hg0 : 0 < g := by
      rcases Int.lt_or_le 0 g with z | z
      · exact z
      · have : g = 0 := by omega
        subst this
        omega
    have hd := Nz hg0 hw
    have hu' := Kp h0 hg0
    have hp : 0 ≤ (g + n / g) / 2 := by
      have := Int.ediv_nonneg h0 (show 0 ≤ g by omega)
      omega
    have hbb : Bt 2001 ((g + n / g) / 2) := by unfold Bt at *; omega
    refine ⟨Bt.divOk hgb (by omega), ⟨by decide, by decide⟩, ?_⟩
    rw [Mp hg0]
    exact ⟨_, by omega, _, rfl, hp, hbb, hu', rfl⟩
  · have hw : ¬ n < g * g := fun z => hw (decide_eq_true z)
    exact q _ ⟨g, rfl, ⟨by omega, by omega, hgu⟩, hgb⟩
noncomputable abbrev G7 : DSp := spec (fun f : I3 => [t3 f]) (fun f => B3 1500 f ∧ 0 ≤ meas f) fun f d => ∃ b : Bool, d = .bl b ∧ (b = true ↔ FQ (meas f))
theorem Wh {f : I3} (hf : B3 1500 f) : Bt 4000 (meas f) := by
  obtain ⟨h1, h2, h3⟩ := hf
  have h4 : Bt 3 4 := Bt.of_abs (by decide)
  exact ((h2.mul h2).sub ((h4.mul h1).mul h3)).le (by decide)
theorem K9 (T : Txt K mg)
    (G__law_bar : Pm P w K mg base 1 "_law_bar" Cj ["_law_form"] Eo)
    (G__law_root : Pm P w K mg base 1 "_law_root" Ck ["_law_number"] Fj)
    : Pm P w K mg base 2 "_law_flat" CQ ["_law_form"] G7 := by
  obtain ⟨f, fd, F⟩ := T.t__law_flat
  refine ⟨f, fd, F, F.fn.okD Fv (by walk_at "lE") fun cdv A outer s H E hr => ⟨_, (Ad (Ao 1 Fv.nd (Ag Ae G__law_bar (hr.mono (by decide)) rfl (Aa (dv 0) Af))) (Ad (Ao 2 Fv.nd (Ag Ae G__law_root (hr.mono (by decide)) rfl (Aa (dv 1) Af))) (Ai (Av (Jl hr.units (Ak (dv 2) (dv 2)) (dv 1)))))), fun ds Q h => ?_⟩⟩
  obtain ⟨f, rfl, ⟨hf, h0⟩, q⟩ := h
  have hf : B3 1500 f := hf
  walk_at "go"
  refine Am f (hf.le (by decide)) (Br (meas f) ⟨h0, Wh hf⟩ ?_)
  rintro _ ⟨r, rfl, hr, hb⟩
  walk_at "rd"
  exact ⟨hb.mulOk hb, q _ ⟨_, rfl, by rw [Hl hr]; simp⟩⟩
noncomputable abbrev GJ : DSp := CW (fun p : I3 × Int => [t3 p.1, .int p.2]) (fun p => B3 20000 p.1) fun p => .bl (decide (Level p.1 p.2))
theorem J6 (T : Txt K mg)
    : Pm P w K mg base 1 "_law_level" Cv ["_law_form", "_law_far"] GJ := by
  obtain ⟨f, fd, F⟩ := T.t__law_level
  refine ⟨f, fd, F, F.fn.okD J5 (by walk_at "lE") fun cdv A outer s H E hr => ⟨_, (Ai (Av (Mj (Ho Nb Qq Eh Eh Ab (Ac (dv 0) Ab) (dv 1)) (JG (Ho Nb Qq Eh Eh (Ec (dv 1) (Ac (dv 0) Ab)) (Ak Ab (HX T.z_abs (Aa (Ac (dv 0) Ab) Af))) (Bm (dv 1) (Ac (dv 0) Ab))))))), fun ds Q h => ?_⟩⟩
  obtain ⟨⟨⟨a, b, c⟩, far⟩, rfl, hb, q⟩ := h
  have q' := q _ rfl
  obtain ⟨ha, _, _⟩ := (show B3 20000 (a, b, c) from hb)
  have ha : Bt 20000 a := ha
  have two : Bt 2 2 := Bt.of_abs (by decide)
  have ha' : Bt 20000 (if a < 0 then -a else a) := by split <;> first | exact ha.neg | exact ha
  have q' : Q (.bl (decide (Level (a, b, c) far))) := q'
  walk_at "go"
  have hL : Level (a, b, c) far ↔ (0 < b ∧ b ≤ far) ∧ far - b < 2 * (if a < 0 then -a else a) ∧ 2 * (if a < 0 then -a else a) ≤ far + b := Iff.rfl
  generalize (if a < 0 then -a else a) = A at *
  by_cases h1 : 0 < b
  · refine ift (decide_eq_true h1) ?_
    by_cases h2 : b ≤ far
    · refine ift (decide_eq_true h2) ⟨two.mulOk ha', ?_⟩
      by_cases h3 : far - b < 2 * A
      · refine ift (decide_eq_true h3) ?_
        have e : decide (Level (a, b, c) far) = decide (2 * A ≤ far + b) := decide_eq_decide.mpr (hL.trans ⟨fun z => z.2.2, fun z => ⟨⟨h1, h2⟩, h3, z⟩⟩)
        rw [e] at q'
        exact q'
      · refine Ez (decide_eq_false h3) ?_
        rw [decide_eq_false fun z => h3 (hL.mp z).2.1] at q'
        exact q'
    · refine Ez (decide_eq_false h2) ?_
      rw [decide_eq_false fun z => h2 (hL.mp z).1.2] at q'
      exact q'
  · refine Ez (decide_eq_false h1) ?_
    rw [decide_eq_false fun z => h1 (hL.mp z).1.1] at q'
    exact q'
noncomputable abbrev FN : DSp := spec (fun p : I3 => [.int p.1, .int p.2.1, .int p.2.2]) (fun _ => True) fun _ d => ∃ f : I3, d = t3 f ∧ B3 40 f ∧ 0 ≤ meas f ∧ meas f ≤ 4000 ∧ f.1 ≠ 0
theorem JR (T : Txt K mg)
    : Pm P w K mg base 1 "_law_saddle" Cd ["_law_one", "_law_two", "_law_three"] FN := by
  obtain ⟨f, fd, F⟩ := T.t__law_saddle
  refine ⟨f, fd, F, F.fn.okD Bf (by walk_at "lE") fun cdv A outer s H E hr => ⟨_, (Ad (Ao 3 Bf.nd (Ac (U0 (Aa Ab (Aa Ab (Aa Ab (Aa (Bm Ab (Ek (Cm (dv 0) Ab) Ab)) Af))))) (Ek (Cm (dv 0) Ab) Ab))) (Ad (Ao 4 Bf.nd (Ac (U0 (Aa Ab (Aa Ab Af))) (Wa T.z_int (Aa (Acd (Acx (dv 3) Ab) (JG (Jl hr.units (Ek (Cm (dv 0) Ab) Ab) Ab))) Af)))) (Ad (Ao 5 Bf.nd (Bm Ab (Ek (Cm (dv 0) Ab) (dv 4)))) (Ad (Ao 6 Bf.nd (Ek (dv 1) (Ak Ab (dv 5)))) (Ad (Ao 7 Bf.nd (Ek (Ak (dv 6) (dv 6)) (Ak Ab (dv 5)))) (Ad (Ao 8 Bf.nd (Cm Ab (Ak (dv 3) (dv 3)))) (Ad (Ao 9 Bf.nd (Bm (dv 7) (Ak (Ak Ab (dv 5)) (Ek (dv 2) (Bm Ab (Cm (Ec (dv 8) (dv 7)) (Ak Ab (dv 5)))))))) (Ad (Ao 10 Bf.nd (Ak (dv 3) (Ec Ab (Ak Ab (Ek (dv 0) Ab))))) (Ai (Av (DP (Aa (Ak (dv 10) (dv 5)) (Aa (Ak (dv 3) (dv 6)) (Aa (Ak (dv 10) (Cm (Ec (Ak (dv 6) (dv 6)) (dv 9)) (Ak Ab (dv 5)))) Af)))))))))))))), fun ds Q h => ?_⟩⟩
  obtain ⟨⟨x, y, z⟩, rfl, _, q⟩ := h
  walk_at "go"
  have r4 := CJ (x.fdiv 2) (m := 4) (by decide)
  have r5 := CJ (x.fdiv 8) (m := 5) (by decide)
  have r12 := CJ (x.fdiv 80) (m := 12) (by decide)
  have r400 := CJ (x.fdiv 80) (m := 400) (by decide)
  have rs := CJ x (m := 2) (by decide)
  have hs : 1 - 2 * x.fmod 2 = 1 ∨ 1 - 2 * x.fmod 2 = -1 := by omega
  have hx2 : Bt 2 (x.fmod 2) := Gk (k := 3) rs.1 (by omega) (by decide)
  obtain ⟨o, eo, ho1, ho6⟩ := V1 (zs := [1, 1, 1, 2 + (x.fdiv 8).fmod 5]) (P := fun z => 1 ≤ z ∧ z ≤ 6) r4.1 r4.2 (by
    simp only [List.mem_cons, List.not_mem_nil, or_false]
    rintro z (rfl | rfl | rfl | rfl) <;> omega)
  simp only [List.map_cons, List.map_nil] at eo
  rw [eo]
  walk_at "rd"
  refine ⟨⟨by decide, by decide⟩, by decide, Bk (by decide), ⟨by decide, by decide⟩, by decide, Bk (by decide), ?_⟩
  have leaf : ∀ m : Int, 1 ≤ m → m ≤ 400 → (o = 1 ∨ m ≤ 12) → IntMulOk 2 m ∧ 2 * m ≠ 0 ∧ IntMulOk (y.fmod (2 * m)) (y.fmod (2 * m)) ∧ IntMulOk 4 m ∧ 4 * m ≠ 0 ∧ IntMulOk o o ∧ CDv 4000 (o * o) ∧ IntMulOk 4 m ∧ IntMulOk 4 m ∧ CDv (Int.fdiv 4000 (o * o) - (y.fmod (2 * m) * y.fmod (2 * m)).fmod (4 * m)) (4 * m) ∧ 1 + (Int.fdiv 4000 (o * o) - (y.fmod (2 * m) * y.fmod (2 * m)).fmod (4 * m)).fdiv (4 * m) ≠ 0 ∧ IntMulOk (4 * m) (z.fmod (1 + (Int.fdiv 4000 (o * o) - (y.fmod (2 * m) * y.fmod (2 * m)).fmod (4 * m)).fdiv (4 * m))) ∧ (2 : Int) ≠ 0 ∧ IntMulOk 2 (x.fmod 2) ∧ IntMulOk o (1 - 2 * x.fmod 2) ∧ IntMulOk (o * (1 - 2 * x.fmod 2)) m ∧ IntMulOk o (y.fmod (2 * m)) ∧ IntMulOk (y.fmod (2 * m)) (y.fmod (2 * m)) ∧ IntMulOk 4 m ∧ CDv (y.fmod (2 * m) * y.fmod (2 * m) - ((y.fmod (2 * m) * y.fmod (2 * m)).fmod (4 * m) + 4 * m * z.fmod (1 + (Int.fdiv 4000 (o * o) - (y.fmod (2 * m) * y.fmod (2 * m)).fmod (4 * m)).fdiv (4 * m)))) (4 * m) ∧ IntMulOk (o * (1 - 2 * x.fmod 2)) ((y.fmod (2 * m) * y.fmod (2 * m) - ((y.fmod (2 * m) * y.fmod (2 * m)).fmod (4 * m) + 4 * m * z.fmod (1 + (Int.fdiv 4000 (o * o) - (y.fmod (2 * m) * y.fmod (2 * m)).fmod (4 * m)).fdiv (4 * m)))).fdiv (4 * m)) ∧ 3 ≤ sizeLine ∧ Q (T3 (o * (1 - 2 * x.fmod 2) * m) (o * y.fmod (2 * m)) (o * (1 - 2 * x.fmod 2) * ((y.fmod (2 * m) * y.fmod (2 * m) - ((y.fmod (2 * m) * y.fmod (2 * m)).fmod (4 * m) + 4 * m * z.fmod (1 + (Int.fdiv 4000 (o * o) - (y.fmod (2 * m) * y.fmod (2 * m)).fmod (4 * m)).fdiv (4 * m)))).fdiv (4 * m)))) := fun m m1 m4 hmo => by
    obtain ⟨_, _, _, _, rfl, rfl, rfl, rfl, hb, hr', hk, hne, hd, hbar, hmr, p1, p2, p3⟩ := Pr (y := y) (z := z) ho1 ho6 m1 m4 hmo hs
    have bm : Bt 9 m := Gk (k := 400) (by omega) m4 (by decide)
    have bo : Bt 3 o := Gk (k := 6) (by omega) ho6 (by decide)
    have bb : Bt 10 (y.fmod (2 * m)) := Gk (k := 800) hb.1 hb.2 (by decide)
    have bk := Gk (n := 12) (k := 4000) hk.1 hk.2 (by decide)
    have bs : Bt 2 (1 - 2 * x.fmod 2) := by rcases hs with e | e <;> rw [e] <;> exact Bt.of_abs (by decide)
    have two : Bt 2 2 := Bt.of_abs (by decide)
    have four : Bt 3 4 := Bt.of_abs (by decide)
    have oo : 1 ≤ o * o := sq_pos (by omega)
    have d4 := fun x => Bt.divOk (x := x) (four.mul bm) (by omega)
    exact ⟨two.mulOk bm, by omega, bb.mulOk bb, four.mulOk bm, by omega, bo.mulOk bo, Bt.divOk (bo.mul bo) (by omega), four.mulOk bm, four.mulOk bm, d4 _, hne, (four.mul bm).mulOk bk, by decide, two.mulOk hx2, bo.mulOk bs, (bo.mul bs).mulOk bm, bo.mulOk bb, bb.mulOk bb, four.mulOk bm, d4 _, (bo.mul bs).mulOk hd, Bk (by decide), q _ ⟨(_, _, _), rfl, ⟨((bo.mul bs).mul bm).le (by decide), (bo.mul bb).le (by decide), ((bo.mul bs).mul hd).le (by decide)⟩, p1, p2, p3⟩⟩
  by_cases h1 : 1 < o
  · exact ift (decide_eq_true h1) ⟨⟨by decide, by decide⟩, by decide, leaf _ (by omega) (by omega) (.inr (by omega))⟩
  · refine Ez (decide_eq_false h1) ⟨⟨by decide, by decide⟩, by decide, ?_⟩
    by_cases h2 : (x.fdiv 40).fmod 2 = 1
    · rw [decide_eq_true h2]
      exact ⟨⟨by decide, by decide⟩, by decide, leaf _ (by omega) (by omega) (.inr (by omega))⟩
    · rw [decide_eq_false h2]
      exact ⟨⟨by decide, by decide⟩, by decide, leaf _ (by omega) (by omega) (.inl (by omega))⟩
noncomputable abbrev Em : DSp := CW (fun p : I3 × Int => [t3 p.1, .int p.2]) (fun p => B3 2000 p.1 ∧ p.1.2.2 ≠ 0 ∧ Bt 2000 p.2) fun p => t3 (mov p.1 (Bu p.1 p.2))
theorem Ji (T : Txt K mg)
    (G__law_bar : Pm P w K mg base 1 "_law_bar" Cj ["_law_form"] Eo)
    : Pm P w K mg base 2 "_law_behind" BJ ["_law_form", "_law_top"] Em := by
  obtain ⟨f, fd, F⟩ := T.t__law_behind
  refine ⟨f, fd, F, F.fn.okD Cp (by walk_at "lE") fun cdv A outer s H E hr => ⟨_, (Ad (AaO (dv 0) (Zz (n := 3) rfl (Jk (Iv 2 Cp.nd) (Jk (Iv 3 Cp.nd) (Jk (Iv 4 Cp.nd) VR))))) (Ad (Ao 5 Cp.nd (Ec (dv 1) (Ek (Bm (dv 1) (dv 3)) (Ak Ab (HX T.z_abs (Aa (dv 4) Af)))))) (Ai (Av (DP (Aa (dv 4) (Aa (dv 5) (Aa (Cm (Ec (Ak (dv 5) (dv 5)) (Ag Ae G__law_bar (hr.mono (by decide)) rfl (Aa (dv 0) Af))) (Ak Ab (dv 4))) Af)))))))), fun ds Q h => ?_⟩⟩
  obtain ⟨⟨f, top⟩, rfl, ⟨hf, h0, ht⟩, q⟩ := h
  have hf : B3 2000 f := hf
  have h0 : f.2.2 ≠ 0 := h0
  have ht : Bt 2000 top := ht
  have q' := q _ rfl
  dsimp only at q'
  obtain ⟨e, he⟩ := Hh (top := top) h0
  have hm := Bp (f := f) (t := Bu f top) Bq
  rw [he] at q' hm
  have two : Bt 2 2 := Bt.of_abs (by decide)
  have four : Bt 3 4 := Bt.of_abs (by decide)
  have hac : 2 * ab f.2.2 ≠ 0 := by rcases Al f.2.2 with ⟨_, e⟩ | ⟨_, e⟩ <;> omega
  have ⟨d1, d2⟩ := Ga (top := top) h0
  have hd : Bt 2005 (dB f top) := by
    have h1 := two.mul (Qp hf.2.2)
    have h2 := ht.sub h1
    have h3 : Bt 2004 (top - 2 * ab f.2.2) := h2.le (by decide)
    unfold Bt at *
    omega
  have em : dB f top * dB f top - meas f = 4 * f.2.2 * e := by rw [← hm]; simp only [meas]; omega
  obtain ⟨a, b, c⟩ := f
  walk_at "go"
  refine ⟨two.mulOk (Qp hf.2.2), hac, ?_⟩
  have edB : top - (top + b).fmod (2 * ab c) = dB (a, b, c) top := rfl
  rw [edB]
  refine ⟨hd.mulOk hd, Am (a, b, c) (hf.le (by decide)) ⟨four.mulOk hf.2.2, Bt.divOk (four.mul hf.2.2) (by have : c ≠ 0 := h0; omega), Bk (by decide), ?_⟩⟩
  rw [em, Int.mul_fdiv_cancel_left _ (by have : c ≠ 0 := h0; show 4 * c ≠ 0; omega)]
  exact q'
theorem K8 {f : I3} (h0 : 0 ≤ meas f) (h4 : meas f ≤ 4000) (hn : ¬ FQ (meas f)) : Sad f := ⟨hn, by
  rcases Int.lt_or_le 0 (meas f) with z | z
  · exact z
  · exact absurd ⟨0, by omega⟩ hn, h4⟩
theorem Fq {far : Int} {g : I3} {N : Nat} (e : rF far N g = g) : ∀ q, rF far (N * q) g = g
  | 0 => rfl
  | q + 1 => by rw [Nat.mul_succ, BL, Fq e q, e]
theorem Ir {far : Int} {g : I3} {N : Nat} (e : rF far N g = g) (n0 : 0 < N) (n : Nat) : ∃ i, i < N ∧ rF far n g = rF far (i + 1) g := by
  have h1 := Nat.mod_lt n n0
  have h2 := Nat.div_add_mod n N
  have h3 : rF far n g = rF far (n % N) g := by
    have : rF far (N * (n / N) + n % N) g = rF far (n % N) g := by rw [BL, Fq e]
    rw [h2] at this
    exact this
  rw [h3]
  generalize n % N = r at *
  match r, h1 with
  | 0, _ => exact ⟨N - 1, by omega, by rw [Nat.sub_add_cancel n0, e]; rfl⟩
  | j + 1, h1 => exact ⟨j, by omega, rfl⟩
theorem HD {far : Int} {g h : I3} {N m : Nat} (e : rF far N h = h) (n0 : 0 < N) (k : rF far m h = g) : ∃ j, rF far j g = h := by
  refine ⟨N * m - m, ?_⟩
  rw [← k, ← BL]
  have : m ≤ N * m := Nat.le_mul_of_pos_left m n0
  rw [show m + (N * m - m) = N * m by omega, Fq e]
theorem Sx {far : Int} {g h : I3} {N m k l : Nat} (eg : rF far N g = g) (eh : rF far N h = h) (n0 : 0 < N) (hm : rF far m g = h)
    (lg : ∀ i, i < N → HT.lexLt (Dc (rF far (i + 1) g)) (Dc (rF far (k + 1) g)) = false) (lh : ∀ i, i < N → HT.lexLt (Dc (rF far (i + 1) h)) (Dc (rF far (l + 1) h)) = false) : rF far (k + 1) g = rF far (l + 1) h := by
  obtain ⟨j, hj⟩ := HD eg n0 hm
  obtain ⟨i1, a1, b1⟩ := Ir eg n0 (m + (l + 1))
  obtain ⟨i2, a2, b2⟩ := Ir eh n0 (j + (k + 1))
  have h1 := lg i1 a1
  have h2 := lh i2 a2
  rw [← b1, BL, hm] at h1
  rw [← b2, BL, hj] at h2
  generalize rF far (k + 1) g = x at *
  generalize rF far (l + 1) h = y at *
  have n1 := fun z => Bool.eq_false_iff.mp h1 ((R5 y x).mpr z)
  have n2 := fun z => Bool.eq_false_iff.mp h2 ((R5 x y).mpr z)
  obtain ⟨x1, x2, x3⟩ := x
  obtain ⟨y1, y2, y3⟩ := y
  simp only at n1 n2
  have e1 : x1 = y1 := by
    rcases Int.lt_trichotomy x1 y1 with z | z | z
    · exact absurd (.inl z) n2
    · exact z
    · exact absurd (.inl z) n1
  have e2 : x2 = y2 := by
    rcases Int.lt_trichotomy x2 y2 with z | z | z
    · exact absurd (.inr ⟨e1, .inl z⟩) n2
    · exact z
    · exact absurd (.inr ⟨e1.symm, .inl z⟩) n1
  have e3 : x3 = y3 := by
    rcases Int.lt_trichotomy x3 y3 with z | z | z
    · exact absurd (.inr ⟨e1, .inr ⟨e2, z⟩⟩) n2
    · exact z
    · exact absurd (.inr ⟨e1.symm, .inr ⟨e2.symm, z⟩⟩) n1
  rw [e1, e2, e3]
theorem O6 {f h : I3} {t0 t1 x : I4} {far far' : Int} {N M k l : Nat} (A : Gb f t0 far N) (B : Gb h t1 far' M) (dx : det x = 1) (e : mov f x = h)
    (la : ∀ i, i < N → HT.lexLt (Dc (rF far (i + 1) (mov f t0))) (Dc (rF far (k + 1) (mov f t0))) = false) (lb : ∀ i, i < M → HT.lexLt (Dc (rF far' (i + 1) (mov h t1))) (Dc (rF far' (l + 1) (mov h t1))) = false) :
    DN far (rF far (k + 1) (mov f t0)) N = DN far' (rF far' (l + 1) (mov h t1)) M := by
  have ef : far = far' := A.r.uniq (by have := B.r; rw [← e, Bp dx] at this; exact this)
  subst ef
  have e1 : mov (mov f t0) (Aj (Aw t0) (Aj x t1)) = mov h t1 := by rw [← Bh, Dp A.d, ← Bh, e]
  have d1 : det (Aj (Aw t0) (Aj x t1)) = 1 := by rw [Dy, Dy, Fe, A.d, dx, B.d]; rfl
  have en : N = M := (R6 A.v B.v d1 e1 A.e A.l B.e B.l A.n B.n).1
  subst en
  have hm : ∃ m, rF far m (mov f t0) = mov h t1 := by
    rcases Je A.v B.v d1 e1 with ⟨m, s⟩ | ⟨m, s⟩
    · exact ⟨m, by rw [← El, ← s.mov, e1]⟩
    · have e2 : mov (mov h t1) (Aw (Aj (Aw t0) (Aj x t1))) = mov f t0 := by rw [← e1, Dp d1]
      exact HD (m := m) B.e B.n (by rw [← El, ← s.mov, e2])
  obtain ⟨m, hm⟩ := hm
  rw [Sx A.e B.e A.n hm la lb]
noncomputable def Nh (f : I3) : Nat := ((f.2.1 - 1) / 2 * 127 + (f.1 + 63)).toNat
theorem AaM {a b c a' b' c' : Int} (h : b * b - 4 * a * c = b' * b' - 4 * a' * c') : b % 2 = b' % 2 := by
  have e1 : 4 * a * c = 4 * (a * c) := Int.mul_assoc 4 a c
  have e2 : 4 * a' * c' = 4 * (a' * c') := Int.mul_assoc 4 a' c'
  have k1 : b * b % 2 = b % 2 := by
    rcases (show b % 2 = 0 ∨ b % 2 = 1 by omega) with z | z <;> rw [Int.mul_emod, z] <;> rfl
  have k2 : b' * b' % 2 = b' % 2 := by
    rcases (show b' % 2 = 0 ∨ b' % 2 = 1 by omega) with z | z <;> rw [Int.mul_emod, z] <;> rfl
  omega
theorem Rm {far : Int} {f g : I3} (hf : Lv far f) (hg : Lv far g) (hm : meas f = meas g) (h : Nh f = Nh g) : f = g := by
  have rf := hf.range
  have rg := hg.range
  have ha := QL hf.S
  obtain ⟨a, b, c⟩ := f
  obtain ⟨a', b', c'⟩ := g
  simp only [Nh] at h rf rg ha
  have par := AaM (show b * b - 4 * a * c = b' * b' - 4 * a' * c' from hm)
  have e1 : a = a' := by omega
  have e2 : b = b' := by omega
  subst e1 e2
  have e3 : 4 * a * c = 4 * a * c' := by simp only [meas] at hm; omega
  have : c = c' := Int.eq_of_mul_eq_mul_left (show 4 * a ≠ 0 by omega) e3
  rw [this]
theorem Xy {far : Int} {f : I3} {N : Nat} (h : Lv far f) (l : ∀ j, 0 < j → j < N → rF far j f ≠ f) : N ≤ 4064 := by
  obtain ⟨i, j, hij, hj, e⟩ := Te 4064 (fun i => Nh (rF far i f)) (fun i _ => by
    have := (Lv.rF i h).range
    unfold Nh
    omega)
  have e' := Rm (Lv.rF i h) (Lv.rF j h) (by rw [Dl, Dl]) e
  obtain ⟨k, rfl⟩ : ∃ k, j = k + i := ⟨j - i, by omega⟩
  rw [BL k i f] at e'
  have ek := (Dw i h (Lv.rF k h) (by rw [Dl]) e').symm
  rcases Nat.lt_or_ge k N with z | z
  · exact absurd ek (l k (by omega) z)
  · omega
structure Rnd (f : I3) (far : Int) (z : I3) (N : Nat) : Prop where
  b : B3 1500 f
  S : Sad f
  r : Sq (meas f) far
  v : Lv far z
  n : 0 < N
  m : N ≤ 4064
  e : rF far N z = z
  l : ∀ j, 0 < j → j < N → rF far j z ≠ z
  t : ∃ t, det t = 1 ∧ mov f t = z
  low : ∀ i, HT.lexLt (Dc (rF far i z)) (Dc z) = false
theorem Vh {f : I3} {t0 : I4} {far : Int} {N k : Nat} (hb : B3 1500 f) (hS : Sad f) (R : Gb f t0 far N) (kN : k < N) (la : ∀ i, i < N → HT.lexLt (Dc (rF far (i + 1) (mov f t0))) (Dc (rF far (k + 1) (mov f t0))) = false) : Rnd f far (rF far (k + 1) (mov f t0)) N := by
  have com : ∀ j, rF far j (rF far (k + 1) (mov f t0)) = rF far (k + 1) (rF far j (mov f t0)) := fun j => by rw [← BL, ← BL, Nat.add_comm]
  have hl : ∀ j, 0 < j → j < N → rF far j (rF far (k + 1) (mov f t0)) ≠ rF far (k + 1) (mov f t0) := fun j j0 jN e => by
    rw [com] at e
    exact R.l j j0 jN (Dw (k + 1) (Lv.rF j R.v) R.v (by rw [Dl]) e)
  have hv := Lv.rF (k + 1) R.v
  refine ⟨hb, hS, R.r, hv, R.n, Xy hv hl, by rw [com, R.e], hl, ⟨Aj t0 (rT far (k + 1) (mov f t0)), by rw [Dy, R.d, Mf]; rfl, by rw [← Bh, El]⟩, fun i => ?_⟩
  obtain ⟨i', h1, h2⟩ := Ir R.e R.n (k + 1 + i)
  rw [← BL, h2]
  exact la i' h1
noncomputable abbrev GD : DSp := spec (fun p : I3 × Int => [t3 p.1, .int p.2]) (fun p => B3 1500 p.1 ∧ Sad p.1 ∧ Sq (meas p.1) p.2) fun p d => ∃ t, d = t3 (mov p.1 t) ∧ det t = 1 ∧ Level (mov p.1 t) p.2
theorem J3 (T : Txt K mg)
    (G__law_level : Pm P w K mg base 1 "_law_level" Cv ["_law_form", "_law_far"] GJ)
    (G__law_behind : Pm P w K mg base 2 "_law_behind" BJ ["_law_form", "_law_top"] Em)
    : Pm P w K mg base 3 "_law_eased" Cu ["_law_form", "_law_far"] GD := by
  obtain ⟨f, fd, F⟩ := T.t__law_eased
  refine ⟨f, fd, F, F.fn.okD GC (by walk_at "lE") fun cdv A outer s H E hr => ⟨_, (Ad (Gi PassesOwn.never (Gm (Dz (Ag Ae G__law_level (hr.mono (by decide)) rfl (Aa (dv 0) (Aa (dv 1) Af))))) (Ai (Ao 0 GC.nd (Ag Ae G__law_behind (hr.mono (by decide)) rfl (Aa (dv 0) (Aa (S5 T.z_max (Aa (dv 1) (Aa (HX T.z_abs (Aa (Ac (dv 0) Ab) Af)) Af))) Af)))))) (Ai (Av (dv 0)))), fun ds Q h => ?_⟩⟩
  obtain ⟨⟨f, far⟩, rfl, ⟨hb, hS, hr'⟩, q⟩ := h
  have hS : Sad f := hS
  have hb : B3 1500 f := hb
  have hr' : Sq (meas f) far := hr'
  walk_at "go"
  have f63 := HS hr' hS.most
  have far0 := hr'.1
  have hfar : Bt 7 far := Bt.of (by omega) (by omega)
  have hs1 : 1 ≤ 1500 := by decide
  refine Gh (fun m ρ => ∃ t, ρ = [some (.is (t3 (mov f t))), some (.is (.int far))] ∧ Il 1500 far f t ∧ m = eM far (mov f t)) _ ⟨(1, 0, 0, 1), by rw [Ei], Il.start hs1 hb, rfl⟩ ?_
  rintro m _ ⟨t, rfl, hI, rfl⟩
  have hd := hI.1
  have hg := hI.2.1
  have ht := hI.b4
  walk_at "rd"
  refine Am (mov f t, far) (hg.le (by decide)) ?_
  walk_at "rd"
  by_cases hL : Level (mov f t) far
  · exact Ez (by rw [decide_eq_true hL]; rfl) (q _ ⟨t, rfl, hd, hL⟩)
  · refine ift (by rw [decide_eq_false hL]; rfl) ?_
    have hst := Kq (by decide) hS hr' hI hL
    have et : (if ab (mov f t).2.2 > far then ab (mov f t).2.2 else far) = (if far > ab (mov f t).2.2 then far else ab (mov f t).2.2) := by split <;> split <;> omega
    have btop : Bt 2000 (if far > ab (mov f t).2.2 then far else ab (mov f t).2.2) := by
      split
      · exact hfar.le (by decide)
      · exact (Qp hg.2.2).le (by decide)
    refine Am (mov f t, if ab (mov f t).2.2 > far then ab (mov f t).2.2 else far) ⟨hg.le (by decide), Ef (hS.mov hd), by rw [et]; exact btop⟩ ?_
    dsimp only
    rw [et, Bh]
    exact ⟨_, hst.2.1, _, rfl, hst.1, rfl⟩
noncomputable def rowsOf (far : Int) (z : I3) (N : Nat) : List (List Int) := (List.range N).map fun i => Dc (rF far i z)
theorem Ot {far : Int} {z : I3} {N : Nat} : DN far z N = .lst ((rowsOf far z N).map BP) := by
  unfold rowsOf
  rw [List.map_map]
  rfl
theorem Xe {far : Int} {z : I3} {N : Nat} (e : rF far N z = z) (n0 : 0 < N) (m : Nat) : ∃ i, i < N ∧ rF far m z = rF far i z := by
  obtain ⟨i, h1, h2⟩ := Ir e n0 m
  rcases Nat.lt_or_ge (i + 1) N with k | k
  · exact ⟨i + 1, k, h2⟩
  · have : i + 1 = N := by omega
    rw [this, e] at h2
    exact ⟨0, n0, h2⟩
theorem Rnd.mem {f : I3} {far : Int} {z : I3} {N : Nat} (R : Rnd f far z N) {t : I4} (dt : det t = 1) (hL : Level (mov f t) far) : Dc (mov f t) ∈ rowsOf far z N := by
  have hv : Lv far (mov f t) := ⟨R.S.mov dt, by rw [Bp dt]; exact R.r, hL⟩
  obtain ⟨t1, d1, e1⟩ := R.t
  have e2 : mov z (Aj (Aw t1) t) = mov f t := by rw [← e1, ← Bh, Dp d1]
  have d2 : det (Aj (Aw t1) t) = 1 := by rw [Dy, Fe, d1, dt]; rfl
  have hm : ∃ m, rF far m z = mov f t := by
    rcases Je R.v hv d2 e2 with ⟨m, s⟩ | ⟨m, s⟩
    · exact ⟨m, by rw [← El, ← s.mov, e2]⟩
    · obtain ⟨M, M0, _, eM, _⟩ := Ig hv
      have e3 : mov (mov f t) (Aw (Aj (Aw t1) t)) = z := by rw [← e2, Dp d2]
      exact HD (m := m) eM M0 (by rw [← El, ← s.mov, e3])
  obtain ⟨m, hm⟩ := hm
  obtain ⟨i, h1, h2⟩ := Xe R.e R.n m
  exact List.mem_map.mpr ⟨i, List.mem_range.mpr h1, by rw [← h2, hm]⟩
theorem Js {far : Int} {z : I3} {N i : Nat} (h : i < N) : ixD (i : Int) (DN far z N) = some (t3 (rF far i z)) := by
  obtain ⟨d, e1, e2, e3⟩ := Aai (ds := (List.range N).map fun i => t3 (rF far i z)) (k := (i : Int)) (by omega) (by rw [List.length_map, List.length_range]; omega)
  rw [e1, ← e3, List.getElem?_map, Int.toNat_natCast, List.getElem?_range h]
  rfl
theorem Ug {far : Int} {z : I3} {N m : Nat} (e : rF far N z = z) : rF far (m % N) z = rF far m z := by
  have h2 := Nat.div_add_mod m N
  have : rF far (N * (m / N) + m % N) z = rF far (m % N) z := by rw [BL, Fq e]
  rw [h2] at this
  exact this.symm
theorem Rnd.nd {f : I3} {far : Int} {z : I3} {N : Nat} (R : Rnd f far z N) : (rowsOf far z N).Nodup := by
  unfold rowsOf
  refine List.pairwise_iff_getElem.mpr fun i j hi hj hij => ?_
  rw [List.length_map, List.length_range] at hi hj
  rw [List.getElem_map, List.getElem_map, List.getElem_range, List.getElem_range]
  intro e
  unfold Dc at e
  simp only [List.cons.injEq, and_true] at e
  have e : rF far i z = rF far j z := Prod.ext e.1 (Prod.ext e.2.1 e.2.2)
  have e2 : rF far j z = rF far i (rF far (j - i) z) := by rw [← BL, show j - i + i = j by omega]
  rw [e2] at e
  exact R.l (j - i) (by omega) (by omega) (Dw i R.v (Lv.rF (j - i) R.v) (Dl (j - i) z).symm e).symm
theorem Ky {ti : DTI} {g : DTG} {tb : DTS} {D : Dr} {ρ : Bj} (h : ti ρ fun items => Sh (fun _ R => R items) g tb D ρ) : Sh ti g tb D ρ := h
noncomputable abbrev G5 : DSp := CW (fun p : I3 × Int × I3 × Nat => [t3 p.1, DN p.2.1 p.2.2.1 p.2.2.2]) (fun p => Rnd p.1 p.2.1 p.2.2.1 p.2.2.2) fun _ => .bl true
theorem Lw (T : Txt K mg)
    (G__law_root : Pm P w K mg base 1 "_law_root" Ck ["_law_number"] Fj)
    (G__law_bar : Pm P w K mg base 1 "_law_bar" Cj ["_law_form"] Eo)
    (G__law_eased : Pm P w K mg base 3 "_law_eased" Cu ["_law_form", "_law_far"] GD)
    (G__law_behind : Pm P w K mg base 2 "_law_behind" BJ ["_law_form", "_law_top"] Em)
    (G__law_wholes : Pm P w K mg base 2 "_law_wholes" BK ["_law_found", "_law_many"] Dm)
    : Pm P w K mg base 4 "_law_good" CV ["_law_form", "_law_found"] G5 := by
  obtain ⟨f, fd, F⟩ := T.t__law_good
  refine ⟨f, fd, F, F.fn.okD Fl (by walk_at "lE") fun cdv A outer s H E hr => ⟨_, (Ad (Ao 2 Fl.nd (Ag Ae G__law_root (hr.mono (by decide)) rfl (Aa (Ag Ae G__law_bar (hr.mono (by decide)) rfl (Aa (dv 0) Af)) Af))) (Ad (Ds (DW.dt (Kz (Gm (Dz (LQ T.z_isinstance T.z_list Tp (dv 1)))) (Kz (S8 hr.units (G3 T.z_len (Aa (dv 1) Af)) Ab) (LR (Xn hr.units (Ag Ae G__law_eased (hr.mono (by decide)) rfl (Aa (dv 0) (Aa (dv 2) Af))) (dv 1)))))) (Ai (Av Jj)) Bs) (Ad (Aah PassesOwn.never rfl (Xp rfl T.z_range (Aa (G3 T.z_len (Aa (dv 1) Af)) Af)) (Iv 3 Fl.nd) (Ad (Ds (DW.dt (Kz (Gm (Dz (Ag Ae G__law_wholes (hr.mono (by decide)) rfl (Aa (Ac (dv 1) (dv 3)) (Aa Ab Af))))) (Kz (YX hr.units (Ac (dv 1) (dv 3)) (Ac (dv 1) Ab)) (LR (DW.dt (AaA (M6 (dv 3) Ab) (Wb (S8 hr.units (Ac (dv 1) (dv 3)) (Ac (dv 1) Ab))))))))) (Ai (Av Jj)) Bs) (Ai (Ds (Mz hr.units (Ac (dv 1) (Ek (Bm (dv 3) Ab) (G3 T.z_len (Aa (dv 1) Af)))) (Ag Ae G__law_behind (hr.mono (by decide)) rfl (Aa (Ac (dv 1) (dv 3)) (Aa (dv 2) Af)))) (Ai (Av Jj)) Bs)))) (Ai (Av (Jl hr.units (RB T.z_len T.z_set (Ael hr.units) rfl (dv 1)) (G3 T.z_len (Aa (dv 1) Af)))))))), fun ds Q h => ?_⟩⟩
  obtain ⟨⟨f, far, z, N⟩, rfl, R, q⟩ := h
  have R : Rnd f far z N := R
  have q' : Q (.bl true) := q _ rfl
  walk_at "go"
  refine Am f (R.b.le (by decide)) (Br (meas f) (Jd R.S) ?_)
  rintro _ ⟨far', rfl, hr', hfb⟩
  obtain rfl := hr'.uniq R.r
  walk_at "rd"
  have n0 := R.n
  have nm := R.m
  have f63 := HS R.r R.S.most
  have far0 := R.r.1
  have hfar : Bt 7 far' := Bt.of (by omega) (by omega)
  refine Ez (decide_eq_false (by rw [List.length_range]; omega)) ?_
  refine Br (f, far') ⟨R.b, R.S, R.r⟩ ?_
  rintro _ ⟨t, rfl, dt, hL⟩
  refine ⟨Dc (mov f t), rowsOf far' z N, rfl, Ot, Ez (by rw [decide_eq_true (R.mem dt hL)]; rfl) ?_⟩
  refine Ky ?_
  walk_at "rd"
  rw [List.length_range]
  refine ⟨by omega, ?_⟩
  refine Wz (ups 0 N) (fun R h => h) (fun i ρ => ∃ x, ρ = [some (.is (t3 f)), some (.is (DN far' z N)), some (.is (.int far')), x]) ⟨_, rfl⟩ ?_ ?_
  · rintro i d _ hi ⟨x, rfl⟩
    obtain ⟨iN, rfl⟩ := Rj hi
    have ei : (0 + (i : Int)) = ((i : Nat) : Int) := Int.zero_add _
    have x1 : ixD (0 + (i : Int)) (DN far' z N) = some (t3 (rF far' i z)) := by rw [ei]; exact Js iN
    have x0 : ixD 0 (DN far' z N) = some (t3 z) := Js (i := 0) n0
    have x2 : ixD ((0 + (i : Int) + 1).fmod ((List.range N).length : Int)) (DN far' z N) = some (t3 (rF far' (i + 1) z)) := by
      rw [List.length_range, ei, show ((i : Int) + 1) = ((i + 1 : Nat) : Int) by omega, Int.fmod_eq_emod_of_nonneg _ (by omega), ← Int.natCast_emod, Js (Nat.mod_lt _ n0), Ug R.e]
    have hv := Lv.rF i R.v
    have bz := Ni hv.S hv.r hv.L
    have fl : ∀ g : I3, Dt.flat 8 (t3 g) = true := fun g => by rw [QF]; exact Ht (Dc g)
    walk_at "rd"
    rw [x1, x0, x2]
    refine XS _ _ _ ?_
    refine ⟨Dc (rF far' i z), Dc z, rfl, rfl, Ez (R.low i) ?_⟩
    have tail : ∃ x, [some (En.is (t3 f)), some (En.is (DN far' z N)), some (En.is (Dt.int far')), some (En.is (Dt.int (0 + (i : Int))))] = [some (En.is (t3 f)), some (En.is (DN far' z N)), some (En.is (Dt.int far')), x] := ⟨_, rfl⟩
    refine Ju (fun h0 => ⟨⟨fl _, fl _⟩, Ez ?_ ?_⟩) (fun _ => ?_)
    · have h0 := of_decide_eq_true h0
      rw [Td, decide_eq_false (R.l i (by omega) iN)]
    all_goals exact ⟨by rw [List.length_range]; omega, Am (rF far' i z, far') ⟨bz.le (by decide), Ef hv.S, hfar.le (by decide)⟩ ⟨⟨fl _, fl _⟩, Ez (by rw [Td, decide_eq_true K6]; rfl) tail⟩⟩
  · rintro _ ⟨x, rfl⟩
    walk_at "rd"
    have el : (rowsOf far' z N).length = N := by unfold rowsOf; rw [List.length_map, List.length_range]
    refine ⟨_, Dt.lst.inj Ot, R.nd, by rw [el]; omega, ?_⟩
    rw [el, List.length_range, decide_eq_true rfl]
    exact q'
theorem Hs (F : Nat → I3) (js : List Nat) : Dt.flats 7 (js.map fun i => t3 (F i)) = true := by
  induction js with
  | nil => rw [List.map_nil, Dt.flats]
  | cons j js ih => rw [List.map_cons, Dt.flats, ih, Bool.and_true]; simp only [Qi, Qk, Qz, S9, Bool.and_true]
theorem Tg (F : Nat → I3) (js : List Nat) : Dt.eqs (js.map fun i => t3 (F i)) (js.map fun i => t3 (F i)) = true := by
  induction js with
  | nil => rw [List.map_nil, Dt.eqs]
  | cons j js ih => rw [List.map_cons, Dt.eqs, ih, Bool.and_true, Td, decide_eq_true rfl]
theorem WQ (F : Nat → I3) (js : List Nat) : Dt.noLs 4 (js.map fun i => t3 (F i)) = true := by
  induction js with
  | nil => rw [List.map_nil, Dt.noLs]
  | cons j js ih => rw [List.map_cons, Dt.noLs, ih, Bool.and_true]; simp only [Uc, Ox, Vu, Yp, Bool.and_true]
theorem Zo (T : Txt K mg)
    (G__law_saddle : Pm P w K mg base 1 "_law_saddle" Cd ["_law_one", "_law_two", "_law_three"] FN)
    (G__law_flat : Pm P w K mg base 2 "_law_flat" CQ ["_law_form"] G7)
    (G_round_of : Pm P w K mg base 7 "round_of" CP ["form"] Ib)
    (G__law_cell : Pm P w K mg base 1 "_law_cell" CT ["_law_script", "_law_k"] Fw)
    (G__law_good : Pm P w K mg base 4 "_law_good" CV ["_law_form", "_law_found"] G5)
    : Pm P w K mg base 8 "law" G9 ["_law_script"] Li := by
  obtain ⟨f, fd, F⟩ := T.t_law
  refine ⟨f, fd, F, F.fn.okD Gf (by walk_at "lE") fun cdv A outer s H E hr => ⟨_, (Ad (Ao 1 Gf.nd (Ag Ae G__law_saddle (hr.mono (by decide)) rfl (Aa (Ag Ae G__law_cell (hr.mono (by decide)) rfl (Aa (dv 0) (Aa Ab Af))) (Aa (Ag Ae G__law_cell (hr.mono (by decide)) rfl (Aa (dv 0) (Aa Ab Af))) (Aa (Ag Ae G__law_cell (hr.mono (by decide)) rfl (Aa (dv 0) (Aa Ab Af))) Af))))) (Ad (Ao 2 Gf.nd (Ag Ae G__law_saddle (hr.mono (by decide)) rfl (Aa (Ag Ae G__law_cell (hr.mono (by decide)) rfl (Aa (dv 0) (Aa Ab Af))) (Aa (Ag Ae G__law_cell (hr.mono (by decide)) rfl (Aa (dv 0) (Aa Ab Af))) (Aa (Ag Ae G__law_cell (hr.mono (by decide)) rfl (Aa (dv 0) (Aa Ab Af))) Af))))) (Ad (Ds (Dz (Ag Ae G__law_flat (hr.mono (by decide)) rfl (Aa (dv 1) Af))) (Ai (Ao 1 Gf.nd (DP (Aa Ab (Aa Ab (Aa (Qc Ab) Af)))))) Bs) (Ad (Ds (Dz (Ag Ae G__law_flat (hr.mono (by decide)) rfl (Aa (dv 2) Af))) (Ai (Ao 2 Gf.nd (DP (Aa Ab (Aa Ab (Aa (Qc Ab) Af)))))) Bs) (Ad (TF 3 Gf.nd Ae G_round_of (hr.mono (by decide)) rfl (Aa (dv 1) Af)) (Ad (Ds (Qm 3 (Gm (Dz (Ag Ae G__law_good (hr.mono (by decide)) rfl (Aa (dv 1) (Aa (dv 3) Af)))))) (Ai (Av Jj)) Bs) (Ad (Ao 4 Gf.nd (TQ 3 T.z_list)) (Ad (Ao 5 Gf.nd (Ag Ae G_round_of (hr.mono (by decide)) rfl (Aa (dv 2) Af))) (Ad (Ds (Qm 3 (DW.dt (Kz (Gm (Dz (Ag Ae G__law_good (hr.mono (by decide)) rfl (Aa (dv 2) (Aa (dv 5) Af))))) (LR (Mz hr.units (dv 3) (dv 4)))))) (Ai (Av Jj)) Bs) (Ad (Ov 3 (DP (Aa Ab (Aa Ab (Aa Ab Af))))) (Ai (Av (Mj (Jl hr.units (Ag Ae G_round_of (hr.mono (by decide)) rfl (Aa (dv 1) Af)) (dv 4)) (JG (Ag Ae G__law_good (hr.mono (by decide)) rfl (Aa (dv 2) (Aa (dv 5) Af))))))))))))))))), fun ds Q h => ?_⟩⟩
  obtain ⟨ns, rfl, hn, q⟩ := h
  have hn : ns.length ≤ 63 := hn
  have q' : Q (.bl true) := q _ rfl
  simp only [Nx, Od, Nv]
  refine VG (fun ρ => ∃ f g : I3, (B3 1500 f ∧ Sad f ∧ B3 1500 g ∧ Sad g) ∧ ρ = [some (.is (.lst (ns.map Dt.int))), some (.is (t3 f)), some (.is (t3 g)), none, none, none]) (fun N hN => ?_) ?_
  · walk_at "rd"
    refine Gs ns 0 (by decide) (Gs ns 1 (by decide) (Gs ns 2 (by decide) (Br (_, _, _) trivial ?_)))
    rintro _ ⟨f, rfl, hf, h0, h4, _⟩
    walk_at "rd"
    refine Gs ns 3 (by decide) (Gs ns 4 (by decide) (Gs ns 5 (by decide) (Br (_, _, _) trivial ?_)))
    rintro _ ⟨g, rfl, hg, g0, g4, _⟩
    have hf15 := hf.le (m := 1500) (by decide)
    have hg15 := hg.le (m := 1500) (by decide)
    walk_at "rd"
    refine Br f ⟨hf15, h0⟩ ?_
    rintro _ ⟨b, rfl, hb⟩
    walk_at "rd"
    have S1 : Sad (1, 1, -1) := K8 (by decide) (by decide) fun z => by
      have := (Hl (r := 2) ⟨by decide, by decide, by decide⟩).mp z
      revert this
      decide
    have S2 : Sad (1, 0, -2) := K8 (by decide) (by decide) fun z => by
      have := (Hl (r := 2) ⟨by decide, by decide, by decide⟩).mp z
      revert this
      decide
    have bs : ∀ x : Int, -3 ≤ x → x ≤ 3 → Bt 1500 x := fun x h1 h2 => Bt.le (n := 3) (Bt.of (by omega) (by omega)) (by decide)
    have B1 : B3 1500 (1, 1, -1) := ⟨bs _ (by decide) (by decide), bs _ (by decide) (by decide), bs _ (by decide) (by decide)⟩
    have B2 : B3 1500 (1, 0, -2) := ⟨bs _ (by decide) (by decide), bs _ (by decide) (by decide), bs _ (by decide) (by decide)⟩
    have gr : ∀ b2 : Bool, (b2 = true ↔ FQ (meas g)) → ¬ b2 = true → Sad g := fun b2 hb2 z => K8 g0 g4 fun y => z (hb2.mpr y)
    refine Ju (fun _ => ⟨Bk (by decide), Br g ⟨hg15, g0⟩ ?_⟩) (fun nb => Br g ⟨hg15, g0⟩ ?_)
    · rintro _ ⟨b2, rfl, hb2⟩
      exact Ju (fun _ => ⟨Bk (by decide), hN _ ⟨(1, 1, -1), (1, 0, -2), ⟨B1, S1, B2, S2⟩, rfl⟩⟩) (fun n2 => hN _ ⟨(1, 1, -1), g, ⟨B1, S1, hg15, gr b2 hb2 n2⟩, rfl⟩)
    · rintro _ ⟨b2, rfl, hb2⟩
      have Sf : Sad f := K8 h0 h4 fun y => nb (hb.mpr y)
      exact Ju (fun _ => ⟨Bk (by decide), hN _ ⟨f, (1, 0, -2), ⟨hf15, Sf, B2, S2⟩, rfl⟩⟩) (fun n2 => hN _ ⟨f, g, ⟨hf15, Sf, hg15, gr b2 hb2 n2⟩, rfl⟩)
  rintro _ ⟨f, g, ⟨hf, Sf, hg, Sg⟩, rfl⟩
  walk_at "rd"
  refine ⟨by simp only [Ox, Vu, Uc, Yp, Bool.and_true], Br f ⟨hf, Sf⟩ ?_⟩
  rintro _ ⟨t0, far, N, k, R, kN, la, rfl⟩
  have A := Vh hf Sf R kN la
  have n0 := A.n
  have nm := A.m
  refine ⟨_, rfl, ⟨_, List.mem_map.mpr ⟨0, List.mem_range.mpr n0, rfl⟩⟩, WQ _ _, Am (f, far, _, N) A ?_⟩
  refine Ez rfl (Br g ⟨hg, Sg⟩ ?_)
  rintro _ ⟨t1, far2, M, k2, R2, kM, lb, rfl⟩
  have B := Vh hg Sg R2 kM lb
  refine Am (g, far2, _, M) B (Ez rfl ⟨⟨Hs _ _, Hs _ _⟩, Ez (by rw [Tg]; rfl) ⟨Bk (by decide), by rw [List.length_map, List.length_range]; exact Ip (by omega), Br f ⟨hf, Sf⟩ ?_⟩⟩)
  rintro _ ⟨t2, far3, N3, k3, R3, kN3, la3, rfl⟩
  have e := O6 R3 R (x := (1, 0, 0, 1)) (by decide) Ei la3 la
  rw [e]
  exact ⟨⟨by rw [QT]; exact Hs _ _, Hs _ _⟩, ift (by rw [Ys, Tg]) (Am (g, far2, _, M) B q')⟩
end
noncomputable abbrev nF (K : PySem.W.Frag) (n : Str) (s : Stmt) : Prop := ∃ (f : Addr) (oc : Value) (od : Option Addr) (kV dc pm : Value) (an : Option Addr) (cd ct : Value) (sl : Array (Option Value)), PySem.W.nsIn K mainGlobals n = some (some (.ref f)) ∧ K.lookup f = some ⟨oc, od, .func (PySem.W.fnOf n n (DY s) (Di s) (Ah s) .none kV dc pm an cd ct), sl⟩ ∧ PySem.W.codeIn K cd n = true ∧ PySem.W.keepIn K (.ref f) = true
theorem Yw {K : PySem.W.Frag} {n : Str} {s : Stmt} {f : Addr} {od an : Option Addr} {sl : Array (Option Value)} {oc kV dc pm cd ct : Value} (a : PySem.W.nsIn K mainGlobals n = some (some (.ref f))) (l : K.lookup f = some ⟨oc, od, .func (PySem.W.fnOf n n (DY s) (Di s) (Ah s) .none kV dc pm an cd ct), sl⟩) (c : PySem.W.codeIn K cd n = true) (k : PySem.W.keepIn K (.ref f) = true) : nF K n s := ⟨f, oc, od, kV, dc, pm, an, cd, ct, sl, a, l, c, k⟩
theorem tM {K : PySem.W.Frag} {h : Heap} {mg : Str → Option Value} {n : Str} {s : Stmt} {ps : List Str} (X : K.In h) (G : h.Ns mainGlobals mg) (H : nF K n s)
    (hb : ∀ (kV doc pm : Value) (an : Option Addr) (cdv ct : Value) (us : List Value), us.length = ps.length → bindArgs (PySem.W.fnOf n n (DY s) (Di s) (Ah s) .none kV doc pm an cdv ct) ⟨us, []⟩ = pure (ps.zip us)) : ∃ f fd, FnT K mg n s ps f fd := by
  obtain ⟨f, oc, od, kV, dc, pm, an, cd, ct, sl, a, l, c, k⟩ := H
  have F := Vi (st := s) l c k
  exact ⟨_, _, F, PySem.W.mg_of X G a, F.binds hb⟩
set_option maxHeartbeats 8000000 in
theorem all_mk {l : PySem.W.OpenLaw} {w : World} {K : PySem.W.Frag} {h : Heap} {mg : Str → Option Value} {fa : Addr} (X : K.In h) (G : h.Ns mainGlobals mg) (hfa : mg "law" = some (.ref fa))
    (h0 : nF K "root" Gg)
    (h1 : nF K "is_square" CZ)
    (h2 : nF K "check_at_most" Bv)
    (h3 : nF K "is_turn" Eb)
    (h4 : nF K "check_turn" Cw)
    (h5 : nF K "put_behind" Cq)
    (h6 : nF K "measure" Cy)
    (h7 : nF K "value" Gq)
    (h8 : nF K "moved" Gp)
    (h9 : nF K "middle" Fd)
    (h10 : nF K "shape" Gw)
    (h11 : nF K "check_saddle" Bo)
    (h12 : nF K "stands_level" BW)
    (h13 : nF K "turn_behind" Ce)
    (h14 : nF K "stop_behind" Bx)
    (h15 : nF K "eased" Gu)
    (h16 : nF K "stops_round" Ca)
    (h17 : nF K "round_of" CP)
    (h18 : nF K "_law_cell" CT)
    (h19 : nF K "_law_whole" Cr)
    (h20 : nF K "_law_wholes" BK)
    (h21 : nF K "_law_bar" Cj)
    (h22 : nF K "_law_root" Ck)
    (h23 : nF K "_law_flat" CQ)
    (h24 : nF K "_law_level" Cv)
    (h25 : nF K "_law_behind" BJ)
    (h26 : nF K "_law_saddle" Cd)
    (h27 : nF K "_law_eased" Cu)
    (h28 : nF K "_law_good" CV)
    (h29 : nF K "law" G9)
    (z_abs : PySem.W.nsIn K mainGlobals "abs" = some none)
    (z_bool : PySem.W.nsIn K mainGlobals "bool" = some none)
    (z_int : PySem.W.nsIn K mainGlobals "int" = some none)
    (z_isinstance : PySem.W.nsIn K mainGlobals "isinstance" = some none)
    (z_len : PySem.W.nsIn K mainGlobals "len" = some none)
    (z_list : PySem.W.nsIn K mainGlobals "list" = some none)
    (z_max : PySem.W.nsIn K mainGlobals "max" = some none)
    (z_min : PySem.W.nsIn K mainGlobals "min" = some none)
    (z_range : PySem.W.nsIn K mainGlobals "range" = some none)
    (z_set : PySem.W.nsIn K mainGlobals "set" = some none)
    (z_tuple : PySem.W.nsIn K mainGlobals "tuple" = some none)
    {C_SAME : Addr} {od_SAME : Option Addr} {sl_SAME : Array (Option Value)} {n_SAME : Nat} {t_SAME_0 : Tok} {t_SAME_1 : Tok} {t_SAME_2 : Tok} {t_SAME_3 : Tok}
    (a_SAME : PySem.W.nsIn K mainGlobals "SAME" = some (some (.ref C_SAME))) (l_SAME : K.lookup C_SAME = some ⟨.type "tuple", od_SAME, .seq #[.int (1) t_SAME_0, .int (0) t_SAME_1, .int (0) t_SAME_2, .int (1) t_SAME_3] n_SAME, sl_SAME⟩)
    {t_MOST_MEASURE : Tok} (a_MOST_MEASURE : PySem.W.nsIn K mainGlobals "MOST_MEASURE" = some (some (.int (4000) t_MOST_MEASURE)))
    : ∃ fd : FuncData, (∀ (s : Shared) (v : Value), BindsTo s fd ⟨[v], []⟩ [("_law_script", v)]) ∧ ∀ base : Heap, K.In base → base.Ns mainGlobals mg → Ii l.prog w K mg base CX0 8 fa fd ["_law_script"] (lSp K Li) := by
  obtain ⟨f29, oc29, od29, kV29, dc29, pm29, an29, cd29, ct29, sl29, a29, l29, c29, k29⟩ := h29
  have e := hfa.symm.trans (PySem.W.mg_of X G a29)
  cases e
  have F29 := Vi (st := G9) l29 c29 k29
  have T : Txt K mg := {
    t_root := tM X G h0 (by walk_at "b1")
    t_is_square := tM X G h1 (by walk_at "b1")
    t_check_at_most := tM X G h2 (by walk_at "b2")
    t_is_turn := tM X G h3 (by walk_at "b1")
    t_check_turn := tM X G h4 (by walk_at "b1")
    t_put_behind := tM X G h5 (by walk_at "b2")
    t_measure := tM X G h6 (by walk_at "b1")
    t_value := tM X G h7 (by walk_at "b2")
    t_moved := tM X G h8 (by walk_at "b2")
    t_middle := tM X G h9 (by walk_at "b3")
    t_shape := tM X G h10 (by walk_at "b1")
    t_check_saddle := tM X G h11 (by walk_at "b1")
    t_stands_level := tM X G h12 (by walk_at "b2")
    t_turn_behind := tM X G h13 (by walk_at "b2")
    t_stop_behind := tM X G h14 (by walk_at "b2")
    t_eased := tM X G h15 (by walk_at "b1")
    t_stops_round := tM X G h16 (by walk_at "b1")
    t_round_of := tM X G h17 (by walk_at "b1")
    t__law_cell := tM X G h18 (by walk_at "b2")
    t__law_whole := tM X G h19 (by walk_at "b1")
    t__law_wholes := tM X G h20 (by walk_at "b2")
    t__law_bar := tM X G h21 (by walk_at "b1")
    t__law_root := tM X G h22 (by walk_at "b1")
    t__law_flat := tM X G h23 (by walk_at "b1")
    t__law_level := tM X G h24 (by walk_at "b2")
    t__law_behind := tM X G h25 (by walk_at "b2")
    t__law_saddle := tM X G h26 (by walk_at "b3")
    t__law_eased := tM X G h27 (by walk_at "b2")
    t__law_good := tM X G h28 (by walk_at "b2")
    t_law := ⟨_, _, F29, PySem.W.mg_of X G a29, F29.binds (ps := ["_law_script"]) fun _ _ _ _ _ _ us hl => match us, hl with | [_], _ => rfl⟩
    z_abs := PySem.W.mg_none_of X G z_abs
    z_bool := PySem.W.mg_none_of X G z_bool
    z_int := PySem.W.mg_none_of X G z_int
    z_isinstance := PySem.W.mg_none_of X G z_isinstance
    z_len := PySem.W.mg_none_of X G z_len
    z_list := PySem.W.mg_none_of X G z_list
    z_max := PySem.W.mg_none_of X G z_max
    z_min := PySem.W.mg_none_of X G z_min
    z_range := PySem.W.mg_none_of X G z_range
    z_set := PySem.W.mg_none_of X G z_set
    z_tuple := PySem.W.mg_none_of X G z_tuple
    k_SAME := ⟨_, PySem.W.mg_of X G a_SAME, fun H => Ci.mpr ⟨_, [.int (1), .int (0), .int (0), .int (1)], rfl, .inr ⟨_, _, _, l_SAME, rfl, rfl, Bk (by show 4 ≤ 1000; decide), .cons ⟨_, rfl⟩ (.cons ⟨_, rfl⟩ (.cons ⟨_, rfl⟩ (.cons ⟨_, rfl⟩ (.nil))))⟩, RpL.cons (Ax.mpr rfl) (RpL.cons (Ax.mpr rfl) (RpL.cons (Ax.mpr rfl) (RpL.cons (Ax.mpr rfl) (RpL.nil))))⟩⟩
    m_MOST_MEASURE := ⟨_, PySem.W.mg_of X G a_MOST_MEASURE⟩
  }
  refine ⟨PySem.W.fnOf "law" "law" (DY G9) (Di G9) (Ah G9) .none kV29 dc29 pm29 an29 cd29 ct29, fun s v => .of_eq rfl, fun base kb nb => ?_⟩
  have g_root := Xf l.prog w base T 
  have g_check_at_most := HW l.prog w base T 
  have g_is_turn := Qa l.prog w base T 
  have g_put_behind := J0 l.prog w base T 
  have g_measure := Px l.prog w base T 
  have g_value := Um l.prog w base T 
  have g_middle := Rq l.prog w base T 
  have g_stands_level := Ij l.prog w base T 
  have g_turn_behind := JT l.prog w base T 
  have g__law_cell := Le l.prog w base T 
  have g__law_whole := JZ l.prog w base T 
  have g__law_bar := N5 l.prog w base T 
  have g__law_root := Ml l.prog w base T 
  have g__law_level := J6 l.prog w base T 
  have g__law_saddle := JR l.prog w base T 
  have g_is_square := Lb l.prog w base T g_root
  have g_check_turn := J2 l.prog w base T g_is_turn
  have g__law_wholes := JC l.prog w base T g__law_whole
  have g__law_flat := K9 l.prog w base T g__law_bar g__law_root
  have g__law_behind := Ji l.prog w base T g__law_bar
  have g_moved := Vp l.prog w base T g_check_turn g_value g_middle
  have g_shape := Tt l.prog w base T g_measure g_is_square
  have g__law_eased := J3 l.prog w base T g__law_level g__law_behind
  have g_check_saddle := Io l.prog w base T g_check_at_most g_shape g_measure
  have g_stop_behind := Jg l.prog w base T g_turn_behind g_moved g_put_behind
  have g__law_good := Lw l.prog w base T g__law_root g__law_bar g__law_eased g__law_behind g__law_wholes
  have g_eased := Tv l.prog w base T g_check_saddle g_root g_measure g_stands_level g_stop_behind
  have g_stops_round := Jh l.prog w base T g_root g_eased g_stop_behind g_measure
  have g_round_of := Og l.prog w base T g_check_saddle g_stops_round
  have g_law := Zo l.prog w base T g__law_saddle g__law_flat g_round_of g__law_cell g__law_good
  obtain ⟨f, fd, FT, GG⟩ := g_law
  have e1 := FT.mg.symm.trans (PySem.W.mg_of X G a29)
  cases e1
  have e2 := FT.fn.uniq F29
  subst e2
  exact GG
theorem walk {l : PySem.W.OpenLaw} {q : Program} {loose : List Str} {XP : (Str → Option Value) → Heap → Prop} {YP : World → Heap → Prop} {d : DefRec} {K : Params → PySem.W.Frag} (hn : l.most = some 63) (hdf : d.params.defaults = [])
    (hY : ∀ (w : World) (h : Heap), YP w h → (K w.params).In h)
    (F : ∀ (w : World) (mg : Str → Option Value) (fa : Addr) (h : Heap), (K w.params).In h → h.Ns mainGlobals mg → mg d.name = some (.ref fa) →
      ∃ fd : FuncData, (∀ (s : Shared) (u : Value), BindsTo s fd ⟨[u], []⟩ [("_law_script", u)]) ∧ ∀ base : Heap, (K w.params).In base → base.Ns mainGlobals mg → Ii l.prog w (K w.params) mg base CX0 8 fa fd ["_law_script"] (lSp (K w.params) Li)) :
    PySem.W.WalkO q loose XP YP l.row.toRowW d [] (fun f vs => PySem.call f vs) :=
  L2.Wg (n := 63) (k := 8) (x := "_law_script") (CX := fun _ => CX0) (sp := fun w => lSp (K w.params) Li) hn (by decide) hdf ⟨rfl, by decide, by decide⟩ hY F (fun w H a ns hl _ hS => R7 hl hS) fun _ _ _ _ _ z => z
end My
open PySem PySem.W PyProof.Rows
local macro_rules | `(tactic| walk_at "nF") => `(tactic| (refine' My.Yw ?qa ?ql ?qc ?qk; (case qa => k_is); (case ql => k_is); (case qc => k_is); (case qk => k_is)))
theorem My.hFk {K : PySem.W.Frag} {n : PySem.Str} {s : PySem.Stmt} (f : PySem.Addr) (m : String) (t c : Nat) (a : PySem.W.nsIn K PySem.mainGlobals n = some (some (.ref f)) := by kernel_rfl) (l : K.lookup f = some ⟨.type "function", none, .func (PySem.W.fnOf n n (L2.DY s) (L2.Di s) (L2.Ah s) .none .none .none (.str (.ofString m) t) none (.ref c) .none), #[]⟩ := by kernel_rfl) (d : PySem.W.codeIn K (.ref c) n = true := by kernel_rfl) (k : PySem.W.keepIn K (.ref f) = true := by kernel_rfl) : My.nF K n s := My.Yw a l d k
theorem My.hF0 (P : PySem.Params) : My.nF (My.KK P) "root" My.Gg := My.hFk 110 "formcycle.wholes" 309 109
theorem My.hF1 (P : PySem.Params) : My.nF (My.KK P) "is_square" My.CZ := My.hFk 117 "formcycle.wholes" 309 116
theorem My.hF2 (P : PySem.Params) : My.nF (My.KK P) "check_at_most" My.Bv := My.hFk 124 "formcycle.wholes" 309 123
theorem My.hF3 (P : PySem.Params) : My.nF (My.KK P) "is_turn" My.Eb := My.hFk 132 "formcycle.turns" 336 131
theorem My.hF4 (P : PySem.Params) : My.nF (My.KK P) "check_turn" My.Cw := My.hFk 139 "formcycle.turns" 336 138
theorem My.hF5 (P : PySem.Params) : My.nF (My.KK P) "put_behind" My.Cq := My.hFk 146 "formcycle.turns" 336 145
theorem My.hF6 (P : PySem.Params) : My.nF (My.KK P) "measure" My.Cy := My.hFk 153 "formcycle.forms" 365 152
theorem My.hF7 (P : PySem.Params) : My.nF (My.KK P) "value" My.Gq := My.hFk 160 "formcycle.forms" 365 159
theorem My.hF8 (P : PySem.Params) : My.nF (My.KK P) "moved" My.Gp := My.hFk 167 "formcycle.forms" 365 166
theorem My.hF9 (P : PySem.Params) : My.nF (My.KK P) "middle" My.Fd := My.hFk 174 "formcycle.forms" 365 173
theorem My.hF10 (P : PySem.Params) : My.nF (My.KK P) "shape" My.Gw := My.hFk 181 "formcycle.forms" 365 180
theorem My.hF11 (P : PySem.Params) : My.nF (My.KK P) "check_saddle" My.Bo := My.hFk 188 "formcycle.saddles" 412 187
theorem My.hF12 (P : PySem.Params) : My.nF (My.KK P) "stands_level" My.BW := My.hFk 195 "formcycle.saddles" 412 194
theorem My.hF13 (P : PySem.Params) : My.nF (My.KK P) "turn_behind" My.Ce := My.hFk 202 "formcycle.saddles" 412 201
theorem My.hF14 (P : PySem.Params) : My.nF (My.KK P) "stop_behind" My.Bx := My.hFk 209 "formcycle.saddles" 412 208
theorem My.hF15 (P : PySem.Params) : My.nF (My.KK P) "eased" My.Gu := My.hFk 216 "formcycle.saddles" 412 215
theorem My.hF16 (P : PySem.Params) : My.nF (My.KK P) "stops_round" My.Ca := My.hFk 223 "formcycle.saddles" 412 222
theorem My.hF17 (P : PySem.Params) : My.nF (My.KK P) "round_of" My.CP := My.hFk 228 "formcycle.saddles" 412 227
theorem My.hF18 (P : PySem.Params) : My.nF (My.KK P) "_law_cell" My.CT := My.hFk 235 "law_formcycle_k24_rings" 478 234
theorem My.hF19 (P : PySem.Params) : My.nF (My.KK P) "_law_whole" My.Cr := My.hFk 242 "law_formcycle_k24_rings" 478 241
theorem My.hF20 (P : PySem.Params) : My.nF (My.KK P) "_law_wholes" My.BK := My.hFk 247 "law_formcycle_k24_rings" 478 246
theorem My.hF21 (P : PySem.Params) : My.nF (My.KK P) "_law_bar" My.Cj := My.hFk 254 "law_formcycle_k24_rings" 478 253
theorem My.hF22 (P : PySem.Params) : My.nF (My.KK P) "_law_root" My.Ck := My.hFk 261 "law_formcycle_k24_rings" 478 260
theorem My.hF23 (P : PySem.Params) : My.nF (My.KK P) "_law_flat" My.CQ := My.hFk 268 "law_formcycle_k24_rings" 478 267
theorem My.hF24 (P : PySem.Params) : My.nF (My.KK P) "_law_level" My.Cv := My.hFk 275 "law_formcycle_k24_rings" 478 274
theorem My.hF25 (P : PySem.Params) : My.nF (My.KK P) "_law_behind" My.BJ := My.hFk 282 "law_formcycle_k24_rings" 478 281
theorem My.hF26 (P : PySem.Params) : My.nF (My.KK P) "_law_saddle" My.Cd := My.hFk 289 "law_formcycle_k24_rings" 478 288
theorem My.hF27 (P : PySem.Params) : My.nF (My.KK P) "_law_eased" My.Cu := My.hFk 296 "law_formcycle_k24_rings" 478 295
theorem My.hF28 (P : PySem.Params) : My.nF (My.KK P) "_law_good" My.CV := My.hFk 303 "law_formcycle_k24_rings" 478 302
theorem My.hF29 (P : PySem.Params) : My.nF (My.KK P) "law" My.G9 := My.hFk 310 "law_formcycle_k24_rings" 478 309
set_option maxRecDepth 100000 in
set_option maxHeartbeats 0 in
theorem PySem.Challenge.cw_formcycle_k24_rings_holds : PySem.Challenge.rw_formcycle_k24_rings.Holds := by
  w_on
  refine holds_law My.said0 fun said => ?_
  refine holds_open (r := PySem.Challenge.rw_formcycle_k24_rings.row) (q := My.vw) (loose := []) (Xt := fun s => xlAt My.vw [] s && recOk (RowW.records (PySem.Challenge.rw_formcycle_k24_rings.row.toRowW)) s) (XP := XL My.vw []) (Yf := Hook.obs (kHook My.KK My.asK (fun _ => by kernel_rfl))) (Ya := Hook.val (kHook My.KK My.asK (fun _ => by kernel_rfl))) (YP := Hook.says (kHook My.KK My.asK (fun _ => by kernel_rfl))) (N := 2232) My.hl (Hook.of (kHook My.KK My.asK (fun _ => by kernel_rfl))) (Hook.keeps (kHook My.KK My.asK (fun _ => by kernel_rfl))) (fun s e => xl_of s (Bool.and_eq_true_iff.mp e).1) XL.keeps (by rfl) (by rfl) (by rfl) (fun s e => recFacts_of (Bool.and_eq_true_iff.mp e).2) (by rfl) said (by decide +kernel) ⟨rfl, rfl, rfl, rfl, rfl, by decide +kernel⟩ ?hw ?hc
  (case hw => w_witness2)
  k_fill
  refine My.walk (l := PySem.Challenge.rw_formcycle_k24_rings) rfl rfl (fun w h Y => PySem.W.kIn_of Y) ?F
  case F =>
    intro w mg fa h KX G hmg
    refine' My.all_mk KX G hmg ?h0 ?h1 ?h2 ?h3 ?h4 ?h5 ?h6 ?h7 ?h8 ?h9 ?h10 ?h11 ?h12 ?h13 ?h14 ?h15 ?h16 ?h17 ?h18 ?h19 ?h20 ?h21 ?h22 ?h23 ?h24 ?h25 ?h26 ?h27 ?h28 ?h29 ?z_abs ?z_bool ?z_int ?z_isinstance ?z_len ?z_list ?z_max ?z_min ?z_range ?z_set ?z_tuple ?a_SAME ?l_SAME ?a_MOST_MEASURE
    (case h0 => exact My.hF0 _)
    (case h1 => exact My.hF1 _)
    (case h2 => exact My.hF2 _)
    (case h3 => exact My.hF3 _)
    (case h4 => exact My.hF4 _)
    (case h5 => exact My.hF5 _)
    (case h6 => exact My.hF6 _)
    (case h7 => exact My.hF7 _)
    (case h8 => exact My.hF8 _)
    (case h9 => exact My.hF9 _)
    (case h10 => exact My.hF10 _)
    (case h11 => exact My.hF11 _)
    (case h12 => exact My.hF12 _)
    (case h13 => exact My.hF13 _)
    (case h14 => exact My.hF14 _)
    (case h15 => exact My.hF15 _)
    (case h16 => exact My.hF16 _)
    (case h17 => exact My.hF17 _)
    (case h18 => exact My.hF18 _)
    (case h19 => exact My.hF19 _)
    (case h20 => exact My.hF20 _)
    (case h21 => exact My.hF21 _)
    (case h22 => exact My.hF22 _)
    (case h23 => exact My.hF23 _)
    (case h24 => exact My.hF24 _)
    (case h25 => exact My.hF25 _)
    (case h26 => exact My.hF26 _)
    (case h27 => exact My.hF27 _)
    (case h28 => exact My.hF28 _)
    (case h29 => exact My.hF29 _)
    (case z_abs => as_aux_lemma => k_is)
    (case z_bool => as_aux_lemma => k_is)
    (case z_int => as_aux_lemma => k_is)
    (case z_isinstance => as_aux_lemma => k_is)
    (case z_len => as_aux_lemma => k_is)
    (case z_list => as_aux_lemma => k_is)
    (case z_max => as_aux_lemma => k_is)
    (case z_min => as_aux_lemma => k_is)
    (case z_range => as_aux_lemma => k_is)
    (case z_set => as_aux_lemma => k_is)
    (case z_tuple => as_aux_lemma => k_is)
    (case a_SAME => as_aux_lemma => k_is)
    (case l_SAME => as_aux_lemma => k_is)
    (case a_MOST_MEASURE => as_aux_lemma => k_is)
