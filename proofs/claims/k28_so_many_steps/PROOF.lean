import PyProof.Rows.All
import Wide.All
import OpenK.AllK
import Wide.FinOn
import Lean
import PyProof.EqAt
import PyProof.EqKinds
import PyProof.TupleCall
import PySem.Challenge.RW_formcycle_k28_so_many_steps
set_option Elab.async false
set_option linter.all false
set_option maxRecDepth 100000
set_option maxRecDepth 1000000
set_option maxHeartbeats 0
namespace My
open PySem PySem.W
def topT (tb : String → Option Builtin) (p : Program) (w : World) (m : Nat) (ann : Option Value) : Nat → SharedT → Thread → Option SharedT
  | 0, _, _ => none
  | k + 1, s, t => match through t with
    | true => some s
    | false => match stepOk m ann t with
      | false => none
      | true => match stepT (denote tb) p w s t with
        | some (s', t') => topT tb p w m ann k s' t'
        | none => none
theorem topT_of {tb : String → Option Builtin} {p : Program} {w : World} {m : Nat} {ann : Option Value} : ∀ (k : Nat) {s r : SharedT} {t : Thread}, topT tb p w m ann k s t = some r → topRun tb p w m ann k s.abs t = some r.abs
  | 0, s, r, t, h => by cases h
  | k + 1, s, r, t, h => by
    unfold topT at h
    unfold topRun
    cases e : through t with
    | true =>
      rw [e] at h
      cases h
      rfl
    | false =>
      rw [e] at h
      dsimp only at h ⊢
      cases e2 : stepOk m ann t with
      | false => rw [e2] at h; cases h
      | true =>
        rw [e2] at h
        dsimp only at h ⊢
        cases e3 : stepT (denote tb) p w s t with
        | none => rw [e3] at h; cases h
        | some st =>
          obtain ⟨s', t'⟩ := st
          rw [e3] at h
          rw [stepT_spec e3]
          exact topT_of k h
def growT : List Obj → Nat → BT → BT
  | [], _, t => t
  | o :: os, n, t => growT os (n + 1) (t.ins n o)
noncomputable def bootT (w : World) (os : OsState) : SharedT := ⟨growT (boot_heap w.params).objs.toList 0 .nil, (boot_heap w.params).objs.size, (boot_heap w.params).life, Array.mk [], boot_drawn, boot_toks, os⟩
noncomputable def bootS (w : World) (os : OsState) : Shared := ⟨boot_heap w.params, Array.mk [], boot_drawn, boot_toks, os⟩
def stays (p : Program) (s₀ s₁ : Shared) : Bool := staticsOk (importedModules p.main.body) s₀.heap s₁.heap && namesBound p s₁.heap && gensDone s₁ && laidKept s₀.heap s₁.heap
theorem boot_abs : ∀ w os, (bootT w os).abs = bootS w os := fun w os => by kernel_rfl
theorem ends_of {p : Program} {w : World} {N : Nat} {α : Type} {F : Shared → α} {g : α} (e : opening p = plainProg p.main.scope.names) (hN : Nat.ble 600 N = true) (f : ∀ s, fenceModules? p s = some s)
    (h : ∀ os, (topT treeTable p w (bootS w os).heap.objs.size ((bootS w os).heap.nsMap mainGlobals "__annotations__") N (bootT w os) (topStub p)).map (fun r => (stays p (bootS w os) r.abs, F r.abs)) = some (true, g))
    (h0 : ∀ os, ((bootS w os).heap.isNs mainGlobals && (bootS w os).gens.size == 0) = true) : (openEnds treeTable p w N).map F = some g := by
  have hb := boot_open e hN f w
  unfold openEnds
  cases q : fencedOpening treeTable p w N with
  | none => rw [q] at hb; cases hb
  | some s =>
    rw [q] at hb
    have hs : s = bootS w s.os := by
      obtain ⟨a, b, c, d, o⟩ := s
      simp only [Option.map_some, Option.some.injEq, Prod.mk.injEq] at hb
      obtain ⟨rfl, rfl, rfl, rfl⟩ := hb
      rfl
    generalize s.os = o at hs
    subst hs
    show (topFrom treeTable p w N (bootS w o)).map F = some g
    unfold topFrom
    rw [h0 o]
    have hh := h o
    cases q2 : topT treeTable p w (bootS w o).heap.objs.size ((bootS w o).heap.nsMap mainGlobals "__annotations__") N (bootT w o) (topStub p) with
    | none => rw [q2] at hh; cases hh
    | some r =>
      rw [q2] at hh
      have hr := topT_of N q2
      rw [boot_abs] at hr
      simp only [Option.map_some, Option.some.injEq, Prod.mk.injEq] at hh
      obtain ⟨h1, h2⟩ := hh
      unfold stays at h1
      dsimp only
      rw [hr]
      show (match staticsOk (importedModules p.main.body) (bootS w o).heap r.abs.heap && namesBound p r.abs.heap && gensDone r.abs && laidKept (bootS w o).heap r.abs.heap with
        | true => some r.abs
        | false => none).map F = some g
      rw [h1]
      exact congrArg some h2
noncomputable def TR (p : Program) (w : World) (os : OsState) (N : Nat) : Option SharedT := topT treeTable p w (bootS w os).heap.objs.size ((bootS w os).heap.nsMap mainGlobals "__annotations__") N (bootT w os) (topStub p)
theorem ends_of3 {p : Program} {w : World} {N : Nat} {α β : Type} {F : Shared → α} {G : Shared → β} {f' : α} {g' : β} (e : opening p = plainProg p.main.scope.names) (hN : Nat.ble 600 N = true) (f : ∀ s, fenceModules? p s = some s)
    (h1 : ∀ os, (TR p w os N).map (fun r => stays p (bootS w os) r.abs) = some true) (h2 : ∀ os, (TR p w os N).map (fun r => F r.abs) = some f') (h3 : ∀ os, (TR p w os N).map (fun r => G r.abs) = some g')
    (h0 : ∀ os, ((bootS w os).heap.isNs mainGlobals && (bootS w os).gens.size == 0) = true) : (openEnds treeTable p w N).map (fun s => (F s, G s)) = some (f', g') :=
  ends_of (F := fun s => (F s, G s)) e hN f (fun os => by
    have a := h1 os
    have b := h2 os
    have c := h3 os
    unfold TR at a b c
    revert a b c
    generalize topT treeTable p w (bootS w os).heap.objs.size ((bootS w os).heap.nsMap mainGlobals "__annotations__") N (bootT w os) (topStub p) = o
    intro a b c
    cases o with
    | none => cases a
    | some r =>
      simp only [Option.map_some, Option.some.injEq] at a b c ⊢
      rw [a, b, c]) h0
end My
set_option maxRecDepth 1000000
set_option maxHeartbeats 0
namespace My
open PySem PySem.W
section
noncomputable def KK : Params → Frag :=
fun (P : Params) => (nat_lit 2, Obj.mk .none none (Data.dict #[]) #[]) ::
(nat_lit 3, Obj.mk (.type "dict") none (Data.dict #[DictEntry.mk (PyData.keyHash P (.ofString "__name__")) (.str (.ofString "__name__") 165) (.str (.ofString "law_formcycle_k28_so_many_steps") 697), DictEntry.mk (PyData.keyHash P (.ofString "__doc__")) (.str (.ofString "__doc__") 166) .none, DictEntry.mk (PyData.keyHash P (.ofString "__package__")) (.str (.ofString "__package__") 167) .none, DictEntry.mk (PyData.keyHash P (.ofString "__loader__")) (.str (.ofString "__loader__") 168) (.builtin "__main__.__loader__#opaque"), DictEntry.mk (PyData.keyHash P (.ofString "__spec__")) (.str (.ofString "__spec__") 169) .none, DictEntry.mk (PyData.keyHash P (.ofString "__annotations__")) (.str (.ofString "__annotations__") 170) (.ref 6), DictEntry.mk (PyData.keyHash P (.ofString "__builtins__")) (.str (.ofString "__builtins__") 171) (.ref 4), DictEntry.mk (PyData.keyHash P (.ofString "__file__")) (.str (.ofString "__file__") 173) (.str (.ofString "/claim/cut.py") 172), DictEntry.mk (PyData.keyHash P (.ofString "__cached__")) (.str (.ofString "__cached__") 174) .none, DictEntry.mk (PyData.keyHash P (.ofString "FormError")) (.str (.ofString "FormError") 206) (.ref 24), DictEntry.mk (PyData.keyHash P (.ofString "NoTurn")) (.str (.ofString "NoTurn") 231) (.ref 44), DictEntry.mk (PyData.keyHash P (.ofString "NoShape")) (.str (.ofString "NoShape") 256) (.ref 63), DictEntry.mk (PyData.keyHash P (.ofString "TooGreat")) (.str (.ofString "TooGreat") 283) (.ref 82), DictEntry.mk (PyData.keyHash P (.ofString "NoRoot")) (.str (.ofString "NoRoot") 308) (.ref 101), DictEntry.mk (PyData.keyHash P (.ofString "NotLevel")) (.str (.ofString "NotLevel") 333) (.ref 120), DictEntry.mk (PyData.keyHash P (.ofString "NotOwn")) (.str (.ofString "NotOwn") 358) (.ref 139), DictEntry.mk (PyData.keyHash P (.ofString "Apart")) (.str (.ofString "Apart") 374) (.ref 151), DictEntry.mk (PyData.keyHash P (.ofString "NotPlain")) (.str (.ofString "NotPlain") 399) (.ref 170), DictEntry.mk (PyData.keyHash P (.ofString "NoMeasure")) (.str (.ofString "NoMeasure") 424) (.ref 189), DictEntry.mk (PyData.keyHash P (.ofString "Nought")) (.str (.ofString "Nought") 440) (.ref 201), DictEntry.mk (PyData.keyHash P (.ofString "NoAnswer")) (.str (.ofString "NoAnswer") 465) (.ref 220), DictEntry.mk (PyData.keyHash P (.ofString "divisor")) (.str (.ofString "divisor") 476) (.ref 229), DictEntry.mk (PyData.keyHash P (.ofString "root")) (.str (.ofString "root") 485) (.ref 236), DictEntry.mk (PyData.keyHash P (.ofString "is_square")) (.str (.ofString "is_square") 493) (.ref 243), DictEntry.mk (PyData.keyHash P (.ofString "check_at_most")) (.str (.ofString "check_at_most") 501) (.ref 250), DictEntry.mk (PyData.keyHash P (.ofString "SAME")) (.str (.ofString "SAME") 508) (.ref 251), DictEntry.mk (PyData.keyHash P (.ofString "is_turn")) (.str (.ofString "is_turn") 515) (.ref 258), DictEntry.mk (PyData.keyHash P (.ofString "check_turn")) (.str (.ofString "check_turn") 522) (.ref 265), DictEntry.mk (PyData.keyHash P (.ofString "put_behind")) (.str (.ofString "put_behind") 530) (.ref 272), DictEntry.mk (PyData.keyHash P (.ofString "back")) (.str (.ofString "back") 537) (.ref 279), DictEntry.mk (PyData.keyHash P (.ofString "measure")) (.str (.ofString "measure") 546) (.ref 286), DictEntry.mk (PyData.keyHash P (.ofString "value")) (.str (.ofString "value") 556) (.ref 293), DictEntry.mk (PyData.keyHash P (.ofString "content")) (.str (.ofString "content") 563) (.ref 300), DictEntry.mk (PyData.keyHash P (.ofString "moved")) (.str (.ofString "moved") 573) (.ref 307), DictEntry.mk (PyData.keyHash P (.ofString "middle")) (.str (.ofString "middle") 583) (.ref 314), DictEntry.mk (PyData.keyHash P (.ofString "shape")) (.str (.ofString "shape") 591) (.ref 321), DictEntry.mk (PyData.keyHash P (.ofString "MOST_MEASURE")) (.str (.ofString "MOST_MEASURE") 595) (.int 4000 594), DictEntry.mk (PyData.keyHash P (.ofString "check_saddle")) (.str (.ofString "check_saddle") 602) (.ref 328), DictEntry.mk (PyData.keyHash P (.ofString "stands_level")) (.str (.ofString "stands_level") 611) (.ref 335), DictEntry.mk (PyData.keyHash P (.ofString "turn_behind")) (.str (.ofString "turn_behind") 622) (.ref 342), DictEntry.mk (PyData.keyHash P (.ofString "stop_behind")) (.str (.ofString "stop_behind") 631) (.ref 349), DictEntry.mk (PyData.keyHash P (.ofString "eased")) (.str (.ofString "eased") 640) (.ref 356), DictEntry.mk (PyData.keyHash P (.ofString "stops_round")) (.str (.ofString "stops_round") 651) (.ref 363), DictEntry.mk (PyData.keyHash P (.ofString "step_of")) (.str (.ofString "step_of") 663) (.ref 370), DictEntry.mk (PyData.keyHash P (.ofString "step_pair")) (.str (.ofString "step_pair") 673) (.ref 377), DictEntry.mk (PyData.keyHash P (.ofString "power_of")) (.str (.ofString "power_of") 683) (.ref 384), DictEntry.mk (PyData.keyHash P (.ofString "count_without_sign")) (.str (.ofString "count_without_sign") 696) (.ref 391), DictEntry.mk (PyData.keyHash P (.ofString "_law_cell")) (.str (.ofString "_law_cell") 706) (.ref 398), DictEntry.mk (PyData.keyHash P (.ofString "_law_whole")) (.str (.ofString "_law_whole") 713) (.ref 405), DictEntry.mk (PyData.keyHash P (.ofString "_law_wholes")) (.str (.ofString "_law_wholes") 719) (.ref 410), DictEntry.mk (PyData.keyHash P (.ofString "_law_bar")) (.str (.ofString "_law_bar") 726) (.ref 417), DictEntry.mk (PyData.keyHash P (.ofString "_law_root")) (.str (.ofString "_law_root") 734) (.ref 424), DictEntry.mk (PyData.keyHash P (.ofString "_law_flat")) (.str (.ofString "_law_flat") 743) (.ref 431), DictEntry.mk (PyData.keyHash P (.ofString "_law_turn")) (.str (.ofString "_law_turn") 757) (.ref 438), DictEntry.mk (PyData.keyHash P (.ofString "_law_value")) (.str (.ofString "_law_value") 766) (.ref 445), DictEntry.mk (PyData.keyHash P (.ofString "_law_moved")) (.str (.ofString "_law_moved") 779) (.ref 452), DictEntry.mk (PyData.keyHash P (.ofString "_law_saddle")) (.str (.ofString "_law_saddle") 796) (.ref 459), DictEntry.mk (PyData.keyHash P (.ofString "_law_put")) (.str (.ofString "_law_put") 812) (.ref 466), DictEntry.mk (PyData.keyHash P (.ofString "_law_told")) (.str (.ofString "_law_told") 822) (.ref 473), DictEntry.mk (PyData.keyHash P (.ofString "_law_refused")) (.str (.ofString "_law_refused") 832) (.ref 480), DictEntry.mk (PyData.keyHash P (.ofString "law")) (.str (.ofString "law") 849) (.ref 487)] 61) #[]) ::
(nat_lit 15, Obj.mk (.type "tuple") none (Data.seq #[.type "ValueError"]) #[]) ::
(nat_lit 22, Obj.mk (.type "tuple") none (Data.seq #[]) #[]) ::
(nat_lit 23, Obj.mk (.type "dict") none (Data.dict #[DictEntry.mk (PyData.keyHash P (.ofString "__module__")) (.str (.ofString "__module__") 196) (.str (.ofString "formcycle.errors") 187), DictEntry.mk (PyData.keyHash P (.ofString "__firstlineno__")) (.str (.ofString "__firstlineno__") 200) (.int 2 199), DictEntry.mk (PyData.keyHash P (.ofString "__static_attributes__")) (.str (.ofString "__static_attributes__") 201) (.ref 22), DictEntry.mk (PyData.keyHash P (.ofString "__weakref__")) (.str (.ofString "__weakref__") 203) (.ref 25), DictEntry.mk (PyData.keyHash P (.ofString "__doc__")) (.str (.ofString "__doc__") 204) .none] 3) #[]) ::
(nat_lit 24, Obj.mk (.type "type") none (Data.cls (ClassData.mk (.ofString "FormError") [.type "ValueError"] [.ref 24, .type "ValueError", .type "Exception", .type "BaseException", .type "object"] 23 (.ofString "FormError") Bool.true [] [.ref 44, .ref 63, .ref 82, .ref 101, .ref 120, .ref 139, .ref 151, .ref 170, .ref 189, .ref 201, .ref 220] Bool.false none Bool.false)) #[some (.ref 15), none, some (.str (.ofString "FormError") 189), some (.str (.ofString "FormError") 197), some (.builtin "ValueError.__new__"), some (.bool Bool.true)]) ::
(nat_lit 25, Obj.mk (.type "getset_descriptor") none (Data.fields #[.str (.ofString "__weakref__") 202, .ref 24, .builtin "ExceptionGroup.__weakref__", .none]) #[]) ::
(nat_lit 28, Obj.mk (.type "tuple") none (Data.seq #[.ref 24]) #[]) ::
(nat_lit 35, Obj.mk (.type "tuple") none (Data.seq #[]) #[]) ::
(nat_lit 37, Obj.mk (.type "tuple") none (Data.seq #[.str (.ofString "self") 222, .str (.ofString "turn") 223]) #[]) ::
(nat_lit 38, Obj.mk (.type "tuple") none (Data.seq #[]) #[]) ::
(nat_lit 40, Obj.mk (.type "code") none (Data.fields #[.str (.ofString "__init__") 219, .str (.ofString "NoTurn.__init__") 220, .str (.ofString "/claim/cut.py") 221, .int 6 0, .int 2 0, .int 0 0, .int 0 0, .int 3 0, .ref 35, .bool Bool.true, .int 181 0, .ref 36, .none, .ref 37, .ref 38, .ref 39, .int 224 0, .int 6 0, .str (.ofString "/claim/cut.py") 225]) #[]) ::
(nat_lit 41, Obj.mk (.type "function") none (Data.func (FuncData.mk (.ofString "__init__") (.ofString "NoTurn.__init__") (Arguments.mk [] [Arg.mk (.ofString "self") none (.mk 6 17 6 21), Arg.mk (.ofString "turn") none (.mk 6 23 6 27)] none [] [] none []) (FuncBody.stmts [Stmt.Assign [.Attribute (.Name (.ofString "self") (.mk 7 8 7 12)) (.ofString "turn") (.mk 7 8 7 17)] (.Name (.ofString "turn") (.mk 7 20 7 24)) (.mk 7 8 7 24)]) (Scope.mk ScopeKind.function [(.ofString "self", .local), (.ofString "turn", .local)] Bool.false Bool.false []) 3 [] .none .none .none (.str (.ofString "formcycle.errors") 187) none (.ref 40) .none 0)) #[]) ::
(nat_lit 42, Obj.mk (.type "tuple") none (Data.seq #[.str (.ofString "turn") 227]) #[]) ::
(nat_lit 43, Obj.mk (.type "dict") none (Data.dict #[DictEntry.mk (PyData.keyHash P (.ofString "__module__")) (.str (.ofString "__module__") 214) (.str (.ofString "formcycle.errors") 187), DictEntry.mk (PyData.keyHash P (.ofString "__firstlineno__")) (.str (.ofString "__firstlineno__") 218) (.int 4 217), DictEntry.mk (PyData.keyHash P (.ofString "__init__")) (.str (.ofString "__init__") 226) (.ref 41), DictEntry.mk (PyData.keyHash P (.ofString "__static_attributes__")) (.str (.ofString "__static_attributes__") 228) (.ref 42), DictEntry.mk (PyData.keyHash P (.ofString "__doc__")) (.str (.ofString "__doc__") 229) .none] 2) #[]) ::
(nat_lit 44, Obj.mk (.type "type") none (Data.cls (ClassData.mk (.ofString "NoTurn") [.ref 24] [.ref 44, .ref 24, .type "ValueError", .type "Exception", .type "BaseException", .type "object"] 43 (.ofString "NoTurn") Bool.true [] [] Bool.false none Bool.false)) #[some (.ref 28), none, some (.str (.ofString "NoTurn") 207), some (.str (.ofString "NoTurn") 215), some (.builtin "ValueError.__new__"), some (.bool Bool.true)]) ::
(nat_lit 47, Obj.mk (.type "tuple") none (Data.seq #[.ref 24]) #[]) ::
(nat_lit 54, Obj.mk (.type "tuple") none (Data.seq #[]) #[]) ::
(nat_lit 56, Obj.mk (.type "tuple") none (Data.seq #[.str (.ofString "self") 247, .str (.ofString "form") 248]) #[]) ::
(nat_lit 57, Obj.mk (.type "tuple") none (Data.seq #[]) #[]) ::
(nat_lit 59, Obj.mk (.type "code") none (Data.fields #[.str (.ofString "__init__") 244, .str (.ofString "NoShape.__init__") 245, .str (.ofString "/claim/cut.py") 246, .int 10 0, .int 2 0, .int 0 0, .int 0 0, .int 3 0, .ref 54, .bool Bool.true, .int 181 0, .ref 55, .none, .ref 56, .ref 57, .ref 58, .int 249 0, .int 10 0, .str (.ofString "/claim/cut.py") 250]) #[]) ::
(nat_lit 60, Obj.mk (.type "function") none (Data.func (FuncData.mk (.ofString "__init__") (.ofString "NoShape.__init__") (Arguments.mk [] [Arg.mk (.ofString "self") none (.mk 10 17 10 21), Arg.mk (.ofString "form") none (.mk 10 23 10 27)] none [] [] none []) (FuncBody.stmts [Stmt.Assign [.Attribute (.Name (.ofString "self") (.mk 11 8 11 12)) (.ofString "form") (.mk 11 8 11 17)] (.Name (.ofString "form") (.mk 11 20 11 24)) (.mk 11 8 11 24)]) (Scope.mk ScopeKind.function [(.ofString "self", .local), (.ofString "form", .local)] Bool.false Bool.false []) 3 [] .none .none .none (.str (.ofString "formcycle.errors") 187) none (.ref 59) .none 0)) #[]) ::
(nat_lit 61, Obj.mk (.type "tuple") none (Data.seq #[.str (.ofString "form") 252]) #[]) ::
(nat_lit 62, Obj.mk (.type "dict") none (Data.dict #[DictEntry.mk (PyData.keyHash P (.ofString "__module__")) (.str (.ofString "__module__") 239) (.str (.ofString "formcycle.errors") 187), DictEntry.mk (PyData.keyHash P (.ofString "__firstlineno__")) (.str (.ofString "__firstlineno__") 243) (.int 8 242), DictEntry.mk (PyData.keyHash P (.ofString "__init__")) (.str (.ofString "__init__") 251) (.ref 60), DictEntry.mk (PyData.keyHash P (.ofString "__static_attributes__")) (.str (.ofString "__static_attributes__") 253) (.ref 61), DictEntry.mk (PyData.keyHash P (.ofString "__doc__")) (.str (.ofString "__doc__") 254) .none] 2) #[]) ::
(nat_lit 63, Obj.mk (.type "type") none (Data.cls (ClassData.mk (.ofString "NoShape") [.ref 24] [.ref 63, .ref 24, .type "ValueError", .type "Exception", .type "BaseException", .type "object"] 62 (.ofString "NoShape") Bool.true [] [] Bool.false none Bool.false)) #[some (.ref 47), none, some (.str (.ofString "NoShape") 232), some (.str (.ofString "NoShape") 240), some (.builtin "ValueError.__new__"), some (.bool Bool.true)]) ::
(nat_lit 66, Obj.mk (.type "tuple") none (Data.seq #[.ref 24]) #[]) ::
(nat_lit 73, Obj.mk (.type "tuple") none (Data.seq #[]) #[]) ::
(nat_lit 75, Obj.mk (.type "tuple") none (Data.seq #[.str (.ofString "self") 272, .str (.ofString "number") 273, .str (.ofString "most") 274]) #[]) ::
(nat_lit 76, Obj.mk (.type "tuple") none (Data.seq #[]) #[]) ::
(nat_lit 78, Obj.mk (.type "code") none (Data.fields #[.str (.ofString "__init__") 269, .str (.ofString "TooGreat.__init__") 270, .str (.ofString "/claim/cut.py") 271, .int 14 0, .int 3 0, .int 0 0, .int 0 0, .int 3 0, .ref 73, .bool Bool.true, .int 181 0, .ref 74, .none, .ref 75, .ref 76, .ref 77, .int 275 0, .int 14 0, .str (.ofString "/claim/cut.py") 276]) #[]) ::
(nat_lit 79, Obj.mk (.type "function") none (Data.func (FuncData.mk (.ofString "__init__") (.ofString "TooGreat.__init__") (Arguments.mk [] [Arg.mk (.ofString "self") none (.mk 14 17 14 21), Arg.mk (.ofString "number") none (.mk 14 23 14 29), Arg.mk (.ofString "most") none (.mk 14 31 14 35)] none [] [] none []) (FuncBody.stmts [Stmt.Assign [.Attribute (.Name (.ofString "self") (.mk 15 8 15 12)) (.ofString "number") (.mk 15 8 15 19)] (.Name (.ofString "number") (.mk 15 22 15 28)) (.mk 15 8 15 28), Stmt.Assign [.Attribute (.Name (.ofString "self") (.mk 16 8 16 12)) (.ofString "most") (.mk 16 8 16 17)] (.Name (.ofString "most") (.mk 16 20 16 24)) (.mk 16 8 16 24)]) (Scope.mk ScopeKind.function [(.ofString "self", .local), (.ofString "number", .local), (.ofString "most", .local)] Bool.false Bool.false []) 3 [] .none .none .none (.str (.ofString "formcycle.errors") 187) none (.ref 78) .none 0)) #[]) ::
(nat_lit 80, Obj.mk (.type "tuple") none (Data.seq #[.str (.ofString "most") 278, .str (.ofString "number") 279]) #[]) ::
(nat_lit 81, Obj.mk (.type "dict") none (Data.dict #[DictEntry.mk (PyData.keyHash P (.ofString "__module__")) (.str (.ofString "__module__") 264) (.str (.ofString "formcycle.errors") 187), DictEntry.mk (PyData.keyHash P (.ofString "__firstlineno__")) (.str (.ofString "__firstlineno__") 268) (.int 12 267), DictEntry.mk (PyData.keyHash P (.ofString "__init__")) (.str (.ofString "__init__") 277) (.ref 79), DictEntry.mk (PyData.keyHash P (.ofString "__static_attributes__")) (.str (.ofString "__static_attributes__") 280) (.ref 80), DictEntry.mk (PyData.keyHash P (.ofString "__doc__")) (.str (.ofString "__doc__") 281) .none] 2) #[]) ::
(nat_lit 82, Obj.mk (.type "type") none (Data.cls (ClassData.mk (.ofString "TooGreat") [.ref 24] [.ref 82, .ref 24, .type "ValueError", .type "Exception", .type "BaseException", .type "object"] 81 (.ofString "TooGreat") Bool.true [] [] Bool.false none Bool.false)) #[some (.ref 66), none, some (.str (.ofString "TooGreat") 257), some (.str (.ofString "TooGreat") 265), some (.builtin "ValueError.__new__"), some (.bool Bool.true)]) ::
(nat_lit 85, Obj.mk (.type "tuple") none (Data.seq #[.ref 24]) #[]) ::
(nat_lit 92, Obj.mk (.type "tuple") none (Data.seq #[]) #[]) ::
(nat_lit 94, Obj.mk (.type "tuple") none (Data.seq #[.str (.ofString "self") 299, .str (.ofString "number") 300]) #[]) ::
(nat_lit 95, Obj.mk (.type "tuple") none (Data.seq #[]) #[]) ::
(nat_lit 97, Obj.mk (.type "code") none (Data.fields #[.str (.ofString "__init__") 296, .str (.ofString "NoRoot.__init__") 297, .str (.ofString "/claim/cut.py") 298, .int 19 0, .int 2 0, .int 0 0, .int 0 0, .int 3 0, .ref 92, .bool Bool.true, .int 181 0, .ref 93, .none, .ref 94, .ref 95, .ref 96, .int 301 0, .int 19 0, .str (.ofString "/claim/cut.py") 302]) #[]) ::
(nat_lit 98, Obj.mk (.type "function") none (Data.func (FuncData.mk (.ofString "__init__") (.ofString "NoRoot.__init__") (Arguments.mk [] [Arg.mk (.ofString "self") none (.mk 19 17 19 21), Arg.mk (.ofString "number") none (.mk 19 23 19 29)] none [] [] none []) (FuncBody.stmts [Stmt.Assign [.Attribute (.Name (.ofString "self") (.mk 20 8 20 12)) (.ofString "number") (.mk 20 8 20 19)] (.Name (.ofString "number") (.mk 20 22 20 28)) (.mk 20 8 20 28)]) (Scope.mk ScopeKind.function [(.ofString "self", .local), (.ofString "number", .local)] Bool.false Bool.false []) 3 [] .none .none .none (.str (.ofString "formcycle.errors") 187) none (.ref 97) .none 0)) #[]) ::
(nat_lit 99, Obj.mk (.type "tuple") none (Data.seq #[.str (.ofString "number") 304]) #[]) ::
(nat_lit 100, Obj.mk (.type "dict") none (Data.dict #[DictEntry.mk (PyData.keyHash P (.ofString "__module__")) (.str (.ofString "__module__") 291) (.str (.ofString "formcycle.errors") 187), DictEntry.mk (PyData.keyHash P (.ofString "__firstlineno__")) (.str (.ofString "__firstlineno__") 295) (.int 17 294), DictEntry.mk (PyData.keyHash P (.ofString "__init__")) (.str (.ofString "__init__") 303) (.ref 98), DictEntry.mk (PyData.keyHash P (.ofString "__static_attributes__")) (.str (.ofString "__static_attributes__") 305) (.ref 99), DictEntry.mk (PyData.keyHash P (.ofString "__doc__")) (.str (.ofString "__doc__") 306) .none] 2) #[]) ::
(nat_lit 101, Obj.mk (.type "type") none (Data.cls (ClassData.mk (.ofString "NoRoot") [.ref 24] [.ref 101, .ref 24, .type "ValueError", .type "Exception", .type "BaseException", .type "object"] 100 (.ofString "NoRoot") Bool.true [] [] Bool.false none Bool.false)) #[some (.ref 85), none, some (.str (.ofString "NoRoot") 284), some (.str (.ofString "NoRoot") 292), some (.builtin "ValueError.__new__"), some (.bool Bool.true)]) ::
(nat_lit 104, Obj.mk (.type "tuple") none (Data.seq #[.ref 24]) #[]) ::
(nat_lit 111, Obj.mk (.type "tuple") none (Data.seq #[]) #[]) ::
(nat_lit 113, Obj.mk (.type "tuple") none (Data.seq #[.str (.ofString "self") 324, .str (.ofString "form") 325]) #[]) ::
(nat_lit 114, Obj.mk (.type "tuple") none (Data.seq #[]) #[]) ::
(nat_lit 116, Obj.mk (.type "code") none (Data.fields #[.str (.ofString "__init__") 321, .str (.ofString "NotLevel.__init__") 322, .str (.ofString "/claim/cut.py") 323, .int 23 0, .int 2 0, .int 0 0, .int 0 0, .int 3 0, .ref 111, .bool Bool.true, .int 181 0, .ref 112, .none, .ref 113, .ref 114, .ref 115, .int 326 0, .int 23 0, .str (.ofString "/claim/cut.py") 327]) #[]) ::
(nat_lit 117, Obj.mk (.type "function") none (Data.func (FuncData.mk (.ofString "__init__") (.ofString "NotLevel.__init__") (Arguments.mk [] [Arg.mk (.ofString "self") none (.mk 23 17 23 21), Arg.mk (.ofString "form") none (.mk 23 23 23 27)] none [] [] none []) (FuncBody.stmts [Stmt.Assign [.Attribute (.Name (.ofString "self") (.mk 24 8 24 12)) (.ofString "form") (.mk 24 8 24 17)] (.Name (.ofString "form") (.mk 24 20 24 24)) (.mk 24 8 24 24)]) (Scope.mk ScopeKind.function [(.ofString "self", .local), (.ofString "form", .local)] Bool.false Bool.false []) 3 [] .none .none .none (.str (.ofString "formcycle.errors") 187) none (.ref 116) .none 0)) #[]) ::
(nat_lit 118, Obj.mk (.type "tuple") none (Data.seq #[.str (.ofString "form") 329]) #[]) ::
(nat_lit 119, Obj.mk (.type "dict") none (Data.dict #[DictEntry.mk (PyData.keyHash P (.ofString "__module__")) (.str (.ofString "__module__") 316) (.str (.ofString "formcycle.errors") 187), DictEntry.mk (PyData.keyHash P (.ofString "__firstlineno__")) (.str (.ofString "__firstlineno__") 320) (.int 21 319), DictEntry.mk (PyData.keyHash P (.ofString "__init__")) (.str (.ofString "__init__") 328) (.ref 117), DictEntry.mk (PyData.keyHash P (.ofString "__static_attributes__")) (.str (.ofString "__static_attributes__") 330) (.ref 118), DictEntry.mk (PyData.keyHash P (.ofString "__doc__")) (.str (.ofString "__doc__") 331) .none] 2) #[]) ::
(nat_lit 120, Obj.mk (.type "type") none (Data.cls (ClassData.mk (.ofString "NotLevel") [.ref 24] [.ref 120, .ref 24, .type "ValueError", .type "Exception", .type "BaseException", .type "object"] 119 (.ofString "NotLevel") Bool.true [] [] Bool.false none Bool.false)) #[some (.ref 104), none, some (.str (.ofString "NotLevel") 309), some (.str (.ofString "NotLevel") 317), some (.builtin "ValueError.__new__"), some (.bool Bool.true)]) ::
(nat_lit 123, Obj.mk (.type "tuple") none (Data.seq #[.ref 24]) #[]) ::
(nat_lit 130, Obj.mk (.type "tuple") none (Data.seq #[]) #[]) ::
(nat_lit 132, Obj.mk (.type "tuple") none (Data.seq #[.str (.ofString "self") 349, .str (.ofString "turn") 350]) #[]) ::
(nat_lit 133, Obj.mk (.type "tuple") none (Data.seq #[]) #[]) ::
(nat_lit 135, Obj.mk (.type "code") none (Data.fields #[.str (.ofString "__init__") 346, .str (.ofString "NotOwn.__init__") 347, .str (.ofString "/claim/cut.py") 348, .int 27 0, .int 2 0, .int 0 0, .int 0 0, .int 3 0, .ref 130, .bool Bool.true, .int 181 0, .ref 131, .none, .ref 132, .ref 133, .ref 134, .int 351 0, .int 27 0, .str (.ofString "/claim/cut.py") 352]) #[]) ::
(nat_lit 136, Obj.mk (.type "function") none (Data.func (FuncData.mk (.ofString "__init__") (.ofString "NotOwn.__init__") (Arguments.mk [] [Arg.mk (.ofString "self") none (.mk 27 17 27 21), Arg.mk (.ofString "turn") none (.mk 27 23 27 27)] none [] [] none []) (FuncBody.stmts [Stmt.Assign [.Attribute (.Name (.ofString "self") (.mk 28 8 28 12)) (.ofString "turn") (.mk 28 8 28 17)] (.Name (.ofString "turn") (.mk 28 20 28 24)) (.mk 28 8 28 24)]) (Scope.mk ScopeKind.function [(.ofString "self", .local), (.ofString "turn", .local)] Bool.false Bool.false []) 3 [] .none .none .none (.str (.ofString "formcycle.errors") 187) none (.ref 135) .none 0)) #[]) ::
(nat_lit 137, Obj.mk (.type "tuple") none (Data.seq #[.str (.ofString "turn") 354]) #[]) ::
(nat_lit 138, Obj.mk (.type "dict") none (Data.dict #[DictEntry.mk (PyData.keyHash P (.ofString "__module__")) (.str (.ofString "__module__") 341) (.str (.ofString "formcycle.errors") 187), DictEntry.mk (PyData.keyHash P (.ofString "__firstlineno__")) (.str (.ofString "__firstlineno__") 345) (.int 25 344), DictEntry.mk (PyData.keyHash P (.ofString "__init__")) (.str (.ofString "__init__") 353) (.ref 136), DictEntry.mk (PyData.keyHash P (.ofString "__static_attributes__")) (.str (.ofString "__static_attributes__") 355) (.ref 137), DictEntry.mk (PyData.keyHash P (.ofString "__doc__")) (.str (.ofString "__doc__") 356) .none] 2) #[]) ::
(nat_lit 139, Obj.mk (.type "type") none (Data.cls (ClassData.mk (.ofString "NotOwn") [.ref 24] [.ref 139, .ref 24, .type "ValueError", .type "Exception", .type "BaseException", .type "object"] 138 (.ofString "NotOwn") Bool.true [] [] Bool.false none Bool.false)) #[some (.ref 123), none, some (.str (.ofString "NotOwn") 334), some (.str (.ofString "NotOwn") 342), some (.builtin "ValueError.__new__"), some (.bool Bool.true)]) ::
(nat_lit 142, Obj.mk (.type "tuple") none (Data.seq #[.ref 24]) #[]) ::
(nat_lit 149, Obj.mk (.type "tuple") none (Data.seq #[]) #[]) ::
(nat_lit 150, Obj.mk (.type "dict") none (Data.dict #[DictEntry.mk (PyData.keyHash P (.ofString "__module__")) (.str (.ofString "__module__") 366) (.str (.ofString "formcycle.errors") 187), DictEntry.mk (PyData.keyHash P (.ofString "__firstlineno__")) (.str (.ofString "__firstlineno__") 370) (.int 29 369), DictEntry.mk (PyData.keyHash P (.ofString "__static_attributes__")) (.str (.ofString "__static_attributes__") 371) (.ref 149), DictEntry.mk (PyData.keyHash P (.ofString "__doc__")) (.str (.ofString "__doc__") 372) .none] 2) #[]) ::
(nat_lit 151, Obj.mk (.type "type") none (Data.cls (ClassData.mk (.ofString "Apart") [.ref 24] [.ref 151, .ref 24, .type "ValueError", .type "Exception", .type "BaseException", .type "object"] 150 (.ofString "Apart") Bool.true [] [] Bool.false none Bool.false)) #[some (.ref 142), none, some (.str (.ofString "Apart") 359), some (.str (.ofString "Apart") 367), some (.builtin "ValueError.__new__"), some (.bool Bool.true)]) ::
(nat_lit 154, Obj.mk (.type "tuple") none (Data.seq #[.ref 24]) #[]) ::
(nat_lit 161, Obj.mk (.type "tuple") none (Data.seq #[]) #[]) ::
(nat_lit 163, Obj.mk (.type "tuple") none (Data.seq #[.str (.ofString "self") 390, .str (.ofString "form") 391]) #[]) ::
(nat_lit 164, Obj.mk (.type "tuple") none (Data.seq #[]) #[]) ::
(nat_lit 166, Obj.mk (.type "code") none (Data.fields #[.str (.ofString "__init__") 387, .str (.ofString "NotPlain.__init__") 388, .str (.ofString "/claim/cut.py") 389, .int 33 0, .int 2 0, .int 0 0, .int 0 0, .int 3 0, .ref 161, .bool Bool.true, .int 181 0, .ref 162, .none, .ref 163, .ref 164, .ref 165, .int 392 0, .int 33 0, .str (.ofString "/claim/cut.py") 393]) #[]) ::
(nat_lit 167, Obj.mk (.type "function") none (Data.func (FuncData.mk (.ofString "__init__") (.ofString "NotPlain.__init__") (Arguments.mk [] [Arg.mk (.ofString "self") none (.mk 33 17 33 21), Arg.mk (.ofString "form") none (.mk 33 23 33 27)] none [] [] none []) (FuncBody.stmts [Stmt.Assign [.Attribute (.Name (.ofString "self") (.mk 34 8 34 12)) (.ofString "form") (.mk 34 8 34 17)] (.Name (.ofString "form") (.mk 34 20 34 24)) (.mk 34 8 34 24)]) (Scope.mk ScopeKind.function [(.ofString "self", .local), (.ofString "form", .local)] Bool.false Bool.false []) 3 [] .none .none .none (.str (.ofString "formcycle.errors") 187) none (.ref 166) .none 0)) #[]) ::
(nat_lit 168, Obj.mk (.type "tuple") none (Data.seq #[.str (.ofString "form") 395]) #[]) ::
(nat_lit 169, Obj.mk (.type "dict") none (Data.dict #[DictEntry.mk (PyData.keyHash P (.ofString "__module__")) (.str (.ofString "__module__") 382) (.str (.ofString "formcycle.errors") 187), DictEntry.mk (PyData.keyHash P (.ofString "__firstlineno__")) (.str (.ofString "__firstlineno__") 386) (.int 31 385), DictEntry.mk (PyData.keyHash P (.ofString "__init__")) (.str (.ofString "__init__") 394) (.ref 167), DictEntry.mk (PyData.keyHash P (.ofString "__static_attributes__")) (.str (.ofString "__static_attributes__") 396) (.ref 168), DictEntry.mk (PyData.keyHash P (.ofString "__doc__")) (.str (.ofString "__doc__") 397) .none] 2) #[]) ::
(nat_lit 170, Obj.mk (.type "type") none (Data.cls (ClassData.mk (.ofString "NotPlain") [.ref 24] [.ref 170, .ref 24, .type "ValueError", .type "Exception", .type "BaseException", .type "object"] 169 (.ofString "NotPlain") Bool.true [] [] Bool.false none Bool.false)) #[some (.ref 154), none, some (.str (.ofString "NotPlain") 375), some (.str (.ofString "NotPlain") 383), some (.builtin "ValueError.__new__"), some (.bool Bool.true)]) ::
(nat_lit 173, Obj.mk (.type "tuple") none (Data.seq #[.ref 24]) #[]) ::
(nat_lit 180, Obj.mk (.type "tuple") none (Data.seq #[]) #[]) ::
(nat_lit 182, Obj.mk (.type "tuple") none (Data.seq #[.str (.ofString "self") 415, .str (.ofString "number") 416]) #[]) ::
(nat_lit 183, Obj.mk (.type "tuple") none (Data.seq #[]) #[]) ::
(nat_lit 185, Obj.mk (.type "code") none (Data.fields #[.str (.ofString "__init__") 412, .str (.ofString "NoMeasure.__init__") 413, .str (.ofString "/claim/cut.py") 414, .int 37 0, .int 2 0, .int 0 0, .int 0 0, .int 3 0, .ref 180, .bool Bool.true, .int 181 0, .ref 181, .none, .ref 182, .ref 183, .ref 184, .int 417 0, .int 37 0, .str (.ofString "/claim/cut.py") 418]) #[]) ::
(nat_lit 186, Obj.mk (.type "function") none (Data.func (FuncData.mk (.ofString "__init__") (.ofString "NoMeasure.__init__") (Arguments.mk [] [Arg.mk (.ofString "self") none (.mk 37 17 37 21), Arg.mk (.ofString "number") none (.mk 37 23 37 29)] none [] [] none []) (FuncBody.stmts [Stmt.Assign [.Attribute (.Name (.ofString "self") (.mk 38 8 38 12)) (.ofString "number") (.mk 38 8 38 19)] (.Name (.ofString "number") (.mk 38 22 38 28)) (.mk 38 8 38 28)]) (Scope.mk ScopeKind.function [(.ofString "self", .local), (.ofString "number", .local)] Bool.false Bool.false []) 3 [] .none .none .none (.str (.ofString "formcycle.errors") 187) none (.ref 185) .none 0)) #[]) ::
(nat_lit 187, Obj.mk (.type "tuple") none (Data.seq #[.str (.ofString "number") 420]) #[]) ::
(nat_lit 188, Obj.mk (.type "dict") none (Data.dict #[DictEntry.mk (PyData.keyHash P (.ofString "__module__")) (.str (.ofString "__module__") 407) (.str (.ofString "formcycle.errors") 187), DictEntry.mk (PyData.keyHash P (.ofString "__firstlineno__")) (.str (.ofString "__firstlineno__") 411) (.int 35 410), DictEntry.mk (PyData.keyHash P (.ofString "__init__")) (.str (.ofString "__init__") 419) (.ref 186), DictEntry.mk (PyData.keyHash P (.ofString "__static_attributes__")) (.str (.ofString "__static_attributes__") 421) (.ref 187), DictEntry.mk (PyData.keyHash P (.ofString "__doc__")) (.str (.ofString "__doc__") 422) .none] 2) #[]) ::
(nat_lit 189, Obj.mk (.type "type") none (Data.cls (ClassData.mk (.ofString "NoMeasure") [.ref 24] [.ref 189, .ref 24, .type "ValueError", .type "Exception", .type "BaseException", .type "object"] 188 (.ofString "NoMeasure") Bool.true [] [] Bool.false none Bool.false)) #[some (.ref 173), none, some (.str (.ofString "NoMeasure") 400), some (.str (.ofString "NoMeasure") 408), some (.builtin "ValueError.__new__"), some (.bool Bool.true)]) ::
(nat_lit 192, Obj.mk (.type "tuple") none (Data.seq #[.ref 24]) #[]) ::
(nat_lit 199, Obj.mk (.type "tuple") none (Data.seq #[]) #[]) ::
(nat_lit 200, Obj.mk (.type "dict") none (Data.dict #[DictEntry.mk (PyData.keyHash P (.ofString "__module__")) (.str (.ofString "__module__") 432) (.str (.ofString "formcycle.errors") 187), DictEntry.mk (PyData.keyHash P (.ofString "__firstlineno__")) (.str (.ofString "__firstlineno__") 436) (.int 39 435), DictEntry.mk (PyData.keyHash P (.ofString "__static_attributes__")) (.str (.ofString "__static_attributes__") 437) (.ref 199), DictEntry.mk (PyData.keyHash P (.ofString "__doc__")) (.str (.ofString "__doc__") 438) .none] 2) #[]) ::
(nat_lit 201, Obj.mk (.type "type") none (Data.cls (ClassData.mk (.ofString "Nought") [.ref 24] [.ref 201, .ref 24, .type "ValueError", .type "Exception", .type "BaseException", .type "object"] 200 (.ofString "Nought") Bool.true [] [] Bool.false none Bool.false)) #[some (.ref 192), none, some (.str (.ofString "Nought") 425), some (.str (.ofString "Nought") 433), some (.builtin "ValueError.__new__"), some (.bool Bool.true)]) ::
(nat_lit 204, Obj.mk (.type "tuple") none (Data.seq #[.ref 24]) #[]) ::
(nat_lit 211, Obj.mk (.type "tuple") none (Data.seq #[]) #[]) ::
(nat_lit 213, Obj.mk (.type "tuple") none (Data.seq #[.str (.ofString "self") 456, .str (.ofString "point") 457]) #[]) ::
(nat_lit 214, Obj.mk (.type "tuple") none (Data.seq #[]) #[]) ::
(nat_lit 216, Obj.mk (.type "code") none (Data.fields #[.str (.ofString "__init__") 453, .str (.ofString "NoAnswer.__init__") 454, .str (.ofString "/claim/cut.py") 455, .int 43 0, .int 2 0, .int 0 0, .int 0 0, .int 3 0, .ref 211, .bool Bool.true, .int 181 0, .ref 212, .none, .ref 213, .ref 214, .ref 215, .int 458 0, .int 43 0, .str (.ofString "/claim/cut.py") 459]) #[]) ::
(nat_lit 217, Obj.mk (.type "function") none (Data.func (FuncData.mk (.ofString "__init__") (.ofString "NoAnswer.__init__") (Arguments.mk [] [Arg.mk (.ofString "self") none (.mk 43 17 43 21), Arg.mk (.ofString "point") none (.mk 43 23 43 28)] none [] [] none []) (FuncBody.stmts [Stmt.Assign [.Attribute (.Name (.ofString "self") (.mk 44 8 44 12)) (.ofString "point") (.mk 44 8 44 18)] (.Name (.ofString "point") (.mk 44 21 44 26)) (.mk 44 8 44 26)]) (Scope.mk ScopeKind.function [(.ofString "self", .local), (.ofString "point", .local)] Bool.false Bool.false []) 3 [] .none .none .none (.str (.ofString "formcycle.errors") 187) none (.ref 216) .none 0)) #[]) ::
(nat_lit 218, Obj.mk (.type "tuple") none (Data.seq #[.str (.ofString "point") 461]) #[]) ::
(nat_lit 219, Obj.mk (.type "dict") none (Data.dict #[DictEntry.mk (PyData.keyHash P (.ofString "__module__")) (.str (.ofString "__module__") 448) (.str (.ofString "formcycle.errors") 187), DictEntry.mk (PyData.keyHash P (.ofString "__firstlineno__")) (.str (.ofString "__firstlineno__") 452) (.int 41 451), DictEntry.mk (PyData.keyHash P (.ofString "__init__")) (.str (.ofString "__init__") 460) (.ref 217), DictEntry.mk (PyData.keyHash P (.ofString "__static_attributes__")) (.str (.ofString "__static_attributes__") 462) (.ref 218), DictEntry.mk (PyData.keyHash P (.ofString "__doc__")) (.str (.ofString "__doc__") 463) .none] 2) #[]) ::
(nat_lit 220, Obj.mk (.type "type") none (Data.cls (ClassData.mk (.ofString "NoAnswer") [.ref 24] [.ref 220, .ref 24, .type "ValueError", .type "Exception", .type "BaseException", .type "object"] 219 (.ofString "NoAnswer") Bool.true [] [] Bool.false none Bool.false)) #[some (.ref 204), none, some (.str (.ofString "NoAnswer") 441), some (.str (.ofString "NoAnswer") 449), some (.builtin "ValueError.__new__"), some (.bool Bool.true)]) ::
(nat_lit 223, Obj.mk (.type "tuple") none (Data.seq #[]) #[]) ::
(nat_lit 225, Obj.mk (.type "tuple") none (Data.seq #[.str (.ofString "one") 471, .str (.ofString "other") 472, .str (.ofString "rest") 473]) #[]) ::
(nat_lit 226, Obj.mk (.type "tuple") none (Data.seq #[]) #[]) ::
(nat_lit 228, Obj.mk (.type "code") none (Data.fields #[.str (.ofString "divisor") 468, .str (.ofString "divisor") 469, .str (.ofString "/claim/cut.py") 470, .int 46 0, .int 2 0, .int 0 0, .int 0 0, .int 3 0, .ref 223, .bool Bool.true, .int 181 0, .ref 224, .none, .ref 225, .ref 226, .ref 227, .int 474 0, .int 46 0, .str (.ofString "/claim/cut.py") 475]) #[]) ::
(nat_lit 229, Obj.mk (.type "function") none (Data.func (FuncData.mk (.ofString "divisor") (.ofString "divisor") (Arguments.mk [] [Arg.mk (.ofString "one") none (.mk 46 12 46 15), Arg.mk (.ofString "other") none (.mk 46 17 46 22)] none [] [] none []) (FuncBody.stmts [Stmt.While (.Compare (.Name (.ofString "other") (.mk 47 10 47 15)) [CmpOp.NotEq] [.Constant (Const.int 0) 0 (.mk 47 19 47 20)] (.mk 47 10 47 20)) [Stmt.Assign [.Name (.ofString "rest") (.mk 48 8 48 12)] (.BinOp (.Name (.ofString "one") (.mk 48 15 48 18)) Operator.Mod (.Name (.ofString "other") (.mk 48 21 48 26)) (.mk 48 15 48 26)) (.mk 48 8 48 26), Stmt.Assign [.Name (.ofString "one") (.mk 49 8 49 11)] (.Name (.ofString "other") (.mk 49 14 49 19)) (.mk 49 8 49 19), Stmt.Assign [.Name (.ofString "other") (.mk 50 8 50 13)] (.Name (.ofString "rest") (.mk 50 16 50 20)) (.mk 50 8 50 20)] [] (.mk 47 4 50 20), Stmt.Return (some (.Call (.Name (.ofString "abs") (.mk 51 11 51 14)) [.Name (.ofString "one") (.mk 51 15 51 18)] [] (.mk 51 11 51 19))) (.mk 51 4 51 19)]) (Scope.mk ScopeKind.function [(.ofString "one", .local), (.ofString "other", .local), (.ofString "rest", .local), (.ofString "abs", .globalImplicit)] Bool.false Bool.false []) 3 [] .none .none .none (.str (.ofString "formcycle.wholes") 466) none (.ref 228) .none 0)) #[]) ::
(nat_lit 230, Obj.mk (.type "tuple") none (Data.seq #[]) #[]) ::
(nat_lit 232, Obj.mk (.type "tuple") none (Data.seq #[.str (.ofString "number") 480, .str (.ofString "guess") 481, .str (.ofString "better") 482]) #[]) ::
(nat_lit 233, Obj.mk (.type "tuple") none (Data.seq #[]) #[]) ::
(nat_lit 235, Obj.mk (.type "code") none (Data.fields #[.str (.ofString "root") 477, .str (.ofString "root") 478, .str (.ofString "/claim/cut.py") 479, .int 52 0, .int 1 0, .int 0 0, .int 0 0, .int 3 0, .ref 230, .bool Bool.true, .int 181 0, .ref 231, .none, .ref 232, .ref 233, .ref 234, .int 483 0, .int 52 0, .str (.ofString "/claim/cut.py") 484]) #[]) ::
(nat_lit 236, Obj.mk (.type "function") none (Data.func (FuncData.mk (.ofString "root") (.ofString "root") (Arguments.mk [] [Arg.mk (.ofString "number") none (.mk 52 9 52 15)] none [] [] none []) (FuncBody.stmts [Stmt.If (.Compare (.Name (.ofString "number") (.mk 53 7 53 13)) [CmpOp.Lt] [.Constant (Const.int 0) 0 (.mk 53 16 53 17)] (.mk 53 7 53 17)) [Stmt.Raise (some (.Call (.Name (.ofString "NoRoot") (.mk 54 14 54 20)) [.Name (.ofString "number") (.mk 54 21 54 27)] [] (.mk 54 14 54 28))) none (.mk 54 8 54 28)] [] (.mk 53 4 54 28), Stmt.If (.Compare (.Name (.ofString "number") (.mk 55 7 55 13)) [CmpOp.Eq] [.Constant (Const.int 0) 0 (.mk 55 17 55 18)] (.mk 55 7 55 18)) [Stmt.Return (some (.Constant (Const.int 0) 0 (.mk 56 15 56 16))) (.mk 56 8 56 16)] [] (.mk 55 4 56 16), Stmt.Assign [.Name (.ofString "guess") (.mk 57 4 57 9)] (.BinOp (.Constant (Const.int 1) 0 (.mk 57 12 57 13)) Operator.LShift (.BinOp (.BinOp (.Call (.Attribute (.Name (.ofString "number") (.mk 57 18 57 24)) (.ofString "bit_length") (.mk 57 18 57 35)) [] [] (.mk 57 18 57 37)) Operator.Add (.Constant (Const.int 1) 0 (.mk 57 40 57 41)) (.mk 57 18 57 41)) Operator.FloorDiv (.Constant (Const.int 2) 0 (.mk 57 46 57 47)) (.mk 57 17 57 47)) (.mk 57 12 57 47)) (.mk 57 4 57 47), Stmt.Assign [.Name (.ofString "better") (.mk 58 4 58 10)] (.BinOp (.BinOp (.Name (.ofString "guess") (.mk 58 14 58 19)) Operator.Add (.BinOp (.Name (.ofString "number") (.mk 58 22 58 28)) Operator.FloorDiv (.Name (.ofString "guess") (.mk 58 32 58 37)) (.mk 58 22 58 37)) (.mk 58 14 58 37)) Operator.FloorDiv (.Constant (Const.int 2) 0 (.mk 58 42 58 43)) (.mk 58 13 58 43)) (.mk 58 4 58 43), Stmt.While (.Compare (.Name (.ofString "better") (.mk 59 10 59 16)) [CmpOp.Lt] [.Name (.ofString "guess") (.mk 59 19 59 24)] (.mk 59 10 59 24)) [Stmt.Assign [.Name (.ofString "guess") (.mk 60 8 60 13)] (.Name (.ofString "better") (.mk 60 16 60 22)) (.mk 60 8 60 22), Stmt.Assign [.Name (.ofString "better") (.mk 61 8 61 14)] (.BinOp (.BinOp (.Name (.ofString "guess") (.mk 61 18 61 23)) Operator.Add (.BinOp (.Name (.ofString "number") (.mk 61 26 61 32)) Operator.FloorDiv (.Name (.ofString "guess") (.mk 61 36 61 41)) (.mk 61 26 61 41)) (.mk 61 18 61 41)) Operator.FloorDiv (.Constant (Const.int 2) 0 (.mk 61 46 61 47)) (.mk 61 17 61 47)) (.mk 61 8 61 47)] [] (.mk 59 4 61 47), Stmt.Return (some (.Name (.ofString "guess") (.mk 62 11 62 16))) (.mk 62 4 62 16)]) (Scope.mk ScopeKind.function [(.ofString "number", .local), (.ofString "guess", .local), (.ofString "better", .local), (.ofString "NoRoot", .globalImplicit)] Bool.false Bool.false []) 3 [] .none .none .none (.str (.ofString "formcycle.wholes") 466) none (.ref 235) .none 0)) #[]) ::
(nat_lit 237, Obj.mk (.type "tuple") none (Data.seq #[]) #[]) ::
(nat_lit 239, Obj.mk (.type "tuple") none (Data.seq #[.str (.ofString "number") 489, .str (.ofString "side") 490]) #[]) ::
(nat_lit 240, Obj.mk (.type "tuple") none (Data.seq #[]) #[]) ::
(nat_lit 242, Obj.mk (.type "code") none (Data.fields #[.str (.ofString "is_square") 486, .str (.ofString "is_square") 487, .str (.ofString "/claim/cut.py") 488, .int 63 0, .int 1 0, .int 0 0, .int 0 0, .int 3 0, .ref 237, .bool Bool.true, .int 181 0, .ref 238, .none, .ref 239, .ref 240, .ref 241, .int 491 0, .int 63 0, .str (.ofString "/claim/cut.py") 492]) #[]) ::
(nat_lit 243, Obj.mk (.type "function") none (Data.func (FuncData.mk (.ofString "is_square") (.ofString "is_square") (Arguments.mk [] [Arg.mk (.ofString "number") none (.mk 63 14 63 20)] none [] [] none []) (FuncBody.stmts [Stmt.If (.Compare (.Name (.ofString "number") (.mk 64 7 64 13)) [CmpOp.Lt] [.Constant (Const.int 0) 0 (.mk 64 16 64 17)] (.mk 64 7 64 17)) [Stmt.Return (some (.Constant (Const.bool Bool.false) 0 (.mk 65 15 65 20))) (.mk 65 8 65 20)] [] (.mk 64 4 65 20), Stmt.Assign [.Name (.ofString "side") (.mk 66 4 66 8)] (.Call (.Name (.ofString "root") (.mk 66 11 66 15)) [.Name (.ofString "number") (.mk 66 16 66 22)] [] (.mk 66 11 66 23)) (.mk 66 4 66 23), Stmt.Return (some (.Compare (.BinOp (.Name (.ofString "side") (.mk 67 11 67 15)) Operator.Mult (.Name (.ofString "side") (.mk 67 18 67 22)) (.mk 67 11 67 22)) [CmpOp.Eq] [.Name (.ofString "number") (.mk 67 26 67 32)] (.mk 67 11 67 32))) (.mk 67 4 67 32)]) (Scope.mk ScopeKind.function [(.ofString "number", .local), (.ofString "side", .local), (.ofString "root", .globalImplicit)] Bool.false Bool.false []) 3 [] .none .none .none (.str (.ofString "formcycle.wholes") 466) none (.ref 242) .none 0)) #[]) ::
(nat_lit 244, Obj.mk (.type "tuple") none (Data.seq #[]) #[]) ::
(nat_lit 246, Obj.mk (.type "tuple") none (Data.seq #[.str (.ofString "number") 497, .str (.ofString "most") 498]) #[]) ::
(nat_lit 247, Obj.mk (.type "tuple") none (Data.seq #[]) #[]) ::
(nat_lit 249, Obj.mk (.type "code") none (Data.fields #[.str (.ofString "check_at_most") 494, .str (.ofString "check_at_most") 495, .str (.ofString "/claim/cut.py") 496, .int 68 0, .int 2 0, .int 0 0, .int 0 0, .int 3 0, .ref 244, .bool Bool.true, .int 181 0, .ref 245, .none, .ref 246, .ref 247, .ref 248, .int 499 0, .int 68 0, .str (.ofString "/claim/cut.py") 500]) #[]) ::
(nat_lit 250, Obj.mk (.type "function") none (Data.func (FuncData.mk (.ofString "check_at_most") (.ofString "check_at_most") (Arguments.mk [] [Arg.mk (.ofString "number") none (.mk 68 18 68 24), Arg.mk (.ofString "most") none (.mk 68 26 68 30)] none [] [] none []) (FuncBody.stmts [Stmt.If (.Compare (.Name (.ofString "number") (.mk 69 7 69 13)) [CmpOp.Gt] [.Name (.ofString "most") (.mk 69 16 69 20)] (.mk 69 7 69 20)) [Stmt.Raise (some (.Call (.Name (.ofString "TooGreat") (.mk 70 14 70 22)) [.Name (.ofString "number") (.mk 70 23 70 29), .Name (.ofString "most") (.mk 70 31 70 35)] [] (.mk 70 14 70 36))) none (.mk 70 8 70 36)] [] (.mk 69 4 70 36)]) (Scope.mk ScopeKind.function [(.ofString "number", .local), (.ofString "most", .local), (.ofString "TooGreat", .globalImplicit)] Bool.false Bool.false []) 3 [] .none .none .none (.str (.ofString "formcycle.wholes") 466) none (.ref 249) .none 0)) #[]) ::
(nat_lit 251, Obj.mk (.type "tuple") none (Data.seq #[.int 1 504, .int 0 505, .int 0 506, .int 1 507]) #[]) ::
(nat_lit 252, Obj.mk (.type "tuple") none (Data.seq #[]) #[]) ::
(nat_lit 254, Obj.mk (.type "tuple") none (Data.seq #[.str (.ofString "turn") 512]) #[]) ::
(nat_lit 255, Obj.mk (.type "tuple") none (Data.seq #[]) #[]) ::
(nat_lit 257, Obj.mk (.type "code") none (Data.fields #[.str (.ofString "is_turn") 509, .str (.ofString "is_turn") 510, .str (.ofString "/claim/cut.py") 511, .int 73 0, .int 1 0, .int 0 0, .int 0 0, .int 3 0, .ref 252, .bool Bool.true, .int 181 0, .ref 253, .none, .ref 254, .ref 255, .ref 256, .int 513 0, .int 73 0, .str (.ofString "/claim/cut.py") 514]) #[]) ::
(nat_lit 258, Obj.mk (.type "function") none (Data.func (FuncData.mk (.ofString "is_turn") (.ofString "is_turn") (Arguments.mk [] [Arg.mk (.ofString "turn") none (.mk 73 12 73 16)] none [] [] none []) (FuncBody.stmts [Stmt.Return (some (.Compare (.BinOp (.BinOp (.Subscript (.Name (.ofString "turn") (.mk 74 11 74 15)) (.Constant (Const.int 0) 0 (.mk 74 16 74 17)) (.mk 74 11 74 18)) Operator.Mult (.Subscript (.Name (.ofString "turn") (.mk 74 21 74 25)) (.Constant (Const.int 3) 0 (.mk 74 26 74 27)) (.mk 74 21 74 28)) (.mk 74 11 74 28)) Operator.Sub (.BinOp (.Subscript (.Name (.ofString "turn") (.mk 74 31 74 35)) (.Constant (Const.int 1) 0 (.mk 74 36 74 37)) (.mk 74 31 74 38)) Operator.Mult (.Subscript (.Name (.ofString "turn") (.mk 74 41 74 45)) (.Constant (Const.int 2) 0 (.mk 74 46 74 47)) (.mk 74 41 74 48)) (.mk 74 31 74 48)) (.mk 74 11 74 48)) [CmpOp.Eq] [.Constant (Const.int 1) 0 (.mk 74 52 74 53)] (.mk 74 11 74 53))) (.mk 74 4 74 53)]) (Scope.mk ScopeKind.function [(.ofString "turn", .local)] Bool.false Bool.false []) 3 [] .none .none .none (.str (.ofString "formcycle.turns") 502) none (.ref 257) .none 0)) #[]) ::
(nat_lit 259, Obj.mk (.type "tuple") none (Data.seq #[]) #[]) ::
(nat_lit 261, Obj.mk (.type "tuple") none (Data.seq #[.str (.ofString "turn") 519]) #[]) ::
(nat_lit 262, Obj.mk (.type "tuple") none (Data.seq #[]) #[]) ::
(nat_lit 264, Obj.mk (.type "code") none (Data.fields #[.str (.ofString "check_turn") 516, .str (.ofString "check_turn") 517, .str (.ofString "/claim/cut.py") 518, .int 75 0, .int 1 0, .int 0 0, .int 0 0, .int 3 0, .ref 259, .bool Bool.true, .int 181 0, .ref 260, .none, .ref 261, .ref 262, .ref 263, .int 520 0, .int 75 0, .str (.ofString "/claim/cut.py") 521]) #[]) ::
(nat_lit 265, Obj.mk (.type "function") none (Data.func (FuncData.mk (.ofString "check_turn") (.ofString "check_turn") (Arguments.mk [] [Arg.mk (.ofString "turn") none (.mk 75 15 75 19)] none [] [] none []) (FuncBody.stmts [Stmt.If (.UnaryOp UnaryOp.Not (.Call (.Name (.ofString "is_turn") (.mk 76 11 76 18)) [.Name (.ofString "turn") (.mk 76 19 76 23)] [] (.mk 76 11 76 24)) (.mk 76 7 76 24)) [Stmt.Raise (some (.Call (.Name (.ofString "NoTurn") (.mk 77 14 77 20)) [.Name (.ofString "turn") (.mk 77 21 77 25)] [] (.mk 77 14 77 26))) none (.mk 77 8 77 26)] [] (.mk 76 4 77 26)]) (Scope.mk ScopeKind.function [(.ofString "turn", .local), (.ofString "is_turn", .globalImplicit), (.ofString "NoTurn", .globalImplicit)] Bool.false Bool.false []) 3 [] .none .none .none (.str (.ofString "formcycle.turns") 502) none (.ref 264) .none 0)) #[]) ::
(nat_lit 266, Obj.mk (.type "tuple") none (Data.seq #[]) #[]) ::
(nat_lit 268, Obj.mk (.type "tuple") none (Data.seq #[.str (.ofString "one") 526, .str (.ofString "other") 527]) #[]) ::
(nat_lit 269, Obj.mk (.type "tuple") none (Data.seq #[]) #[]) ::
(nat_lit 271, Obj.mk (.type "code") none (Data.fields #[.str (.ofString "put_behind") 523, .str (.ofString "put_behind") 524, .str (.ofString "/claim/cut.py") 525, .int 78 0, .int 2 0, .int 0 0, .int 0 0, .int 3 0, .ref 266, .bool Bool.true, .int 181 0, .ref 267, .none, .ref 268, .ref 269, .ref 270, .int 528 0, .int 78 0, .str (.ofString "/claim/cut.py") 529]) #[]) ::
(nat_lit 272, Obj.mk (.type "function") none (Data.func (FuncData.mk (.ofString "put_behind") (.ofString "put_behind") (Arguments.mk [] [Arg.mk (.ofString "one") none (.mk 78 15 78 18), Arg.mk (.ofString "other") none (.mk 78 20 78 25)] none [] [] none []) (FuncBody.stmts [Stmt.Return (some (.Tuple [.BinOp (.BinOp (.Subscript (.Name (.ofString "one") (.mk 79 12 79 15)) (.Constant (Const.int 0) 0 (.mk 79 16 79 17)) (.mk 79 12 79 18)) Operator.Mult (.Subscript (.Name (.ofString "other") (.mk 79 21 79 26)) (.Constant (Const.int 0) 0 (.mk 79 27 79 28)) (.mk 79 21 79 29)) (.mk 79 12 79 29)) Operator.Add (.BinOp (.Subscript (.Name (.ofString "one") (.mk 79 32 79 35)) (.Constant (Const.int 1) 0 (.mk 79 36 79 37)) (.mk 79 32 79 38)) Operator.Mult (.Subscript (.Name (.ofString "other") (.mk 79 41 79 46)) (.Constant (Const.int 2) 0 (.mk 79 47 79 48)) (.mk 79 41 79 49)) (.mk 79 32 79 49)) (.mk 79 12 79 49), .BinOp (.BinOp (.Subscript (.Name (.ofString "one") (.mk 79 51 79 54)) (.Constant (Const.int 0) 0 (.mk 79 55 79 56)) (.mk 79 51 79 57)) Operator.Mult (.Subscript (.Name (.ofString "other") (.mk 79 60 79 65)) (.Constant (Const.int 1) 0 (.mk 79 66 79 67)) (.mk 79 60 79 68)) (.mk 79 51 79 68)) Operator.Add (.BinOp (.Subscript (.Name (.ofString "one") (.mk 79 71 79 74)) (.Constant (Const.int 1) 0 (.mk 79 75 79 76)) (.mk 79 71 79 77)) Operator.Mult (.Subscript (.Name (.ofString "other") (.mk 79 80 79 85)) (.Constant (Const.int 3) 0 (.mk 79 86 79 87)) (.mk 79 80 79 88)) (.mk 79 71 79 88)) (.mk 79 51 79 88), .BinOp (.BinOp (.Subscript (.Name (.ofString "one") (.mk 79 90 79 93)) (.Constant (Const.int 2) 0 (.mk 79 94 79 95)) (.mk 79 90 79 96)) Operator.Mult (.Subscript (.Name (.ofString "other") (.mk 79 99 79 104)) (.Constant (Const.int 0) 0 (.mk 79 105 79 106)) (.mk 79 99 79 107)) (.mk 79 90 79 107)) Operator.Add (.BinOp (.Subscript (.Name (.ofString "one") (.mk 79 110 79 113)) (.Constant (Const.int 3) 0 (.mk 79 114 79 115)) (.mk 79 110 79 116)) Operator.Mult (.Subscript (.Name (.ofString "other") (.mk 79 119 79 124)) (.Constant (Const.int 2) 0 (.mk 79 125 79 126)) (.mk 79 119 79 127)) (.mk 79 110 79 127)) (.mk 79 90 79 127), .BinOp (.BinOp (.Subscript (.Name (.ofString "one") (.mk 79 129 79 132)) (.Constant (Const.int 2) 0 (.mk 79 133 79 134)) (.mk 79 129 79 135)) Operator.Mult (.Subscript (.Name (.ofString "other") (.mk 79 138 79 143)) (.Constant (Const.int 1) 0 (.mk 79 144 79 145)) (.mk 79 138 79 146)) (.mk 79 129 79 146)) Operator.Add (.BinOp (.Subscript (.Name (.ofString "one") (.mk 79 149 79 152)) (.Constant (Const.int 3) 0 (.mk 79 153 79 154)) (.mk 79 149 79 155)) Operator.Mult (.Subscript (.Name (.ofString "other") (.mk 79 158 79 163)) (.Constant (Const.int 3) 0 (.mk 79 164 79 165)) (.mk 79 158 79 166)) (.mk 79 149 79 166)) (.mk 79 129 79 166)] 0 (.mk 79 11 79 167))) (.mk 79 4 79 167)]) (Scope.mk ScopeKind.function [(.ofString "one", .local), (.ofString "other", .local)] Bool.false Bool.false []) 3 [] .none .none .none (.str (.ofString "formcycle.turns") 502) none (.ref 271) .none 0)) #[]) ::
(nat_lit 273, Obj.mk (.type "tuple") none (Data.seq #[]) #[]) ::
(nat_lit 275, Obj.mk (.type "tuple") none (Data.seq #[.str (.ofString "turn") 534]) #[]) ::
(nat_lit 276, Obj.mk (.type "tuple") none (Data.seq #[]) #[]) ::
(nat_lit 278, Obj.mk (.type "code") none (Data.fields #[.str (.ofString "back") 531, .str (.ofString "back") 532, .str (.ofString "/claim/cut.py") 533, .int 80 0, .int 1 0, .int 0 0, .int 0 0, .int 3 0, .ref 273, .bool Bool.true, .int 181 0, .ref 274, .none, .ref 275, .ref 276, .ref 277, .int 535 0, .int 80 0, .str (.ofString "/claim/cut.py") 536]) #[]) ::
(nat_lit 279, Obj.mk (.type "function") none (Data.func (FuncData.mk (.ofString "back") (.ofString "back") (Arguments.mk [] [Arg.mk (.ofString "turn") none (.mk 80 9 80 13)] none [] [] none []) (FuncBody.stmts [Stmt.Expr (.Call (.Name (.ofString "check_turn") (.mk 81 4 81 14)) [.Name (.ofString "turn") (.mk 81 15 81 19)] [] (.mk 81 4 81 20)) (.mk 81 4 81 20), Stmt.Return (some (.Tuple [.Subscript (.Name (.ofString "turn") (.mk 82 12 82 16)) (.Constant (Const.int 3) 0 (.mk 82 17 82 18)) (.mk 82 12 82 19), .UnaryOp UnaryOp.USub (.Subscript (.Name (.ofString "turn") (.mk 82 22 82 26)) (.Constant (Const.int 1) 0 (.mk 82 27 82 28)) (.mk 82 22 82 29)) (.mk 82 21 82 29), .UnaryOp UnaryOp.USub (.Subscript (.Name (.ofString "turn") (.mk 82 32 82 36)) (.Constant (Const.int 2) 0 (.mk 82 37 82 38)) (.mk 82 32 82 39)) (.mk 82 31 82 39), .Subscript (.Name (.ofString "turn") (.mk 82 41 82 45)) (.Constant (Const.int 0) 0 (.mk 82 46 82 47)) (.mk 82 41 82 48)] 0 (.mk 82 11 82 49))) (.mk 82 4 82 49)]) (Scope.mk ScopeKind.function [(.ofString "turn", .local), (.ofString "check_turn", .globalImplicit)] Bool.false Bool.false []) 3 [] .none .none .none (.str (.ofString "formcycle.turns") 502) none (.ref 278) .none 0)) #[]) ::
(nat_lit 280, Obj.mk (.type "tuple") none (Data.seq #[]) #[]) ::
(nat_lit 282, Obj.mk (.type "tuple") none (Data.seq #[.str (.ofString "form") 543]) #[]) ::
(nat_lit 283, Obj.mk (.type "tuple") none (Data.seq #[]) #[]) ::
(nat_lit 285, Obj.mk (.type "code") none (Data.fields #[.str (.ofString "measure") 540, .str (.ofString "measure") 541, .str (.ofString "/claim/cut.py") 542, .int 84 0, .int 1 0, .int 0 0, .int 0 0, .int 3 0, .ref 280, .bool Bool.true, .int 181 0, .ref 281, .none, .ref 282, .ref 283, .ref 284, .int 544 0, .int 84 0, .str (.ofString "/claim/cut.py") 545]) #[]) ::
(nat_lit 286, Obj.mk (.type "function") none (Data.func (FuncData.mk (.ofString "measure") (.ofString "measure") (Arguments.mk [] [Arg.mk (.ofString "form") none (.mk 84 12 84 16)] none [] [] none []) (FuncBody.stmts [Stmt.Return (some (.BinOp (.BinOp (.Subscript (.Name (.ofString "form") (.mk 85 11 85 15)) (.Constant (Const.int 1) 0 (.mk 85 16 85 17)) (.mk 85 11 85 18)) Operator.Mult (.Subscript (.Name (.ofString "form") (.mk 85 21 85 25)) (.Constant (Const.int 1) 0 (.mk 85 26 85 27)) (.mk 85 21 85 28)) (.mk 85 11 85 28)) Operator.Sub (.BinOp (.BinOp (.Constant (Const.int 4) 0 (.mk 85 31 85 32)) Operator.Mult (.Subscript (.Name (.ofString "form") (.mk 85 35 85 39)) (.Constant (Const.int 0) 0 (.mk 85 40 85 41)) (.mk 85 35 85 42)) (.mk 85 31 85 42)) Operator.Mult (.Subscript (.Name (.ofString "form") (.mk 85 45 85 49)) (.Constant (Const.int 2) 0 (.mk 85 50 85 51)) (.mk 85 45 85 52)) (.mk 85 31 85 52)) (.mk 85 11 85 52))) (.mk 85 4 85 52)]) (Scope.mk ScopeKind.function [(.ofString "form", .local)] Bool.false Bool.false []) 3 [] .none .none .none (.str (.ofString "formcycle.forms") 538) none (.ref 285) .none 0)) #[]) ::
(nat_lit 287, Obj.mk (.type "tuple") none (Data.seq #[]) #[]) ::
(nat_lit 289, Obj.mk (.type "tuple") none (Data.seq #[.str (.ofString "form") 550, .str (.ofString "point") 551, .str (.ofString "x") 552, .str (.ofString "y") 553]) #[]) ::
(nat_lit 290, Obj.mk (.type "tuple") none (Data.seq #[]) #[]) ::
(nat_lit 292, Obj.mk (.type "code") none (Data.fields #[.str (.ofString "value") 547, .str (.ofString "value") 548, .str (.ofString "/claim/cut.py") 549, .int 86 0, .int 2 0, .int 0 0, .int 0 0, .int 3 0, .ref 287, .bool Bool.true, .int 181 0, .ref 288, .none, .ref 289, .ref 290, .ref 291, .int 554 0, .int 86 0, .str (.ofString "/claim/cut.py") 555]) #[]) ::
(nat_lit 293, Obj.mk (.type "function") none (Data.func (FuncData.mk (.ofString "value") (.ofString "value") (Arguments.mk [] [Arg.mk (.ofString "form") none (.mk 86 10 86 14), Arg.mk (.ofString "point") none (.mk 86 16 86 21)] none [] [] none []) (FuncBody.stmts [Stmt.Assign [.Name (.ofString "x") (.mk 87 4 87 5)] (.Subscript (.Name (.ofString "point") (.mk 87 8 87 13)) (.Constant (Const.int 0) 0 (.mk 87 14 87 15)) (.mk 87 8 87 16)) (.mk 87 4 87 16), Stmt.Assign [.Name (.ofString "y") (.mk 88 4 88 5)] (.Subscript (.Name (.ofString "point") (.mk 88 8 88 13)) (.Constant (Const.int 1) 0 (.mk 88 14 88 15)) (.mk 88 8 88 16)) (.mk 88 4 88 16), Stmt.Return (some (.BinOp (.BinOp (.BinOp (.BinOp (.Subscript (.Name (.ofString "form") (.mk 89 11 89 15)) (.Constant (Const.int 0) 0 (.mk 89 16 89 17)) (.mk 89 11 89 18)) Operator.Mult (.Name (.ofString "x") (.mk 89 21 89 22)) (.mk 89 11 89 22)) Operator.Mult (.Name (.ofString "x") (.mk 89 25 89 26)) (.mk 89 11 89 26)) Operator.Add (.BinOp (.BinOp (.Subscript (.Name (.ofString "form") (.mk 89 29 89 33)) (.Constant (Const.int 1) 0 (.mk 89 34 89 35)) (.mk 89 29 89 36)) Operator.Mult (.Name (.ofString "x") (.mk 89 39 89 40)) (.mk 89 29 89 40)) Operator.Mult (.Name (.ofString "y") (.mk 89 43 89 44)) (.mk 89 29 89 44)) (.mk 89 11 89 44)) Operator.Add (.BinOp (.BinOp (.Subscript (.Name (.ofString "form") (.mk 89 47 89 51)) (.Constant (Const.int 2) 0 (.mk 89 52 89 53)) (.mk 89 47 89 54)) Operator.Mult (.Name (.ofString "y") (.mk 89 57 89 58)) (.mk 89 47 89 58)) Operator.Mult (.Name (.ofString "y") (.mk 89 61 89 62)) (.mk 89 47 89 62)) (.mk 89 11 89 62))) (.mk 89 4 89 62)]) (Scope.mk ScopeKind.function [(.ofString "form", .local), (.ofString "point", .local), (.ofString "x", .local), (.ofString "y", .local)] Bool.false Bool.false []) 3 [] .none .none .none (.str (.ofString "formcycle.forms") 538) none (.ref 292) .none 0)) #[]) ::
(nat_lit 294, Obj.mk (.type "tuple") none (Data.seq #[]) #[]) ::
(nat_lit 296, Obj.mk (.type "tuple") none (Data.seq #[.str (.ofString "form") 560]) #[]) ::
(nat_lit 297, Obj.mk (.type "tuple") none (Data.seq #[]) #[]) ::
(nat_lit 299, Obj.mk (.type "code") none (Data.fields #[.str (.ofString "content") 557, .str (.ofString "content") 558, .str (.ofString "/claim/cut.py") 559, .int 90 0, .int 1 0, .int 0 0, .int 0 0, .int 3 0, .ref 294, .bool Bool.true, .int 181 0, .ref 295, .none, .ref 296, .ref 297, .ref 298, .int 561 0, .int 90 0, .str (.ofString "/claim/cut.py") 562]) #[]) ::
(nat_lit 300, Obj.mk (.type "function") none (Data.func (FuncData.mk (.ofString "content") (.ofString "content") (Arguments.mk [] [Arg.mk (.ofString "form") none (.mk 90 12 90 16)] none [] [] none []) (FuncBody.stmts [Stmt.Return (some (.Call (.Name (.ofString "divisor") (.mk 91 11 91 18)) [.Call (.Name (.ofString "divisor") (.mk 91 19 91 26)) [.Subscript (.Name (.ofString "form") (.mk 91 27 91 31)) (.Constant (Const.int 0) 0 (.mk 91 32 91 33)) (.mk 91 27 91 34), .Subscript (.Name (.ofString "form") (.mk 91 36 91 40)) (.Constant (Const.int 1) 0 (.mk 91 41 91 42)) (.mk 91 36 91 43)] [] (.mk 91 19 91 44), .Subscript (.Name (.ofString "form") (.mk 91 46 91 50)) (.Constant (Const.int 2) 0 (.mk 91 51 91 52)) (.mk 91 46 91 53)] [] (.mk 91 11 91 54))) (.mk 91 4 91 54)]) (Scope.mk ScopeKind.function [(.ofString "form", .local), (.ofString "divisor", .globalImplicit)] Bool.false Bool.false []) 3 [] .none .none .none (.str (.ofString "formcycle.forms") 538) none (.ref 299) .none 0)) #[]) ::
(nat_lit 301, Obj.mk (.type "tuple") none (Data.seq #[]) #[]) ::
(nat_lit 303, Obj.mk (.type "tuple") none (Data.seq #[.str (.ofString "form") 567, .str (.ofString "turn") 568, .str (.ofString "left") 569, .str (.ofString "right") 570]) #[]) ::
(nat_lit 304, Obj.mk (.type "tuple") none (Data.seq #[]) #[]) ::
(nat_lit 306, Obj.mk (.type "code") none (Data.fields #[.str (.ofString "moved") 564, .str (.ofString "moved") 565, .str (.ofString "/claim/cut.py") 566, .int 92 0, .int 2 0, .int 0 0, .int 0 0, .int 3 0, .ref 301, .bool Bool.true, .int 181 0, .ref 302, .none, .ref 303, .ref 304, .ref 305, .int 571 0, .int 92 0, .str (.ofString "/claim/cut.py") 572]) #[]) ::
(nat_lit 307, Obj.mk (.type "function") none (Data.func (FuncData.mk (.ofString "moved") (.ofString "moved") (Arguments.mk [] [Arg.mk (.ofString "form") none (.mk 92 10 92 14), Arg.mk (.ofString "turn") none (.mk 92 16 92 20)] none [] [] none []) (FuncBody.stmts [Stmt.Expr (.Call (.Name (.ofString "check_turn") (.mk 93 4 93 14)) [.Name (.ofString "turn") (.mk 93 15 93 19)] [] (.mk 93 4 93 20)) (.mk 93 4 93 20), Stmt.Assign [.Name (.ofString "left") (.mk 94 4 94 8)] (.Tuple [.Subscript (.Name (.ofString "turn") (.mk 94 12 94 16)) (.Constant (Const.int 0) 0 (.mk 94 17 94 18)) (.mk 94 12 94 19), .Subscript (.Name (.ofString "turn") (.mk 94 21 94 25)) (.Constant (Const.int 2) 0 (.mk 94 26 94 27)) (.mk 94 21 94 28)] 0 (.mk 94 11 94 29)) (.mk 94 4 94 29), Stmt.Assign [.Name (.ofString "right") (.mk 95 4 95 9)] (.Tuple [.Subscript (.Name (.ofString "turn") (.mk 95 13 95 17)) (.Constant (Const.int 1) 0 (.mk 95 18 95 19)) (.mk 95 13 95 20), .Subscript (.Name (.ofString "turn") (.mk 95 22 95 26)) (.Constant (Const.int 3) 0 (.mk 95 27 95 28)) (.mk 95 22 95 29)] 0 (.mk 95 12 95 30)) (.mk 95 4 95 30), Stmt.Return (some (.Tuple [.Call (.Name (.ofString "value") (.mk 96 12 96 17)) [.Name (.ofString "form") (.mk 96 18 96 22), .Name (.ofString "left") (.mk 96 24 96 28)] [] (.mk 96 12 96 29), .Call (.Name (.ofString "middle") (.mk 96 31 96 37)) [.Name (.ofString "form") (.mk 96 38 96 42), .Name (.ofString "left") (.mk 96 44 96 48), .Name (.ofString "right") (.mk 96 50 96 55)] [] (.mk 96 31 96 56), .Call (.Name (.ofString "value") (.mk 96 58 96 63)) [.Name (.ofString "form") (.mk 96 64 96 68), .Name (.ofString "right") (.mk 96 70 96 75)] [] (.mk 96 58 96 76)] 0 (.mk 96 11 96 77))) (.mk 96 4 96 77)]) (Scope.mk ScopeKind.function [(.ofString "form", .local), (.ofString "turn", .local), (.ofString "left", .local), (.ofString "right", .local), (.ofString "check_turn", .globalImplicit), (.ofString "value", .globalImplicit), (.ofString "middle", .globalImplicit)] Bool.false Bool.false []) 3 [] .none .none .none (.str (.ofString "formcycle.forms") 538) none (.ref 306) .none 0)) #[]) ::
(nat_lit 308, Obj.mk (.type "tuple") none (Data.seq #[]) #[]) ::
(nat_lit 310, Obj.mk (.type "tuple") none (Data.seq #[.str (.ofString "form") 577, .str (.ofString "left") 578, .str (.ofString "right") 579, .str (.ofString "crossed") 580]) #[]) ::
(nat_lit 311, Obj.mk (.type "tuple") none (Data.seq #[]) #[]) ::
(nat_lit 313, Obj.mk (.type "code") none (Data.fields #[.str (.ofString "middle") 574, .str (.ofString "middle") 575, .str (.ofString "/claim/cut.py") 576, .int 97 0, .int 3 0, .int 0 0, .int 0 0, .int 3 0, .ref 308, .bool Bool.true, .int 181 0, .ref 309, .none, .ref 310, .ref 311, .ref 312, .int 581 0, .int 97 0, .str (.ofString "/claim/cut.py") 582]) #[]) ::
(nat_lit 314, Obj.mk (.type "function") none (Data.func (FuncData.mk (.ofString "middle") (.ofString "middle") (Arguments.mk [] [Arg.mk (.ofString "form") none (.mk 97 11 97 15), Arg.mk (.ofString "left") none (.mk 97 17 97 21), Arg.mk (.ofString "right") none (.mk 97 23 97 28)] none [] [] none []) (FuncBody.stmts [Stmt.Assign [.Name (.ofString "crossed") (.mk 98 4 98 11)] (.BinOp (.BinOp (.Subscript (.Name (.ofString "left") (.mk 98 14 98 18)) (.Constant (Const.int 0) 0 (.mk 98 19 98 20)) (.mk 98 14 98 21)) Operator.Mult (.Subscript (.Name (.ofString "right") (.mk 98 24 98 29)) (.Constant (Const.int 1) 0 (.mk 98 30 98 31)) (.mk 98 24 98 32)) (.mk 98 14 98 32)) Operator.Add (.BinOp (.Subscript (.Name (.ofString "right") (.mk 98 35 98 40)) (.Constant (Const.int 0) 0 (.mk 98 41 98 42)) (.mk 98 35 98 43)) Operator.Mult (.Subscript (.Name (.ofString "left") (.mk 98 46 98 50)) (.Constant (Const.int 1) 0 (.mk 98 51 98 52)) (.mk 98 46 98 53)) (.mk 98 35 98 53)) (.mk 98 14 98 53)) (.mk 98 4 98 53), Stmt.Return (some (.BinOp (.BinOp (.BinOp (.BinOp (.BinOp (.Constant (Const.int 2) 0 (.mk 99 11 99 12)) Operator.Mult (.Subscript (.Name (.ofString "form") (.mk 99 15 99 19)) (.Constant (Const.int 0) 0 (.mk 99 20 99 21)) (.mk 99 15 99 22)) (.mk 99 11 99 22)) Operator.Mult (.Subscript (.Name (.ofString "left") (.mk 99 25 99 29)) (.Constant (Const.int 0) 0 (.mk 99 30 99 31)) (.mk 99 25 99 32)) (.mk 99 11 99 32)) Operator.Mult (.Subscript (.Name (.ofString "right") (.mk 99 35 99 40)) (.Constant (Const.int 0) 0 (.mk 99 41 99 42)) (.mk 99 35 99 43)) (.mk 99 11 99 43)) Operator.Add (.BinOp (.Subscript (.Name (.ofString "form") (.mk 99 46 99 50)) (.Constant (Const.int 1) 0 (.mk 99 51 99 52)) (.mk 99 46 99 53)) Operator.Mult (.Name (.ofString "crossed") (.mk 99 56 99 63)) (.mk 99 46 99 63)) (.mk 99 11 99 63)) Operator.Add (.BinOp (.BinOp (.BinOp (.Constant (Const.int 2) 0 (.mk 99 66 99 67)) Operator.Mult (.Subscript (.Name (.ofString "form") (.mk 99 70 99 74)) (.Constant (Const.int 2) 0 (.mk 99 75 99 76)) (.mk 99 70 99 77)) (.mk 99 66 99 77)) Operator.Mult (.Subscript (.Name (.ofString "left") (.mk 99 80 99 84)) (.Constant (Const.int 1) 0 (.mk 99 85 99 86)) (.mk 99 80 99 87)) (.mk 99 66 99 87)) Operator.Mult (.Subscript (.Name (.ofString "right") (.mk 99 90 99 95)) (.Constant (Const.int 1) 0 (.mk 99 96 99 97)) (.mk 99 90 99 98)) (.mk 99 66 99 98)) (.mk 99 11 99 98))) (.mk 99 4 99 98)]) (Scope.mk ScopeKind.function [(.ofString "form", .local), (.ofString "left", .local), (.ofString "right", .local), (.ofString "crossed", .local)] Bool.false Bool.false []) 3 [] .none .none .none (.str (.ofString "formcycle.forms") 538) none (.ref 313) .none 0)) #[]) ::
(nat_lit 315, Obj.mk (.type "tuple") none (Data.seq #[]) #[]) ::
(nat_lit 317, Obj.mk (.type "tuple") none (Data.seq #[.str (.ofString "form") 587, .str (.ofString "number") 588]) #[]) ::
(nat_lit 318, Obj.mk (.type "tuple") none (Data.seq #[]) #[]) ::
(nat_lit 320, Obj.mk (.type "code") none (Data.fields #[.str (.ofString "shape") 584, .str (.ofString "shape") 585, .str (.ofString "/claim/cut.py") 586, .int 100 0, .int 1 0, .int 0 0, .int 0 0, .int 3 0, .ref 315, .bool Bool.true, .int 181 0, .ref 316, .none, .ref 317, .ref 318, .ref 319, .int 589 0, .int 100 0, .str (.ofString "/claim/cut.py") 590]) #[]) ::
(nat_lit 321, Obj.mk (.type "function") none (Data.func (FuncData.mk (.ofString "shape") (.ofString "shape") (Arguments.mk [] [Arg.mk (.ofString "form") none (.mk 100 10 100 14)] none [] [] none []) (FuncBody.stmts [Stmt.Assign [.Name (.ofString "number") (.mk 101 4 101 10)] (.Call (.Name (.ofString "measure") (.mk 101 13 101 20)) [.Name (.ofString "form") (.mk 101 21 101 25)] [] (.mk 101 13 101 26)) (.mk 101 4 101 26), Stmt.If (.Call (.Name (.ofString "is_square") (.mk 102 7 102 16)) [.Name (.ofString "number") (.mk 102 17 102 23)] [] (.mk 102 7 102 24)) [Stmt.Return (some (.Constant (Const.str (.ofString "flat")) 0 (.mk 103 15 103 21))) (.mk 103 8 103 21)] [] (.mk 102 4 103 21), Stmt.If (.Compare (.Name (.ofString "number") (.mk 104 7 104 13)) [CmpOp.Gt] [.Constant (Const.int 0) 0 (.mk 104 16 104 17)] (.mk 104 7 104 17)) [Stmt.Return (some (.Constant (Const.str (.ofString "saddle")) 0 (.mk 105 15 105 23))) (.mk 105 8 105 23)] [] (.mk 104 4 105 23), Stmt.If (.Compare (.Subscript (.Name (.ofString "form") (.mk 106 7 106 11)) (.Constant (Const.int 0) 0 (.mk 106 12 106 13)) (.mk 106 7 106 14)) [CmpOp.Gt] [.Constant (Const.int 0) 0 (.mk 106 17 106 18)] (.mk 106 7 106 18)) [Stmt.Return (some (.Constant (Const.str (.ofString "bowl")) 0 (.mk 107 15 107 21))) (.mk 107 8 107 21)] [] (.mk 106 4 107 21), Stmt.Return (some (.Constant (Const.str (.ofString "dome")) 0 (.mk 108 11 108 17))) (.mk 108 4 108 17)]) (Scope.mk ScopeKind.function [(.ofString "form", .local), (.ofString "number", .local), (.ofString "measure", .globalImplicit), (.ofString "is_square", .globalImplicit)] Bool.false Bool.false []) 3 [] .none .none .none (.str (.ofString "formcycle.forms") 538) none (.ref 320) .none 0)) #[]) ::
(nat_lit 322, Obj.mk (.type "tuple") none (Data.seq #[]) #[]) ::
(nat_lit 324, Obj.mk (.type "tuple") none (Data.seq #[.str (.ofString "form") 599]) #[]) ::
(nat_lit 325, Obj.mk (.type "tuple") none (Data.seq #[]) #[]) ::
(nat_lit 327, Obj.mk (.type "code") none (Data.fields #[.str (.ofString "check_saddle") 596, .str (.ofString "check_saddle") 597, .str (.ofString "/claim/cut.py") 598, .int 111 0, .int 1 0, .int 0 0, .int 0 0, .int 3 0, .ref 322, .bool Bool.true, .int 181 0, .ref 323, .none, .ref 324, .ref 325, .ref 326, .int 600 0, .int 111 0, .str (.ofString "/claim/cut.py") 601]) #[]) ::
(nat_lit 328, Obj.mk (.type "function") none (Data.func (FuncData.mk (.ofString "check_saddle") (.ofString "check_saddle") (Arguments.mk [] [Arg.mk (.ofString "form") none (.mk 111 17 111 21)] none [] [] none []) (FuncBody.stmts [Stmt.If (.Compare (.Call (.Name (.ofString "shape") (.mk 112 7 112 12)) [.Name (.ofString "form") (.mk 112 13 112 17)] [] (.mk 112 7 112 18)) [CmpOp.NotEq] [.Constant (Const.str (.ofString "saddle")) 0 (.mk 112 22 112 30)] (.mk 112 7 112 30)) [Stmt.Raise (some (.Call (.Name (.ofString "NoShape") (.mk 113 14 113 21)) [.Name (.ofString "form") (.mk 113 22 113 26)] [] (.mk 113 14 113 27))) none (.mk 113 8 113 27)] [] (.mk 112 4 113 27), Stmt.Expr (.Call (.Name (.ofString "check_at_most") (.mk 114 4 114 17)) [.Call (.Name (.ofString "measure") (.mk 114 18 114 25)) [.Name (.ofString "form") (.mk 114 26 114 30)] [] (.mk 114 18 114 31), .Name (.ofString "MOST_MEASURE") (.mk 114 33 114 45)] [] (.mk 114 4 114 46)) (.mk 114 4 114 46)]) (Scope.mk ScopeKind.function [(.ofString "form", .local), (.ofString "shape", .globalImplicit), (.ofString "NoShape", .globalImplicit), (.ofString "check_at_most", .globalImplicit), (.ofString "measure", .globalImplicit), (.ofString "MOST_MEASURE", .globalImplicit)] Bool.false Bool.false []) 3 [] .none .none .none (.str (.ofString "formcycle.saddles") 592) none (.ref 327) .none 0)) #[]) ::
(nat_lit 329, Obj.mk (.type "tuple") none (Data.seq #[]) #[]) ::
(nat_lit 331, Obj.mk (.type "tuple") none (Data.seq #[.str (.ofString "form") 606, .str (.ofString "far") 607, .str (.ofString "b") 608]) #[]) ::
(nat_lit 332, Obj.mk (.type "tuple") none (Data.seq #[]) #[]) ::
(nat_lit 334, Obj.mk (.type "code") none (Data.fields #[.str (.ofString "stands_level") 603, .str (.ofString "stands_level") 604, .str (.ofString "/claim/cut.py") 605, .int 115 0, .int 2 0, .int 0 0, .int 0 0, .int 3 0, .ref 329, .bool Bool.true, .int 181 0, .ref 330, .none, .ref 331, .ref 332, .ref 333, .int 609 0, .int 115 0, .str (.ofString "/claim/cut.py") 610]) #[]) ::
(nat_lit 335, Obj.mk (.type "function") none (Data.func (FuncData.mk (.ofString "stands_level") (.ofString "stands_level") (Arguments.mk [] [Arg.mk (.ofString "form") none (.mk 115 17 115 21), Arg.mk (.ofString "far") none (.mk 115 23 115 26)] none [] [] none []) (FuncBody.stmts [Stmt.Assign [.Name (.ofString "b") (.mk 116 4 116 5)] (.Subscript (.Name (.ofString "form") (.mk 116 8 116 12)) (.Constant (Const.int 1) 0 (.mk 116 13 116 14)) (.mk 116 8 116 15)) (.mk 116 4 116 15), Stmt.Return (some (.BoolOp BoolOp.And [.Compare (.Constant (Const.int 0) 0 (.mk 117 11 117 12)) [CmpOp.Lt, CmpOp.LtE] [.Name (.ofString "b") (.mk 117 15 117 16), .Name (.ofString "far") (.mk 117 20 117 23)] (.mk 117 11 117 23), .Compare (.BinOp (.Name (.ofString "far") (.mk 117 28 117 31)) Operator.Sub (.Name (.ofString "b") (.mk 117 34 117 35)) (.mk 117 28 117 35)) [CmpOp.Lt, CmpOp.LtE] [.BinOp (.Constant (Const.int 2) 0 (.mk 117 38 117 39)) Operator.Mult (.Call (.Name (.ofString "abs") (.mk 117 42 117 45)) [.Subscript (.Name (.ofString "form") (.mk 117 46 117 50)) (.Constant (Const.int 0) 0 (.mk 117 51 117 52)) (.mk 117 46 117 53)] [] (.mk 117 42 117 54)) (.mk 117 38 117 54), .BinOp (.Name (.ofString "far") (.mk 117 58 117 61)) Operator.Add (.Name (.ofString "b") (.mk 117 64 117 65)) (.mk 117 58 117 65)] (.mk 117 28 117 65)] (.mk 117 11 117 65))) (.mk 117 4 117 65)]) (Scope.mk ScopeKind.function [(.ofString "form", .local), (.ofString "far", .local), (.ofString "b", .local), (.ofString "abs", .globalImplicit)] Bool.false Bool.false []) 3 [] .none .none .none (.str (.ofString "formcycle.saddles") 592) none (.ref 334) .none 0)) #[]) ::
(nat_lit 336, Obj.mk (.type "tuple") none (Data.seq #[]) #[]) ::
(nat_lit 338, Obj.mk (.type "tuple") none (Data.seq #[.str (.ofString "form") 615, .str (.ofString "top") 616, .str (.ofString "b") 617, .str (.ofString "c") 618, .str (.ofString "d") 619]) #[]) ::
(nat_lit 339, Obj.mk (.type "tuple") none (Data.seq #[]) #[]) ::
(nat_lit 341, Obj.mk (.type "code") none (Data.fields #[.str (.ofString "turn_behind") 612, .str (.ofString "turn_behind") 613, .str (.ofString "/claim/cut.py") 614, .int 118 0, .int 2 0, .int 0 0, .int 0 0, .int 3 0, .ref 336, .bool Bool.true, .int 181 0, .ref 337, .none, .ref 338, .ref 339, .ref 340, .int 620 0, .int 118 0, .str (.ofString "/claim/cut.py") 621]) #[]) ::
(nat_lit 342, Obj.mk (.type "function") none (Data.func (FuncData.mk (.ofString "turn_behind") (.ofString "turn_behind") (Arguments.mk [] [Arg.mk (.ofString "form") none (.mk 118 16 118 20), Arg.mk (.ofString "top") none (.mk 118 22 118 25)] none [] [] none []) (FuncBody.stmts [Stmt.Assign [.Name (.ofString "b") (.mk 119 4 119 5)] (.Subscript (.Name (.ofString "form") (.mk 119 8 119 12)) (.Constant (Const.int 1) 0 (.mk 119 13 119 14)) (.mk 119 8 119 15)) (.mk 119 4 119 15), Stmt.Assign [.Name (.ofString "c") (.mk 120 4 120 5)] (.Subscript (.Name (.ofString "form") (.mk 120 8 120 12)) (.Constant (Const.int 2) 0 (.mk 120 13 120 14)) (.mk 120 8 120 15)) (.mk 120 4 120 15), Stmt.Assign [.Name (.ofString "d") (.mk 121 4 121 5)] (.BinOp (.Name (.ofString "top") (.mk 121 8 121 11)) Operator.Sub (.BinOp (.BinOp (.Name (.ofString "top") (.mk 121 15 121 18)) Operator.Add (.Name (.ofString "b") (.mk 121 21 121 22)) (.mk 121 15 121 22)) Operator.Mod (.BinOp (.Constant (Const.int 2) 0 (.mk 121 27 121 28)) Operator.Mult (.Call (.Name (.ofString "abs") (.mk 121 31 121 34)) [.Name (.ofString "c") (.mk 121 35 121 36)] [] (.mk 121 31 121 37)) (.mk 121 27 121 37)) (.mk 121 14 121 38)) (.mk 121 8 121 38)) (.mk 121 4 121 38), Stmt.Return (some (.Tuple [.Constant (Const.int 0) 0 (.mk 122 12 122 13), .UnaryOp UnaryOp.USub (.Constant (Const.int 1) 0 (.mk 122 16 122 17)) (.mk 122 15 122 17), .Constant (Const.int 1) 0 (.mk 122 19 122 20), .BinOp (.BinOp (.Name (.ofString "b") (.mk 122 23 122 24)) Operator.Add (.Name (.ofString "d") (.mk 122 27 122 28)) (.mk 122 23 122 28)) Operator.FloorDiv (.BinOp (.Constant (Const.int 2) 0 (.mk 122 34 122 35)) Operator.Mult (.Name (.ofString "c") (.mk 122 38 122 39)) (.mk 122 34 122 39)) (.mk 122 22 122 40)] 0 (.mk 122 11 122 41))) (.mk 122 4 122 41)]) (Scope.mk ScopeKind.function [(.ofString "form", .local), (.ofString "top", .local), (.ofString "b", .local), (.ofString "c", .local), (.ofString "d", .local), (.ofString "abs", .globalImplicit)] Bool.false Bool.false []) 3 [] .none .none .none (.str (.ofString "formcycle.saddles") 592) none (.ref 341) .none 0)) #[]) ::
(nat_lit 343, Obj.mk (.type "tuple") none (Data.seq #[]) #[]) ::
(nat_lit 345, Obj.mk (.type "tuple") none (Data.seq #[.str (.ofString "stop") 626, .str (.ofString "top") 627, .str (.ofString "turn") 628]) #[]) ::
(nat_lit 346, Obj.mk (.type "tuple") none (Data.seq #[]) #[]) ::
(nat_lit 348, Obj.mk (.type "code") none (Data.fields #[.str (.ofString "stop_behind") 623, .str (.ofString "stop_behind") 624, .str (.ofString "/claim/cut.py") 625, .int 123 0, .int 2 0, .int 0 0, .int 0 0, .int 3 0, .ref 343, .bool Bool.true, .int 181 0, .ref 344, .none, .ref 345, .ref 346, .ref 347, .int 629 0, .int 123 0, .str (.ofString "/claim/cut.py") 630]) #[]) ::
(nat_lit 349, Obj.mk (.type "function") none (Data.func (FuncData.mk (.ofString "stop_behind") (.ofString "stop_behind") (Arguments.mk [] [Arg.mk (.ofString "stop") none (.mk 123 16 123 20), Arg.mk (.ofString "top") none (.mk 123 22 123 25)] none [] [] none []) (FuncBody.stmts [Stmt.Assign [.Name (.ofString "turn") (.mk 124 4 124 8)] (.Call (.Name (.ofString "turn_behind") (.mk 124 11 124 22)) [.Subscript (.Name (.ofString "stop") (.mk 124 23 124 27)) (.Constant (Const.int 0) 0 (.mk 124 28 124 29)) (.mk 124 23 124 30), .Name (.ofString "top") (.mk 124 32 124 35)] [] (.mk 124 11 124 36)) (.mk 124 4 124 36), Stmt.Return (some (.Tuple [.Call (.Name (.ofString "moved") (.mk 125 12 125 17)) [.Subscript (.Name (.ofString "stop") (.mk 125 18 125 22)) (.Constant (Const.int 0) 0 (.mk 125 23 125 24)) (.mk 125 18 125 25), .Name (.ofString "turn") (.mk 125 27 125 31)] [] (.mk 125 12 125 32), .Call (.Name (.ofString "put_behind") (.mk 125 34 125 44)) [.Subscript (.Name (.ofString "stop") (.mk 125 45 125 49)) (.Constant (Const.int 1) 0 (.mk 125 50 125 51)) (.mk 125 45 125 52), .Name (.ofString "turn") (.mk 125 54 125 58)] [] (.mk 125 34 125 59)] 0 (.mk 125 11 125 60))) (.mk 125 4 125 60)]) (Scope.mk ScopeKind.function [(.ofString "stop", .local), (.ofString "top", .local), (.ofString "turn", .local), (.ofString "turn_behind", .globalImplicit), (.ofString "moved", .globalImplicit), (.ofString "put_behind", .globalImplicit)] Bool.false Bool.false []) 3 [] .none .none .none (.str (.ofString "formcycle.saddles") 592) none (.ref 348) .none 0)) #[]) ::
(nat_lit 350, Obj.mk (.type "tuple") none (Data.seq #[]) #[]) ::
(nat_lit 352, Obj.mk (.type "tuple") none (Data.seq #[.str (.ofString "form") 635, .str (.ofString "far") 636, .str (.ofString "stop") 637]) #[]) ::
(nat_lit 353, Obj.mk (.type "tuple") none (Data.seq #[]) #[]) ::
(nat_lit 355, Obj.mk (.type "code") none (Data.fields #[.str (.ofString "eased") 632, .str (.ofString "eased") 633, .str (.ofString "/claim/cut.py") 634, .int 126 0, .int 1 0, .int 0 0, .int 0 0, .int 3 0, .ref 350, .bool Bool.true, .int 181 0, .ref 351, .none, .ref 352, .ref 353, .ref 354, .int 638 0, .int 126 0, .str (.ofString "/claim/cut.py") 639]) #[]) ::
(nat_lit 356, Obj.mk (.type "function") none (Data.func (FuncData.mk (.ofString "eased") (.ofString "eased") (Arguments.mk [] [Arg.mk (.ofString "form") none (.mk 126 10 126 14)] none [] [] none []) (FuncBody.stmts [Stmt.Expr (.Call (.Name (.ofString "check_saddle") (.mk 127 4 127 16)) [.Name (.ofString "form") (.mk 127 17 127 21)] [] (.mk 127 4 127 22)) (.mk 127 4 127 22), Stmt.Assign [.Name (.ofString "far") (.mk 128 4 128 7)] (.Call (.Name (.ofString "root") (.mk 128 10 128 14)) [.Call (.Name (.ofString "measure") (.mk 128 15 128 22)) [.Name (.ofString "form") (.mk 128 23 128 27)] [] (.mk 128 15 128 28)] [] (.mk 128 10 128 29)) (.mk 128 4 128 29), Stmt.Assign [.Name (.ofString "stop") (.mk 129 4 129 8)] (.Tuple [.Name (.ofString "form") (.mk 129 12 129 16), .Name (.ofString "SAME") (.mk 129 18 129 22)] 0 (.mk 129 11 129 23)) (.mk 129 4 129 23), Stmt.While (.UnaryOp UnaryOp.Not (.Call (.Name (.ofString "stands_level") (.mk 130 14 130 26)) [.Subscript (.Name (.ofString "stop") (.mk 130 27 130 31)) (.Constant (Const.int 0) 0 (.mk 130 32 130 33)) (.mk 130 27 130 34), .Name (.ofString "far") (.mk 130 36 130 39)] [] (.mk 130 14 130 40)) (.mk 130 10 130 40)) [Stmt.Assign [.Name (.ofString "stop") (.mk 131 8 131 12)] (.Call (.Name (.ofString "stop_behind") (.mk 131 15 131 26)) [.Name (.ofString "stop") (.mk 131 27 131 31), .Call (.Name (.ofString "max") (.mk 131 33 131 36)) [.Call (.Name (.ofString "abs") (.mk 131 37 131 40)) [.Subscript (.Subscript (.Name (.ofString "stop") (.mk 131 41 131 45)) (.Constant (Const.int 0) 0 (.mk 131 46 131 47)) (.mk 131 41 131 48)) (.Constant (Const.int 2) 0 (.mk 131 49 131 50)) (.mk 131 41 131 51)] [] (.mk 131 37 131 52), .Name (.ofString "far") (.mk 131 54 131 57)] [] (.mk 131 33 131 58)] [] (.mk 131 15 131 59)) (.mk 131 8 131 59)] [] (.mk 130 4 131 59), Stmt.Return (some (.Name (.ofString "stop") (.mk 132 11 132 15))) (.mk 132 4 132 15)]) (Scope.mk ScopeKind.function [(.ofString "form", .local), (.ofString "far", .local), (.ofString "stop", .local), (.ofString "check_saddle", .globalImplicit), (.ofString "root", .globalImplicit), (.ofString "measure", .globalImplicit), (.ofString "SAME", .globalImplicit), (.ofString "stands_level", .globalImplicit), (.ofString "stop_behind", .globalImplicit), (.ofString "max", .globalImplicit), (.ofString "abs", .globalImplicit)] Bool.false Bool.false []) 3 [] .none .none .none (.str (.ofString "formcycle.saddles") 592) none (.ref 355) .none 0)) #[]) ::
(nat_lit 357, Obj.mk (.type "tuple") none (Data.seq #[]) #[]) ::
(nat_lit 359, Obj.mk (.type "tuple") none (Data.seq #[.str (.ofString "form") 644, .str (.ofString "far") 645, .str (.ofString "first") 646, .str (.ofString "stops") 647, .str (.ofString "stop") 648]) #[]) ::
(nat_lit 360, Obj.mk (.type "tuple") none (Data.seq #[]) #[]) ::
(nat_lit 362, Obj.mk (.type "code") none (Data.fields #[.str (.ofString "stops_round") 641, .str (.ofString "stops_round") 642, .str (.ofString "/claim/cut.py") 643, .int 133 0, .int 1 0, .int 0 0, .int 0 0, .int 3 0, .ref 357, .bool Bool.true, .int 181 0, .ref 358, .none, .ref 359, .ref 360, .ref 361, .int 649 0, .int 133 0, .str (.ofString "/claim/cut.py") 650]) #[]) ::
(nat_lit 363, Obj.mk (.type "function") none (Data.func (FuncData.mk (.ofString "stops_round") (.ofString "stops_round") (Arguments.mk [] [Arg.mk (.ofString "form") none (.mk 133 16 133 20)] none [] [] none []) (FuncBody.stmts [Stmt.Assign [.Name (.ofString "far") (.mk 134 4 134 7)] (.Call (.Name (.ofString "root") (.mk 134 10 134 14)) [.Call (.Name (.ofString "measure") (.mk 134 15 134 22)) [.Name (.ofString "form") (.mk 134 23 134 27)] [] (.mk 134 15 134 28)] [] (.mk 134 10 134 29)) (.mk 134 4 134 29), Stmt.Assign [.Name (.ofString "first") (.mk 135 4 135 9)] (.Call (.Name (.ofString "eased") (.mk 135 12 135 17)) [.Name (.ofString "form") (.mk 135 18 135 22)] [] (.mk 135 12 135 23)) (.mk 135 4 135 23), Stmt.Assign [.Name (.ofString "stops") (.mk 136 4 136 9)] (.List [.Name (.ofString "first") (.mk 136 13 136 18)] (.mk 136 12 136 19)) (.mk 136 4 136 19), Stmt.Assign [.Name (.ofString "stop") (.mk 137 4 137 8)] (.Call (.Name (.ofString "stop_behind") (.mk 137 11 137 22)) [.Name (.ofString "first") (.mk 137 23 137 28), .Name (.ofString "far") (.mk 137 30 137 33)] [] (.mk 137 11 137 34)) (.mk 137 4 137 34), Stmt.While (.Compare (.Subscript (.Name (.ofString "stop") (.mk 138 10 138 14)) (.Constant (Const.int 0) 0 (.mk 138 15 138 16)) (.mk 138 10 138 17)) [CmpOp.NotEq] [.Subscript (.Name (.ofString "first") (.mk 138 21 138 26)) (.Constant (Const.int 0) 0 (.mk 138 27 138 28)) (.mk 138 21 138 29)] (.mk 138 10 138 29)) [Stmt.Expr (.Call (.Attribute (.Name (.ofString "stops") (.mk 139 8 139 13)) (.ofString "append") (.mk 139 8 139 20)) [.Name (.ofString "stop") (.mk 139 21 139 25)] [] (.mk 139 8 139 26)) (.mk 139 8 139 26), Stmt.Assign [.Name (.ofString "stop") (.mk 140 8 140 12)] (.Call (.Name (.ofString "stop_behind") (.mk 140 15 140 26)) [.Name (.ofString "stop") (.mk 140 27 140 31), .Name (.ofString "far") (.mk 140 33 140 36)] [] (.mk 140 15 140 37)) (.mk 140 8 140 37)] [] (.mk 138 4 140 37), Stmt.Expr (.Call (.Attribute (.Name (.ofString "stops") (.mk 141 4 141 9)) (.ofString "append") (.mk 141 4 141 16)) [.Name (.ofString "stop") (.mk 141 17 141 21)] [] (.mk 141 4 141 22)) (.mk 141 4 141 22), Stmt.Return (some (.Name (.ofString "stops") (.mk 142 11 142 16))) (.mk 142 4 142 16)]) (Scope.mk ScopeKind.function [(.ofString "form", .local), (.ofString "far", .local), (.ofString "first", .local), (.ofString "stops", .local), (.ofString "stop", .local), (.ofString "root", .globalImplicit), (.ofString "measure", .globalImplicit), (.ofString "eased", .globalImplicit), (.ofString "stop_behind", .globalImplicit)] Bool.false Bool.false []) 3 [] .none .none .none (.str (.ofString "formcycle.saddles") 592) none (.ref 362) .none 0)) #[]) ::
(nat_lit 364, Obj.mk (.type "tuple") none (Data.seq #[]) #[]) ::
(nat_lit 366, Obj.mk (.type "tuple") none (Data.seq #[.str (.ofString "form") 655, .str (.ofString "common") 656, .str (.ofString "plain") 657, .str (.ofString "pair") 658, .str (.ofString "t") 659, .str (.ofString "u") 660]) #[]) ::
(nat_lit 367, Obj.mk (.type "tuple") none (Data.seq #[]) #[]) ::
(nat_lit 369, Obj.mk (.type "code") none (Data.fields #[.str (.ofString "step_of") 652, .str (.ofString "step_of") 653, .str (.ofString "/claim/cut.py") 654, .int 143 0, .int 1 0, .int 0 0, .int 0 0, .int 3 0, .ref 364, .bool Bool.true, .int 181 0, .ref 365, .none, .ref 366, .ref 367, .ref 368, .int 661 0, .int 143 0, .str (.ofString "/claim/cut.py") 662]) #[]) ::
(nat_lit 370, Obj.mk (.type "function") none (Data.func (FuncData.mk (.ofString "step_of") (.ofString "step_of") (Arguments.mk [] [Arg.mk (.ofString "form") none (.mk 143 12 143 16)] none [] [] none []) (FuncBody.stmts [Stmt.Expr (.Call (.Name (.ofString "check_saddle") (.mk 144 4 144 16)) [.Name (.ofString "form") (.mk 144 17 144 21)] [] (.mk 144 4 144 22)) (.mk 144 4 144 22), Stmt.Assign [.Name (.ofString "common") (.mk 145 4 145 10)] (.Call (.Name (.ofString "content") (.mk 145 13 145 20)) [.Name (.ofString "form") (.mk 145 21 145 25)] [] (.mk 145 13 145 26)) (.mk 145 4 145 26), Stmt.Assign [.Name (.ofString "plain") (.mk 146 4 146 9)] (.Tuple [.BinOp (.Subscript (.Name (.ofString "form") (.mk 146 13 146 17)) (.Constant (Const.int 0) 0 (.mk 146 18 146 19)) (.mk 146 13 146 20)) Operator.FloorDiv (.Name (.ofString "common") (.mk 146 24 146 30)) (.mk 146 13 146 30), .BinOp (.Subscript (.Name (.ofString "form") (.mk 146 32 146 36)) (.Constant (Const.int 1) 0 (.mk 146 37 146 38)) (.mk 146 32 146 39)) Operator.FloorDiv (.Name (.ofString "common") (.mk 146 43 146 49)) (.mk 146 32 146 49), .BinOp (.Subscript (.Name (.ofString "form") (.mk 146 51 146 55)) (.Constant (Const.int 2) 0 (.mk 146 56 146 57)) (.mk 146 51 146 58)) Operator.FloorDiv (.Name (.ofString "common") (.mk 146 62 146 68)) (.mk 146 51 146 68)] 0 (.mk 146 12 146 69)) (.mk 146 4 146 69), Stmt.Assign [.Name (.ofString "pair") (.mk 147 4 147 8)] (.Call (.Name (.ofString "step_pair") (.mk 147 11 147 20)) [.Name (.ofString "form") (.mk 147 21 147 25), .Subscript (.Name (.ofString "plain") (.mk 147 27 147 32)) (.Constant (Const.int 0) 0 (.mk 147 33 147 34)) (.mk 147 27 147 35)] [] (.mk 147 11 147 36)) (.mk 147 4 147 36), Stmt.Assign [.Name (.ofString "t") (.mk 148 4 148 5)] (.Subscript (.Name (.ofString "pair") (.mk 148 8 148 12)) (.Constant (Const.int 0) 0 (.mk 148 13 148 14)) (.mk 148 8 148 15)) (.mk 148 4 148 15), Stmt.Assign [.Name (.ofString "u") (.mk 149 4 149 5)] (.Subscript (.Name (.ofString "pair") (.mk 149 8 149 12)) (.Constant (Const.int 1) 0 (.mk 149 13 149 14)) (.mk 149 8 149 15)) (.mk 149 4 149 15), Stmt.Return (some (.Tuple [.BinOp (.BinOp (.Name (.ofString "t") (.mk 150 13 150 14)) Operator.Sub (.BinOp (.Subscript (.Name (.ofString "plain") (.mk 150 17 150 22)) (.Constant (Const.int 1) 0 (.mk 150 23 150 24)) (.mk 150 17 150 25)) Operator.Mult (.Name (.ofString "u") (.mk 150 28 150 29)) (.mk 150 17 150 29)) (.mk 150 13 150 29)) Operator.FloorDiv (.Constant (Const.int 2) 0 (.mk 150 34 150 35)) (.mk 150 12 150 35), .BinOp (.UnaryOp UnaryOp.USub (.Subscript (.Name (.ofString "plain") (.mk 150 38 150 43)) (.Constant (Const.int 2) 0 (.mk 150 44 150 45)) (.mk 150 38 150 46)) (.mk 150 37 150 46)) Operator.Mult (.Name (.ofString "u") (.mk 150 49 150 50)) (.mk 150 37 150 50), .BinOp (.Subscript (.Name (.ofString "plain") (.mk 150 52 150 57)) (.Constant (Const.int 0) 0 (.mk 150 58 150 59)) (.mk 150 52 150 60)) Operator.Mult (.Name (.ofString "u") (.mk 150 63 150 64)) (.mk 150 52 150 64), .BinOp (.BinOp (.Name (.ofString "t") (.mk 150 67 150 68)) Operator.Add (.BinOp (.Subscript (.Name (.ofString "plain") (.mk 150 71 150 76)) (.Constant (Const.int 1) 0 (.mk 150 77 150 78)) (.mk 150 71 150 79)) Operator.Mult (.Name (.ofString "u") (.mk 150 82 150 83)) (.mk 150 71 150 83)) (.mk 150 67 150 83)) Operator.FloorDiv (.Constant (Const.int 2) 0 (.mk 150 88 150 89)) (.mk 150 66 150 89)] 0 (.mk 150 11 150 90))) (.mk 150 4 150 90)]) (Scope.mk ScopeKind.function [(.ofString "form", .local), (.ofString "common", .local), (.ofString "plain", .local), (.ofString "pair", .local), (.ofString "t", .local), (.ofString "u", .local), (.ofString "check_saddle", .globalImplicit), (.ofString "content", .globalImplicit), (.ofString "step_pair", .globalImplicit)] Bool.false Bool.false []) 3 [] .none .none .none (.str (.ofString "formcycle.saddles") 592) none (.ref 369) .none 0)) #[]) ::
(nat_lit 371, Obj.mk (.type "tuple") none (Data.seq #[]) #[]) ::
(nat_lit 373, Obj.mk (.type "tuple") none (Data.seq #[.str (.ofString "form") 667, .str (.ofString "plain_first") 668, .str (.ofString "stops") 669, .str (.ofString "once") 670]) #[]) ::
(nat_lit 374, Obj.mk (.type "tuple") none (Data.seq #[]) #[]) ::
(nat_lit 376, Obj.mk (.type "code") none (Data.fields #[.str (.ofString "step_pair") 664, .str (.ofString "step_pair") 665, .str (.ofString "/claim/cut.py") 666, .int 151 0, .int 2 0, .int 0 0, .int 0 0, .int 3 0, .ref 371, .bool Bool.true, .int 181 0, .ref 372, .none, .ref 373, .ref 374, .ref 375, .int 671 0, .int 151 0, .str (.ofString "/claim/cut.py") 672]) #[]) ::
(nat_lit 377, Obj.mk (.type "function") none (Data.func (FuncData.mk (.ofString "step_pair") (.ofString "step_pair") (Arguments.mk [] [Arg.mk (.ofString "form") none (.mk 151 14 151 18), Arg.mk (.ofString "plain_first") none (.mk 151 20 151 31)] none [] [] none []) (FuncBody.stmts [Stmt.Assign [.Name (.ofString "stops") (.mk 152 4 152 9)] (.Call (.Name (.ofString "stops_round") (.mk 152 12 152 23)) [.Name (.ofString "form") (.mk 152 24 152 28)] [] (.mk 152 12 152 29)) (.mk 152 4 152 29), Stmt.Assign [.Name (.ofString "once") (.mk 153 4 153 8)] (.Call (.Name (.ofString "put_behind") (.mk 153 11 153 21)) [.Subscript (.Subscript (.Name (.ofString "stops") (.mk 153 22 153 27)) (.UnaryOp UnaryOp.USub (.Constant (Const.int 1) 0 (.mk 153 29 153 30)) (.mk 153 28 153 30)) (.mk 153 22 153 31)) (.Constant (Const.int 1) 0 (.mk 153 32 153 33)) (.mk 153 22 153 34), .Call (.Name (.ofString "back") (.mk 153 36 153 40)) [.Subscript (.Subscript (.Name (.ofString "stops") (.mk 153 41 153 46)) (.Constant (Const.int 0) 0 (.mk 153 47 153 48)) (.mk 153 41 153 49)) (.Constant (Const.int 1) 0 (.mk 153 50 153 51)) (.mk 153 41 153 52)] [] (.mk 153 36 153 53)] [] (.mk 153 11 153 54)) (.mk 153 4 153 54), Stmt.Return (some (.Tuple [.Call (.Name (.ofString "abs") (.mk 154 12 154 15)) [.BinOp (.Subscript (.Name (.ofString "once") (.mk 154 16 154 20)) (.Constant (Const.int 0) 0 (.mk 154 21 154 22)) (.mk 154 16 154 23)) Operator.Add (.Subscript (.Name (.ofString "once") (.mk 154 26 154 30)) (.Constant (Const.int 3) 0 (.mk 154 31 154 32)) (.mk 154 26 154 33)) (.mk 154 16 154 33)] [] (.mk 154 12 154 34), .Call (.Name (.ofString "abs") (.mk 154 36 154 39)) [.BinOp (.Subscript (.Name (.ofString "once") (.mk 154 40 154 44)) (.Constant (Const.int 2) 0 (.mk 154 45 154 46)) (.mk 154 40 154 47)) Operator.FloorDiv (.Name (.ofString "plain_first") (.mk 154 51 154 62)) (.mk 154 40 154 62)] [] (.mk 154 36 154 63)] 0 (.mk 154 11 154 64))) (.mk 154 4 154 64)]) (Scope.mk ScopeKind.function [(.ofString "form", .local), (.ofString "plain_first", .local), (.ofString "stops", .local), (.ofString "once", .local), (.ofString "stops_round", .globalImplicit), (.ofString "put_behind", .globalImplicit), (.ofString "back", .globalImplicit), (.ofString "abs", .globalImplicit)] Bool.false Bool.false []) 3 [] .none .none .none (.str (.ofString "formcycle.saddles") 592) none (.ref 376) .none 0)) #[]) ::
(nat_lit 378, Obj.mk (.type "tuple") none (Data.seq #[]) #[]) ::
(nat_lit 380, Obj.mk (.type "tuple") none (Data.seq #[.str (.ofString "form") 677, .str (.ofString "turn") 678, .str (.ofString "sign") 679, .str (.ofString "count") 680]) #[]) ::
(nat_lit 381, Obj.mk (.type "tuple") none (Data.seq #[]) #[]) ::
(nat_lit 383, Obj.mk (.type "code") none (Data.fields #[.str (.ofString "power_of") 674, .str (.ofString "power_of") 675, .str (.ofString "/claim/cut.py") 676, .int 155 0, .int 2 0, .int 0 0, .int 0 0, .int 3 0, .ref 378, .bool Bool.true, .int 181 0, .ref 379, .none, .ref 380, .ref 381, .ref 382, .int 681 0, .int 155 0, .str (.ofString "/claim/cut.py") 682]) #[]) ::
(nat_lit 384, Obj.mk (.type "function") none (Data.func (FuncData.mk (.ofString "power_of") (.ofString "power_of") (Arguments.mk [] [Arg.mk (.ofString "form") none (.mk 155 13 155 17), Arg.mk (.ofString "turn") none (.mk 155 19 155 23)] none [] [] none []) (FuncBody.stmts [Stmt.Expr (.Call (.Name (.ofString "check_saddle") (.mk 156 4 156 16)) [.Name (.ofString "form") (.mk 156 17 156 21)] [] (.mk 156 4 156 22)) (.mk 156 4 156 22), Stmt.Expr (.Call (.Name (.ofString "check_turn") (.mk 157 4 157 14)) [.Name (.ofString "turn") (.mk 157 15 157 19)] [] (.mk 157 4 157 20)) (.mk 157 4 157 20), Stmt.If (.Compare (.Call (.Name (.ofString "moved") (.mk 158 7 158 12)) [.Name (.ofString "form") (.mk 158 13 158 17), .Name (.ofString "turn") (.mk 158 19 158 23)] [] (.mk 158 7 158 24)) [CmpOp.NotEq] [.Name (.ofString "form") (.mk 158 28 158 32)] (.mk 158 7 158 32)) [Stmt.Raise (some (.Call (.Name (.ofString "NotOwn") (.mk 159 14 159 20)) [.Name (.ofString "turn") (.mk 159 21 159 25)] [] (.mk 159 14 159 26))) none (.mk 159 8 159 26)] [] (.mk 158 4 159 26), Stmt.Assign [.Name (.ofString "sign") (.mk 160 4 160 8)] (.IfExp (.Compare (.BinOp (.Subscript (.Name (.ofString "turn") (.mk 160 16 160 20)) (.Constant (Const.int 0) 0 (.mk 160 21 160 22)) (.mk 160 16 160 23)) Operator.Add (.Subscript (.Name (.ofString "turn") (.mk 160 26 160 30)) (.Constant (Const.int 3) 0 (.mk 160 31 160 32)) (.mk 160 26 160 33)) (.mk 160 16 160 33)) [CmpOp.Gt] [.Constant (Const.int 0) 0 (.mk 160 36 160 37)] (.mk 160 16 160 37)) (.Constant (Const.int 1) 0 (.mk 160 11 160 12)) (.UnaryOp UnaryOp.USub (.Constant (Const.int 1) 0 (.mk 160 44 160 45)) (.mk 160 43 160 45)) (.mk 160 11 160 45)) (.mk 160 4 160 45), Stmt.Assign [.Name (.ofString "count") (.mk 161 4 161 9)] (.Call (.Name (.ofString "count_without_sign") (.mk 161 12 161 30)) [.Call (.Name (.ofString "step_of") (.mk 161 31 161 38)) [.Name (.ofString "form") (.mk 161 39 161 43)] [] (.mk 161 31 161 44), .Call (.Name (.ofString "abs") (.mk 161 46 161 49)) [.Subscript (.Name (.ofString "turn") (.mk 161 50 161 54)) (.Constant (Const.int 2) 0 (.mk 161 55 161 56)) (.mk 161 50 161 57)] [] (.mk 161 46 161 58)] [] (.mk 161 12 161 59)) (.mk 161 4 161 59), Stmt.If (.Compare (.BinOp (.BinOp (.Name (.ofString "sign") (.mk 162 7 162 11)) Operator.Mult (.Subscript (.Name (.ofString "turn") (.mk 162 14 162 18)) (.Constant (Const.int 2) 0 (.mk 162 19 162 20)) (.mk 162 14 162 21)) (.mk 162 7 162 21)) Operator.Mult (.Subscript (.Name (.ofString "form") (.mk 162 24 162 28)) (.Constant (Const.int 0) 0 (.mk 162 29 162 30)) (.mk 162 24 162 31)) (.mk 162 7 162 31)) [CmpOp.Lt] [.Constant (Const.int 0) 0 (.mk 162 34 162 35)] (.mk 162 7 162 35)) [Stmt.Assign [.Name (.ofString "count") (.mk 163 8 163 13)] (.UnaryOp UnaryOp.USub (.Name (.ofString "count") (.mk 163 17 163 22)) (.mk 163 16 163 22)) (.mk 163 8 163 22)] [] (.mk 162 4 163 22), Stmt.Return (some (.Tuple [.Name (.ofString "sign") (.mk 164 12 164 16), .Name (.ofString "count") (.mk 164 18 164 23)] 0 (.mk 164 11 164 24))) (.mk 164 4 164 24)]) (Scope.mk ScopeKind.function [(.ofString "form", .local), (.ofString "turn", .local), (.ofString "sign", .local), (.ofString "count", .local), (.ofString "check_saddle", .globalImplicit), (.ofString "check_turn", .globalImplicit), (.ofString "moved", .globalImplicit), (.ofString "NotOwn", .globalImplicit), (.ofString "count_without_sign", .globalImplicit), (.ofString "step_of", .globalImplicit), (.ofString "abs", .globalImplicit)] Bool.false Bool.false []) 3 [] .none .none .none (.str (.ofString "formcycle.saddles") 592) none (.ref 383) .none 0)) #[]) ::
(nat_lit 385, Obj.mk (.type "tuple") none (Data.seq #[]) #[]) ::
(nat_lit 387, Obj.mk (.type "tuple") none (Data.seq #[.str (.ofString "step") 687, .str (.ofString "third") 688, .str (.ofString "doubled") 689, .str (.ofString "count") 690, .str (.ofString "came") 691, .str (.ofString "place") 692, .str (.ofString "further") 693]) #[]) ::
(nat_lit 388, Obj.mk (.type "tuple") none (Data.seq #[]) #[]) ::
(nat_lit 390, Obj.mk (.type "code") none (Data.fields #[.str (.ofString "count_without_sign") 684, .str (.ofString "count_without_sign") 685, .str (.ofString "/claim/cut.py") 686, .int 165 0, .int 2 0, .int 0 0, .int 0 0, .int 3 0, .ref 385, .bool Bool.true, .int 181 0, .ref 386, .none, .ref 387, .ref 388, .ref 389, .int 694 0, .int 165 0, .str (.ofString "/claim/cut.py") 695]) #[]) ::
(nat_lit 391, Obj.mk (.type "function") none (Data.func (FuncData.mk (.ofString "count_without_sign") (.ofString "count_without_sign") (Arguments.mk [] [Arg.mk (.ofString "step") none (.mk 165 23 165 27), Arg.mk (.ofString "third") none (.mk 165 29 165 34)] none [] [] none []) (FuncBody.stmts [Stmt.Assign [.Name (.ofString "doubled") (.mk 166 4 166 11)] (.List [.Name (.ofString "step") (.mk 166 15 166 19)] (.mk 166 14 166 20)) (.mk 166 4 166 20), Stmt.While (.Compare (.Call (.Name (.ofString "abs") (.mk 167 10 167 13)) [.Subscript (.Subscript (.Name (.ofString "doubled") (.mk 167 14 167 21)) (.UnaryOp UnaryOp.USub (.Constant (Const.int 1) 0 (.mk 167 23 167 24)) (.mk 167 22 167 24)) (.mk 167 14 167 25)) (.Constant (Const.int 2) 0 (.mk 167 26 167 27)) (.mk 167 14 167 28)] [] (.mk 167 10 167 29)) [CmpOp.Lt] [.Name (.ofString "third") (.mk 167 32 167 37)] (.mk 167 10 167 37)) [Stmt.Expr (.Call (.Attribute (.Name (.ofString "doubled") (.mk 168 8 168 15)) (.ofString "append") (.mk 168 8 168 22)) [.Call (.Name (.ofString "put_behind") (.mk 168 23 168 33)) [.Subscript (.Name (.ofString "doubled") (.mk 168 34 168 41)) (.UnaryOp UnaryOp.USub (.Constant (Const.int 1) 0 (.mk 168 43 168 44)) (.mk 168 42 168 44)) (.mk 168 34 168 45), .Subscript (.Name (.ofString "doubled") (.mk 168 47 168 54)) (.UnaryOp UnaryOp.USub (.Constant (Const.int 1) 0 (.mk 168 56 168 57)) (.mk 168 55 168 57)) (.mk 168 47 168 58)] [] (.mk 168 23 168 59)] [] (.mk 168 8 168 60)) (.mk 168 8 168 60)] [] (.mk 167 4 168 60), Stmt.Assign [.Name (.ofString "count") (.mk 169 4 169 9)] (.Constant (Const.int 0) 0 (.mk 169 12 169 13)) (.mk 169 4 169 13), Stmt.Assign [.Name (.ofString "came") (.mk 170 4 170 8)] (.Name (.ofString "SAME") (.mk 170 11 170 15)) (.mk 170 4 170 15), Stmt.For (.Name (.ofString "place") (.mk 171 8 171 13)) (.Call (.Name (.ofString "range") (.mk 171 17 171 22)) [.BinOp (.Call (.Name (.ofString "len") (.mk 171 23 171 26)) [.Name (.ofString "doubled") (.mk 171 27 171 34)] [] (.mk 171 23 171 35)) Operator.Sub (.Constant (Const.int 1) 0 (.mk 171 38 171 39)) (.mk 171 23 171 39), .UnaryOp UnaryOp.USub (.Constant (Const.int 1) 0 (.mk 171 42 171 43)) (.mk 171 41 171 43), .UnaryOp UnaryOp.USub (.Constant (Const.int 1) 0 (.mk 171 46 171 47)) (.mk 171 45 171 47)] [] (.mk 171 17 171 48)) [Stmt.Assign [.Name (.ofString "further") (.mk 172 8 172 15)] (.Call (.Name (.ofString "put_behind") (.mk 172 18 172 28)) [.Name (.ofString "came") (.mk 172 29 172 33), .Subscript (.Name (.ofString "doubled") (.mk 172 35 172 42)) (.Name (.ofString "place") (.mk 172 43 172 48)) (.mk 172 35 172 49)] [] (.mk 172 18 172 50)) (.mk 172 8 172 50), Stmt.If (.Compare (.Call (.Name (.ofString "abs") (.mk 173 11 173 14)) [.Subscript (.Name (.ofString "further") (.mk 173 15 173 22)) (.Constant (Const.int 2) 0 (.mk 173 23 173 24)) (.mk 173 15 173 25)] [] (.mk 173 11 173 26)) [CmpOp.LtE] [.Name (.ofString "third") (.mk 173 30 173 35)] (.mk 173 11 173 35)) [Stmt.Assign [.Name (.ofString "came") (.mk 174 12 174 16)] (.Name (.ofString "further") (.mk 174 19 174 26)) (.mk 174 12 174 26), Stmt.AugAssign (.Name (.ofString "count") (.mk 175 12 175 17)) Operator.Add (.BinOp (.Constant (Const.int 1) 0 (.mk 175 21 175 22)) Operator.LShift (.Name (.ofString "place") (.mk 175 26 175 31)) (.mk 175 21 175 31)) (.mk 175 12 175 31)] [] (.mk 173 8 175 31)] [] (.mk 171 4 175 31), Stmt.Return (some (.Name (.ofString "count") (.mk 176 11 176 16))) (.mk 176 4 176 16)]) (Scope.mk ScopeKind.function [(.ofString "step", .local), (.ofString "third", .local), (.ofString "doubled", .local), (.ofString "count", .local), (.ofString "came", .local), (.ofString "place", .local), (.ofString "further", .local), (.ofString "abs", .globalImplicit), (.ofString "put_behind", .globalImplicit), (.ofString "SAME", .globalImplicit), (.ofString "range", .globalImplicit), (.ofString "len", .globalImplicit)] Bool.false Bool.false []) 3 [] .none .none .none (.str (.ofString "formcycle.saddles") 592) none (.ref 390) .none 0)) #[]) ::
(nat_lit 392, Obj.mk (.type "tuple") none (Data.seq #[]) #[]) ::
(nat_lit 394, Obj.mk (.type "tuple") none (Data.seq #[.str (.ofString "_law_script") 702, .str (.ofString "_law_k") 703]) #[]) ::
(nat_lit 395, Obj.mk (.type "tuple") none (Data.seq #[]) #[]) ::
(nat_lit 397, Obj.mk (.type "code") none (Data.fields #[.str (.ofString "_law_cell") 699, .str (.ofString "_law_cell") 700, .str (.ofString "/claim/cut.py") 701, .int 178 0, .int 2 0, .int 0 0, .int 0 0, .int 3 0, .ref 392, .bool Bool.true, .int 181 0, .ref 393, .none, .ref 394, .ref 395, .ref 396, .int 704 0, .int 178 0, .str (.ofString "/claim/cut.py") 705]) #[]) ::
(nat_lit 398, Obj.mk (.type "function") none (Data.func (FuncData.mk (.ofString "_law_cell") (.ofString "_law_cell") (Arguments.mk [] [Arg.mk (.ofString "_law_script") none (.mk 178 14 178 25), Arg.mk (.ofString "_law_k") none (.mk 178 27 178 33)] none [] [] none []) (FuncBody.stmts [Stmt.If (.Compare (.Name (.ofString "_law_k") (.mk 179 7 179 13)) [CmpOp.Lt] [.Call (.Name (.ofString "len") (.mk 179 16 179 19)) [.Name (.ofString "_law_script") (.mk 179 20 179 31)] [] (.mk 179 16 179 32)] (.mk 179 7 179 32)) [Stmt.Return (some (.Subscript (.Name (.ofString "_law_script") (.mk 180 15 180 26)) (.Name (.ofString "_law_k") (.mk 180 27 180 33)) (.mk 180 15 180 34))) (.mk 180 8 180 34)] [] (.mk 179 4 180 34), Stmt.Return (some (.Constant (Const.int 0) 0 (.mk 181 11 181 12))) (.mk 181 4 181 12)]) (Scope.mk ScopeKind.function [(.ofString "_law_script", .local), (.ofString "_law_k", .local), (.ofString "len", .globalImplicit)] Bool.false Bool.false []) 3 [] .none .none .none (.str (.ofString "law_formcycle_k28_so_many_steps") 697) none (.ref 397) .none 0)) #[]) ::
(nat_lit 399, Obj.mk (.type "tuple") none (Data.seq #[]) #[]) ::
(nat_lit 401, Obj.mk (.type "tuple") none (Data.seq #[.str (.ofString "_law_found") 710]) #[]) ::
(nat_lit 402, Obj.mk (.type "tuple") none (Data.seq #[]) #[]) ::
(nat_lit 404, Obj.mk (.type "code") none (Data.fields #[.str (.ofString "_law_whole") 707, .str (.ofString "_law_whole") 708, .str (.ofString "/claim/cut.py") 709, .int 182 0, .int 1 0, .int 0 0, .int 0 0, .int 3 0, .ref 399, .bool Bool.true, .int 181 0, .ref 400, .none, .ref 401, .ref 402, .ref 403, .int 711 0, .int 182 0, .str (.ofString "/claim/cut.py") 712]) #[]) ::
(nat_lit 405, Obj.mk (.type "function") none (Data.func (FuncData.mk (.ofString "_law_whole") (.ofString "_law_whole") (Arguments.mk [] [Arg.mk (.ofString "_law_found") none (.mk 182 15 182 25)] none [] [] none []) (FuncBody.stmts [Stmt.Return (some (.BoolOp BoolOp.And [.Call (.Name (.ofString "isinstance") (.mk 183 11 183 21)) [.Name (.ofString "_law_found") (.mk 183 22 183 32), .Name (.ofString "int") (.mk 183 34 183 37)] [] (.mk 183 11 183 38), .UnaryOp UnaryOp.Not (.Call (.Name (.ofString "isinstance") (.mk 183 48 183 58)) [.Name (.ofString "_law_found") (.mk 183 59 183 69), .Name (.ofString "bool") (.mk 183 71 183 75)] [] (.mk 183 48 183 76)) (.mk 183 44 183 76)] (.mk 183 11 183 77))) (.mk 183 4 183 77)]) (Scope.mk ScopeKind.function [(.ofString "_law_found", .local), (.ofString "isinstance", .globalImplicit), (.ofString "int", .globalImplicit), (.ofString "bool", .globalImplicit)] Bool.false Bool.false []) 3 [] .none .none .none (.str (.ofString "law_formcycle_k28_so_many_steps") 697) none (.ref 404) .none 0)) #[]) ::
(nat_lit 406, Obj.mk (.type "tuple") none (Data.seq #[]) #[]) ::
(nat_lit 409, Obj.mk (.type "code") none (Data.fields #[.str (.ofString "_law_wholes") 714, .str (.ofString "_law_wholes") 715, .str (.ofString "/claim/cut.py") 716, .int 184 0, .int 2 0, .int 0 0, .int 0 0, .int 3 0, .ref 406, .bool Bool.true, .int 181 0, .ref 407, .none, .none, .none, .ref 408, .int 717 0, .int 184 0, .str (.ofString "/claim/cut.py") 718]) #[]) ::
(nat_lit 410, Obj.mk (.type "function") none (Data.func (FuncData.mk (.ofString "_law_wholes") (.ofString "_law_wholes") (Arguments.mk [] [Arg.mk (.ofString "_law_found") none (.mk 184 16 184 26), Arg.mk (.ofString "_law_many") none (.mk 184 28 184 37)] none [] [] none []) (FuncBody.stmts [Stmt.If (.BoolOp BoolOp.Or [.UnaryOp UnaryOp.Not (.Call (.Name (.ofString "isinstance") (.mk 185 11 185 21)) [.Name (.ofString "_law_found") (.mk 185 22 185 32), .Name (.ofString "tuple") (.mk 185 34 185 39)] [] (.mk 185 11 185 40)) (.mk 185 7 185 40), .Compare (.Call (.Name (.ofString "len") (.mk 185 44 185 47)) [.Name (.ofString "_law_found") (.mk 185 48 185 58)] [] (.mk 185 44 185 59)) [CmpOp.NotEq] [.Name (.ofString "_law_many") (.mk 185 63 185 72)] (.mk 185 44 185 72)] (.mk 185 7 185 72)) [Stmt.Return (some (.Constant (Const.bool Bool.false) 0 (.mk 186 15 186 20))) (.mk 186 8 186 20)] [] (.mk 185 4 186 20), Stmt.Return (some (.Compare (.Call (.Name (.ofString "len") (.mk 187 11 187 14)) [.ListComp (.Name (.ofString "_law_one") (.mk 187 16 187 24)) [Comprehension.mk (.Name (.ofString "_law_one") (.mk 187 29 187 37)) (.Name (.ofString "_law_found") (.mk 187 41 187 51)) [.Call (.Name (.ofString "_law_whole") (.mk 187 55 187 65)) [.Name (.ofString "_law_one") (.mk 187 66 187 74)] [] (.mk 187 55 187 75)] 0] (Scope.mk ScopeKind.function [(.ofString ".0", .local), (.ofString "_law_one", .local), (.ofString "_law_whole", .globalImplicit)] Bool.false Bool.false []) (.mk 187 15 187 76)] [] (.mk 187 11 187 77)) [CmpOp.Eq] [.Name (.ofString "_law_many") (.mk 187 81 187 90)] (.mk 187 11 187 90))) (.mk 187 4 187 90)]) (Scope.mk ScopeKind.function [(.ofString "_law_found", .local), (.ofString "_law_many", .local), (.ofString "isinstance", .globalImplicit), (.ofString "tuple", .globalImplicit), (.ofString "len", .globalImplicit)] Bool.false Bool.false [(.ofString "fast", Const.str (.ofString "_law_found")), (.ofString "fast", Const.str (.ofString "_law_many")), (.ofString "fast", Const.str (.ofString "_law_one"))]) 3 [] .none .none .none (.str (.ofString "law_formcycle_k28_so_many_steps") 697) none (.ref 409) .none 0)) #[]) ::
(nat_lit 411, Obj.mk (.type "tuple") none (Data.seq #[]) #[]) ::
(nat_lit 413, Obj.mk (.type "tuple") none (Data.seq #[.str (.ofString "_law_form") 723]) #[]) ::
(nat_lit 414, Obj.mk (.type "tuple") none (Data.seq #[]) #[]) ::
(nat_lit 416, Obj.mk (.type "code") none (Data.fields #[.str (.ofString "_law_bar") 720, .str (.ofString "_law_bar") 721, .str (.ofString "/claim/cut.py") 722, .int 188 0, .int 1 0, .int 0 0, .int 0 0, .int 3 0, .ref 411, .bool Bool.true, .int 181 0, .ref 412, .none, .ref 413, .ref 414, .ref 415, .int 724 0, .int 188 0, .str (.ofString "/claim/cut.py") 725]) #[]) ::
(nat_lit 417, Obj.mk (.type "function") none (Data.func (FuncData.mk (.ofString "_law_bar") (.ofString "_law_bar") (Arguments.mk [] [Arg.mk (.ofString "_law_form") none (.mk 188 13 188 22)] none [] [] none []) (FuncBody.stmts [Stmt.Return (some (.BinOp (.BinOp (.Subscript (.Name (.ofString "_law_form") (.mk 189 11 189 20)) (.Constant (Const.int 1) 0 (.mk 189 21 189 22)) (.mk 189 11 189 23)) Operator.Mult (.Subscript (.Name (.ofString "_law_form") (.mk 189 26 189 35)) (.Constant (Const.int 1) 0 (.mk 189 36 189 37)) (.mk 189 26 189 38)) (.mk 189 11 189 38)) Operator.Sub (.BinOp (.BinOp (.Constant (Const.int 4) 0 (.mk 189 41 189 42)) Operator.Mult (.Subscript (.Name (.ofString "_law_form") (.mk 189 45 189 54)) (.Constant (Const.int 0) 0 (.mk 189 55 189 56)) (.mk 189 45 189 57)) (.mk 189 41 189 57)) Operator.Mult (.Subscript (.Name (.ofString "_law_form") (.mk 189 60 189 69)) (.Constant (Const.int 2) 0 (.mk 189 70 189 71)) (.mk 189 60 189 72)) (.mk 189 41 189 72)) (.mk 189 11 189 72))) (.mk 189 4 189 72)]) (Scope.mk ScopeKind.function [(.ofString "_law_form", .local)] Bool.false Bool.false []) 3 [] .none .none .none (.str (.ofString "law_formcycle_k28_so_many_steps") 697) none (.ref 416) .none 0)) #[]) ::
(nat_lit 418, Obj.mk (.type "tuple") none (Data.seq #[]) #[]) ::
(nat_lit 420, Obj.mk (.type "tuple") none (Data.seq #[.str (.ofString "_law_number") 730, .str (.ofString "_law_near") 731]) #[]) ::
(nat_lit 421, Obj.mk (.type "tuple") none (Data.seq #[]) #[]) ::
(nat_lit 423, Obj.mk (.type "code") none (Data.fields #[.str (.ofString "_law_root") 727, .str (.ofString "_law_root") 728, .str (.ofString "/claim/cut.py") 729, .int 190 0, .int 1 0, .int 0 0, .int 0 0, .int 3 0, .ref 418, .bool Bool.true, .int 181 0, .ref 419, .none, .ref 420, .ref 421, .ref 422, .int 732 0, .int 190 0, .str (.ofString "/claim/cut.py") 733]) #[]) ::
(nat_lit 424, Obj.mk (.type "function") none (Data.func (FuncData.mk (.ofString "_law_root") (.ofString "_law_root") (Arguments.mk [] [Arg.mk (.ofString "_law_number") none (.mk 190 14 190 25)] none [] [] none []) (FuncBody.stmts [Stmt.Assign [.Name (.ofString "_law_near") (.mk 191 4 191 13)] (.BinOp (.Constant (Const.int 1) 0 (.mk 191 16 191 17)) Operator.LShift (.BinOp (.BinOp (.Call (.Attribute (.Name (.ofString "_law_number") (.mk 191 22 191 33)) (.ofString "bit_length") (.mk 191 22 191 44)) [] [] (.mk 191 22 191 46)) Operator.Add (.Constant (Const.int 1) 0 (.mk 191 49 191 50)) (.mk 191 22 191 50)) Operator.FloorDiv (.Constant (Const.int 2) 0 (.mk 191 55 191 56)) (.mk 191 21 191 56)) (.mk 191 16 191 56)) (.mk 191 4 191 56), Stmt.While (.Compare (.BinOp (.Name (.ofString "_law_near") (.mk 192 10 192 19)) Operator.Mult (.Name (.ofString "_law_near") (.mk 192 22 192 31)) (.mk 192 10 192 31)) [CmpOp.Gt] [.Name (.ofString "_law_number") (.mk 192 34 192 45)] (.mk 192 10 192 45)) [Stmt.Assign [.Name (.ofString "_law_near") (.mk 193 8 193 17)] (.BinOp (.BinOp (.Name (.ofString "_law_near") (.mk 193 21 193 30)) Operator.Add (.BinOp (.Name (.ofString "_law_number") (.mk 193 33 193 44)) Operator.FloorDiv (.Name (.ofString "_law_near") (.mk 193 48 193 57)) (.mk 193 33 193 57)) (.mk 193 21 193 57)) Operator.FloorDiv (.Constant (Const.int 2) 0 (.mk 193 62 193 63)) (.mk 193 20 193 63)) (.mk 193 8 193 63)] [] (.mk 192 4 193 63), Stmt.Return (some (.Name (.ofString "_law_near") (.mk 194 11 194 20))) (.mk 194 4 194 20)]) (Scope.mk ScopeKind.function [(.ofString "_law_number", .local), (.ofString "_law_near", .local)] Bool.false Bool.false []) 3 [] .none .none .none (.str (.ofString "law_formcycle_k28_so_many_steps") 697) none (.ref 423) .none 0)) #[]) ::
(nat_lit 425, Obj.mk (.type "tuple") none (Data.seq #[]) #[]) ::
(nat_lit 427, Obj.mk (.type "tuple") none (Data.seq #[.str (.ofString "_law_form") 738, .str (.ofString "_law_bar_here") 739, .str (.ofString "_law_far") 740]) #[]) ::
(nat_lit 428, Obj.mk (.type "tuple") none (Data.seq #[]) #[]) ::
(nat_lit 430, Obj.mk (.type "code") none (Data.fields #[.str (.ofString "_law_flat") 735, .str (.ofString "_law_flat") 736, .str (.ofString "/claim/cut.py") 737, .int 195 0, .int 1 0, .int 0 0, .int 0 0, .int 3 0, .ref 425, .bool Bool.true, .int 181 0, .ref 426, .none, .ref 427, .ref 428, .ref 429, .int 741 0, .int 195 0, .str (.ofString "/claim/cut.py") 742]) #[]) ::
(nat_lit 431, Obj.mk (.type "function") none (Data.func (FuncData.mk (.ofString "_law_flat") (.ofString "_law_flat") (Arguments.mk [] [Arg.mk (.ofString "_law_form") none (.mk 195 14 195 23)] none [] [] none []) (FuncBody.stmts [Stmt.Assign [.Name (.ofString "_law_bar_here") (.mk 196 4 196 17)] (.Call (.Name (.ofString "_law_bar") (.mk 196 20 196 28)) [.Name (.ofString "_law_form") (.mk 196 29 196 38)] [] (.mk 196 20 196 39)) (.mk 196 4 196 39), Stmt.Assign [.Name (.ofString "_law_far") (.mk 197 4 197 12)] (.Call (.Name (.ofString "_law_root") (.mk 197 15 197 24)) [.Name (.ofString "_law_bar_here") (.mk 197 25 197 38)] [] (.mk 197 15 197 39)) (.mk 197 4 197 39), Stmt.Return (some (.Compare (.BinOp (.Name (.ofString "_law_far") (.mk 198 11 198 19)) Operator.Mult (.Name (.ofString "_law_far") (.mk 198 22 198 30)) (.mk 198 11 198 30)) [CmpOp.Eq] [.Name (.ofString "_law_bar_here") (.mk 198 34 198 47)] (.mk 198 11 198 47))) (.mk 198 4 198 47)]) (Scope.mk ScopeKind.function [(.ofString "_law_form", .local), (.ofString "_law_bar_here", .local), (.ofString "_law_far", .local), (.ofString "_law_bar", .globalImplicit), (.ofString "_law_root", .globalImplicit)] Bool.false Bool.false []) 3 [] .none .none .none (.str (.ofString "law_formcycle_k28_so_many_steps") 697) none (.ref 430) .none 0)) #[]) ::
(nat_lit 432, Obj.mk (.type "tuple") none (Data.seq #[]) #[]) ::
(nat_lit 434, Obj.mk (.type "tuple") none (Data.seq #[.str (.ofString "_law_first") 747, .str (.ofString "_law_cells") 748, .str (.ofString "_law_p") 749, .str (.ofString "_law_q") 750, .str (.ofString "_law_r") 751, .str (.ofString "_law_s") 752, .str (.ofString "_law_cell_here") 753, .str (.ofString "_law_k") 754]) #[]) ::
(nat_lit 435, Obj.mk (.type "tuple") none (Data.seq #[]) #[]) ::
(nat_lit 437, Obj.mk (.type "code") none (Data.fields #[.str (.ofString "_law_turn") 744, .str (.ofString "_law_turn") 745, .str (.ofString "/claim/cut.py") 746, .int 199 0, .int 2 0, .int 0 0, .int 0 0, .int 3 0, .ref 432, .bool Bool.true, .int 181 0, .ref 433, .none, .ref 434, .ref 435, .ref 436, .int 755 0, .int 199 0, .str (.ofString "/claim/cut.py") 756]) #[]) ::
(nat_lit 438, Obj.mk (.type "function") none (Data.func (FuncData.mk (.ofString "_law_turn") (.ofString "_law_turn") (Arguments.mk [] [Arg.mk (.ofString "_law_first") none (.mk 199 14 199 24), Arg.mk (.ofString "_law_cells") none (.mk 199 26 199 36)] none [] [] none []) (FuncBody.stmts [Stmt.Assign [.Tuple [.Name (.ofString "_law_p") (.mk 200 4 200 10), .Name (.ofString "_law_q") (.mk 200 12 200 18), .Name (.ofString "_law_r") (.mk 200 20 200 26), .Name (.ofString "_law_s") (.mk 200 28 200 34)] 0 (.mk 200 4 200 34)] (.Tuple [.Constant (Const.int 1) 0 (.mk 200 38 200 39), .Name (.ofString "_law_first") (.mk 200 41 200 51), .Constant (Const.int 0) 0 (.mk 200 53 200 54), .Constant (Const.int 1) 0 (.mk 200 56 200 57)] 0 (.mk 200 37 200 58)) (.mk 200 4 200 58), Stmt.For (.Name (.ofString "_law_cell_here") (.mk 201 8 201 22)) (.Name (.ofString "_law_cells") (.mk 201 26 201 36)) [Stmt.Assign [.Name (.ofString "_law_k") (.mk 202 8 202 14)] (.BinOp (.BinOp (.Name (.ofString "_law_cell_here") (.mk 202 17 202 31)) Operator.Mod (.Constant (Const.int 19) 0 (.mk 202 34 202 36)) (.mk 202 17 202 36)) Operator.Sub (.Constant (Const.int 9) 0 (.mk 202 39 202 40)) (.mk 202 17 202 40)) (.mk 202 8 202 40), Stmt.Assign [.Tuple [.Name (.ofString "_law_p") (.mk 203 8 203 14), .Name (.ofString "_law_q") (.mk 203 16 203 22), .Name (.ofString "_law_r") (.mk 203 24 203 30), .Name (.ofString "_law_s") (.mk 203 32 203 38)] 0 (.mk 203 8 203 38)] (.Tuple [.Name (.ofString "_law_q") (.mk 203 42 203 48), .BinOp (.BinOp (.Name (.ofString "_law_k") (.mk 203 50 203 56)) Operator.Mult (.Name (.ofString "_law_q") (.mk 203 59 203 65)) (.mk 203 50 203 65)) Operator.Sub (.Name (.ofString "_law_p") (.mk 203 68 203 74)) (.mk 203 50 203 74), .Name (.ofString "_law_s") (.mk 203 76 203 82), .BinOp (.BinOp (.Name (.ofString "_law_k") (.mk 203 84 203 90)) Operator.Mult (.Name (.ofString "_law_s") (.mk 203 93 203 99)) (.mk 203 84 203 99)) Operator.Sub (.Name (.ofString "_law_r") (.mk 203 102 203 108)) (.mk 203 84 203 108)] 0 (.mk 203 41 203 109)) (.mk 203 8 203 109)] [] (.mk 201 4 203 109), Stmt.Return (some (.Tuple [.Name (.ofString "_law_p") (.mk 204 12 204 18), .Name (.ofString "_law_q") (.mk 204 20 204 26), .Name (.ofString "_law_r") (.mk 204 28 204 34), .Name (.ofString "_law_s") (.mk 204 36 204 42)] 0 (.mk 204 11 204 43))) (.mk 204 4 204 43)]) (Scope.mk ScopeKind.function [(.ofString "_law_first", .local), (.ofString "_law_cells", .local), (.ofString "_law_p", .local), (.ofString "_law_q", .local), (.ofString "_law_r", .local), (.ofString "_law_s", .local), (.ofString "_law_cell_here", .local), (.ofString "_law_k", .local)] Bool.false Bool.false []) 3 [] .none .none .none (.str (.ofString "law_formcycle_k28_so_many_steps") 697) none (.ref 437) .none 0)) #[]) ::
(nat_lit 439, Obj.mk (.type "tuple") none (Data.seq #[]) #[]) ::
(nat_lit 441, Obj.mk (.type "tuple") none (Data.seq #[.str (.ofString "_law_form") 761, .str (.ofString "_law_x") 762, .str (.ofString "_law_y") 763]) #[]) ::
(nat_lit 442, Obj.mk (.type "tuple") none (Data.seq #[]) #[]) ::
(nat_lit 444, Obj.mk (.type "code") none (Data.fields #[.str (.ofString "_law_value") 758, .str (.ofString "_law_value") 759, .str (.ofString "/claim/cut.py") 760, .int 205 0, .int 3 0, .int 0 0, .int 0 0, .int 3 0, .ref 439, .bool Bool.true, .int 181 0, .ref 440, .none, .ref 441, .ref 442, .ref 443, .int 764 0, .int 205 0, .str (.ofString "/claim/cut.py") 765]) #[]) ::
(nat_lit 445, Obj.mk (.type "function") none (Data.func (FuncData.mk (.ofString "_law_value") (.ofString "_law_value") (Arguments.mk [] [Arg.mk (.ofString "_law_form") none (.mk 205 15 205 24), Arg.mk (.ofString "_law_x") none (.mk 205 26 205 32), Arg.mk (.ofString "_law_y") none (.mk 205 34 205 40)] none [] [] none []) (FuncBody.stmts [Stmt.Return (some (.BinOp (.BinOp (.BinOp (.BinOp (.Subscript (.Name (.ofString "_law_form") (.mk 206 11 206 20)) (.Constant (Const.int 0) 0 (.mk 206 21 206 22)) (.mk 206 11 206 23)) Operator.Mult (.Name (.ofString "_law_x") (.mk 206 26 206 32)) (.mk 206 11 206 32)) Operator.Mult (.Name (.ofString "_law_x") (.mk 206 35 206 41)) (.mk 206 11 206 41)) Operator.Add (.BinOp (.BinOp (.Subscript (.Name (.ofString "_law_form") (.mk 206 44 206 53)) (.Constant (Const.int 1) 0 (.mk 206 54 206 55)) (.mk 206 44 206 56)) Operator.Mult (.Name (.ofString "_law_x") (.mk 206 59 206 65)) (.mk 206 44 206 65)) Operator.Mult (.Name (.ofString "_law_y") (.mk 206 68 206 74)) (.mk 206 44 206 74)) (.mk 206 11 206 74)) Operator.Add (.BinOp (.BinOp (.Subscript (.Name (.ofString "_law_form") (.mk 206 77 206 86)) (.Constant (Const.int 2) 0 (.mk 206 87 206 88)) (.mk 206 77 206 89)) Operator.Mult (.Name (.ofString "_law_y") (.mk 206 92 206 98)) (.mk 206 77 206 98)) Operator.Mult (.Name (.ofString "_law_y") (.mk 206 101 206 107)) (.mk 206 77 206 107)) (.mk 206 11 206 107))) (.mk 206 4 206 107)]) (Scope.mk ScopeKind.function [(.ofString "_law_form", .local), (.ofString "_law_x", .local), (.ofString "_law_y", .local)] Bool.false Bool.false []) 3 [] .none .none .none (.str (.ofString "law_formcycle_k28_so_many_steps") 697) none (.ref 444) .none 0)) #[]) ::
(nat_lit 446, Obj.mk (.type "tuple") none (Data.seq #[]) #[]) ::
(nat_lit 448, Obj.mk (.type "tuple") none (Data.seq #[.str (.ofString "_law_form") 770, .str (.ofString "_law_turn_here") 771, .str (.ofString "_law_p") 772, .str (.ofString "_law_q") 773, .str (.ofString "_law_r") 774, .str (.ofString "_law_s") 775, .str (.ofString "_law_middle") 776]) #[]) ::
(nat_lit 449, Obj.mk (.type "tuple") none (Data.seq #[]) #[]) ::
(nat_lit 451, Obj.mk (.type "code") none (Data.fields #[.str (.ofString "_law_moved") 767, .str (.ofString "_law_moved") 768, .str (.ofString "/claim/cut.py") 769, .int 207 0, .int 2 0, .int 0 0, .int 0 0, .int 3 0, .ref 446, .bool Bool.true, .int 181 0, .ref 447, .none, .ref 448, .ref 449, .ref 450, .int 777 0, .int 207 0, .str (.ofString "/claim/cut.py") 778]) #[]) ::
(nat_lit 452, Obj.mk (.type "function") none (Data.func (FuncData.mk (.ofString "_law_moved") (.ofString "_law_moved") (Arguments.mk [] [Arg.mk (.ofString "_law_form") none (.mk 207 15 207 24), Arg.mk (.ofString "_law_turn_here") none (.mk 207 26 207 40)] none [] [] none []) (FuncBody.stmts [Stmt.Assign [.Tuple [.Name (.ofString "_law_p") (.mk 208 4 208 10), .Name (.ofString "_law_q") (.mk 208 12 208 18), .Name (.ofString "_law_r") (.mk 208 20 208 26), .Name (.ofString "_law_s") (.mk 208 28 208 34)] 0 (.mk 208 4 208 34)] (.Name (.ofString "_law_turn_here") (.mk 208 37 208 51)) (.mk 208 4 208 51), Stmt.Assign [.Name (.ofString "_law_middle") (.mk 209 4 209 15)] (.BinOp (.BinOp (.Call (.Name (.ofString "_law_value") (.mk 209 18 209 28)) [.Name (.ofString "_law_form") (.mk 209 29 209 38), .BinOp (.Name (.ofString "_law_p") (.mk 209 40 209 46)) Operator.Add (.Name (.ofString "_law_q") (.mk 209 49 209 55)) (.mk 209 40 209 55), .BinOp (.Name (.ofString "_law_r") (.mk 209 57 209 63)) Operator.Add (.Name (.ofString "_law_s") (.mk 209 66 209 72)) (.mk 209 57 209 72)] [] (.mk 209 18 209 73)) Operator.Sub (.Call (.Name (.ofString "_law_value") (.mk 209 76 209 86)) [.Name (.ofString "_law_form") (.mk 209 87 209 96), .Name (.ofString "_law_p") (.mk 209 98 209 104), .Name (.ofString "_law_r") (.mk 209 106 209 112)] [] (.mk 209 76 209 113)) (.mk 209 18 209 113)) Operator.Sub (.Call (.Name (.ofString "_law_value") (.mk 209 116 209 126)) [.Name (.ofString "_law_form") (.mk 209 127 209 136), .Name (.ofString "_law_q") (.mk 209 138 209 144), .Name (.ofString "_law_s") (.mk 209 146 209 152)] [] (.mk 209 116 209 153)) (.mk 209 18 209 153)) (.mk 209 4 209 153), Stmt.Return (some (.Tuple [.Call (.Name (.ofString "_law_value") (.mk 210 12 210 22)) [.Name (.ofString "_law_form") (.mk 210 23 210 32), .Name (.ofString "_law_p") (.mk 210 34 210 40), .Name (.ofString "_law_r") (.mk 210 42 210 48)] [] (.mk 210 12 210 49), .Name (.ofString "_law_middle") (.mk 210 51 210 62), .Call (.Name (.ofString "_law_value") (.mk 210 64 210 74)) [.Name (.ofString "_law_form") (.mk 210 75 210 84), .Name (.ofString "_law_q") (.mk 210 86 210 92), .Name (.ofString "_law_s") (.mk 210 94 210 100)] [] (.mk 210 64 210 101)] 0 (.mk 210 11 210 102))) (.mk 210 4 210 102)]) (Scope.mk ScopeKind.function [(.ofString "_law_form", .local), (.ofString "_law_turn_here", .local), (.ofString "_law_p", .local), (.ofString "_law_q", .local), (.ofString "_law_r", .local), (.ofString "_law_s", .local), (.ofString "_law_middle", .local), (.ofString "_law_value", .globalImplicit)] Bool.false Bool.false []) 3 [] .none .none .none (.str (.ofString "law_formcycle_k28_so_many_steps") 697) none (.ref 451) .none 0)) #[]) ::
(nat_lit 453, Obj.mk (.type "tuple") none (Data.seq #[]) #[]) ::
(nat_lit 455, Obj.mk (.type "tuple") none (Data.seq #[.str (.ofString "_law_one") 783, .str (.ofString "_law_two") 784, .str (.ofString "_law_three") 785, .str (.ofString "_law_often") 786, .str (.ofString "_law_size") 787, .str (.ofString "_law_m") 788, .str (.ofString "_law_b") 789, .str (.ofString "_law_rest") 790, .str (.ofString "_law_most") 791, .str (.ofString "_law_bar_here") 792, .str (.ofString "_law_sign") 793]) #[]) ::
(nat_lit 456, Obj.mk (.type "tuple") none (Data.seq #[]) #[]) ::
(nat_lit 458, Obj.mk (.type "code") none (Data.fields #[.str (.ofString "_law_saddle") 780, .str (.ofString "_law_saddle") 781, .str (.ofString "/claim/cut.py") 782, .int 211 0, .int 3 0, .int 0 0, .int 0 0, .int 3 0, .ref 453, .bool Bool.true, .int 181 0, .ref 454, .none, .ref 455, .ref 456, .ref 457, .int 794 0, .int 211 0, .str (.ofString "/claim/cut.py") 795]) #[]) ::
(nat_lit 459, Obj.mk (.type "function") none (Data.func (FuncData.mk (.ofString "_law_saddle") (.ofString "_law_saddle") (Arguments.mk [] [Arg.mk (.ofString "_law_one") none (.mk 211 16 211 24), Arg.mk (.ofString "_law_two") none (.mk 211 26 211 34), Arg.mk (.ofString "_law_three") none (.mk 211 36 211 46)] none [] [] none []) (FuncBody.stmts [Stmt.Assign [.Name (.ofString "_law_often") (.mk 212 4 212 14)] (.Subscript (.List [.Constant (Const.int 1) 0 (.mk 212 18 212 19), .Constant (Const.int 1) 0 (.mk 212 21 212 22), .Constant (Const.int 1) 0 (.mk 212 24 212 25), .BinOp (.Constant (Const.int 2) 0 (.mk 212 27 212 28)) Operator.Add (.BinOp (.BinOp (.Name (.ofString "_law_one") (.mk 212 31 212 39)) Operator.FloorDiv (.Constant (Const.int 8) 0 (.mk 212 43 212 44)) (.mk 212 31 212 44)) Operator.Mod (.Constant (Const.int 5) 0 (.mk 212 47 212 48)) (.mk 212 31 212 48)) (.mk 212 27 212 48)] (.mk 212 17 212 49)) (.BinOp (.BinOp (.Name (.ofString "_law_one") (.mk 212 50 212 58)) Operator.FloorDiv (.Constant (Const.int 2) 0 (.mk 212 62 212 63)) (.mk 212 50 212 63)) Operator.Mod (.Constant (Const.int 4) 0 (.mk 212 66 212 67)) (.mk 212 50 212 67)) (.mk 212 17 212 68)) (.mk 212 4 212 68), Stmt.Assign [.Name (.ofString "_law_size") (.mk 213 4 213 13)] (.Subscript (.List [.Constant (Const.int 400) 0 (.mk 213 17 213 20), .Constant (Const.int 12) 0 (.mk 213 22 213 24)] (.mk 213 16 213 25)) (.Call (.Name (.ofString "int") (.mk 213 26 213 29)) [.BoolOp BoolOp.Or [.Compare (.Name (.ofString "_law_often") (.mk 213 30 213 40)) [CmpOp.Gt] [.Constant (Const.int 1) 0 (.mk 213 43 213 44)] (.mk 213 30 213 44), .Compare (.BinOp (.BinOp (.Name (.ofString "_law_one") (.mk 213 48 213 56)) Operator.FloorDiv (.Constant (Const.int 40) 0 (.mk 213 60 213 62)) (.mk 213 48 213 62)) Operator.Mod (.Constant (Const.int 2) 0 (.mk 213 65 213 66)) (.mk 213 48 213 66)) [CmpOp.Eq] [.Constant (Const.int 1) 0 (.mk 213 70 213 71)] (.mk 213 48 213 71)] (.mk 213 30 213 71)] [] (.mk 213 26 213 72)) (.mk 213 16 213 73)) (.mk 213 4 213 73), Stmt.Assign [.Name (.ofString "_law_m") (.mk 214 4 214 10)] (.BinOp (.Constant (Const.int 1) 0 (.mk 214 13 214 14)) Operator.Add (.BinOp (.BinOp (.Name (.ofString "_law_one") (.mk 214 17 214 25)) Operator.FloorDiv (.Constant (Const.int 80) 0 (.mk 214 29 214 31)) (.mk 214 17 214 31)) Operator.Mod (.Name (.ofString "_law_size") (.mk 214 34 214 43)) (.mk 214 17 214 43)) (.mk 214 13 214 43)) (.mk 214 4 214 43), Stmt.Assign [.Name (.ofString "_law_b") (.mk 215 4 215 10)] (.BinOp (.Name (.ofString "_law_two") (.mk 215 13 215 21)) Operator.Mod (.BinOp (.Constant (Const.int 2) 0 (.mk 215 25 215 26)) Operator.Mult (.Name (.ofString "_law_m") (.mk 215 29 215 35)) (.mk 215 25 215 35)) (.mk 215 13 215 36)) (.mk 215 4 215 36), Stmt.Assign [.Name (.ofString "_law_rest") (.mk 216 4 216 13)] (.BinOp (.BinOp (.Name (.ofString "_law_b") (.mk 216 16 216 22)) Operator.Mult (.Name (.ofString "_law_b") (.mk 216 25 216 31)) (.mk 216 16 216 31)) Operator.Mod (.BinOp (.Constant (Const.int 4) 0 (.mk 216 35 216 36)) Operator.Mult (.Name (.ofString "_law_m") (.mk 216 39 216 45)) (.mk 216 35 216 45)) (.mk 216 16 216 46)) (.mk 216 4 216 46), Stmt.Assign [.Name (.ofString "_law_most") (.mk 217 4 217 13)] (.BinOp (.Constant (Const.int 4000) 0 (.mk 217 16 217 20)) Operator.FloorDiv (.BinOp (.Name (.ofString "_law_often") (.mk 217 25 217 35)) Operator.Mult (.Name (.ofString "_law_often") (.mk 217 38 217 48)) (.mk 217 25 217 48)) (.mk 217 16 217 49)) (.mk 217 4 217 49), Stmt.Assign [.Name (.ofString "_law_bar_here") (.mk 218 4 218 17)] (.BinOp (.Name (.ofString "_law_rest") (.mk 218 20 218 29)) Operator.Add (.BinOp (.BinOp (.Constant (Const.int 4) 0 (.mk 218 32 218 33)) Operator.Mult (.Name (.ofString "_law_m") (.mk 218 36 218 42)) (.mk 218 32 218 42)) Operator.Mult (.BinOp (.Name (.ofString "_law_three") (.mk 218 46 218 56)) Operator.Mod (.BinOp (.Constant (Const.int 1) 0 (.mk 218 60 218 61)) Operator.Add (.BinOp (.BinOp (.Name (.ofString "_law_most") (.mk 218 65 218 74)) Operator.Sub (.Name (.ofString "_law_rest") (.mk 218 77 218 86)) (.mk 218 65 218 86)) Operator.FloorDiv (.BinOp (.Constant (Const.int 4) 0 (.mk 218 92 218 93)) Operator.Mult (.Name (.ofString "_law_m") (.mk 218 96 218 102)) (.mk 218 92 218 102)) (.mk 218 64 218 103)) (.mk 218 60 218 103)) (.mk 218 46 218 104)) (.mk 218 32 218 105)) (.mk 218 20 218 105)) (.mk 218 4 218 105), Stmt.Assign [.Name (.ofString "_law_sign") (.mk 219 4 219 13)] (.BinOp (.Name (.ofString "_law_often") (.mk 219 16 219 26)) Operator.Mult (.BinOp (.Constant (Const.int 1) 0 (.mk 219 30 219 31)) Operator.Sub (.BinOp (.Constant (Const.int 2) 0 (.mk 219 34 219 35)) Operator.Mult (.BinOp (.Name (.ofString "_law_one") (.mk 219 39 219 47)) Operator.Mod (.Constant (Const.int 2) 0 (.mk 219 50 219 51)) (.mk 219 39 219 51)) (.mk 219 34 219 52)) (.mk 219 30 219 52)) (.mk 219 16 219 53)) (.mk 219 4 219 53), Stmt.Return (some (.Tuple [.BinOp (.Name (.ofString "_law_sign") (.mk 220 12 220 21)) Operator.Mult (.Name (.ofString "_law_m") (.mk 220 24 220 30)) (.mk 220 12 220 30), .BinOp (.Name (.ofString "_law_often") (.mk 220 32 220 42)) Operator.Mult (.Name (.ofString "_law_b") (.mk 220 45 220 51)) (.mk 220 32 220 51), .BinOp (.Name (.ofString "_law_sign") (.mk 220 53 220 62)) Operator.Mult (.BinOp (.BinOp (.BinOp (.Name (.ofString "_law_b") (.mk 220 67 220 73)) Operator.Mult (.Name (.ofString "_law_b") (.mk 220 76 220 82)) (.mk 220 67 220 82)) Operator.Sub (.Name (.ofString "_law_bar_here") (.mk 220 85 220 98)) (.mk 220 67 220 98)) Operator.FloorDiv (.BinOp (.Constant (Const.int 4) 0 (.mk 220 104 220 105)) Operator.Mult (.Name (.ofString "_law_m") (.mk 220 108 220 114)) (.mk 220 104 220 114)) (.mk 220 66 220 115)) (.mk 220 53 220 116)] 0 (.mk 220 11 220 117))) (.mk 220 4 220 117)]) (Scope.mk ScopeKind.function [(.ofString "_law_one", .local), (.ofString "_law_two", .local), (.ofString "_law_three", .local), (.ofString "_law_often", .local), (.ofString "_law_size", .local), (.ofString "_law_m", .local), (.ofString "_law_b", .local), (.ofString "_law_rest", .local), (.ofString "_law_most", .local), (.ofString "_law_bar_here", .local), (.ofString "_law_sign", .local), (.ofString "int", .globalImplicit)] Bool.false Bool.false []) 3 [] .none .none .none (.str (.ofString "law_formcycle_k28_so_many_steps") 697) none (.ref 458) .none 0)) #[]) ::
(nat_lit 460, Obj.mk (.type "tuple") none (Data.seq #[]) #[]) ::
(nat_lit 462, Obj.mk (.type "tuple") none (Data.seq #[.str (.ofString "_law_one") 800, .str (.ofString "_law_other") 801, .str (.ofString "_law_p") 802, .str (.ofString "_law_q") 803, .str (.ofString "_law_r") 804, .str (.ofString "_law_s") 805, .str (.ofString "_law_t") 806, .str (.ofString "_law_u") 807, .str (.ofString "_law_v") 808, .str (.ofString "_law_w") 809]) #[]) ::
(nat_lit 463, Obj.mk (.type "tuple") none (Data.seq #[]) #[]) ::
(nat_lit 465, Obj.mk (.type "code") none (Data.fields #[.str (.ofString "_law_put") 797, .str (.ofString "_law_put") 798, .str (.ofString "/claim/cut.py") 799, .int 221 0, .int 2 0, .int 0 0, .int 0 0, .int 3 0, .ref 460, .bool Bool.true, .int 181 0, .ref 461, .none, .ref 462, .ref 463, .ref 464, .int 810 0, .int 221 0, .str (.ofString "/claim/cut.py") 811]) #[]) ::
(nat_lit 466, Obj.mk (.type "function") none (Data.func (FuncData.mk (.ofString "_law_put") (.ofString "_law_put") (Arguments.mk [] [Arg.mk (.ofString "_law_one") none (.mk 221 13 221 21), Arg.mk (.ofString "_law_other") none (.mk 221 23 221 33)] none [] [] none []) (FuncBody.stmts [Stmt.Assign [.Tuple [.Name (.ofString "_law_p") (.mk 222 4 222 10), .Name (.ofString "_law_q") (.mk 222 12 222 18), .Name (.ofString "_law_r") (.mk 222 20 222 26), .Name (.ofString "_law_s") (.mk 222 28 222 34)] 0 (.mk 222 4 222 34)] (.Name (.ofString "_law_one") (.mk 222 37 222 45)) (.mk 222 4 222 45), Stmt.Assign [.Tuple [.Name (.ofString "_law_t") (.mk 223 4 223 10), .Name (.ofString "_law_u") (.mk 223 12 223 18), .Name (.ofString "_law_v") (.mk 223 20 223 26), .Name (.ofString "_law_w") (.mk 223 28 223 34)] 0 (.mk 223 4 223 34)] (.Name (.ofString "_law_other") (.mk 223 37 223 47)) (.mk 223 4 223 47), Stmt.Return (some (.Tuple [.BinOp (.BinOp (.Name (.ofString "_law_p") (.mk 224 12 224 18)) Operator.Mult (.Name (.ofString "_law_t") (.mk 224 21 224 27)) (.mk 224 12 224 27)) Operator.Add (.BinOp (.Name (.ofString "_law_q") (.mk 224 30 224 36)) Operator.Mult (.Name (.ofString "_law_v") (.mk 224 39 224 45)) (.mk 224 30 224 45)) (.mk 224 12 224 45), .BinOp (.BinOp (.Name (.ofString "_law_p") (.mk 224 47 224 53)) Operator.Mult (.Name (.ofString "_law_u") (.mk 224 56 224 62)) (.mk 224 47 224 62)) Operator.Add (.BinOp (.Name (.ofString "_law_q") (.mk 224 65 224 71)) Operator.Mult (.Name (.ofString "_law_w") (.mk 224 74 224 80)) (.mk 224 65 224 80)) (.mk 224 47 224 80), .BinOp (.BinOp (.Name (.ofString "_law_r") (.mk 224 82 224 88)) Operator.Mult (.Name (.ofString "_law_t") (.mk 224 91 224 97)) (.mk 224 82 224 97)) Operator.Add (.BinOp (.Name (.ofString "_law_s") (.mk 224 100 224 106)) Operator.Mult (.Name (.ofString "_law_v") (.mk 224 109 224 115)) (.mk 224 100 224 115)) (.mk 224 82 224 115), .BinOp (.BinOp (.Name (.ofString "_law_r") (.mk 224 117 224 123)) Operator.Mult (.Name (.ofString "_law_u") (.mk 224 126 224 132)) (.mk 224 117 224 132)) Operator.Add (.BinOp (.Name (.ofString "_law_s") (.mk 224 135 224 141)) Operator.Mult (.Name (.ofString "_law_w") (.mk 224 144 224 150)) (.mk 224 135 224 150)) (.mk 224 117 224 150)] 0 (.mk 224 11 224 151))) (.mk 224 4 224 151)]) (Scope.mk ScopeKind.function [(.ofString "_law_one", .local), (.ofString "_law_other", .local), (.ofString "_law_p", .local), (.ofString "_law_q", .local), (.ofString "_law_r", .local), (.ofString "_law_s", .local), (.ofString "_law_t", .local), (.ofString "_law_u", .local), (.ofString "_law_v", .local), (.ofString "_law_w", .local)] Bool.false Bool.false []) 3 [] .none .none .none (.str (.ofString "law_formcycle_k28_so_many_steps") 697) none (.ref 465) .none 0)) #[]) ::
(nat_lit 467, Obj.mk (.type "tuple") none (Data.seq #[]) #[]) ::
(nat_lit 469, Obj.mk (.type "tuple") none (Data.seq #[.str (.ofString "_law_form") 816, .str (.ofString "_law_turn_here") 817, .str (.ofString "_law_told_here") 818, .str (.ofString "e") 819]) #[]) ::
(nat_lit 470, Obj.mk (.type "tuple") none (Data.seq #[]) #[]) ::
(nat_lit 472, Obj.mk (.type "code") none (Data.fields #[.str (.ofString "_law_told") 813, .str (.ofString "_law_told") 814, .str (.ofString "/claim/cut.py") 815, .int 225 0, .int 2 0, .int 0 0, .int 0 0, .int 3 0, .ref 467, .bool Bool.true, .int 181 0, .ref 468, .none, .ref 469, .ref 470, .ref 471, .int 820 0, .int 225 0, .str (.ofString "/claim/cut.py") 821]) #[]) ::
(nat_lit 473, Obj.mk (.type "function") none (Data.func (FuncData.mk (.ofString "_law_told") (.ofString "_law_told") (Arguments.mk [] [Arg.mk (.ofString "_law_form") none (.mk 225 14 225 23), Arg.mk (.ofString "_law_turn_here") none (.mk 225 25 225 39)] none [] [] none []) (FuncBody.stmts [Stmt.Assign [.Name (.ofString "_law_told_here") (.mk 226 4 226 18)] (.Constant Const.none 0 (.mk 226 21 226 25)) (.mk 226 4 226 25), Stmt.Try [Stmt.Expr (.Call (.Name (.ofString "power_of") (.mk 228 8 228 16)) [.Name (.ofString "_law_form") (.mk 228 17 228 26), .Name (.ofString "_law_turn_here") (.mk 228 28 228 42)] [] (.mk 228 8 228 43)) (.mk 228 8 228 43)] [ExceptHandler.ExceptHandler (some (.Name (.ofString "FormError") (.mk 229 11 229 20))) (some (.ofString "e")) [Stmt.Assign [.Name (.ofString "_law_told_here") (.mk 230 8 230 22)] (.Name (.ofString "e") (.mk 230 25 230 26)) (.mk 230 8 230 26)] (.mk 229 4 230 26)] [] [] (.mk 227 4 230 26), Stmt.Return (some (.Name (.ofString "_law_told_here") (.mk 231 11 231 25))) (.mk 231 4 231 25)]) (Scope.mk ScopeKind.function [(.ofString "_law_form", .local), (.ofString "_law_turn_here", .local), (.ofString "_law_told_here", .local), (.ofString "e", .local), (.ofString "power_of", .globalImplicit), (.ofString "FormError", .globalImplicit)] Bool.false Bool.false []) 3 [] .none .none .none (.str (.ofString "law_formcycle_k28_so_many_steps") 697) none (.ref 472) .none 0)) #[]) ::
(nat_lit 474, Obj.mk (.type "tuple") none (Data.seq #[]) #[]) ::
(nat_lit 476, Obj.mk (.type "tuple") none (Data.seq #[.str (.ofString "_law_form") 826, .str (.ofString "_law_turn_here") 827, .str (.ofString "_law_own") 828, .str (.ofString "_law_told_here") 829]) #[]) ::
(nat_lit 477, Obj.mk (.type "tuple") none (Data.seq #[]) #[]) ::
(nat_lit 479, Obj.mk (.type "code") none (Data.fields #[.str (.ofString "_law_refused") 823, .str (.ofString "_law_refused") 824, .str (.ofString "/claim/cut.py") 825, .int 232 0, .int 3 0, .int 0 0, .int 0 0, .int 3 0, .ref 474, .bool Bool.true, .int 181 0, .ref 475, .none, .ref 476, .ref 477, .ref 478, .int 830 0, .int 232 0, .str (.ofString "/claim/cut.py") 831]) #[]) ::
(nat_lit 480, Obj.mk (.type "function") none (Data.func (FuncData.mk (.ofString "_law_refused") (.ofString "_law_refused") (Arguments.mk [] [Arg.mk (.ofString "_law_form") none (.mk 232 17 232 26), Arg.mk (.ofString "_law_turn_here") none (.mk 232 28 232 42), Arg.mk (.ofString "_law_own") none (.mk 232 44 232 52)] none [] [] none []) (FuncBody.stmts [Stmt.Assign [.Name (.ofString "_law_told_here") (.mk 233 4 233 18)] (.Call (.Name (.ofString "_law_told") (.mk 233 21 233 30)) [.Name (.ofString "_law_form") (.mk 233 31 233 40), .Name (.ofString "_law_turn_here") (.mk 233 42 233 56)] [] (.mk 233 21 233 57)) (.mk 233 4 233 57), Stmt.If (.BoolOp BoolOp.Or [.BoolOp BoolOp.And [.Name (.ofString "_law_own") (.mk 234 7 234 15), .UnaryOp UnaryOp.Not (.Call (.Name (.ofString "isinstance") (.mk 234 25 234 35)) [.Name (.ofString "_law_told_here") (.mk 234 36 234 50), .Name (.ofString "NotOwn") (.mk 234 52 234 58)] [] (.mk 234 25 234 59)) (.mk 234 21 234 59)] (.mk 234 7 234 60), .BoolOp BoolOp.And [.UnaryOp UnaryOp.Not (.Name (.ofString "_law_own") (.mk 234 69 234 77)) (.mk 234 65 234 77), .UnaryOp UnaryOp.Not (.Call (.Name (.ofString "isinstance") (.mk 234 87 234 97)) [.Name (.ofString "_law_told_here") (.mk 234 98 234 112), .Name (.ofString "NoTurn") (.mk 234 114 234 120)] [] (.mk 234 87 234 121)) (.mk 234 83 234 121)] (.mk 234 65 234 122)] (.mk 234 7 234 123)) [Stmt.Return (some (.Constant (Const.bool Bool.false) 0 (.mk 235 15 235 20))) (.mk 235 8 235 20)] [] (.mk 234 4 235 20), Stmt.If (.Call (.Name (.ofString "isinstance") (.mk 236 7 236 17)) [.Name (.ofString "_law_told_here") (.mk 236 18 236 32), .Tuple [.Name (.ofString "Apart") (.mk 236 35 236 40), .Name (.ofString "NoAnswer") (.mk 236 42 236 50), .Name (.ofString "NoMeasure") (.mk 236 52 236 61), .Name (.ofString "NoRoot") (.mk 236 63 236 69), .Name (.ofString "NoShape") (.mk 236 71 236 78), .Name (.ofString "NotLevel") (.mk 236 80 236 88), .Name (.ofString "NotPlain") (.mk 236 90 236 98), .Name (.ofString "Nought") (.mk 236 100 236 106), .Name (.ofString "TooGreat") (.mk 236 108 236 116)] 0 (.mk 236 34 236 117)] [] (.mk 236 7 236 118)) [Stmt.Return (some (.Constant (Const.bool Bool.false) 0 (.mk 237 15 237 20))) (.mk 237 8 237 20)] [] (.mk 236 4 237 20), Stmt.If (.BoolOp BoolOp.Or [.BoolOp BoolOp.And [.Call (.Name (.ofString "isinstance") (.mk 238 7 238 17)) [.Name (.ofString "_law_told_here") (.mk 238 18 238 32), .Name (.ofString "NotOwn") (.mk 238 34 238 40)] [] (.mk 238 7 238 41), .Call (.Name (.ofString "isinstance") (.mk 238 46 238 56)) [.Name (.ofString "_law_told_here") (.mk 238 57 238 71), .Name (.ofString "NoTurn") (.mk 238 73 238 79)] [] (.mk 238 46 238 80)] (.mk 238 7 238 80), .UnaryOp UnaryOp.Not (.Call (.Name (.ofString "isinstance") (.mk 238 88 238 98)) [.Name (.ofString "_law_told_here") (.mk 238 99 238 113), .Name (.ofString "ValueError") (.mk 238 115 238 125)] [] (.mk 238 88 238 126)) (.mk 238 84 238 126)] (.mk 238 7 238 126)) [Stmt.Return (some (.Constant (Const.bool Bool.false) 0 (.mk 239 15 239 20))) (.mk 239 8 239 20)] [] (.mk 238 4 239 20), Stmt.Return (some (.Compare (.Attribute (.Name (.ofString "_law_told_here") (.mk 240 11 240 25)) (.ofString "turn") (.mk 240 11 240 30)) [CmpOp.Eq] [.Name (.ofString "_law_turn_here") (.mk 240 34 240 48)] (.mk 240 11 240 48))) (.mk 240 4 240 48)]) (Scope.mk ScopeKind.function [(.ofString "_law_form", .local), (.ofString "_law_turn_here", .local), (.ofString "_law_own", .local), (.ofString "_law_told_here", .local), (.ofString "_law_told", .globalImplicit), (.ofString "isinstance", .globalImplicit), (.ofString "NotOwn", .globalImplicit), (.ofString "NoTurn", .globalImplicit), (.ofString "Apart", .globalImplicit), (.ofString "NoAnswer", .globalImplicit), (.ofString "NoMeasure", .globalImplicit), (.ofString "NoRoot", .globalImplicit), (.ofString "NoShape", .globalImplicit), (.ofString "NotLevel", .globalImplicit), (.ofString "NotPlain", .globalImplicit), (.ofString "Nought", .globalImplicit), (.ofString "TooGreat", .globalImplicit), (.ofString "ValueError", .globalImplicit)] Bool.false Bool.false []) 3 [] .none .none .none (.str (.ofString "law_formcycle_k28_so_many_steps") 697) none (.ref 479) .none 0)) #[]) ::
(nat_lit 481, Obj.mk (.type "tuple") none (Data.seq #[]) #[]) ::
(nat_lit 483, Obj.mk (.type "tuple") none (Data.seq #[.str (.ofString "_law_script") 836, .str (.ofString "_law_form") 837, .str (.ofString "_law_first") 838, .str (.ofString "_law_sign") 839, .str (.ofString "_law_step") 840, .str (.ofString "_law_count") 841, .str (.ofString "_law_turn_here") 842, .str (.ofString "_law_k") 843, .str (.ofString "_law_found") 844, .str (.ofString "_law_far") 845, .str (.ofString "_law_four") 846]) #[]) ::
(nat_lit 484, Obj.mk (.type "tuple") none (Data.seq #[]) #[]) ::
(nat_lit 486, Obj.mk (.type "code") none (Data.fields #[.str (.ofString "law") 833, .str (.ofString "law") 834, .str (.ofString "/claim/cut.py") 835, .int 241 0, .int 1 0, .int 0 0, .int 0 0, .int 3 0, .ref 481, .bool Bool.true, .int 181 0, .ref 482, .none, .ref 483, .ref 484, .ref 485, .int 847 0, .int 241 0, .str (.ofString "/claim/cut.py") 848]) #[]) ::
(nat_lit 487, Obj.mk (.type "function") none (Data.func (FuncData.mk (.ofString "law") (.ofString "law") (Arguments.mk [] [Arg.mk (.ofString "_law_script") none (.mk 241 8 241 19)] none [] [] none []) (FuncBody.stmts [Stmt.Assign [.Name (.ofString "_law_form") (.mk 242 4 242 13)] (.Call (.Name (.ofString "_law_saddle") (.mk 242 16 242 27)) [.Call (.Name (.ofString "_law_cell") (.mk 242 28 242 37)) [.Name (.ofString "_law_script") (.mk 242 38 242 49), .Constant (Const.int 0) 0 (.mk 242 51 242 52)] [] (.mk 242 28 242 53), .Call (.Name (.ofString "_law_cell") (.mk 242 55 242 64)) [.Name (.ofString "_law_script") (.mk 242 65 242 76), .Constant (Const.int 1) 0 (.mk 242 78 242 79)] [] (.mk 242 55 242 80), .Call (.Name (.ofString "_law_cell") (.mk 242 82 242 91)) [.Name (.ofString "_law_script") (.mk 242 92 242 103), .Constant (Const.int 2) 0 (.mk 242 105 242 106)] [] (.mk 242 82 242 107)] [] (.mk 242 16 242 108)) (.mk 242 4 242 108), Stmt.If (.Call (.Name (.ofString "_law_flat") (.mk 243 7 243 16)) [.Name (.ofString "_law_form") (.mk 243 17 243 26)] [] (.mk 243 7 243 27)) [Stmt.Return (some (.Constant (Const.bool Bool.true) 0 (.mk 244 15 244 19))) (.mk 244 8 244 19)] [] (.mk 243 4 244 19), Stmt.Assign [.Name (.ofString "_law_first") (.mk 245 4 245 14)] (.BinOp (.BinOp (.Call (.Name (.ofString "_law_cell") (.mk 245 17 245 26)) [.Name (.ofString "_law_script") (.mk 245 27 245 38), .Constant (Const.int 3) 0 (.mk 245 40 245 41)] [] (.mk 245 17 245 42)) Operator.Mod (.BinOp (.BinOp (.Constant (Const.int 2) 0 (.mk 245 46 245 47)) Operator.Mult (.BinOp (.Constant (Const.int 10) 0 (.mk 245 50 245 52)) Operator.Pow (.Constant (Const.int 30) 0 (.mk 245 56 245 58)) (.mk 245 50 245 58)) (.mk 245 46 245 58)) Operator.Add (.Constant (Const.int 1) 0 (.mk 245 61 245 62)) (.mk 245 46 245 62)) (.mk 245 17 245 63)) Operator.Sub (.BinOp (.Constant (Const.int 10) 0 (.mk 245 66 245 68)) Operator.Pow (.Constant (Const.int 30) 0 (.mk 245 72 245 74)) (.mk 245 66 245 74)) (.mk 245 17 245 74)) (.mk 245 4 245 74), Stmt.Assign [.Name (.ofString "_law_form") (.mk 246 4 246 13)] (.Call (.Name (.ofString "_law_moved") (.mk 246 16 246 26)) [.Name (.ofString "_law_form") (.mk 246 27 246 36), .Call (.Name (.ofString "_law_turn") (.mk 246 38 246 47)) [.Name (.ofString "_law_first") (.mk 246 48 246 58), .Subscript (.Name (.ofString "_law_script") (.mk 246 60 246 71)) (.Slice (some (.Constant (Const.int 6) 0 (.mk 246 72 246 73))) (some (.Constant (Const.int 64) 0 (.mk 246 74 246 76))) none (.mk 246 72 246 76)) (.mk 246 60 246 77)] [] (.mk 246 38 246 78)] [] (.mk 246 16 246 79)) (.mk 246 4 246 79), Stmt.Assign [.Name (.ofString "_law_sign") (.mk 247 4 247 13)] (.BinOp (.Constant (Const.int 1) 0 (.mk 247 16 247 17)) Operator.Sub (.BinOp (.Constant (Const.int 2) 0 (.mk 247 20 247 21)) Operator.Mult (.BinOp (.Call (.Name (.ofString "_law_cell") (.mk 247 25 247 34)) [.Name (.ofString "_law_script") (.mk 247 35 247 46), .Constant (Const.int 5) 0 (.mk 247 48 247 49)] [] (.mk 247 25 247 50)) Operator.Mod (.Constant (Const.int 2) 0 (.mk 247 53 247 54)) (.mk 247 25 247 54)) (.mk 247 20 247 55)) (.mk 247 16 247 55)) (.mk 247 4 247 55), Stmt.Assign [.Name (.ofString "_law_step") (.mk 248 4 248 13)] (.Call (.Name (.ofString "step_of") (.mk 248 16 248 23)) [.Name (.ofString "_law_form") (.mk 248 24 248 33)] [] (.mk 248 16 248 34)) (.mk 248 4 248 34), Stmt.If (.UnaryOp UnaryOp.Not (.Call (.Name (.ofString "_law_wholes") (.mk 249 11 249 22)) [.Name (.ofString "_law_step") (.mk 249 23 249 32), .Constant (Const.int 4) 0 (.mk 249 34 249 35)] [] (.mk 249 11 249 36)) (.mk 249 7 249 36)) [Stmt.Return (some (.Constant (Const.bool Bool.false) 0 (.mk 250 15 250 20))) (.mk 250 8 250 20)] [] (.mk 249 4 250 20), Stmt.Assign [.Name (.ofString "_law_count") (.mk 251 4 251 14)] (.BinOp (.BinOp (.Call (.Name (.ofString "_law_cell") (.mk 251 17 251 26)) [.Name (.ofString "_law_script") (.mk 251 27 251 38), .Constant (Const.int 4) 0 (.mk 251 40 251 41)] [] (.mk 251 17 251 42)) Operator.Mod (.Constant (Const.int 19) 0 (.mk 251 45 251 47)) (.mk 251 17 251 47)) Operator.Sub (.Constant (Const.int 9) 0 (.mk 251 50 251 51)) (.mk 251 17 251 51)) (.mk 251 4 251 51), Stmt.If (.Compare (.BinOp (.Subscript (.Name (.ofString "_law_step") (.mk 252 7 252 16)) (.Constant (Const.int 0) 0 (.mk 252 17 252 18)) (.mk 252 7 252 19)) Operator.Add (.Subscript (.Name (.ofString "_law_step") (.mk 252 22 252 31)) (.Constant (Const.int 3) 0 (.mk 252 32 252 33)) (.mk 252 22 252 34)) (.mk 252 7 252 34)) [CmpOp.Lt] [.BinOp (.Constant (Const.int 10) 0 (.mk 252 37 252 39)) Operator.Pow (.Constant (Const.int 20) 0 (.mk 252 43 252 45)) (.mk 252 37 252 45)] (.mk 252 7 252 45)) [Stmt.Assign [.Name (.ofString "_law_count") (.mk 253 8 253 18)] (.BinOp (.BinOp (.Call (.Name (.ofString "_law_cell") (.mk 253 21 253 30)) [.Name (.ofString "_law_script") (.mk 253 31 253 42), .Constant (Const.int 4) 0 (.mk 253 44 253 45)] [] (.mk 253 21 253 46)) Operator.Mod (.Constant (Const.int 121) 0 (.mk 253 49 253 52)) (.mk 253 21 253 52)) Operator.Sub (.Constant (Const.int 60) 0 (.mk 253 55 253 57)) (.mk 253 21 253 57)) (.mk 253 8 253 57)] [] (.mk 252 4 253 57), Stmt.If (.Compare (.Name (.ofString "_law_count") (.mk 254 7 254 17)) [CmpOp.Lt] [.Constant (Const.int 0) 0 (.mk 254 20 254 21)] (.mk 254 7 254 21)) [Stmt.Assign [.Name (.ofString "_law_step") (.mk 255 8 255 17)] (.Tuple [.Subscript (.Name (.ofString "_law_step") (.mk 255 21 255 30)) (.Constant (Const.int 3) 0 (.mk 255 31 255 32)) (.mk 255 21 255 33), .BinOp (.Constant (Const.int 0) 0 (.mk 255 35 255 36)) Operator.Sub (.Subscript (.Name (.ofString "_law_step") (.mk 255 39 255 48)) (.Constant (Const.int 1) 0 (.mk 255 49 255 50)) (.mk 255 39 255 51)) (.mk 255 35 255 51), .BinOp (.Constant (Const.int 0) 0 (.mk 255 53 255 54)) Operator.Sub (.Subscript (.Name (.ofString "_law_step") (.mk 255 57 255 66)) (.Constant (Const.int 2) 0 (.mk 255 67 255 68)) (.mk 255 57 255 69)) (.mk 255 53 255 69), .Subscript (.Name (.ofString "_law_step") (.mk 255 71 255 80)) (.Constant (Const.int 0) 0 (.mk 255 81 255 82)) (.mk 255 71 255 83)] 0 (.mk 255 20 255 84)) (.mk 255 8 255 84)] [] (.mk 254 4 255 84), Stmt.Assign [.Name (.ofString "_law_turn_here") (.mk 256 4 256 18)] (.Tuple [.Name (.ofString "_law_sign") (.mk 256 22 256 31), .Constant (Const.int 0) 0 (.mk 256 33 256 34), .Constant (Const.int 0) 0 (.mk 256 36 256 37), .Name (.ofString "_law_sign") (.mk 256 39 256 48)] 0 (.mk 256 21 256 49)) (.mk 256 4 256 49), Stmt.For (.Name (.ofString "_law_k") (.mk 257 8 257 14)) (.Call (.Name (.ofString "range") (.mk 257 18 257 23)) [.Call (.Name (.ofString "abs") (.mk 257 24 257 27)) [.Name (.ofString "_law_count") (.mk 257 28 257 38)] [] (.mk 257 24 257 39)] [] (.mk 257 18 257 40)) [Stmt.Assign [.Name (.ofString "_law_turn_here") (.mk 258 8 258 22)] (.Call (.Name (.ofString "_law_put") (.mk 258 25 258 33)) [.Name (.ofString "_law_turn_here") (.mk 258 34 258 48), .Name (.ofString "_law_step") (.mk 258 50 258 59)] [] (.mk 258 25 258 60)) (.mk 258 8 258 60)] [] (.mk 257 4 258 60), Stmt.Assign [.Name (.ofString "_law_found") (.mk 259 4 259 14)] (.Call (.Name (.ofString "power_of") (.mk 259 17 259 25)) [.Name (.ofString "_law_form") (.mk 259 26 259 35), .Name (.ofString "_law_turn_here") (.mk 259 37 259 51)] [] (.mk 259 17 259 52)) (.mk 259 4 259 52), Stmt.If (.BoolOp BoolOp.Or [.UnaryOp UnaryOp.Not (.Call (.Name (.ofString "_law_wholes") (.mk 260 11 260 22)) [.Name (.ofString "_law_found") (.mk 260 23 260 33), .Constant (Const.int 2) 0 (.mk 260 35 260 36)] [] (.mk 260 11 260 37)) (.mk 260 7 260 37), .Compare (.Name (.ofString "_law_found") (.mk 260 41 260 51)) [CmpOp.NotEq] [.Tuple [.Name (.ofString "_law_sign") (.mk 260 56 260 65), .Name (.ofString "_law_count") (.mk 260 67 260 77)] 0 (.mk 260 55 260 78)] (.mk 260 41 260 78)] (.mk 260 7 260 78)) [Stmt.Return (some (.Constant (Const.bool Bool.false) 0 (.mk 261 15 261 20))) (.mk 261 8 261 20)] [] (.mk 260 4 261 20), Stmt.Assign [.Name (.ofString "_law_far") (.mk 262 4 262 12)] (.Call (.Name (.ofString "_law_put") (.mk 262 15 262 23)) [.Name (.ofString "_law_turn_here") (.mk 262 24 262 38), .Tuple [.Constant (Const.int 1) 0 (.mk 262 41 262 42), .BinOp (.Constant (Const.int 1) 0 (.mk 262 44 262 45)) Operator.Add (.BinOp (.BinOp (.Call (.Name (.ofString "_law_cell") (.mk 262 48 262 57)) [.Name (.ofString "_law_script") (.mk 262 58 262 69), .Constant (Const.int 5) 0 (.mk 262 71 262 72)] [] (.mk 262 48 262 73)) Operator.FloorDiv (.Constant (Const.int 2) 0 (.mk 262 77 262 78)) (.mk 262 48 262 78)) Operator.Mod (.BinOp (.Constant (Const.int 10) 0 (.mk 262 81 262 83)) Operator.Pow (.Constant (Const.int 20) 0 (.mk 262 87 262 89)) (.mk 262 81 262 89)) (.mk 262 48 262 89)) (.mk 262 44 262 89), .Constant (Const.int 0) 0 (.mk 262 91 262 92), .Constant (Const.int 1) 0 (.mk 262 94 262 95)] 0 (.mk 262 40 262 96)] [] (.mk 262 15 262 97)) (.mk 262 4 262 97), Stmt.If (.UnaryOp UnaryOp.Not (.Call (.Name (.ofString "_law_refused") (.mk 263 11 263 23)) [.Name (.ofString "_law_form") (.mk 263 24 263 33), .Name (.ofString "_law_far") (.mk 263 35 263 43), .Constant (Const.bool Bool.true) 0 (.mk 263 45 263 49)] [] (.mk 263 11 263 50)) (.mk 263 7 263 50)) [Stmt.Return (some (.Constant (Const.bool Bool.false) 0 (.mk 264 15 264 20))) (.mk 264 8 264 20)] [] (.mk 263 4 264 20), Stmt.Assign [.Name (.ofString "_law_four") (.mk 265 4 265 13)] (.Tuple [.Subscript (.Name (.ofString "_law_turn_here") (.mk 265 17 265 31)) (.Constant (Const.int 0) 0 (.mk 265 32 265 33)) (.mk 265 17 265 34), .Subscript (.Name (.ofString "_law_turn_here") (.mk 265 36 265 50)) (.Constant (Const.int 1) 0 (.mk 265 51 265 52)) (.mk 265 36 265 53), .BinOp (.Subscript (.Name (.ofString "_law_turn_here") (.mk 265 55 265 69)) (.Constant (Const.int 2) 0 (.mk 265 70 265 71)) (.mk 265 55 265 72)) Operator.Add (.Subscript (.Name (.ofString "_law_turn_here") (.mk 265 75 265 89)) (.Constant (Const.int 0) 0 (.mk 265 90 265 91)) (.mk 265 75 265 92)) (.mk 265 55 265 92), .BinOp (.BinOp (.Subscript (.Name (.ofString "_law_turn_here") (.mk 265 94 265 108)) (.Constant (Const.int 3) 0 (.mk 265 109 265 110)) (.mk 265 94 265 111)) Operator.Add (.Subscript (.Name (.ofString "_law_turn_here") (.mk 265 114 265 128)) (.Constant (Const.int 1) 0 (.mk 265 129 265 130)) (.mk 265 114 265 131)) (.mk 265 94 265 131)) Operator.Add (.Subscript (.Name (.ofString "_law_turn_here") (.mk 265 134 265 148)) (.Constant (Const.int 0) 0 (.mk 265 149 265 150)) (.mk 265 134 265 151)) (.mk 265 94 265 151)] 0 (.mk 265 16 265 152)) (.mk 265 4 265 152), Stmt.If (.BoolOp BoolOp.And [.Compare (.Subscript (.Name (.ofString "_law_four") (.mk 266 7 266 16)) (.Constant (Const.int 0) 0 (.mk 266 17 266 18)) (.mk 266 7 266 19)) [CmpOp.NotEq] [.Constant (Const.int 0) 0 (.mk 266 23 266 24)] (.mk 266 7 266 24), .UnaryOp UnaryOp.Not (.Call (.Name (.ofString "_law_refused") (.mk 266 34 266 46)) [.Name (.ofString "_law_form") (.mk 266 47 266 56), .Name (.ofString "_law_four") (.mk 266 58 266 67), .Constant (Const.bool Bool.false) 0 (.mk 266 69 266 74)] [] (.mk 266 34 266 75)) (.mk 266 30 266 75)] (.mk 266 7 266 76)) [Stmt.Return (some (.Constant (Const.bool Bool.false) 0 (.mk 267 15 267 20))) (.mk 267 8 267 20)] [] (.mk 266 4 267 20), Stmt.Return (some (.Compare (.Call (.Name (.ofString "power_of") (.mk 268 11 268 19)) [.Name (.ofString "_law_form") (.mk 268 20 268 29), .Name (.ofString "_law_turn_here") (.mk 268 31 268 45)] [] (.mk 268 11 268 46)) [CmpOp.Eq] [.Name (.ofString "_law_found") (.mk 268 50 268 60)] (.mk 268 11 268 60))) (.mk 268 4 268 60)]) (Scope.mk ScopeKind.function [(.ofString "_law_script", .local), (.ofString "_law_form", .local), (.ofString "_law_first", .local), (.ofString "_law_sign", .local), (.ofString "_law_step", .local), (.ofString "_law_count", .local), (.ofString "_law_turn_here", .local), (.ofString "_law_k", .local), (.ofString "_law_found", .local), (.ofString "_law_far", .local), (.ofString "_law_four", .local), (.ofString "_law_saddle", .globalImplicit), (.ofString "_law_cell", .globalImplicit), (.ofString "_law_flat", .globalImplicit), (.ofString "_law_moved", .globalImplicit), (.ofString "_law_turn", .globalImplicit), (.ofString "step_of", .globalImplicit), (.ofString "_law_wholes", .globalImplicit), (.ofString "range", .globalImplicit), (.ofString "abs", .globalImplicit), (.ofString "_law_put", .globalImplicit), (.ofString "power_of", .globalImplicit), (.ofString "_law_refused", .globalImplicit)] Bool.false Bool.false []) 3 [] .none .none .none (.str (.ofString "law_formcycle_k28_so_many_steps") 697) none (.ref 486) .none 0)) #[]) :: []
end
def tp (i : Nat) : Stmt := PySem.Challenge.pw_formcycle_k28_so_many_steps.main.body.getD i (.Pass ⟨0, 0, 0, 0⟩)
noncomputable def vw : Program := { PySem.Challenge.pw_formcycle_k28_so_many_steps with main := { PySem.Challenge.pw_formcycle_k28_so_many_steps.main with body := [tp 1, tp 2, tp 3, tp 4, tp 5, tp 6, tp 7, tp 8, tp 9, tp 10, tp 11, tp 12, tp 14, tp 15, tp 16, tp 17, tp 19, tp 20, tp 21, tp 22, tp 23, tp 25, tp 26, tp 27, tp 28, tp 29, tp 30, tp 32, tp 33, tp 34, tp 35, tp 36, tp 37, tp 38, tp 39, tp 40, tp 41, tp 42, tp 44, tp 45, tp 46, tp 47, tp 48, tp 49, tp 50, tp 51, tp 52, tp 53, tp 54, tp 55, tp 56, tp 57] } }
def asK : List Nat := [2, 3, 15, 22, 23, 24, 25, 28, 35, 37, 38, 40, 41, 42, 43, 44, 47, 54, 56, 57, 59, 60, 61, 62, 63, 66, 73, 75, 76, 78, 79, 80, 81, 82, 85, 92, 94, 95, 97, 98, 99, 100, 101, 104, 111, 113, 114, 116, 117, 118, 119, 120, 123, 130, 132, 133, 135, 136, 137, 138, 139, 142, 149, 150, 151, 154, 161, 163, 164, 166, 167, 168, 169, 170, 173, 180, 182, 183, 185, 186, 187, 188, 189, 192, 199, 200, 201, 204, 211, 213, 214, 216, 217, 218, 219, 220, 223, 225, 226, 228, 229, 230, 232, 233, 235, 236, 237, 239, 240, 242, 243, 244, 246, 247, 249, 250, 251, 252, 254, 255, 257, 258, 259, 261, 262, 264, 265, 266, 268, 269, 271, 272, 273, 275, 276, 278, 279, 280, 282, 283, 285, 286, 287, 289, 290, 292, 293, 294, 296, 297, 299, 300, 301, 303, 304, 306, 307, 308, 310, 311, 313, 314, 315, 317, 318, 320, 321, 322, 324, 325, 327, 328, 329, 331, 332, 334, 335, 336, 338, 339, 341, 342, 343, 345, 346, 348, 349, 350, 352, 353, 355, 356, 357, 359, 360, 362, 363, 364, 366, 367, 369, 370, 371, 373, 374, 376, 377, 378, 380, 381, 383, 384, 385, 387, 388, 390, 391, 392, 394, 395, 397, 398, 399, 401, 402, 404, 405, 406, 409, 410, 411, 413, 414, 416, 417, 418, 420, 421, 423, 424, 425, 427, 428, 430, 431, 432, 434, 435, 437, 438, 439, 441, 442, 444, 445, 446, 448, 449, 451, 452, 453, 455, 456, 458, 459, 460, 462, 463, 465, 466, 467, 469, 470, 472, 473, 474, 476, 477, 479, 480, 481, 483, 484, 486, 487]
theorem hA : ∀ (w : World) (os : OsState), (TR PySem.Challenge.rw_formcycle_k28_so_many_steps.row.prog w os 8320).map (fun r => stays PySem.Challenge.rw_formcycle_k28_so_many_steps.row.prog (bootS w os) r.abs) = some true := fun w os => by kernel_rfl
theorem hB : ∀ (w : World) (os : OsState), (TR PySem.Challenge.rw_formcycle_k28_so_many_steps.row.prog w os 8320).map (fun r => openSeen vw [] (importedModules PySem.Challenge.rw_formcycle_k28_so_many_steps.row.prog.main.body) (fun s => xlAt vw [] s && recOk (RowW.records PySem.Challenge.rw_formcycle_k28_so_many_steps.row.toRowW) s) true r.abs) = some (openGood vw []) := fun w os => by kernel_rfl
theorem hC : ∀ (w : World) (os : OsState), (TR PySem.Challenge.rw_formcycle_k28_so_many_steps.row.prog w os 8320).map (fun r => Hook.obs (kHook My.KK My.asK (fun _ => by kernel_rfl)) r.abs) = some (Hook.val (kHook My.KK My.asK (fun _ => by kernel_rfl)) w) := fun w os => by kernel_rfl
theorem hl : LeftO PySem.Challenge.rw_formcycle_k28_so_many_steps.row.prog vw [] (fun s => xlAt vw [] s && recOk (RowW.records PySem.Challenge.rw_formcycle_k28_so_many_steps.row.toRowW) s) (Hook.obs (kHook My.KK My.asK (fun _ => by kernel_rfl))) (Hook.val (kHook My.KK My.asK (fun _ => by kernel_rfl))) 8320 := fun w => ends_of3 (by kernel_rfl) (by decide) (fun _ => by kernel_rfl) (hA w) (hB w) (hC w) (fun os => by kernel_rfl)
end My
namespace L2
open PySem PySem.Spec PyProof.Rows

abbrev Key := Sum Int Str
def keyIs : Key → Value → Bool
  | .inl k, v => Value.isInt k v
  | .inr x, v => Value.isStrOf x v
def keyH (w : World) : Key → Int
  | .inl k => hashInt k
  | .inr x => hashStr w x
theorem keyIs_shape : ∀ {k : Key} {v : Value}, keyIs k v = true → (∃ i t, k = Sum.inl i ∧ v = Value.int i t) ∨ (∃ x t, k = Sum.inr x ∧ v = Value.str x t)
  | .inl i, v, h => by
    obtain ⟨t, e⟩ := Value.isInt_shape (k := i) (v := v) h
    exact .inl ⟨i, t, rfl, e⟩
  | .inr x, v, h => by
    obtain ⟨t, e⟩ := Value.isStrOf_shape (x := x) (v := v) h
    exact .inr ⟨x, t, rfl, e⟩
theorem key_ll (a b : Int) : decide ((Sum.inl a : Key) = Sum.inl b) = (a == b) := by
  by_cases e : a = b
  · subst e; simp
  · have h : ¬ (Sum.inl a : Key) = Sum.inl b := fun q => e (Sum.inl.inj q)
    rw [decide_eq_false h]
    exact (beq_eq_false_iff_ne.mpr e).symm
theorem key_rr (a b : Str) : decide ((Sum.inr a : Key) = Sum.inr b) = decide (a = b) := by
  by_cases e : a = b
  · subst e; simp
  · have h : ¬ (Sum.inr a : Key) = Sum.inr b := fun q => e (Sum.inr.inj q)
    rw [decide_eq_false h, decide_eq_false e]
theorem key_lr (a : Int) (b : Str) : decide ((Sum.inl a : Key) = Sum.inr b) = false := decide_eq_false (fun q => nomatch q)
theorem key_rl (a : Str) (b : Int) : decide ((Sum.inr a : Key) = Sum.inl b) = false := decide_eq_false (fun q => nomatch q)

def mixKind (prog : Program) (w : World) : PySem.KeyKind prog w Key where
  is := keyIs
  hash := keyH w
  inj := fun v a b ha hb => by
    rcases keyIs_shape ha with ⟨i, t, rfl, rfl⟩ | ⟨x, t, rfl, rfl⟩
    · rcases keyIs_shape hb with ⟨j, u, rfl, e⟩ | ⟨y, u, rfl, e⟩
      · injection e with e1 _; rw [e1]
      · exact nomatch e
    · rcases keyIs_shape hb with ⟨j, u, rfl, e⟩ | ⟨y, u, rfl, e⟩
      · exact nomatch e
      · injection e with e1 _; rw [e1]
  byValue := fun k v h => by
    rcases keyIs_shape h with ⟨i, t, rfl, rfl⟩ | ⟨x, t, rfl, rfl⟩ <;> rfl
  pyHash := fun hv h => by
    rcases keyIs_shape hv with ⟨i, t, rfl, rfl⟩ | ⟨x, t, rfl, rfl⟩
    · exact wpAny_pyHash_int h
    · exact wpAny_pyHash_str h
  eqBool := fun hu hv h => by
    rcases keyIs_shape hu with ⟨i, t, rfl, rfl⟩ | ⟨x, t, rfl, rfl⟩
    · rcases keyIs_shape hv with ⟨j, u, rfl, rfl⟩ | ⟨y, u, rfl, rfl⟩
      · rw [key_ll] at h; exact wpAny_eqBool_int h
      · rw [key_lr] at h; exact SeqAt.EqAt.int_str i t y u _ _ _ _ h
    · rcases keyIs_shape hv with ⟨j, u, rfl, rfl⟩ | ⟨y, u, rfl, rfl⟩
      · rw [key_rl] at h; exact SeqAt.EqAt.str_int x t j u _ _ _ _ h
      · rw [key_rr] at h; exact wpAny_eqBool_str h
  «strs» := fun k x t v h => by
    rcases keyIs_shape h with ⟨i, u, rfl, e⟩ | ⟨y, u, rfl, e⟩
    · exact nomatch e
    · injection e with e1 _
      subst e1
      cases v <;> rfl

end L2

namespace L2
open PySem PySem.Spec PyProof.Rows

inductive V where
  | non | bl (b : Bool) | int (i : Int) | str (x : Str) | byt (b : Array UInt8) | flt (b : UInt64) | ref (a : Addr) | ty (n : String)
  deriving DecidableEq

def RelV : V → Value → Prop
  | .non, u => u = Value.none
  | .bl b, u => u = Value.bool b
  | .int i, u => ∃ t, u = Value.int i t
  | .str x, u => ∃ t, u = Value.str x t
  | .byt b, u => ∃ t, u = Value.bytes b t
  | .flt b, u => ∃ t, u = Value.float b t
  | .ref a, u => u = Value.ref a
  | .ty n, u => u = Value.type n

abbrev Vals : List V → List Value → Prop := Paired RelV
theorem Vals.length {xs : List V} {us : List Value} (r : Vals xs us) : xs.length = us.length := Paired.length r
theorem Vals.get : ∀ {xs : List V} {us : List Value} {i : Nat} {x : V}, Vals xs us → xs[i]? = some x → ∃ u, us[i]? = some u ∧ RelV x u
  | _, _, _, _, .nil, e => by simp at e
  | _, _, 0, _, .cons r _, e => by simp at e; subst e; exact ⟨_, rfl, r⟩
  | _, _, i + 1, x, .cons _ t, e => by
    obtain ⟨u, h1, h2⟩ := Vals.get (i := i) (x := x) t (by simpa using e)
    exact ⟨u, by simpa using h1, h2⟩
theorem Vals.append : ∀ {xs ys : List V} {us ws : List Value}, Vals xs us → Vals ys ws → Vals (xs ++ ys) (us ++ ws)
  | _, _, _, _, .nil, s => s
  | _, _, _, _, .cons r t, s => .cons r (Vals.append t s)
theorem Vals.take : ∀ {xs : List V} {us : List Value} (n : Nat), Vals xs us → Vals (xs.take n) (us.take n)
  | _, _, 0, _ => .nil
  | _, _, _ + 1, .nil => .nil
  | _, _, n + 1, .cons r t => .cons r (Vals.take n t)
theorem Vals.drop : ∀ {xs : List V} {us : List Value} (n : Nat), Vals xs us → Vals (xs.drop n) (us.drop n)
  | _, _, 0, r => r
  | _, _, _ + 1, .nil => .nil
  | _, _, n + 1, .cons _ t => Vals.drop n t
def RelO : Option V → Option Value → Prop
  | some v, some u => RelV v u
  | none, none => True
  | _, _ => False
def KV {κ : Type} : List (κ × V) → List (κ × Value) → Prop := Paired fun (p : κ × V) (q : κ × Value) => p.1 = q.1 ∧ RelV p.2 q.2

def kV : Key → V
  | .inl i => .int i
  | .inr x => .str x

inductive HO where
  /-- a list -/
  | lst (xs : List V)
  /-- a tuple (never changes) -/
  | tup (xs : List V)
  /-- a dict whose keys are ints and texts; one whose keys are tuples of ints and texts (the empty one is both) -/
  | dK (kvs : List (Key × V)) | dT (kvs : List (List Key × V))
  /-- a set of ints: its members, its size -/
  | set (S : Int → Bool) (n : Nat)
  /-- an instance of the class at C, its dict at dx, its attributes -/
  | ins (C dx : Addr) (fs : List (Str × V))
  /-- the dict of the instance at x -/
  | own (x : Addr)
  /-- the dict of an exception -/
  | xd (fs : List (Str × V))
  /-- a bound method, f of x -/
  | met (f x : Addr)
  /-- a range object lo, lo + 1, .. below hi -/
  | rng (lo hi : Int)
  /-- a thing that is known to the object (the script; a dict while a loop walks it): read, never written while it is so -/
  | frz (o : Obj) (u : HO)
  /-- a code object's table -/
  | tbl (ps : Array Value)
  /-- any other thing, by what is true of its one object (a def of one's own: SetO a S n := HO.ext fun h => ..) -/
  | ext (φ : Heap → Prop)

abbrev Hp := Addr → Option HO
def upd (H : Hp) (a : Addr) (o : HO) : Hp := fun b => if b = a then some o else H b
theorem upd_same {H : Hp} {a : Addr} {o : HO} : upd H a o a = some o := by unfold upd; rw [if_pos rfl]
theorem upd_ne {H : Hp} {a b : Addr} {o : HO} (h : b ≠ a) : upd H a o b = H b := by unfold upd; rw [if_neg h]
theorem ne_of_none {H : Hp} {a b : Addr} {o : HO} (h : H a = some o) (h' : H b = none) : a ≠ b := by
  intro e; subst e; rw [h] at h'; cases h'

section
variable (P : Program) (w : World)
def ObjOk (H : Hp) (h : Heap) (a : Addr) : HO → Prop
  | .lst xs => xs.length ≤ sizeLine ∧ ∃ (its : List Value) (n : Nat), Vals xs its ∧ h.get? a = some { cls := .type "list", data := .seq its.toArray n }
  | .tup xs => xs.length ≤ sizeLine ∧ ∃ its : List Value, Vals xs its ∧ IsTup h a its.toArray
  | .dK kvs => kvs.length ≤ sizeLine ∧ (a == sysModules) = false ∧ ∃ vs, KV kvs vs ∧ h.DictOf (mixKind P w) a vs
  | .dT kvs => kvs.length ≤ sizeLine ∧ (a == sysModules) = false ∧ ∃ xs : List (List Key × Addr × Value),
      Paired (fun (p : List Key × V) (q : List Key × Addr × Value) => p.1 = q.1 ∧ H q.2.1 = some (.tup (p.1.map kV)) ∧ RelV p.2 q.2.2) kvs xs ∧
      ∃ o es ep, h.get? a = some o ∧ o.ExactDict ∧ o.data = .dict es ep ∧ es.toList = xs.map (entryOfKey (tupleKind (mixKind P w))) ∧ (xs.map (·.1)).Nodup
  | .set S n => h.SetOf (intKind P w) a S n
  | .ins C dx fs => H dx = some (.own a) ∧ fs.length ≤ 1000 ∧ dx ≠ a ∧ h.get? a = some (PySem.W.instObj C dx) ∧
      ∃ mA, h.Ns1 dx mA ∧ (∀ f, RelO (fs.lookup f) (mA f)) ∧ PySem.Within mA (fs.map (·.1))
  | .own _ => ∃ o, h.get? a = some o
  | .xd fs => ∃ mA, h.Ns1 a mA ∧ ∀ f, RelO (fs.lookup f) (mA f)
  | .rng lo hi => ∃ t u v, h.get? a = some { cls := .type "range", data := .fields #[.int lo t, .int hi u, .int 1 v] }
  | .frz o u => h.get? a = some o ∧ ObjOk H h a u
  | .tbl ps => h.get? a = some { cls := .none, data := .fields ps }
  | .met f x => h.get? a = some (PySem.W.methodObj (.ref f) (.ref x))
  | .ext φ => φ h ∧ (∃ o, h.get? a = some o) ∧ ∀ h1 h2 : Heap, φ h1 → (∀ o, h1.get? a = some o → h2.get? a = some o) → φ h2
def HOk (H : Hp) (h : Heap) : Prop := ∀ a o, H a = some o → ObjOk P w H h a o
end

section
variable {P : Program} {w : World} {H H' : Hp} {h h' : Heap} {a : Addr} {o : HO}
theorem ObjOk.lt (x : ObjOk P w H h a o) : a < h.objs.size := by
  cases o with
  | lst xs => obtain ⟨_, _, _, _, e⟩ := x; exact Heap.lt_size e
  | tup xs => obtain ⟨_, _, _, p⟩ := x; exact p.lt
  | dK kvs => obtain ⟨_, _, _, _, o, _, _, e, _⟩ := x; exact Heap.lt_size e
  | dT kvs => obtain ⟨_, _, _, _, o, _, _, e, _⟩ := x; exact Heap.lt_size e
  | set S n => obtain ⟨o, _, _, _, e, _⟩ := x; exact Heap.lt_size e
  | ins C dx fs => obtain ⟨_, _, _, e, _⟩ := x; exact Heap.lt_size e
  | own y => obtain ⟨_, e⟩ := x; exact Heap.lt_size e
  | xd fs => obtain ⟨_, ⟨_, _, _, e, _⟩, _⟩ := x; exact Heap.lt_size e
  | rng lo hi => obtain ⟨_, _, _, e⟩ := x; exact Heap.lt_size e
  | frz ob u => obtain ⟨e, _⟩ := x; exact Heap.lt_size e
  | tbl ps => exact Heap.lt_size (show h.get? a = some _ from x)
  | met f y => exact Heap.lt_size (show h.get? a = some _ from x)
  | ext φ => obtain ⟨_, ⟨_, e⟩, _⟩ := x; exact Heap.lt_size e
theorem Paired.mapP {α β : Type} {F G : α → β → Prop} : ∀ {l₁ : List α} {l₂ : List β}, Paired F l₁ l₂ → (∀ a b, F a b → G a b) → Paired G l₁ l₂
  | _, _, .nil, _ => .nil
  | _, _, .cons r t, f => .cons (f _ _ r) (Paired.mapP t f)
theorem ObjOk.stay (x : ObjOk P w H h a o) (k : ∀ b u, (b = a ∨ H b = some (.own a)) → h.get? b = some u → h'.get? b = some u)
    (ho : ∀ b, H b = some (.own a) → H' b = some (.own a)) (ht : ∀ b xs, H b = some (.tup xs) → H' b = some (.tup xs)) : ObjOk P w H' h' a o := by
  induction o with
  | lst xs => obtain ⟨z, its, n, r, e⟩ := x; exact ⟨z, its, n, r, k _ _ (.inl rfl) e⟩
  | tup xs => obtain ⟨z, its, r, ob, e, c⟩ := x; exact ⟨z, its, r, ob, k _ _ (.inl rfl) e, c⟩
  | dK kvs => obtain ⟨z, y, vs, r, ob, es, ep, e, c⟩ := x; exact ⟨z, y, vs, r, ob, es, ep, k _ _ (.inl rfl) e, c⟩
  | dT kvs =>
    obtain ⟨z, y, xs, r, ob, es, ep, e, c⟩ := x
    exact ⟨z, y, xs, Paired.mapP r fun p q z => ⟨z.1, ht _ _ z.2.1, z.2.2⟩, ob, es, ep, k _ _ (.inl rfl) e, c⟩
  | set S n => obtain ⟨ob, es, ep, t, e, c⟩ := x; exact ⟨ob, es, ep, t, k _ _ (.inl rfl) e, c⟩
  | ins C dx fs =>
    obtain ⟨d, z, ne, e, mA, ⟨od, es, ep, e2, c⟩, r⟩ := x
    exact ⟨ho _ d, z, ne, k _ _ (.inl rfl) e, mA, ⟨od, es, ep, k _ _ (.inr d) e2, c⟩, r⟩
  | own y => obtain ⟨ob, e⟩ := x; exact ⟨ob, k _ _ (.inl rfl) e⟩
  | xd fs => obtain ⟨mA, ⟨od, es, ep, e, c⟩, r⟩ := x; exact ⟨mA, ⟨od, es, ep, k _ _ (.inl rfl) e, c⟩, r⟩
  | rng lo hi => obtain ⟨t, u, v, e⟩ := x; exact ⟨t, u, v, k _ _ (.inl rfl) e⟩
  | frz ob u ih => obtain ⟨e, q⟩ := x; exact ⟨k _ _ (.inl rfl) e, ih q⟩
  | tbl ps =>
    have e : h.get? a = some { cls := .none, data := .fields ps } := x
    show h'.get? a = some { cls := .none, data := .fields ps }
    exact k a _ (.inl rfl) e
  | met f y =>
    have e : h.get? a = some (PySem.W.methodObj (.ref f) (.ref y)) := x
    show h'.get? a = some (PySem.W.methodObj (.ref f) (.ref y))
    exact k a _ (.inl rfl) e
  | ext φ => obtain ⟨p, ⟨o, e⟩, st⟩ := x; exact ⟨st _ _ p fun o q => k _ _ (.inl rfl) q, ⟨o, k _ _ (.inl rfl) e⟩, st⟩
theorem HOk.lt (x : HOk P w H h) (e : H a = some o) : a < h.objs.size := (x a o e).lt
theorem HOk.fresh (x : HOk P w H h) (e : h.objs.size ≤ a) : H a = none := by
  cases q : H a with
  | none => rfl
  | some u => exact absurd (Nat.lt_of_lt_of_le (x.lt q) e) (Nat.lt_irrefl _)
theorem HOk.kept (x : HOk P w H h) (k : ∀ b u, h.get? b = some u → h'.get? b = some u) : HOk P w H h' := fun a o e =>
  (x a o e).stay (fun b u _ q => k b u q) (fun _ q => q) fun _ _ q => q
theorem HOk.laid (x : HOk P w H h) (k : ∀ b u, h.get? b = some u → h'.get? b = some u) (hp : h.objs.size ≤ a) (new : ObjOk P w (upd H a o) h' a o) : HOk P w (upd H a o) h' := fun b u e => by
  have hn := x.fresh hp
  by_cases hb : b = a
  · subst hb; rw [upd_same] at e; cases e; exact new
  · rw [upd_ne hb] at e
    exact (x b u e).stay (fun c v _ q => k c v q) (fun c q => by rw [upd_ne (ne_of_none q hn)]; exact q) fun c xs q => by rw [upd_ne (ne_of_none q hn)]; exact q
end

def Rd (H : Hp) (a : Addr) (u : HO) : Prop := H a = some u ∨ ∃ o, H a = some (.frz o u)
theorem Rd.ok {P : Program} {w : World} {H : Hp} {h : Heap} {a : Addr} {u : HO} (r : Rd H a u) (x : HOk P w H h) : ObjOk P w H h a u := by
  rcases r with r | ⟨o, r⟩
  · exact x a u r
  · obtain ⟨_, q⟩ := x a _ r
    exact q
def Mut : Option HO → Prop
  | some (.lst _) => True
  | some (.dK _) => True
  | some (.dT _) => True
  | some (.set _ _) => True
  | some (.ins _ _ _) => True
  | some (.ext _) => True
  | _ => False
section
variable {P : Program} {w : World} {H : Hp} {h h' : Heap} {x e : Addr} {o' : HO}
theorem HOk.write (ok : HOk P w H h) (mu : Mut (H x)) (he : e = x ∨ H e = some (.own x)) (k : ∀ b u, b ≠ e → h.get? b = some u → h'.get? b = some u) (heo : ∃ u, h'.get? e = some u)
    (new : ObjOk P w (upd H x o') h' x o') : HOk P w (upd H x o') h' := fun b u q => by
  have nown : ∀ c y, H c = some (.own y) → c ≠ x := fun c y r z => by subst z; rw [r] at mu; exact mu
  have ntup : ∀ c xs, H c = some (.tup xs) → c ≠ x := fun c xs r z => by subst z; rw [r] at mu; exact mu
  by_cases hb : b = x
  · subst hb; rw [upd_same] at q; cases q; exact new
  · rw [upd_ne hb] at q
    by_cases hbe : b = e
    · have q' : H b = some (.own x) := by
        rcases he with z | z
        · exact absurd (hbe.trans z) hb
        · rw [hbe]; exact z
      rw [q] at q'; cases q'
      obtain ⟨v, hv⟩ := heo
      exact ⟨v, by rw [hbe]; exact hv⟩
    · refine (ok b u q).stay (fun c v hc r => k c v ?_ r) (fun c r => by rw [upd_ne (nown c b r)]; exact r) fun c xs r => by rw [upd_ne (ntup c xs r)]; exact r
      rcases hc with rfl | hc
      · exact hbe
      · rintro rfl
        rcases he with z | z
        · exact nown c b hc z
        · rw [hc] at z; cases z; exact hb rfl
end

structure Un (fs ex : List Addr) (H H' : Hp) (h h' : Heap) : Prop where
  keep : ∀ b o, h.get? b = some o → H b = none → b ∉ fs → b ∉ ex → h'.get? b = some o
  slot : ∀ b o, h.get? b = some o → H b = none → b ∈ fs → b ∉ ex → ∃ sl, h'.get? b = some { o with slots := sl }
  free : ∀ b o, h.get? b = some o → H b = none → b ∉ ex → H' b = none
  there : ∀ b o, h.get? b = some o → b ∉ ex → ∃ o', h'.get? b = some o'
  tups : ∀ b xs, H b = some (.tup xs) → H' b = some (.tup xs)
  frzs : ∀ b o u, H b = some (.frz o u) → H' b = some (.frz o u)
  tbls : ∀ b ps, H b = some (.tbl ps) → ∃ more, H' b = some (.tbl (ps ++ more))
section
variable {fs fs' ex ex' : List Addr} {H H1 H2 : Hp} {h h1 h2 h' : Heap} {a x e : Addr} {o : HO}
theorem Un.any (u : Un fs ex H H1 h h1) {b : Addr} {ob : Obj} (q : h.get? b = some ob) (n : H b = none) (hx : b ∉ ex) : ∃ sl, h1.get? b = some { ob with slots := sl } := by
  by_cases hb : b ∈ fs
  · exact u.slot b ob q n hb hx
  · exact ⟨ob.slots, u.keep b ob q n hb hx⟩
theorem Un.trans (a : Un fs ex H H1 h h1) (b : Un fs ex H1 H2 h1 h2) : Un fs ex H H2 h h2 where
  keep := fun c ob q n hc hx => b.keep c ob (a.keep c ob q n hc hx) (a.free c ob q n hx) hc hx
  slot := fun c ob q n hc hx => by
    obtain ⟨sl, e1⟩ := a.slot c ob q n hc hx
    obtain ⟨sl', e2⟩ := b.slot c _ e1 (a.free c ob q n hx) hc hx
    exact ⟨sl', e2⟩
  free := fun c ob q n hx => by
    obtain ⟨o', e1⟩ := a.there c ob q hx
    exact b.free c o' e1 (a.free c ob q n hx) hx
  there := fun c ob q hx => by
    obtain ⟨o', e1⟩ := a.there c ob q hx
    exact b.there c o' e1 hx
  tups := fun c xs q => b.tups c xs (a.tups c xs q)
  frzs := fun c ob xs q => b.frzs c ob xs (a.frzs c ob xs q)
  tbls := fun c ps q => by
    obtain ⟨m1, e1⟩ := a.tbls c ps q
    obtain ⟨m2, e2⟩ := b.tbls c _ e1
    exact ⟨m1 ++ m2, by rw [e2, Array.append_assoc]⟩
theorem Un.kept (k : ∀ b u, h.get? b = some u → h'.get? b = some u) : Un fs ex H H h h' :=
  ⟨fun b ob q _ _ _ => k b ob q, fun b ob q _ _ _ => ⟨ob.slots, k b ob q⟩, fun _ _ _ n _ => n, fun b ob q _ => ⟨ob, k b ob q⟩, fun _ _ q => q, fun _ _ _ q => q, fun _ ps q => ⟨#[], by rw [q]; simp⟩⟩
theorem Un.refl : Un fs ex H H h h := Un.kept fun _ _ q => q
theorem Un.laid (k : ∀ b u, h.get? b = some u → h'.get? b = some u) (hp : h.objs.size ≤ a) (hn : H a = none) : Un fs ex H (upd H a o) h h' where
  keep := fun b u q _ _ _ => k b u q
  slot := fun b u q _ _ _ => ⟨u.slots, k b u q⟩
  free := fun b u q n _ => by rw [upd_ne (Nat.ne_of_lt (Nat.lt_of_lt_of_le (Heap.lt_size q) hp))]; exact n
  there := fun b u q _ => ⟨u, k b u q⟩
  tups := fun b xs q => by rw [upd_ne (ne_of_none q hn)]; exact q
  frzs := fun b u xs q => by rw [upd_ne (ne_of_none q hn)]; exact q
  tbls := fun b ps q => ⟨#[], by rw [upd_ne (ne_of_none q hn), q]; simp⟩
theorem Un.write (mu : Mut (H x)) (he : e = x ∨ H e = some (.own x)) (k : ∀ b u, b ≠ e → h.get? b = some u → h'.get? b = some u) (heo : ∃ u, h'.get? e = some u) : Un fs ex H (upd H x o) h h' := by
  have hx : ∀ b, H b = none → b ≠ x := fun b n z => by subst z; rw [n] at mu; exact mu
  have hb : ∀ b, H b = none → b ≠ e := fun b n z => by
    subst z
    rcases he with r | r
    · exact hx b n r
    · rw [n] at r; cases r
  have hm : ∀ b u, H b = some u → ¬ Mut (some u) → b ≠ x := fun b u q nm z => by subst z; rw [q] at mu; exact nm mu
  refine ⟨fun b u q n _ _ => k b u (hb b n) q, fun b u q n _ _ => ⟨u.slots, k b u (hb b n) q⟩, fun b u q n _ => by rw [upd_ne (hx b n)]; exact n, fun b u q _ => ?_,
    fun b xs q => by rw [upd_ne (hm b _ q fun z => z)]; exact q, fun b u xs q => by rw [upd_ne (hm b _ q fun z => z)]; exact q, fun b ps q => ⟨#[], by rw [upd_ne (hm b _ q fun z => z), q]; simp⟩⟩
  by_cases hbe : b = e
  · subst hbe; exact heo
  · exact ⟨u, k b u hbe q⟩
end

def trk (h : Heap) (H : Hp) : List Addr := (List.range h.objs.size).filter fun a => (H a).isSome
def hidT (h : Heap) (H : Hp) : Heap := PySem.W.hideAll h (trk h H)
theorem hidT_size (h : Heap) (H : Hp) : (hidT h H).objs.size = h.objs.size := PySem.W.hideAll_size _ _
theorem hidT_get {h : Heap} {H : Hp} {b : Addr} {o : Obj} (e : h.get? b = some o) (n : H b = none) : (hidT h H).get? b = some o :=
  PySem.W.hideAll_get _ e fun hm => by
    have q : (H b).isSome = true := (List.mem_filter.mp hm).2
    rw [n] at q; simp at q
theorem of_hidT {h : Heap} {H : Hp} {b : Addr} {o : Obj} (e : (hidT h H).get? b = some o) : h.get? b = some o ∧ H b = none := by
  have e' : h.get? b = some o := PySem.W.of_hideAll (trk h H) e
  refine ⟨e', ?_⟩
  cases q : H b with
  | none => rfl
  | some x =>
    have hm : b ∈ trk h H := List.mem_filter.mpr ⟨List.mem_range.mpr (Heap.lt_size e'), by simp [q]⟩
    have z : (hidT h H).get? b = none := PySem.W.hideAll_none (trk h H) hm
    rw [z] at e; cases e

def allNews (g h : Heap) (L : Addr) : List (Addr × Obj) := (List.range h.objs.size).filterMap fun a => if a = L ∨ (g.get? a).isSome = true then none else (h.get? a).map fun o => (a, o)
def rest (g h : Heap) (L d : Addr) : List (Addr × Obj) := (allNews g h L).filter fun p => decide (p.1 ≠ d)
end L2

namespace L2
open PySem PySem.Spec PyProof.Rows

structure Mod (K : PySem.W.Frag) (mg : Str → Option Value) (base : Heap) : Prop where
  kin : K.In base
  glob : base.Ns mainGlobals mg
  blt : ∃ mb, base.Ns builtinsNs mb ∧ ∀ x : Str, x ≠ "__name__" → mb x = bootBuiltins x
  nolimit : base.NoLimit

structure Cx where
  prog : Program
  w : World
  K : PySem.W.Frag
  mg : Str → Option Value
  base : Heap
  A : Around
  N : List Str
  s₀ : Shared
  H₀ : Hp
  env : Env
  outer : List Env
  stack : List Env
  ex : List Addr
  fn : Str → Bool
  calm : Bool
  pn : List (Addr × Obj)
  xe : Value → Shared → Prop
def frs (l : List Env) : List Addr := l.filterMap (·.frame)
abbrev Cx.fs (X : Cx) : List Addr := frs X.outer

def Vis (sc : Scope) (x : Str) : Prop := sc.names.lookup x = some .local ∨ sc.names.lookup x = some .cell ∨ sc.names.lookup x = some .free
def Loc (sc : Scope) (x : Str) : Prop := sc.names.lookup x = some .local ∨ sc.names.lookup x = some .cell
def Look (env : Env) (h : Heap) (m : Str → Option Value) (x : Str) (u : Value) : Prop :=
  (env.kindOf x = some .local ∧ m x = some u) ∨ ((env.kindOf x = some .cell ∨ env.kindOf x = some .free) ∧ ∃ c, env.cells.lookup x = some c ∧ h.IsCell c (some u))

structure Cx.Ok (X : Cx) : Prop where
  mod : Mod X.K X.mg X.base
  kind : X.env.scope.kind = .function
  glob : X.env.globals = mainGlobals
  blt : X.env.builtins = builtinsNs
  above : X.s₀.heap.objs.size ≤ X.env.locals
  inj : ∀ x y c, X.env.cells.lookup x = some c → X.env.cells.lookup y = some c → x = y
  has : ∀ x, (X.env.kindOf x = some .cell ∨ X.env.kindOf x = some .free) → ∃ c, X.env.cells.lookup x = some c
  cab : ∀ x c, X.fn x = true → X.env.cells.lookup x = some c → X.s₀.heap.objs.size ≤ c
  hd : X.calm = true → X.A.handled = none
  frames : X.A.frames = some X.stack
  stk : X.stack = X.outer ∨ (X.stack = X.env :: X.outer ∧ X.env.frame = some X.env.locals)
  exf : ∀ b ∈ X.ex, b ≠ X.env.locals ∧ ∀ x c, X.env.cells.lookup x = some c → c ≠ b
  bs : ∀ b o, X.base.get? b = some o → X.s₀.heap.get? b = some o ∧ X.H₀ b = none
  bsz : X.base.objs.size ≤ X.s₀.heap.objs.size
  noex : ∀ b o, X.base.get? b = some o → b ∉ X.ex
  exfs : ∀ b ∈ X.ex, b ∉ X.fs
  funs : X.s₀.heap.FunFrames X.base X.outer
  frf : ∀ b ∈ X.fs, X.H₀ b = none

structure Inv (X : Cx) (pins : List (Addr × Obj)) (σ : List (Option V)) (H : Hp) (s : Shared) : Prop where
  ok : X.Ok
  os : s.os = X.s₀.os
  bare : AllBare s.gens
  base : Un X.fs X.ex X.H₀ H X.s₀.heap s.heap
  loc : ∃ m, s.heap.Ns X.env.locals m ∧ ∀ (i : Nat) (x : Str) (v : V), X.N[i]? = some x → σ[i]? = some (some v) → Vis X.env.scope x → ∃ u, RelV v u ∧ Look X.env s.heap m x u
  cell : ∀ x c, X.env.cells.lookup x = some c → ∃ v, s.heap.IsCell c v
  free : H X.env.locals = none
  freeC : ∀ x c, X.env.cells.lookup x = some c → H c = none
  pin : ∀ p ∈ X.pn ++ pins, s.heap.get? p.1 = some p.2 ∧ H p.1 = none ∧ p.1 ≠ X.env.locals ∧ p.1 ∉ X.fs ∧ ∀ v, p.2.data ≠ .cell v
  hok : HOk X.prog X.w H s.heap
  len : σ.length = X.N.length

section
variable {X : Cx} {pins : List (Addr × Obj)} {σ : List (Option V)} {H H' : Hp} {s : Shared} {h' : Heap}

theorem Cx.Ok.nofr (ok : X.Ok) {b : Addr} {o : Obj} (e : X.base.get? b = some o) : b ∉ X.fs := fun hb => by
  have := (ok.funs.mem hb).1
  rw [e] at this; cases this
theorem Inv.bs (I : Inv X pins σ H s) : ∀ b o, X.base.get? b = some o → s.heap.get? b = some o ∧ H b = none := fun b o e =>
  ⟨I.base.keep b o (I.ok.bs b o e).1 (I.ok.bs b o e).2 (I.ok.nofr e) (I.ok.noex b o e), I.base.free b o (I.ok.bs b o e).1 (I.ok.bs b o e).2 (I.ok.noex b o e)⟩
theorem Inv.bk (I : Inv X pins σ H s) : ∀ b o, X.base.get? b = some o → s.heap.get? b = some o := fun b o e => (I.bs b o e).1
theorem Inv.mod (I : Inv X pins σ H s) : Mod X.K X.mg X.base := I.ok.mod
theorem Inv.kIn (I : Inv X pins σ H s) : X.K.In s.heap := I.ok.mod.kin.keeps I.bk
theorem Inv.lt (I : Inv X pins σ H s) : X.env.locals < s.heap.objs.size := let ⟨_, hn, _⟩ := I.loc; hn.lt
theorem Inv.sz (I : Inv X pins σ H s) : X.s₀.heap.objs.size ≤ s.heap.objs.size := Nat.le_trans I.ok.above (Nat.le_of_lt I.lt)
theorem Inv.nofs (I : Inv X pins σ H s) {a : Addr} (h : s.heap.objs.size ≤ a) : a ∉ X.fs := fun hb => by
  obtain ⟨_, o, ho, _⟩ := I.ok.funs.mem hb
  exact absurd (Nat.lt_of_lt_of_le (Heap.lt_size ho) (Nat.le_trans I.sz h)) (Nat.lt_irrefl _)
theorem Inv.cne (I : Inv X pins σ H s) : ∀ x c, X.env.cells.lookup x = some c → c ≠ X.env.locals := fun x c e z => by
  obtain ⟨v, o, ho, hd⟩ := I.cell x c e
  obtain ⟨m, ⟨o', es, ep, ho', hd', _⟩, _⟩ := I.loc
  rw [z, ho'] at ho; cases ho; rw [hd'] at hd; cases hd
theorem Inv.funs (I : Inv X pins σ H s) : s.heap.FunFrames X.base X.outer := by
  have all : ∀ (l : List Env), (∀ b ∈ frs l, b ∈ X.fs) → X.s₀.heap.FunFrames X.base l → s.heap.FunFrames X.base l := by
    intro l
    induction l with
    | nil => intro _ _; trivial
    | cons env r ih =>
      intro hs hl
      obtain ⟨hk, ⟨L, o, hf, hn, ho, hd⟩, hr⟩ := hl
      have hL : L ∈ X.fs := hs L (by unfold frs; rw [List.filterMap_cons, hf]; exact List.mem_cons_self)
      obtain ⟨sl, e⟩ := I.base.slot L o ho (I.ok.frf L hL) hL fun z => I.ok.exfs L z hL
      exact ⟨hk, ⟨L, _, hf, hn, e, hd⟩, ih (fun b hb => hs b (by unfold frs; rw [List.filterMap_cons, hf]; exact List.mem_cons_of_mem _ hb)) hr⟩
  exact all X.outer (fun _ hb => hb) I.ok.funs

theorem Inv.stack (I : Inv X pins σ H s) : s.heap.FunFrames X.base X.stack := by
  rcases I.ok.stk with e | ⟨e, hf⟩
  · rw [e]; exact I.funs
  · rw [e]
    obtain ⟨m, hn, _⟩ := I.loc
    refine .cons (by rw [I.ok.kind]; decide) hf hn ?_ I.funs
    exact Heap.get?_none_of_le (Nat.le_trans I.ok.bsz I.ok.above)
theorem Inv.stkSub (I : Inv X pins σ H s) : ∀ b ∈ frs X.stack, b ∈ X.env.locals :: X.fs := fun b hb => by
  rcases I.ok.stk with e | ⟨e, hf⟩
  · rw [e] at hb; exact List.mem_cons_of_mem _ hb
  · rw [e] at hb
    unfold frs at hb
    rw [List.filterMap_cons, hf] at hb
    exact hb
theorem Inv.stkFree (I : Inv X pins σ H s) : ∀ b ∈ frs X.stack, H b = none := fun b hb => by
  rcases List.mem_cons.mp (I.stkSub b hb) with e | hb
  · rw [e]; exact I.free
  · obtain ⟨_, o, ho, _⟩ := I.ok.funs.mem hb
    exact I.base.free b o ho (I.ok.frf b hb) fun z => I.ok.exfs b z hb

theorem Inv.step {g' : Array GenState} {t' : Nat} {d' : Drawn} {ch : List Addr} (I : Inv X pins σ H s)
    (hch : ∀ b ∈ ch, (b ∈ X.ex ∨ X.s₀.heap.objs.size ≤ b) ∧ b ≠ X.env.locals ∧ (∀ x c, X.env.cells.lookup x = some c → c ≠ b) ∧ ∀ p ∈ X.pn ++ pins, p.1 ≠ b)
    (keep : ∀ b o, b ≠ X.env.locals → b ∉ X.fs → b ∉ ch → s.heap.get? b = some o → H b = none → h'.get? b = some o)
    (slot : ∀ b o, b ≠ X.env.locals → b ∈ X.fs → b ∉ ch → s.heap.get? b = some o → H b = none → ∃ sl, h'.get? b = some { o with slots := sl }) (free : ∀ b o, b ∉ ch → s.heap.get? b = some o → H b = none → H' b = none)
    (there : ∀ b o, b ∉ ch → s.heap.get? b = some o → ∃ o', h'.get? b = some o')
    (tups : ∀ b xs, H b = some (.tup xs) → H' b = some (.tup xs)) (frzs : ∀ b o u, H b = some (.frz o u) → H' b = some (.frz o u)) (tbls : ∀ b ps, H b = some (.tbl ps) → ∃ more, H' b = some (.tbl (ps ++ more)))
    (ns : ∀ m, s.heap.Ns X.env.locals m → h'.Ns X.env.locals m) (hok : HOk X.prog X.w H' h') (hg : AllBare g') :
    Inv X pins σ H' { s with heap := h', gens := g', drawn := d', toks := t' } := by
  have neL : ∀ b o, X.s₀.heap.get? b = some o → b ≠ X.env.locals := fun b o e => Nat.ne_of_lt (Nat.lt_of_lt_of_le (Heap.lt_size e) I.ok.above)
  have neC : ∀ b o, X.s₀.heap.get? b = some o → b ∉ X.ex → b ∉ ch := fun b o e hx hb => by
    rcases (hch b hb).1 with z | z
    · exact hx z
    · exact absurd (Nat.lt_of_lt_of_le (Heap.lt_size e) z) (Nat.lt_irrefl _)
  have cellK : ∀ x c, X.env.cells.lookup x = some c → ∀ v, s.heap.IsCell c v → h'.IsCell c v := fun x c e v ⟨o, ho, hd⟩ => by
    have nch : c ∉ ch := fun z => (hch c z).2.2.1 x c e rfl
    by_cases hc : c ∈ X.fs
    · obtain ⟨sl, q⟩ := slot c o (I.cne x c e) hc nch ho (I.freeC x c e)
      exact ⟨_, q, hd⟩
    · exact ⟨o, keep c o (I.cne x c e) hc nch ho (I.freeC x c e), hd⟩
  refine ⟨I.ok, I.os, hg, ⟨fun b o e n hb hx => ?_, fun b o e n hb hx => ?_, fun b o e n hx => ?_, fun b o e hx => ?_, fun b xs e => tups b xs (I.base.tups b xs e), fun b o xs e => frzs b o xs (I.base.frzs b o xs e), fun b ps e => ?_⟩, ?_, fun x c e => ?_, ?_, fun x c e => ?_, fun p hp => ?_, hok, I.len⟩
  · exact keep b o (neL b o e) hb (neC b o e hx) (I.base.keep b o e n hb hx) (I.base.free b o e n hx)
  · obtain ⟨sl, e1⟩ := I.base.slot b o e n hb hx
    obtain ⟨sl', e2⟩ := slot b _ (neL b o e) hb (neC b o e hx) e1 (I.base.free b o e n hx)
    exact ⟨sl', e2⟩
  · obtain ⟨o', e1⟩ := I.base.there b o e hx
    exact free b o' (neC b o e hx) e1 (I.base.free b o e n hx)
  · obtain ⟨o', e1⟩ := I.base.there b o e hx
    exact there b o' (neC b o e hx) e1
  · obtain ⟨m1, e1⟩ := I.base.tbls b ps e
    obtain ⟨m2, e2⟩ := tbls b _ e1
    exact ⟨m1 ++ m2, by rw [e2, Array.append_assoc]⟩
  · obtain ⟨m, hn, hl⟩ := I.loc
    refine ⟨m, ns m hn, fun i x v e1 e2 e3 => ?_⟩
    obtain ⟨u, r, l⟩ := hl i x v e1 e2 e3
    refine ⟨u, r, ?_⟩
    rcases l with l | ⟨k, c, e, z⟩
    · exact .inl l
    · exact .inr ⟨k, c, e, cellK x c e _ z⟩
  · obtain ⟨v, z⟩ := I.cell x c e
    exact ⟨v, cellK x c e v z⟩
  · obtain ⟨m, ⟨o, _, _, ho, _⟩, _⟩ := I.loc
    exact free _ o (fun z => (hch _ z).2.1 rfl) ho I.free
  · obtain ⟨v, o, ho, hd⟩ := I.cell x c e
    exact free c o (fun z => (hch c z).2.2.1 x c e rfl) ho (I.freeC x c e)
  · obtain ⟨e, n, ne, nf, d⟩ := I.pin p hp
    have nch : p.1 ∉ ch := fun z => (hch p.1 z).2.2.2 p hp rfl
    exact ⟨keep p.1 p.2 ne nf nch e n, free p.1 p.2 nch e n, ne, nf, d⟩
theorem Inv.un {t' : Nat} (I : Inv X pins σ H s) (u : Un X.fs [] H H' s.heap h') (hok : HOk X.prog X.w H' h') : Inv X pins σ H' { s with heap := h', toks := t' } := by
  obtain ⟨m, ⟨o, es, ep, ho, r⟩, _⟩ := id I.loc
  obtain ⟨sl, hL⟩ := u.any ho I.free (by simp)
  exact I.step (g' := s.gens) (d' := s.drawn) (ch := []) (fun _ z => nomatch z) (fun b o _ hb _ e n => u.keep b o e n hb (by simp)) (fun b o _ hb _ e n => u.slot b o e n hb (by simp)) (fun b o _ e n => u.free b o e n (by simp)) (fun b o _ e => u.there b o e (by simp)) u.tups u.frzs u.tbls (fun m' hm => by
    obtain ⟨o', es', ep', ho', r'⟩ := hm
    rw [ho] at ho'; cases ho'
    exact ⟨_, es', ep', hL, r'⟩) hok I.bare
theorem Inv.call {g' : Array GenState} {t' : Nat} {d' : Drawn} {ch : List Addr} (I : Inv X pins σ H s) (u : Un (frs X.stack) ch H H' s.heap h') (hok : HOk X.prog X.w H' h') (hg : AllBare g')
    (hch : ∀ b ∈ ch, (b ∈ X.ex ∨ X.s₀.heap.objs.size ≤ b) ∧ b ≠ X.env.locals ∧ (∀ x c, X.env.cells.lookup x = some c → c ≠ b) ∧ ∀ p ∈ X.pn ++ pins, p.1 ≠ b) :
    Inv X pins σ H' { s with heap := h', gens := g', drawn := d', toks := t' } := by
  obtain ⟨m, ⟨o, es, ep, ho, r⟩, _⟩ := id I.loc
  obtain ⟨sl, hL⟩ := u.any ho I.free fun z => (hch _ z).2.1 rfl
  exact I.step (ch := ch) hch (fun b o hL hb hc e n => u.keep b o e n (fun z => (List.mem_cons.mp (I.stkSub b z)).elim hL hb) hc) (fun b o _ _ hc e n => u.any e n hc) (fun b o hc e n => u.free b o e n hc) (fun b o hc e => u.there b o e hc) u.tups u.frzs u.tbls (fun m' hm => by
    obtain ⟨o', es', ep', ho', r'⟩ := hm
    rw [ho] at ho'; cases ho'
    exact ⟨_, es', ep', hL, r'⟩) hok hg
theorem Inv.turned {t' : Nat} {it : Addr} (I : Inv X pins σ H s) (k : ∀ b o, b ≠ it → s.heap.get? b = some o → h'.get? b = some o) (hn : H it = none) (hL : it ≠ X.env.locals)
    (h1 : it ∈ X.ex ∨ X.s₀.heap.objs.size ≤ it) (h2 : ∀ x c, X.env.cells.lookup x = some c → c ≠ it) (h3 : ∀ p ∈ X.pn ++ pins, p.1 ≠ it) : Inv X pins σ H { s with heap := h', toks := t' } := by
  have nit : ∀ b u, H b = some u → b ≠ it := fun b u e z => by rw [z, hn] at e; cases e
  refine I.step (g' := s.gens) (d' := s.drawn) (ch := [it]) (fun b hb => ?_) (fun b o _ _ hc e _ => k b o (fun z => hc (by simp [z])) e) (fun b o _ _ hc e _ => ⟨o.slots, k b o (fun z => hc (by simp [z])) e⟩) (fun _ _ _ _ n => n)
    (fun b o hc e => ⟨o, k b o (fun z => hc (by simp [z])) e⟩) (fun _ _ e => e) (fun _ _ _ e => e) (fun b ps e => ⟨#[], by rw [e]; simp⟩) (fun m hm => ?_) (fun b u e => ?_) I.bare
  · have e : b = it := by simpa using hb
    subst e
    exact ⟨h1, hL, h2, h3⟩
  · obtain ⟨o, es, ep, ho, r⟩ := hm
    exact ⟨o, es, ep, k _ o (Ne.symm hL) ho, r⟩
  · refine (I.hok b u e).stay (fun c v hc q => k c v ?_ q) (fun _ q => q) fun _ _ q => q
    rcases hc with z | z
    · rw [z]; exact nit b u e
    · exact nit c _ z
theorem Inv.tok (I : Inv X pins σ H s) (t : Nat) : Inv X pins σ H { s with toks := t } := I.un (h' := s.heap) (t' := t) Un.refl I.hok
theorem Inv.kept {t' : Nat} (I : Inv X pins σ H s) (k : ∀ b u, s.heap.get? b = some u → h'.get? b = some u) : Inv X pins σ H { s with heap := h', toks := t' } := I.un (Un.kept k) (I.hok.kept k)
theorem Inv.laid {a : Addr} {o : HO} {t' : Nat} (I : Inv X pins σ H s) (k : ∀ b u, s.heap.get? b = some u → h'.get? b = some u) (hp : s.heap.objs.size ≤ a) (new : ObjOk X.prog X.w (upd H a o) h' a o) :
    Inv X pins σ (upd H a o) { s with heap := h', toks := t' } := I.un (Un.laid k hp (I.hok.fresh hp)) (I.hok.laid k hp new)
theorem Inv.write {x e : Addr} {o : HO} {t' : Nat} (I : Inv X pins σ H s) (mu : Mut (H x)) (he : e = x ∨ H e = some (.own x)) (k : ∀ b u, b ≠ e → s.heap.get? b = some u → h'.get? b = some u) (heo : ∃ u, h'.get? e = some u)
    (new : ObjOk X.prog X.w (upd H x o) h' x o) : Inv X pins σ (upd H x o) { s with heap := h', toks := t' } := I.un (Un.write mu he k heo) (I.hok.write mu he k heo new)
theorem Inv.pins_of {pins' : List (Addr × Obj)} (I : Inv X pins σ H s) (h : ∀ p ∈ pins', s.heap.get? p.1 = some p.2 ∧ H p.1 = none ∧ p.1 ≠ X.env.locals ∧ p.1 ∉ X.fs ∧ ∀ v, p.2.data ≠ .cell v) : Inv X pins' σ H s :=
  ⟨I.ok, I.os, I.bare, I.base, I.loc, I.cell, I.free, I.freeC, fun p hp => (List.mem_append.mp hp).elim (fun z => I.pin p (List.mem_append_left _ z)) (h p), I.hok, I.len⟩

theorem nodup_ix {N : List Str} (hN : N.Nodup) {i j : Nat} {x : Str} (a : N[i]? = some x) (b : N[j]? = some x) : i = j := by
  obtain ⟨h1, e1⟩ := List.getElem?_eq_some_iff.mp a
  obtain ⟨h2, e2⟩ := List.getElem?_eq_some_iff.mp b
  exact (List.getElem_inj hN).mp (e1.trans e2.symm)

theorem store_ok2 {M : Model} {A : Around} {E : Value → Shared → Prop} {i : Nat} {x : Str} {v : V} {u : Value} {Q : Unit → Shared → Prop} (I : Inv X pins σ H s) (hN : X.N.Nodup) (hi : X.N[i]? = some x) (hx : Loc X.env.scope x) (r : RelV v u)
    (h : ∀ s', Inv X pins (σ.set i (some v)) H s' → (∃ a, Heap.SameBut a s.heap s'.heap ∧ (a = X.env.locals ∨ X.env.cells.lookup x = some a)) → Q () s') (hf : X.fn x = true ∨ X.env.scope.names.lookup x = some .local := by first | exact .inl rfl | exact .inr rfl | assumption) : wpAny M A (storeName X.env x u) Q E s := by
  obtain ⟨m, hn, hl⟩ := id I.loc
  have hcls : (X.env.scope.kind == .class || (X.env.scope.kind == .module && X.env.locals != X.env.globals)) = false := by rw [I.ok.kind]; rfl
  have hiσ : i < σ.length := by rw [I.len]; exact (List.getElem?_eq_some_iff.mp hi).1
  have cne := I.cne
  have tracked : ∀ {a : Addr} {h' : Heap}, (∃ o, s.heap.get? a = some o ∧ H a = none) → Heap.SameBut a s.heap h' → HOk X.prog X.w H h' := fun {a h'} ha hs b ob e => by
    obtain ⟨_, _, hfree⟩ := ha
    refine (I.hok b ob e).stay (fun c w' hc q => (hs.2 c ?_).trans q) (fun _ q => q) fun _ _ q => q
    rintro rfl
    rcases hc with rfl | hc
    · rw [hfree] at e; cases e
    · rw [hfree] at hc; cases hc
  rcases hx with hk | hk
  · refine wpAny_storeName_local hk hn (fun h' hn' hs => ?_) hcls
    obtain ⟨oL, _, _, hoL, _⟩ := id hn
    refine h _ ⟨I.ok, I.os, I.bare, ⟨fun b o e n hb hx => ?_, fun b o e n hb hx => ?_, I.base.free, fun b o e hx => ?_, I.base.tups, I.base.frzs, I.base.tbls⟩, ⟨_, hn', fun j y v' e1 e2 e3 => ?_⟩, fun y c e => ?_, I.free, I.freeC, fun p hp => ?_, tracked ⟨oL, hoL, I.free⟩ hs, by simpa using I.len⟩ ⟨_, hs, .inl rfl⟩
    · exact (hs.2 b (Nat.ne_of_lt (Nat.lt_of_lt_of_le (Heap.lt_size e) I.ok.above))).trans (I.base.keep b o e n hb hx)
    · obtain ⟨sl, e1⟩ := I.base.slot b o e n hb hx
      exact ⟨sl, (hs.2 b (Nat.ne_of_lt (Nat.lt_of_lt_of_le (Heap.lt_size e) I.ok.above))).trans e1⟩
    · obtain ⟨o', e1⟩ := I.base.there b o e hx
      exact ⟨o', (hs.2 b (Nat.ne_of_lt (Nat.lt_of_lt_of_le (Heap.lt_size e) I.ok.above))).trans e1⟩
    · by_cases hj : j = i
      · subst hj
        rw [hi] at e1; cases e1
        rw [List.getElem?_set_self hiσ] at e2
        cases e2
        exact ⟨u, r, .inl ⟨hk, by simp⟩⟩
      · rw [List.getElem?_set_ne (Ne.symm hj)] at e2
        obtain ⟨u', r', q⟩ := hl j y v' e1 e2 e3
        refine ⟨u', r', ?_⟩
        rcases q with ⟨k, e⟩ | ⟨k, c, e, z⟩
        · refine .inl ⟨k, ?_⟩
          have : y ≠ x := fun e => hj (nodup_ix hN e1 (e ▸ hi))
          simp [this, e]
        · exact .inr ⟨k, c, e, z.sameBut hs (cne y c e)⟩
    · obtain ⟨w', z⟩ := I.cell y c e
      exact ⟨w', z.sameBut hs (cne y c e)⟩
    · obtain ⟨e, n, ne, nf, d⟩ := I.pin p hp
      exact ⟨(hs.2 p.1 ne).trans e, n, ne, nf, d⟩
  · have hfn : X.fn x = true := by
      rcases hf with z | z
      · exact z
      · rw [z] at hk; cases hk
    obtain ⟨c, hc⟩ := I.ok.has x (.inl hk)
    obtain ⟨w', z⟩ := I.cell x c hc
    refine wpAny_storeName_cell I.ok.kind hk hc z (fun h' hc' hs => ?_)
    obtain ⟨oc, hoc, hocd⟩ := id z
    refine h { s with heap := h' } ⟨I.ok, I.os, I.bare, ⟨fun b o e n hb hx => ?_, fun b o e n hb hx => ?_, I.base.free, fun b o e hx => ?_, I.base.tups, I.base.frzs, I.base.tbls⟩, ⟨m, hn.sameBut hs (Ne.symm (cne x c hc)), fun j y v' e1 e2 e3 => ?_⟩, fun y c' e => ?_, I.free, I.freeC, fun p hp => ?_, tracked ⟨oc, hoc, I.freeC x c hc⟩ hs, by simpa using I.len⟩ ⟨c, hs, .inr hc⟩
    · exact (hs.2 b (Nat.ne_of_lt (Nat.lt_of_lt_of_le (Heap.lt_size e) (I.ok.cab x c hfn hc)))).trans (I.base.keep b o e n hb hx)
    · obtain ⟨sl, e1⟩ := I.base.slot b o e n hb hx
      exact ⟨sl, (hs.2 b (Nat.ne_of_lt (Nat.lt_of_lt_of_le (Heap.lt_size e) (I.ok.cab x c hfn hc)))).trans e1⟩
    · obtain ⟨o', e1⟩ := I.base.there b o e hx
      exact ⟨o', (hs.2 b (Nat.ne_of_lt (Nat.lt_of_lt_of_le (Heap.lt_size e) (I.ok.cab x c hfn hc)))).trans e1⟩
    · by_cases hj : j = i
      · subst hj
        rw [hi] at e1; cases e1
        rw [List.getElem?_set_self hiσ] at e2
        cases e2
        exact ⟨u, r, .inr ⟨.inl hk, c, hc, hc'⟩⟩
      · rw [List.getElem?_set_ne (Ne.symm hj)] at e2
        obtain ⟨u', r', q⟩ := hl j y v' e1 e2 e3
        refine ⟨u', r', ?_⟩
        rcases q with q | ⟨k, c', e, z'⟩
        · exact .inl q
        · refine .inr ⟨k, c', e, z'.sameBut hs ?_⟩
          rintro rfl
          exact hj (nodup_ix hN e1 (I.ok.inj _ _ _ e hc ▸ hi))
    · by_cases hcc : c' = c
      · subst hcc; exact ⟨_, hc'⟩
      · obtain ⟨w2, z2⟩ := I.cell y c' e
        exact ⟨w2, z2.sameBut hs hcc⟩
    · obtain ⟨e, n, ne, nf, d⟩ := I.pin p hp
      refine ⟨(hs.2 p.1 ?_).trans e, n, ne, nf, d⟩
      intro q
      rw [q, hoc] at e
      have q' : oc = p.2 := Option.some.inj e
      exact d w' (by rw [← q']; exact hocd)
theorem store_ok {M : Model} {A : Around} {E : Value → Shared → Prop} {i : Nat} {x : Str} {v : V} {u : Value} {Q : Unit → Shared → Prop} (I : Inv X pins σ H s) (hN : X.N.Nodup) (hi : X.N[i]? = some x) (hx : Loc X.env.scope x) (r : RelV v u)
    (h : ∀ s', Inv X pins (σ.set i (some v)) H s' → Q () s') (hf : X.fn x = true ∨ X.env.scope.names.lookup x = some .local := by first | exact .inl rfl | exact .inr rfl | assumption) : wpAny M A (storeName X.env x u) Q E s :=
  store_ok2 I hN hi hx r (fun s' I' _ => h s' I') hf
theorem Inv.call' {s' : Shared} {ch : List Addr} (I : Inv X pins σ H s) (ho : s'.os = s.os) (u : Un (frs X.stack) ch H H' s.heap s'.heap) (hok : HOk X.prog X.w H' s'.heap) (hg : AllBare s'.gens)
    (hch : ∀ b ∈ ch, (b ∈ X.ex ∨ X.s₀.heap.objs.size ≤ b) ∧ b ≠ X.env.locals ∧ (∀ x c, X.env.cells.lookup x = some c → c ≠ b) ∧ ∀ p ∈ X.pn ++ pins, p.1 ≠ b) : Inv X pins σ H' s' := by
  obtain ⟨h', g', d', t', o'⟩ := s'
  have e : o' = s.os := ho
  subst e
  exact I.call (g' := g') (t' := t') (d' := d') u hok hg hch
end

abbrev XK := Value → Option Addr → Hp → Prop
abbrev St := List (Option V)
abbrev VK := V → Hp → Prop
abbrev TE := St → Hp → VK → Prop
abbrev TT := St → Hp → (Bool → Hp → Prop) → Prop
abbrev TA := St → Hp → (List V → Hp → Prop) → Prop
structure Ends where
  nx : St → Hp → Prop
  rt : VK
  bk : St → Hp → Prop := fun _ _ => False
  ct : St → Hp → Prop := fun _ _ => False
abbrev TS := Ends → St → Hp → Prop

def EP (X : Cx) (pins : List (Addr × Obj)) (σ : St) (Q : VK) (u : Value) (s' : Shared) : Prop := ∃ v H', Inv X pins σ H' s' ∧ RelV v u ∧ Q v H'
def TP (X : Cx) (pins : List (Addr × Obj)) (σ : St) (Q : Bool → Hp → Prop) (b : Bool) (s' : Shared) : Prop := ∃ H', Inv X pins σ H' s' ∧ Q b H'
def AP (X : Cx) (pins : List (Addr × Obj)) (σ : St) (Q : List V → Hp → Prop) (us : List Value) (s' : Shared) : Prop := ∃ vs H', Inv X pins σ H' s' ∧ Vals vs us ∧ Q vs H'
def SP (X : Cx) (pins : List (Addr × Obj)) (D : Ends) (f : Flow) (s' : Shared) : Prop :=
  match f with
  | .next => ∃ σ' H', Inv X pins σ' H' s' ∧ D.nx σ' H'
  | .brk => ∃ σ' H', Inv X pins σ' H' s' ∧ D.bk σ' H'
  | .cont => ∃ σ' H', Inv X pins σ' H' s' ∧ D.ct σ' H'
  | .ret u => ∃ v σ' H', Inv X pins σ' H' s' ∧ RelV v u ∧ D.rt v H'

def PE (X : Cx) (e : Expr) (t : TE) : Prop :=
  ∀ (pins : List (Addr × Obj)) (s : Shared) (σ : St) (H : Hp) (Q : VK), Inv X pins σ H s → t σ H Q → wpAny (model X.prog X.w) X.A (eval e X.env) (EP X pins σ Q) X.xe s
def PT (X : Cx) (e : Expr) (t : TT) : Prop :=
  ∀ (pins : List (Addr × Obj)) (s : Shared) (σ : St) (H : Hp) (Q : Bool → Hp → Prop), Inv X pins σ H s → t σ H Q → wpAny (model X.prog X.w) X.A (isTrue e X.env (eval e X.env)) (TP X pins σ Q) X.xe s
def PW (X : Cx) (e : Expr) (t : TT) : Prop :=
  ∀ (whole : Sem Value) (pins : List (Addr × Obj)) (s : Shared) (σ : St) (H : Hp) (Q : Bool → Hp → Prop), Inv X pins σ H s → t σ H Q → wpAny (model X.prog X.w) X.A (isTrue e X.env whole) (TP X pins σ Q) X.xe s
theorem PW.pt {X : Cx} {e : Expr} {t : TT} (h : PW X e t) : PT X e t := h _
def PA (X : Cx) (es : List Expr) (t : TA) : Prop :=
  ∀ (pos : Pos) (pins : List (Addr × Obj)) (s : Shared) (σ : St) (H : Hp) (Q : List V → Hp → Prop), Inv X pins σ H s → t σ H Q → wpAny (model X.prog X.w) X.A (spliced (backTo pos (starEach es X.env))) (AP X pins σ Q) X.xe s
def PS (X : Cx) (st : Stmt) (t : TS) : Prop :=
  ∀ (pins : List (Addr × Obj)) (s : Shared) (σ : St) (H : Hp) (D : Ends), Inv X pins σ H s → t D σ H → wpAny (model X.prog X.w) X.A (exec st X.env) (SP X pins D) X.xe s
def PSs (X : Cx) (st : List Stmt) (t : TS) : Prop :=
  ∀ (pins : List (Addr × Obj)) (s : Shared) (σ : St) (H : Hp) (D : Ends), Inv X pins σ H s → t D σ H → wpAny (model X.prog X.w) X.A (execs st X.env) (SP X pins D) X.xe s
theorem thn {α : Type} {t : Sem α} {Q Q' : α → Shared → Prop} {M : Model} {A : Around} {E : Value → Shared → Prop} {s : Shared} (h : wpAny M A t Q E s) (hQ : ∀ a s, Q a s → Q' a s) : wpAny M A t Q' E s := wpAny_mono h hQ fun _ _ x => x
end L2

namespace L2
open PySem PySem.Spec PyProof.Rows
section
variable {X : Cx}

theorem bin {a b : Expr} {ta tb : TE} (ha : PE X a ta) (hb : PE X b tb) {pins : List (Addr × Obj)} {s : Shared} {σ : St} {H : Hp} {R : V → V → Hp → Prop} (I : Inv X pins σ H s) (h : ta σ H fun x H1 => tb σ H1 fun y H2 => R x y H2)
    {α : Type} {Q : α → Shared → Prop} {f : Value → Value → Sem α}
    (hf : ∀ v u s2 x y H2, Inv X pins σ H2 s2 → RelV x v → RelV y u → R x y H2 → wpAny (model X.prog X.w) X.A (f v u) Q X.xe s2) :
    wpAny (model X.prog X.w) X.A (eval a X.env) (fun v s₁ => wpAny (model X.prog X.w) X.A (eval b X.env) (fun u s₂ => wpAny (model X.prog X.w) X.A (f v u) Q X.xe s₂) X.xe s₁) X.xe s := by
  refine thn (ha pins s σ H _ I h) fun v s1 ⟨x, H1, I1, r1, q1⟩ => ?_
  refine thn (hb pins s1 σ H1 _ I1 q1) fun u s2 ⟨y, H2, I2, r2, q2⟩ => ?_
  exact hf v u s2 x y H2 I2 r1 r2 q2

def tVar (i : Nat) : TE := fun σ H Q => ∃ v, σ[i]? = some (some v) ∧ Q v H
def tC (v : V) : TE := fun _ H Q => Q v H
theorem pe_var {i : Nat} {x : Str} {pos : Pos} (hN : X.N[i]? = some x) (hv : Vis X.env.scope x) (hd : (x == ("__debug__" : Str)) = false := by decide) (hcd : (x == ("__classdict__" : Str)) = false := by decide) : PE X (.Name x pos) (tVar i) := by
  intro pins s σ H Q I h
  obtain ⟨v, e, h⟩ := h
  obtain ⟨m, hn, hl⟩ := I.loc
  obtain ⟨u, r, l⟩ := hl i x v hN e hv
  have fin : EP X pins σ Q u s := ⟨v, H, I, r, h⟩
  rcases l with ⟨hk, hm⟩ | ⟨hk, c, hc, hcell⟩
  · exact wpAny_Name (wpAny_loadName_local I.ok.kind hk hn hm fin) hd
  · rcases hk with hk | hk
    · exact wpAny_Name (wpAny_loadName_cell I.ok.kind hk hc hcell fin) hd
    · exact wpAny_Name (wpAny_loadName_free I.ok.kind hk hc hcell fin hcd) hd
theorem pe_int {i j pos} : PE X (.Constant (.int i) j pos) (tC (.int i)) := fun _ _ _ H _ I h => wpAny_Constant_int ⟨.int i, H, I.tok _, ⟨_, rfl⟩, h⟩
theorem pe_bl {b j pos} : PE X (.Constant (.bool b) j pos) (tC (.bl b)) := fun _ _ _ H _ I h => Constant_bool ⟨.bl b, H, I, rfl, h⟩
theorem pe_non {j pos} : PE X (.Constant .none j pos) (tC .non) := fun _ _ _ H _ I h => Constant_none ⟨.non, H, I, rfl, h⟩
theorem pe_str {x j pos} : PE X (.Constant (.str x) j pos) (tC (.str x)) := fun _ _ _ H _ I h => Calls.Constant_str ⟨.str x, H, I.tok _, ⟨_, rfl⟩, h⟩

def Gl (X : Cx) (x : Str) : Prop := X.env.kindOf x = some .globalImplicit
theorem ld_glob {E : Value → Shared → Prop} {pins : List (Addr × Obj)} {s : Shared} {σ : St} {H : Hp} {x : Str} {u : Value} {pos : Pos} {Q : Value → Shared → Prop} (I : Inv X pins σ H s) (hg : Gl X x) (hm : X.mg x = some u) (h : Q u s)
    (hd : (x == ("__debug__" : Str)) = false := by decide) : wpAny (model X.prog X.w) X.A (eval (.Name x pos) X.env) Q E s :=
  Calls.Name_function_global I.ok.kind hg (Calls.loadGlobal_global (by rw [I.ok.glob]; exact I.mod.glob.keeps I.bk) hm h) hd
theorem ld_blt {E : Value → Shared → Prop} {pins : List (Addr × Obj)} {s : Shared} {σ : St} {H : Hp} {x : Str} {u : Value} {pos : Pos} {Q : Value → Shared → Prop} (I : Inv X pins σ H s) (hg : Gl X x) (hm : X.mg x = none) (hv : bootBuiltins x = some u) (h : Q u s)
    (hn : x ≠ "__name__" := by decide) (hd : (x == ("__debug__" : Str)) = false := by decide) : wpAny (model X.prog X.w) X.A (eval (.Name x pos) X.env) Q E s := by
  obtain ⟨mb, h1, h2⟩ := I.mod.blt
  exact Calls.Name_function_global I.ok.kind hg (Calls.loadGlobal_builtin (by rw [I.ok.glob]; exact I.mod.glob.keeps I.bk) hm (by rw [I.ok.blt]; exact h1.keeps I.bk) ((h2 x hn).trans hv) h) hd
theorem pe_glob {x : Str} {v : V} {u : Value} {pos : Pos} (hg : Gl X x) (hm : X.mg x = some u) (r : RelV v u) (hd : (x == ("__debug__" : Str)) = false := by decide) : PE X (.Name x pos) (tC v) :=
  fun _ _ _ H _ I h => ld_glob I hg hm ⟨v, H, I, r, h⟩ hd
theorem pe_bltn {x : Str} {v : V} {u : Value} {pos : Pos} (hg : Gl X x) (hm : X.mg x = none) (hv : bootBuiltins x = some u) (r : RelV v u) (hn : x ≠ "__name__" := by decide) (hd : (x == ("__debug__" : Str)) = false := by decide) : PE X (.Name x pos) (tC v) :=
  fun _ _ _ H _ I h => ld_blt I hg hm hv ⟨v, H, I, r, h⟩ hn hd

variable {a b : Expr} {ta tb : TE} {pos : Pos}
def PC (X : Cx) (op : CmpOp) (a b : Expr) (t : TE) : Prop :=
  ∀ (pins : List (Addr × Obj)) (s : Shared) (σ : St) (H : Hp) (Q : VK), Inv X pins σ H s → t σ H Q →
    wpAny (model X.prog X.w) X.A (eval a X.env) (fun v s₁ => wpAny (model X.prog X.w) X.A (eval b X.env) (fun u s₂ => wpAny (model X.prog X.w) X.A (compareOp op v u) (EP X pins σ Q) X.xe s₂) X.xe s₁) X.xe s
theorem nobehind (b : Expr) {op : CmpOp} (h : op ≠ .In) (h2 : op ≠ .NotIn) : behindInMarks op b = false := by
  have e1 : (op == CmpOp.In) = false := by cases op <;> first | rfl | exact absurd rfl h
  have e2 : (op == CmpOp.NotIn) = false := by cases op <;> first | rfl | exact absurd rfl h2
  cases b <;> simp [behindInMarks, e1, e2]
def tB (t : TE) : TT := fun σ H Q => t σ H fun x H1 => ∃ c, x = .bl c ∧ Q c H1
theorem pt_cmp {op : CmpOp} {t : TE} (h : PC X op a b t) (h1 : behindInMarks op b = false := by first | exact nobehind _ (by decide) (by decide) | rfl) : PT X (.Compare a [op] [b] pos) (tB t) := by
  intro pins s σ H Q I hw
  refine wpAny_isTrue_Compare1 (thn (h pins s σ H _ I hw) fun v s1 h1 => thn h1 fun u s2 h2 => thn h2 fun c s3 ⟨x, H1, I1, r1, q1⟩ => ?_) h1
  obtain ⟨d, rfl, q⟩ := q1
  cases r1
  exact wpAny_truthy_bool ⟨H1, I1, q⟩
theorem pt_val {e : Expr} {t : TE} (h : PE X e t) (he : ∀ whole, isTrue e X.env whole = (do let v ← whole; standAt e.pos; holding [v] (truthy v)) := by intro _; rfl) : PT X e (tB t) := by
  intro pins s σ H Q I hw
  refine isTrue_plain (thn (h pins s σ H _ I hw) fun v s1 ⟨x, H1, I1, r1, q1⟩ => ?_) (he _)
  obtain ⟨d, rfl, q⟩ := q1
  cases r1
  exact wpAny_truthy_bool ⟨H1, I1, q⟩

variable {tA tB' : TT} {rest : List Expr}
def tAnd (t u : TT) : TT := fun σ H Q => t σ H fun c H1 => if c = true then u σ H1 Q else Q false H1
def tOr (t u : TT) : TT := fun σ H Q => t σ H fun c H1 => if c = true then Q true H1 else u σ H1 Q
def tNot (t : TT) : TT := fun σ H Q => t σ H fun c H1 => Q (!c) H1
theorem pw_and1 (ha : PT X a tA) : PW X (.BoolOp .And [a] pos) tA := by
  intro wh pins s σ H Q I h
  refine isTrue_and (thn (ha pins s σ H Q I h) fun c s1 e => ?_)
  cases c with
  | true => exact isTrue_and_nil e
  | false => exact e
theorem pw_or1 (ha : PT X a tA) : PW X (.BoolOp .Or [a] pos) tA := by
  intro wh pins s σ H Q I h
  refine isTrue_or (thn (ha pins s σ H Q I h) fun c s1 e => ?_)
  cases c with
  | false => exact isTrue_or_nil e
  | true => exact e
theorem pw_and (ha : PT X a tA) (hb : PW X (.BoolOp .And (b :: rest) pos) tB') : PW X (.BoolOp .And (a :: b :: rest) pos) (tAnd tA tB') := by
  intro wh pins s σ H Q I h
  refine isTrue_and (thn (ha pins s σ H _ I h) fun c s1 ⟨H1, I1, q1⟩ => ?_)
  cases c with
  | true => exact hb wh pins s1 σ H1 Q I1 q1
  | false => exact ⟨H1, I1, q1⟩
theorem pw_or (ha : PT X a tA) (hb : PW X (.BoolOp .Or (b :: rest) pos) tB') : PW X (.BoolOp .Or (a :: b :: rest) pos) (tOr tA tB') := by
  intro wh pins s σ H Q I h
  refine isTrue_or (thn (ha pins s σ H _ I h) fun c s1 ⟨H1, I1, q1⟩ => ?_)
  cases c with
  | true => exact ⟨H1, I1, q1⟩
  | false => exact hb wh pins s1 σ H1 Q I1 q1
theorem pt_not (ha : PT X a tA) : PT X (.UnaryOp .Not a pos) (tNot tA) := by
  intro pins s σ H Q I h
  exact isTrue_not (ha pins s σ H (fun c H1 => Q (!c) H1) I h)
def tAndV (ta tb : TE) : TE := fun σ H Q => ta σ H fun x H1 => ∃ c, x = .bl c ∧ if c = true then tb σ H1 Q else Q (.bl false) H1
def tOrV (ta tb : TE) : TE := fun σ H Q => ta σ H fun x H1 => ∃ c, x = .bl c ∧ if c = true then Q (.bl true) H1 else tb σ H1 Q
def tNotV (ta : TE) : TE := fun σ H Q => ta σ H fun x H1 => ∃ c, x = .bl c ∧ Q (.bl (!c)) H1
theorem pe_one {op} {t : TE} (h : PE X a t) : PE X (.BoolOp op [a] pos) t := fun pins s σ H Q I hw => BoolOp_one (h pins s σ H Q I hw)
theorem pe_and (ha : PE X a ta) (hb : PE X (.BoolOp .And (b :: rest) pos) tb) : PE X (.BoolOp .And (a :: b :: rest) pos) (tAndV ta tb) := by
  intro pins s σ H Q I h
  refine BoolOp_and (thn (ha pins s σ H _ I h) fun v s1 ⟨x, H1, I1, r1, q1⟩ => ?_)
  obtain ⟨c, rfl, q1⟩ := q1
  cases r1
  refine wpAny_truthy_bool ?_
  cases c with
  | true => exact hb pins s1 σ H1 Q I1 q1
  | false => exact ⟨.bl false, H1, I1, rfl, q1⟩
theorem pe_or (ha : PE X a ta) (hb : PE X (.BoolOp .Or (b :: rest) pos) tb) : PE X (.BoolOp .Or (a :: b :: rest) pos) (tOrV ta tb) := by
  intro pins s σ H Q I h
  refine BoolOp_or (thn (ha pins s σ H _ I h) fun v s1 ⟨x, H1, I1, r1, q1⟩ => ?_)
  obtain ⟨c, rfl, q1⟩ := q1
  cases r1
  refine wpAny_truthy_bool ?_
  cases c with
  | false => exact hb pins s1 σ H1 Q I1 q1
  | true => exact ⟨.bl true, H1, I1, rfl, q1⟩
theorem pe_not (ha : PE X a ta) : PE X (.UnaryOp .Not a pos) (tNotV ta) := by
  intro pins s σ H Q I h
  refine UnaryOp_ (thn (ha pins s σ H _ I h) fun v s1 ⟨x, H1, I1, r1, q1⟩ => ?_)
  obtain ⟨c, rfl, q1⟩ := q1
  cases r1
  exact not_of (wpAny_truthy_bool ⟨.bl (!c), H1, I1, rfl, q1⟩)
def tIf (t : TT) (ta tb : TE) : TE := fun σ H Q => t σ H fun c H1 => if c = true then ta σ H1 Q else tb σ H1 Q
theorem pe_ifExp {c : Expr} (hc : PT X c tA) (ha : PE X a ta) (hb : PE X b tb) : PE X (.IfExp c a b pos) (tIf tA ta tb) := by
  intro pins s σ H Q I h
  refine wpAny_IfExp (thn (hc pins s σ H _ I h) fun d s1 ⟨H1, I1, q1⟩ => ?_)
  cases d with
  | true => exact ha pins s1 σ H1 Q I1 q1
  | false => exact hb pins s1 σ H1 Q I1 q1
end
end L2

namespace L2
open PySem PySem.Spec PyProof.Rows

def SqL (K : PySem.W.Frag) (H : Hp) (a : Addr) (xs : List V) : Prop :=
  Rd H a (.lst xs) ∨
    ∃ (o : Obj) (its : Array Value) (n : Nat), K.lookup a = some o ∧ o.cls = .type "list" ∧ o.dict = none ∧ o.data = .seq its n ∧ its.size ≤ sizeLine ∧ Vals xs its.toList
def SqT (K : PySem.W.Frag) (H : Hp) (a : Addr) (xs : List V) : Prop :=
  Rd H a (.tup xs) ∨
    ∃ (o : Obj) (its : Array Value) (n : Nat), K.lookup a = some o ∧ o.cls = .type "tuple" ∧ o.data = .seq its n ∧ its.size ≤ sizeLine ∧ Vals xs its.toList
def absV : Value → Option V
  | .none => some .non
  | .bool b => some (.bl b)
  | .int i _ => some (.int i)
  | .str x _ => some (.str x)
  | .bytes b _ => some (.byt b)
  | .float b _ => some (.flt b)
  | .ref a => some (.ref a)
  | .type n => some (.ty n)
  | _ => none
theorem RelV.abs {x : V} {u : Value} (r : RelV x u) : absV u = some x := by
  cases x with
  | non => cases r; rfl
  | bl _ => cases r; rfl
  | int _ => obtain ⟨t, rfl⟩ := r; rfl
  | str _ => obtain ⟨t, rfl⟩ := r; rfl
  | byt _ => obtain ⟨t, rfl⟩ := r; rfl
  | flt _ => obtain ⟨t, rfl⟩ := r; rfl
  | ref _ => cases r; rfl
  | ty _ => cases r; rfl
theorem RelV.inj {x y : V} {u : Value} (r : RelV x u) (q : RelV y u) : x = y := Option.some.inj (r.abs.symm.trans q.abs)
theorem Vals.inj : ∀ {xs ys : List V} {us : List Value}, Vals xs us → Vals ys us → xs = ys
  | _, _, _, .nil, .nil => rfl
  | _, _, _, .cons r t, .cons r' t' => by rw [r.inj r', Vals.inj t t']
section
variable {X : Cx} {pins : List (Addr × Obj)} {σ : St} {H : Hp} {s : Shared} {a : Addr} {xs ys : List V}
theorem SqL.of {K : PySem.W.Frag} (h : H a = some (.lst xs)) : SqL K H a xs := .inl (.inl h)
theorem SqT.of {K : PySem.W.Frag} (h : H a = some (.tup xs)) : SqT K H a xs := .inl (.inl h)
theorem Inv.list (I : Inv X pins σ H s) (h : SqL X.K H a xs) : ∃ its : List Value, Vals xs its ∧ PlainL s.heap a its.toArray ∧ xs.length ≤ sizeLine := by
  rcases h with h | ⟨o, its, n, hk, hc, hd, hs, hz, r⟩
  · obtain ⟨z, its, n, r, e⟩ := h.ok I.hok
    exact ⟨its, r, ⟨_, n, e, rfl, rfl, rfl⟩, z⟩
  · refine ⟨its.toList, r, ⟨o, n, I.kIn a o hk, hc, hd, by simpa using hs⟩, ?_⟩
    have e := r.length
    simp only [Array.length_toList] at e
    omega
theorem Inv.tuple (I : Inv X pins σ H s) (h : SqT X.K H a xs) : ∃ its : List Value, Vals xs its ∧ IsTup s.heap a its.toArray ∧ xs.length ≤ sizeLine := by
  rcases h with h | ⟨o, its, n, hk, hc, hs, hz, r⟩
  · obtain ⟨z, its, r, p⟩ := h.ok I.hok
    exact ⟨its, r, p, z⟩
  · refine ⟨its.toList, r, ⟨o, I.kIn a o hk, hc, n, by simpa using hs⟩, ?_⟩
    have e := r.length
    simp only [Array.length_toList] at e
    omega
theorem Inv.list_inj (I : Inv X pins σ H s) (h : SqL X.K H a xs) (h' : SqL X.K H a ys) : xs = ys := by
  obtain ⟨its, r, ⟨o, n, e, _, _, d⟩, _⟩ := I.list h
  obtain ⟨its', r', ⟨o', n', e', _, _, d'⟩, _⟩ := I.list h'
  rw [e] at e'; cases e'
  rw [d] at d'
  injection d' with d1 _
  have : its = its' := by simpa using congrArg Array.toList d1
  subst this
  exact r.inj r'
theorem Inv.tuple_inj (I : Inv X pins σ H s) (h : SqT X.K H a xs) (h' : SqT X.K H a ys) : xs = ys := by
  obtain ⟨its, r, ⟨o, e, _, n, d⟩, _⟩ := I.tuple h
  obtain ⟨its', r', ⟨o', e', _, n', d'⟩, _⟩ := I.tuple h'
  rw [e] at e'; cases e'
  rw [d] at d'
  injection d' with d1 _
  have : its = its' := by simpa using congrArg Array.toList d1
  subst this
  exact r.inj r'
end

abbrev Cx.wish (X : Cx) (E : Value → Shared → Prop) : Cx := { X with xe := E }
abbrev Cx.nox (X : Cx) : Cx := X.wish fun _ _ => False
theorem Cx.Ok.wish {X : Cx} (ok : X.Ok) (E : Value → Shared → Prop) : (X.wish E).Ok :=
  ⟨ok.mod, ok.kind, ok.glob, ok.blt, ok.above, ok.inj, ok.has, ok.cab, ok.hd, ok.frames, ok.stk, ok.exf, ok.bs, ok.bsz, ok.noex, ok.exfs, ok.funs, ok.frf⟩
theorem Cx.Ok.unwish {X : Cx} {E : Value → Shared → Prop} (ok : (X.wish E).Ok) : X.Ok :=
  ⟨ok.mod, ok.kind, ok.glob, ok.blt, ok.above, ok.inj, ok.has, ok.cab, ok.hd, ok.frames, ok.stk, ok.exf, ok.bs, ok.bsz, ok.noex, ok.exfs, ok.funs, ok.frf⟩
section
variable {X : Cx} {pins : List (Addr × Obj)} {σ : St} {H : Hp} {s : Shared} {E : Value → Shared → Prop}
theorem Inv.wish (I : Inv X pins σ H s) (E : Value → Shared → Prop) : Inv (X.wish E) pins σ H s := ⟨I.ok.wish E, I.os, I.bare, I.base, I.loc, I.cell, I.free, I.freeC, I.pin, I.hok, I.len⟩
theorem Inv.unwish (I : Inv (X.wish E) pins σ H s) : Inv X pins σ H s := ⟨I.ok.unwish, I.os, I.bare, I.base, I.loc, I.cell, I.free, I.freeC, I.pin, I.hok, I.len⟩
theorem SP.unwish {D : Ends} {f : Flow} {s' : Shared} (h : SP (X.wish E) pins D f s') : SP X pins D f s' := by
  cases f with
  | next => obtain ⟨σ', H', I, q⟩ := h; exact ⟨σ', H', I.unwish, q⟩
  | brk => obtain ⟨σ', H', I, q⟩ := h; exact ⟨σ', H', I.unwish, q⟩
  | cont => obtain ⟨σ', H', I, q⟩ := h; exact ⟨σ', H', I.unwish, q⟩
  | ret u => obtain ⟨v, σ', H', I, r, q⟩ := h; exact ⟨v, σ', H', I.unwish, r, q⟩
theorem PSs.nox {st : List Stmt} {t : TS} (h : PSs X.nox st t) : PSs X st t := fun pins s σ H D I hw =>
  wpAny_mono (h pins s σ H D (I.wish _) hw) (fun _ _ q => q.unwish) fun _ _ z => False.elim z
end

section
variable {X : Cx} {st : Stmt} {rest : List Stmt} {t u : TS} {e : Expr} {te : TE} {pos : Pos}
def tNext : TS := fun D σ H => D.nx σ H
def tSeq (t u : TS) : TS := fun D σ H => t { D with nx := u D } σ H
theorem pss_nil : PSs X [] tNext := fun _ _ σ H _ I h => wpAny_execs_nil ⟨σ, H, I, h⟩
theorem pss_cons (h1 : PS X st t) (h2 : PSs X rest u) : PSs X (st :: rest) (tSeq t u) := by
  intro pins s σ H D I h
  refine wpAny_execs_cons (thn (h1 pins s σ H { D with nx := u D } I h) fun f s1 q => ?_)
  cases f with
  | next =>
    obtain ⟨σ', H', I', q⟩ := q
    exact h2 pins s1 σ' H' D I' q
  | ret v => exact q
  | brk => exact q
  | cont => exact q
theorem pss_one (h1 : PS X st t) : PSs X [st] t := by
  intro pins s σ H D I h
  refine wpAny_execs_cons (thn (h1 pins s σ H D I h) fun f s1 q => ?_)
  cases f with
  | next => exact wpAny_execs_nil q
  | ret v => exact q
  | brk => exact q
  | cont => exact q
theorem Inv.quiet {pins : List (Addr × Obj)} {σ : St} {H : Hp} {s : Shared} (I : Inv X pins σ H s) : interactive X.env = false := by simp [interactive, I.ok.kind]
def tDrop (te : TE) : TS := fun D σ H => te σ H fun _ H1 => D.nx σ H1
theorem ps_expr (he : PE X e te) (hs : swapsWith e none pos.line X.env = pure false := by rfl) : PS X (.Expr e pos) (tDrop te) := by
  intro pins s σ H D I h
  exact wpAny_Expr_any (thn (he pins s σ H _ I h) fun v s1 ⟨x, H1, I1, r1, q1⟩ => ⟨σ, H1, I1, q1⟩) I.quiet hs
def tRet (te : TE) : TS := fun D σ H => te σ H D.rt
theorem ps_ret (he : PE X e te) : PS X (.Return (some e) pos) (tRet te) := by
  intro pins s σ H D I h
  exact wpAny_Return_some (thn (he pins s σ H _ I h) fun v s1 ⟨x, H1, I1, r1, q1⟩ => ⟨x, σ, H1, I1, r1, q1⟩)
def tIfS (c : TT) (t u : TS) : TS := fun D σ H => c σ H fun b H1 => if b = true then t D σ H1 else u D σ H1
theorem ps_if {c : Expr} {a b : List Stmt} {tc : TT} (hc : PT X c tc) (ha : PSs X a t) (hb : PSs X b u) : PS X (.If c a b pos) (tIfS tc t u) := by
  intro pins s σ H D I h
  refine wpAny_If (thn (hc pins s σ H _ I h) fun d s1 ⟨H1, I1, q1⟩ => ?_)
  cases d with
  | true => exact ha pins s1 σ H1 D I1 q1
  | false => exact hb pins s1 σ H1 D I1 q1
def tNever : TS := fun _ _ _ => False
theorem ps_never : PS X st tNever := fun _ _ _ _ _ _ h => h.elim
end

abbrev TG := V → St → Hp → (St → Hp → Prop) → Prop
abbrev TGs := List V → St → Hp → (St → Hp → Prop) → Prop
def PG (X : Cx) (target : Expr) (t : TG) : Prop :=
  ∀ (pins : List (Addr × Obj)) (s : Shared) (σ : St) (H : Hp) (v : V) (u : Value) (Q : St → Hp → Prop), Inv X pins σ H s → RelV v u → t v σ H Q →
    wpAny (model X.prog X.w) X.A (assign target X.env u) (fun _ s' => ∃ σ' H', Inv X pins σ' H' s' ∧ Q σ' H') X.xe s
def PGs (X : Cx) (ts : List Expr) (t : TGs) : Prop :=
  ∀ (pins : List (Addr × Obj)) (s : Shared) (σ : St) (H : Hp) (vs : List V) (us : List Value) (Q : St → Hp → Prop), Inv X pins σ H s → Vals vs us → t vs σ H Q →
    wpAny (model X.prog X.w) X.A (assignInOrder ((assignEach ts X.env).map (·.2)) us) (fun _ s' => ∃ σ' H', Inv X pins σ' H' s' ∧ Q σ' H') X.xe s
abbrev TIp := V → V → Hp → VK → Prop
def PIp (X : Cx) (op : Operator) (t : TIp) : Prop :=
  ∀ (pins : List (Addr × Obj)) (s : Shared) (σ : St) (H : Hp) (x y : V) (v u : Value) (Q : VK), Inv X pins σ H s → RelV x v → RelV y u → t x y H Q →
    wpAny (model X.prog X.w) X.A (inplaceOp op v u) (EP X pins σ Q) X.xe s
section
variable {X : Cx} {pos : Pos}
def gName (i : Nat) : TG := fun v σ H Q => Q (σ.set i (some v)) H
theorem pg_name {i : Nat} {x : Str} (hN : X.N.Nodup) (hi : X.N[i]? = some x) (hx : Loc X.env.scope x) (hf : X.fn x = true ∨ X.env.scope.names.lookup x = some .local := by first | exact .inl rfl | exact .inr rfl | assumption) : PG X (.Name x pos) (gName i) := by
  intro pins s σ H v u Q I r h
  exact wpAny_assign_Name (store_ok I hN hi hx r (fun s' I' => ⟨_, H, I', h⟩) hf)
def gNil : TGs := fun vs σ H Q => vs = [] ∧ Q σ H
def gCons (t : TG) (u : TGs) : TGs := fun vs σ H Q => ∃ v r, vs = v :: r ∧ t v σ H fun σ' H' => u r σ' H' Q
theorem pgs_nil : PGs X [] gNil := by
  intro pins s σ H vs us Q I r h
  obtain ⟨e, h⟩ := h
  subst e
  cases r
  exact assignInOrder_nil ⟨σ, H, I, h⟩
theorem pgs_cons {e : Expr} {es : List Expr} {t : TG} {u : TGs} (h1 : PG X e t) (h2 : PGs X es u)
    (hs : (assignEach (e :: es) X.env).map (·.2) = assign e X.env :: (assignEach es X.env).map (·.2) := by rfl) : PGs X (e :: es) (gCons t u) := by
  intro pins s σ H vs us Q I r h
  obtain ⟨v, vr, e1, h⟩ := h
  subst e1
  cases r with
  | cons r rr =>
    rw [hs]
    refine assignInOrder_cons (thn (h1 pins s σ H _ _ _ I r h) fun _ s1 ⟨σ1, H1, I1, q1⟩ => ?_)
    exact h2 pins s1 σ1 H1 _ _ Q I1 rr q1
def gTup (K : PySem.W.Frag) (n : Nat) (t : TGs) : TG := fun v σ H Q => ∃ a xs, v = .ref a ∧ SqT K H a xs ∧ xs.length = n ∧ t xs σ H Q
theorem pg_tup {es : List Expr} {k : Nat} {t : TGs} {n : Nat} (hc : X.calm = true) (h : PGs X es t)
    (hn : (assignEach es X.env).length = n := by rfl) (hst : (assignEach es X.env).findIdx? (·.1) = none := by rfl) : PG X (.Tuple es k pos) (gTup X.K n t) := by
  intro pins s σ H v u Q I r hw
  obtain ⟨a, xs, e1, hq, hl, hw⟩ := hw
  subst e1
  cases r
  obtain ⟨its, rv, ht, hz⟩ := I.tuple hq
  refine assign_Tuple_tuple (I.ok.hd hc) ht (by simp [hn, ← hl, rv.length]) hst fun h' hx => ?_
  have I1 : Inv X pins σ H { s with heap := h' } := I.kept (t' := s.toks) fun b o e => hx b o (Nat.ne_of_lt (Heap.lt_size e)) e
  exact h pins _ σ H xs _ Q I1 (by simpa using rv) hw
def tAsg (te : TE) (g : TG) : TS := fun D σ H => te σ H fun x H1 => g x σ H1 D.nx
theorem ps_asg {tg e : Expr} {te : TE} {g : TG} (he : PE X e te) (hg : PG X tg g) (hs : swapsWithSole [tg] e pos.line X.env = pure false := by rfl) (hw : swappedStores [tg] e X.env = pure none := by rfl)
    (h1 : (assignEach [tg] X.env).map (·.2) = [assign tg X.env] := by rfl) : PS X (.Assign [tg] e pos) (tAsg te g) := by
  intro pins s σ H D I h
  refine wpAny_Assign_stores (thn (he pins s σ H _ I h) fun v s1 ⟨x, H1, I1, r1, q1⟩ => ?_) hs hw
  rw [h1]
  exact thn (hg pins s1 σ H1 x v _ I1 r1 q1) fun _ s2 q => q
theorem ps_set {i : Nat} {x : Str} {e : Expr} {te : TE} {pos' : Pos} (hN : X.N.Nodup) (hi : X.N[i]? = some x) (hx : Loc X.env.scope x) (he : PE X e te) (hs : swapsWith e (some (.Name x pos')) pos.line X.env = pure false := by rfl) (hf : X.fn x = true ∨ X.env.scope.names.lookup x = some .local := by first | exact .inl rfl | exact .inr rfl | assumption) :
    PS X (.Assign [.Name x pos'] e pos) (tAsg te (gName i)) := by
  intro pins s σ H D I h
  refine wpAny_Assign_Name (thn (he pins s σ H _ I h) fun v s1 ⟨y, H1, I1, r1, q1⟩ => ?_) hs
  exact store_ok I1 hN hi hx r1 (fun s2 I2 => ⟨_, H1, I2, q1⟩) hf
def tAug (i : Nat) (te : TE) (ti : TIp) : TS := fun D σ H => ∃ x, σ[i]? = some (some x) ∧ te σ H fun y H1 => ti x y H1 fun z H2 => D.nx (σ.set i (some z)) H2
theorem ps_aug {i : Nat} {x : Str} {e : Expr} {te : TE} {op : Operator} {ti : TIp} {pos' : Pos} (hN : X.N.Nodup) (hi : X.N[i]? = some x) (hx : Loc X.env.scope x) (he : PE X e te) (ho : PIp X op ti) (hf : X.fn x = true ∨ X.env.scope.names.lookup x = some .local := by first | exact .inl rfl | exact .inr rfl | assumption) :
    PS X (.AugAssign (.Name x pos') op e pos) (tAug i te ti) := by
  intro pins s σ H D I h
  obtain ⟨v, e1, h⟩ := h
  obtain ⟨m, hn, hl⟩ := I.loc
  have vis : Vis X.env.scope x := by rcases hx with k | k; exact .inl k; exact .inr (.inl k)
  obtain ⟨u, r, l⟩ := hl i x v hi e1 vis
  refine wpAny_AugAssign_Name ?_
  have go : wpAny (model X.prog X.w) X.A (eval e X.env) (fun w s₂ => wpAny (model X.prog X.w) X.A (inplaceOp op u w) (fun r s₃ => wpAny (model X.prog X.w) X.A (storeName X.env x r) (fun _ => SP X pins D .next) X.xe s₃) X.xe s₂) X.xe s := by
    refine thn (he pins s σ H _ I h) fun w s1 ⟨y, H1, I1, r1, q1⟩ => ?_
    refine thn (ho pins s1 σ H1 v y u w _ I1 r r1 q1) fun z s2 ⟨zv, H2, I2, r2, q2⟩ => ?_
    exact store_ok I2 hN hi hx r2 (fun s3 I3 => ⟨_, H2, I3, q2⟩) hf
  rcases l with ⟨hk, hm⟩ | ⟨hk, c, hc, hcell⟩
  · exact wpAny_loadName_local I.ok.kind hk hn hm go
  · rcases hk with hk | hk
    · exact wpAny_loadName_cell I.ok.kind hk hc hcell go
    · rcases hx with k | k
      · have : X.env.scope.names.lookup x = some .free := hk
        rw [k] at this; cases this
      · have : X.env.scope.names.lookup x = some .free := hk
        rw [k] at this; cases this
def ipI (f : Int → Int → Int) : TIp := fun x y H Q => ∃ i j, x = .int i ∧ y = .int j ∧ Q (.int (f i j)) H
theorem ip_add : PIp X .Add (ipI fun i j => i + j) := by
  intro pins s σ H x y v u Q I r1 r2 h
  obtain ⟨i, j, e1, e2, q⟩ := h
  subst e1; subst e2
  obtain ⟨t, rfl⟩ := r1
  obtain ⟨t', rfl⟩ := r2
  exact iadd_int ⟨.int _, H, I.tok _, ⟨_, rfl⟩, q⟩
end

section
variable {X : Cx} {pos : Pos}
def tWhile (c : TT) (tb : TS) : TS := fun D σ H => ∃ W : Nat → St → Hp → Prop, (∃ m, W m σ H) ∧ ∀ m σ H, W m σ H →
  c σ H fun b H1 => if b = true then ∃ N : St → Hp → Prop, (∀ σ' H', N σ' H' → ∃ m', m' < m ∧ W m' σ' H') ∧ tb { D with nx := N, ct := N, bk := D.nx } σ H1 else D.nx σ H1
theorem ps_while {c : Expr} {body : List Stmt} {tc : TT} {tb : TS} (hp : PassesOwn (model X.prog X.w) X.A X.env X.xe) (hc : PT X c tc) (hb : PSs X body tb) : PS X (.While c body [] pos) (tWhile tc tb) := by
  intro pins s σ H D I h
  obtain ⟨W, ⟨m0, w0⟩, turn⟩ := h
  refine wpAny_While (codeAny_whileLoop (fun n s' => ∃ σ' H', Inv X pins σ' H' s' ∧ W n σ' H') ?_ m0 ⟨σ, H, I, w0⟩)
  rintro n s1 ⟨σ1, H1, I1, w1⟩
  refine wpAny_passesOwn hp (thn (hc pins s1 σ1 H1 _ I1 (turn n σ1 H1 w1)) fun b s2 ⟨H2, I2, q2⟩ => ?_)
  cases b with
  | true =>
    obtain ⟨N, hN, q2⟩ := q2
    rw [if_pos rfl]
    refine wpAny_passesOwn hp (thn (hb pins s2 σ1 H2 _ I2 q2) fun f s3 q3 => ?_)
    cases f with
    | next =>
      obtain ⟨σ3, H3, I3, n3⟩ := q3
      obtain ⟨m', hm, w3⟩ := hN σ3 H3 n3
      exact ⟨m', hm, σ3, H3, I3, w3⟩
    | cont =>
      obtain ⟨σ3, H3, I3, n3⟩ := q3
      obtain ⟨m', hm, w3⟩ := hN σ3 H3 n3
      exact ⟨m', hm, σ3, H3, I3, w3⟩
    | brk => exact q3
    | ret v => exact q3
  | false =>
    rw [if_neg Bool.false_ne_true]
    exact wpAny_execs_nil ⟨σ1, H2, I2, q2⟩
end

structure It where
  go : Nat → Hp → Prop
  yld : Nat → Hp → V → Hp → Prop
  stop : Nat → Hp → Prop
def FpOk (X : Cx) (pins : List (Addr × Obj)) (H : Hp) (b : Addr) : Prop :=
  H b = none ∧ b ≠ X.env.locals ∧ b ∉ X.fs ∧ (b ∈ X.ex ∨ X.s₀.heap.objs.size ≤ b) ∧ (∀ x c, X.env.cells.lookup x = some c → c ≠ b) ∧ ∀ p ∈ X.pn ++ pins, p.1 ≠ b
theorem Inv.fpOk {X : Cx} {pins : List (Addr × Obj)} {σ : St} {H H' : Hp} {s : Shared} {b : Addr} (I : Inv X pins σ H s) (hb : s.heap.objs.size ≤ b) (hn : H' b = none) : FpOk X pins H' b := by
  refine ⟨hn, Nat.ne_of_gt (Nat.lt_of_lt_of_le I.lt hb), I.nofs hb, .inr (Nat.le_trans I.sz hb), fun x c e z => ?_, fun p hp z => ?_⟩
  · obtain ⟨v, q⟩ := I.cell x c e
    exact absurd (Nat.lt_of_lt_of_le q.lt (by rw [z]; exact hb)) (Nat.lt_irrefl _)
  · exact absurd (Nat.lt_of_lt_of_le (Heap.lt_size (I.pin p hp).1) (by rw [z]; exact hb)) (Nat.lt_irrefl _)
structure Turn (P : Program) (w : World) (K : PySem.W.Frag) (tg : Expr) (J : It) (fp : List Addr) (it : Addr) (tn : Nat → Heap → Prop) : Prop where
  mem : it ∈ fp
  obj : ∀ i h, tn i h → ∀ b ∈ fp, ∃ o, h.get? b = some o ∧ ∀ v, o.data ≠ .cell v
  keep : ∀ i h h', tn i h → (∀ b ∈ fp, ∀ o, h.get? b = some o → h'.get? b = some o) → tn i h'
  item : ∀ (X : Cx), X.prog = P → X.w = w → X.K = K → X.calm = true → ∀ (i : Nat) (pins : List (Addr × Obj)) (s : Shared) (σ : St) (H : Hp) (E : Value → Shared → Prop), Inv X pins σ H s → (∀ b ∈ fp, FpOk X pins H b) → tn i s.heap → J.go i H →
    wpAny (model P w) X.A (pyNext (.ref it)) (fun r s1 => ∃ u, r = some u ∧
      wpAny (model P w) X.A (letOwnedTupleGo tg (.ref it) u) (fun _ s2 => ∃ x H', Inv X pins σ H' s2 ∧ RelV x u ∧ J.yld i H x H' ∧ tn (i + 1) s2.heap ∧ ∀ b ∈ fp, H' b = none) E s1) E s
  done : ∀ (X : Cx), X.prog = P → X.w = w → X.K = K → X.calm = true → ∀ (i : Nat) (pins : List (Addr × Obj)) (s : Shared) (σ : St) (H : Hp) (E : Value → Shared → Prop), Inv X pins σ H s → (∀ b ∈ fp, FpOk X pins H b) → tn i s.heap → J.stop i H →
    wpAny (model P w) X.A (pyNext (.ref it)) (fun r s1 => r = none ∧ Inv X pins σ H s1) E s
  self : ∀ (A : Around) (i : Nat) (s : Shared) (Q : Value → Shared → Prop) (E : Value → Shared → Prop), tn i s.heap → Q (.ref it) s → wpAny (model P w) A (pyIter (.ref it)) Q E s
abbrev TI := St → Hp → (It → Hp → Prop) → Prop
def PIE (X : Cx) (pins : List (Addr × Obj)) (σ : St) (tg : Expr) (R : It → Hp → Prop) (itv : Value) (s2 : Shared) : Prop :=
  ∃ (it : Addr) (fp : List Addr) (tn : Nat → Heap → Prop) (J : It) (H' : Hp), itv = .ref it ∧ Inv X pins σ H' s2 ∧ Turn X.prog X.w X.K tg J fp it tn ∧ tn 0 s2.heap ∧ (∀ b ∈ fp, FpOk X pins H' b) ∧ R J H'
def PI (X : Cx) (tg iter : Expr) (wi : TI) : Prop :=
  ∀ (pins : List (Addr × Obj)) (s : Shared) (σ : St) (H : Hp) (R : It → Hp → Prop), Inv X pins σ H s → wi σ H R →
    wpAny (model X.prog X.w) X.A (eval iter X.env) (fun v s1 => wpAny (model X.prog X.w) X.A (pyIter v) (PIE X pins σ tg R) X.xe s1) X.xe s

theorem go_of {M : Model} {A : Around} {E : Value → Shared → Prop} {s : Shared} {tg : Expr} {it : Addr} {u : Value} {o : Obj} {n : String} {vs : Array Value} {Q : Unit → Shared → Prop} (ho : s.heap.get? it = some o) (hc : o.cls = .type n) (hd : o.data = .fields vs)
    (hn : ["enumerate", "zip", "dict_itemiterator", "dict_reverseitemiterator", "odict_iterator", "itertools.zip_longest", "itertools.pairwise"].contains n = false) (hQ : Q () s) : wpAny M A (letOwnedTupleGo tg (.ref it) u) Q E s := by
  unfold letOwnedTupleGo
  cases tg <;> first
    | exact wpAny_pure hQ
    | (cases u <;> first
        | exact wpAny_pure hQ
        | (refine wpAny_bind (wpAny_load ho ?_)
           rw [hc, hd]
           show wpAny M A (if (["enumerate", "zip", "dict_itemiterator", "dict_reverseitemiterator", "odict_iterator", "itertools.zip_longest", "itertools.pairwise"].contains n && vs[0]? == some (rawInt _)) = true then _ else _) Q E s
           rw [if_neg (by intro h; rw [hn, Bool.false_and] at h; cases h)]
           exact wpAny_pure hQ))

def Itl (K : PySem.W.Frag) (a : Addr) : It :=
  ⟨fun i H => ∃ xs x, SqL K H a xs ∧ xs[i]? = some x, fun i H x H' => H' = H ∧ ∀ xs, SqL K H a xs → xs[i]? = some x, fun i H => ∃ xs, SqL K H a xs ∧ xs.length ≤ i⟩
def Itt (K : PySem.W.Frag) (a : Addr) : It :=
  ⟨fun i H => ∃ xs x, SqT K H a xs ∧ xs[i]? = some x, fun i H x H' => H' = H ∧ ∀ xs, SqT K H a xs → xs[i]? = some x, fun i H => ∃ xs, SqT K H a xs ∧ xs.length ≤ i⟩
def Itr (lo : Int) (n : Nat) : It := ⟨fun i _ => i < n, fun i H x H' => H' = H ∧ x = .int (lo + i), fun i _ => n ≤ i⟩
theorem turn_list {P : Program} {w : World} {K : PySem.W.Frag} {tg : Expr} (a it : Addr) : Turn P w K tg (Itl K a) [it] it (fun i h => h.IsListIter it a i) where
  mem := by simp
  obj := fun i h st b hb => by
    have e : b = it := by simpa using hb
    subst e
    obtain ⟨o, e, c, d⟩ := st
    exact ⟨o, e, fun v z => by rw [d] at z; cases z⟩
  keep := fun i h h' st k => st.at fun o e => k it (by simp) o e
  item := by
    intro X hP hw hK hc i pins s σ H E I hf st hg
    subst hP hw hK
    obtain ⟨xs, x, hq, hx⟩ := hg
    obtain ⟨its, rv, p, hz⟩ := I.list hq
    obtain ⟨u, hu, ru⟩ := rv.get hx
    obtain ⟨f0, f1, f2, f3, f4, f5⟩ := hf it (by simp)
    refine wpAny_pyNext_list_item st p.isList (x := u) (by simpa using hu) fun h' st' sb => ?_
    have I1 : Inv X pins σ H { s with heap := h' } := I.turned (t' := s.toks) (fun b o hb e => (sb.2 b hb).trans e) f0 f1 f3 f4 f5
    obtain ⟨o, e, c, d⟩ := id st'
    exact ⟨u, rfl, go_of (s := { s with heap := h' }) e c d (by decide) ⟨x, H, I1, ru, ⟨rfl, fun ys hy => by rw [I.list_inj hy hq]; exact hx⟩, st', fun b hb => (hf b hb).1⟩⟩
  done := by
    intro X hP hw hK hc i pins s σ H E I hf st hg
    subst hP hw hK
    obtain ⟨xs, hq, hx⟩ := hg
    obtain ⟨its, rv, p, hz⟩ := I.list hq
    obtain ⟨f0, f1, f2, f3, f4, f5⟩ := hf it (by simp)
    have hl := rv.length
    exact wpAny_pyNext_list_end (I.ok.hd hc) st p.isList (by simp; omega) fun h' eb => ⟨rfl, I.turned (t' := s.toks) (fun b o hb e => eb b o hb e) f0 f1 f3 f4 f5⟩
  self := fun _ _ _ _ _ st h => wpAny_pyIter_listiter st h
theorem turn_tuple {P : Program} {w : World} {K : PySem.W.Frag} {tg : Expr} (a it : Addr) : Turn P w K tg (Itt K a) [it] it (fun i h => h.IsTupleIter it a i) where
  mem := by simp
  obj := fun i h st b hb => by
    have e : b = it := by simpa using hb
    subst e
    obtain ⟨o, e, c, d⟩ := st
    exact ⟨o, e, fun v z => by rw [d] at z; cases z⟩
  keep := fun i h h' st k => st.at fun o e => k it (by simp) o e
  item := by
    intro X hP hw hK hc i pins s σ H E I hf st hg
    subst hP hw hK
    obtain ⟨xs, x, hq, hx⟩ := hg
    obtain ⟨its, rv, p, hz⟩ := I.tuple hq
    obtain ⟨u, hu, ru⟩ := rv.get hx
    obtain ⟨f0, f1, f2, f3, f4, f5⟩ := hf it (by simp)
    refine wpAny_pyNext_tuple_item st (show s.heap.IsTuple a its.toArray from p) (x := u) (by simpa using hu) fun h' st' sb => ?_
    have I1 : Inv X pins σ H { s with heap := h' } := I.turned (t' := s.toks) (fun b o hb e => (sb.2 b hb).trans e) f0 f1 f3 f4 f5
    obtain ⟨o, e, c, d⟩ := id st'
    exact ⟨u, rfl, go_of (s := { s with heap := h' }) e c d (by decide) ⟨x, H, I1, ru, ⟨rfl, fun ys hy => by rw [I.tuple_inj hy hq]; exact hx⟩, st', fun b hb => (hf b hb).1⟩⟩
  done := by
    intro X hP hw hK hc i pins s σ H E I hf st hg
    subst hP hw hK
    obtain ⟨xs, hq, hx⟩ := hg
    obtain ⟨its, rv, p, hz⟩ := I.tuple hq
    obtain ⟨f0, f1, f2, f3, f4, f5⟩ := hf it (by simp)
    have hl := rv.length
    exact wpAny_pyNext_tuple_end (I.ok.hd hc) st (show s.heap.IsTuple a its.toArray from p) (by simp; omega) fun h' eb => ⟨rfl, I.turned (t' := s.toks) (fun b o hb e => eb b o hb e) f0 f1 f3 f4 f5⟩
  self := fun _ _ _ _ _ st h => wpAny_pyIter_tupleiter st h
theorem turn_range {P : Program} {w : World} {K : PySem.W.Frag} {tg : Expr} (it : Addr) (lo : Int) (n : Nat) : Turn P w K tg (Itr lo n) [it] it (fun i h => IsRangeIter h it (lo + (i : Nat) * 1) ((n : Int) - (i : Nat)) 1) where
  mem := by simp
  obj := fun i h st b hb => by
    have e : b = it := by simpa using hb
    subst e
    exact ⟨_, st, fun v z => by
      have z' : Data.fields _ = Data.cell v := z
      cases z'⟩
  keep := fun i h h' st k => k it (by simp) _ st
  item := by
    intro X hP hw hK hc i pins s σ H E I hf st hg
    subst hP hw hK
    obtain ⟨f0, f1, f2, f3, f4, f5⟩ := hf it (by simp)
    have W := Walks.range (prog := X.prog) (w := X.w) (I.ok.hd hc) it lo 1 n
    refine W.item i s _ _ hg st fun v h' tk hv st' kk => ?_
    obtain ⟨t, rfl⟩ := hv
    have I1 : Inv X pins σ H { s with heap := h', toks := tk } := I.turned (fun b o hb e => kk b o (by simpa using hb) e) f0 f1 f3 f4 f5
    refine ⟨_, rfl, go_of (s := { s with heap := h', toks := tk }) (n := "range_iterator") st' rfl rfl (by decide) ⟨.int (lo + i), H, I1, ⟨t, ?_⟩, ⟨rfl, rfl⟩, st', fun b hb => (hf b hb).1⟩⟩
    rw [Int.mul_one]
  done := by
    intro X hP hw hK hc i pins s σ H E I hf st hg
    subst hP hw hK
    obtain ⟨f0, f1, f2, f3, f4, f5⟩ := hf it (by simp)
    exact wpAny_pyNext_range_end (I.ok.hd hc) st (by have : n ≤ i := hg; omega) fun h' eb => ⟨rfl, I.turned (t' := s.toks) (fun b o hb e => eb b o hb e) f0 f1 f3 f4 f5⟩
  self := fun _ _ _ _ _ st h => wpAny_pyIter_rangeiter st h
end L2

namespace L2
open PySem PySem.Spec PyProof.Rows
section
variable {X : Cx} {tg : Expr}
def iList (K : PySem.W.Frag) (tl : TE) : TI := fun σ H R => tl σ H fun x H1 => ∃ a, x = .ref a ∧ (∃ xs, SqL K H1 a xs) ∧ R (Itl K a) H1
def iTup (K : PySem.W.Frag) (tl : TE) : TI := fun σ H R => tl σ H fun x H1 => ∃ a, x = .ref a ∧ (∃ xs, SqT K H1 a xs) ∧ R (Itt K a) H1
theorem pi_list {l : Expr} {tl : TE} (hl : PE X l tl) : PI X tg l (iList X.K tl) := by
  intro pins s σ H R I h
  refine thn (hl pins s σ H _ I h) fun v s1 ⟨x, H1, I1, r1, q1⟩ => ?_
  obtain ⟨a, e, ⟨xs, hq⟩, q⟩ := q1
  subst e
  cases r1
  obtain ⟨its, rv, p, hz⟩ := I1.list hq
  refine wpAny_pyIter_list p.isList ?_
  refine ⟨s1.heap.objs.size, [s1.heap.objs.size], _, _, H1, rfl, I1.kept (t' := s1.toks) fun b o e => Heap.get?_push_of_some _ e, turn_list a _, ⟨_, Heap.get?_push_size _ rfl, rfl, rfl⟩, fun b hb => ?_, q⟩
  have e : b = s1.heap.objs.size := by simpa using hb
  subst e
  exact I1.fpOk (Nat.le_refl _) (I1.hok.fresh (Nat.le_refl _))
theorem pi_tup {l : Expr} {tl : TE} (hl : PE X l tl) : PI X tg l (iTup X.K tl) := by
  intro pins s σ H R I h
  refine thn (hl pins s σ H _ I h) fun v s1 ⟨x, H1, I1, r1, q1⟩ => ?_
  obtain ⟨a, e, ⟨xs, hq⟩, q⟩ := q1
  subst e
  cases r1
  obtain ⟨its, rv, p, hz⟩ := I1.tuple hq
  refine wpAny_pyIter_tuple (show s1.heap.IsTuple a its.toArray from p) ?_
  refine ⟨s1.heap.objs.size, [s1.heap.objs.size], _, _, H1, rfl, I1.kept (t' := s1.toks) fun b o e => Heap.get?_push_of_some _ e, turn_tuple a _, ⟨_, Heap.get?_push_size _ rfl, rfl, rfl⟩, fun b hb => ?_, q⟩
  have e : b = s1.heap.objs.size := by simpa using hb
  subst e
  exact I1.fpOk (Nat.le_refl _) (I1.hok.fresh (Nat.le_refl _))
theorem range_it {pins : List (Addr × Obj)} {σ : St} {H : Hp} {s : Shared} {R : It → Hp → Prop} {E : Value → Shared → Prop} {lo hi : Int} {t u v : Tok} {tk : Nat} (I : Inv X pins σ H s) (h1 : -(2 ^ 62) ≤ lo) (h2 : lo < 2 ^ 62) (h3 : -(2 ^ 62) ≤ hi) (h4 : hi < 2 ^ 62)
    (q : R (Itr lo (hi - lo).toNat) H) : wpAny (model X.prog X.w) X.A (pyIter (.ref s.heap.objs.size)) (PIE X pins σ tg R) E { s with heap := s.heap.push { cls := .type "range", data := .fields #[.int lo t, .int hi u, .int 1 v] }, toks := tk } := by
  refine wpAny_pyIter_range (IsRange.new ..) (small_one h1 h2 h3 h4) ?_
  have I1 : Inv X pins σ H { s with heap := s.heap.push { cls := .type "range", data := .fields #[.int lo t, .int hi u, .int 1 v] }, toks := tk } := I.kept fun b o e => Heap.get?_push_of_some _ e
  refine ⟨(s.heap.push { cls := .type "range", data := .fields #[.int lo t, .int hi u, .int 1 v] }).objs.size, [(s.heap.push { cls := .type "range", data := .fields #[.int lo t, .int hi u, .int 1 v] }).objs.size], _, _, H, rfl,
    I1.kept (t' := tk) fun b o e => Heap.get?_push_of_some _ e, turn_range _ lo (hi - lo).toNat, ?_, fun b hb => ?_, q⟩
  · have e1 : lo + ((0 : Nat) : Int) * 1 = lo := by simp
    have e2 : (((hi - lo).toNat : Nat) : Int) - ((0 : Nat) : Int) = Builtin.Range.rangeSize lo hi 1 := by rw [rangeSize_one]; split <;> omega
    show IsRangeIter _ _ (lo + ((0 : Nat) : Int) * 1) ((((hi - lo).toNat : Nat) : Int) - ((0 : Nat) : Int)) 1
    rw [e1, e2]
    exact Heap.get?_push_size _ rfl
  · have e : b = (s.heap.push { cls := .type "range", data := .fields #[.int lo t, .int hi u, .int 1 v] }).objs.size := by simpa using hb
    subst e
    exact I1.fpOk (Nat.le_refl _) (I1.hok.fresh (Nat.le_refl _))
def iRng1 (ta : TA) : TI := fun σ H R => ta σ H fun vs H1 => ∃ j : Int, vs = [.int j] ∧ -(2 ^ 62) ≤ j ∧ j < 2 ^ 62 ∧ R (Itr 0 j.toNat) H1
theorem pi_range1 {a : Expr} {ta : TA} {p pos : Pos} (hg : Gl X "range") (hm : X.mg "range" = none) (ha : PA X [a] ta) (hs : starEach [a] X.env = [(false, eval a X.env)] := by rfl) : PI X tg (.Call (.Name "range" p) [a] [] pos) (iRng1 ta) := by
  intro pins s σ H R I h
  refine Call_ (ld_blt I hg hm boot_range (PyProof.Rows.callWith_type1 (thn (ha pos pins s σ H _ I h) fun us s1 ⟨vs, H1, I1, r1, q1⟩ => ?_) hs rfl))
  obtain ⟨j, e, q1, q2, q⟩ := q1
  subst e
  cases r1 with
  | cons r rr =>
    cases rr
    obtain ⟨t, rfl⟩ := r
    exact call_range_1 (range_it I1 (by omega) (by omega) q1 q2 (by simpa using q))
def tFor (wi : TI) (g : TG) (tb : TS) : TS := fun D σ H => wi σ H fun J H1 => ∃ W : Nat → Nat → St → Hp → Prop, (∃ m, W 0 m σ H1) ∧ ∀ i m σ H, W i m σ H →
  (J.stop i H ∧ D.nx σ H) ∨ (J.go i H ∧ ∃ N : St → Hp → Prop, (∀ σ' H', N σ' H' → ∃ m', m' < m ∧ W (i + 1) m' σ' H') ∧ ∀ x H', J.yld i H x H' → g x σ H' fun σ2 H2 => tb { D with nx := N, ct := N, bk := D.nx } σ2 H2)
def pinsAt (fp : List Addr) (h : Heap) : List (Addr × Obj) := fp.filterMap fun b => (h.get? b).map fun o => (b, o)
theorem mem_pinsAt {fp : List Addr} {h : Heap} {b : Addr} {o : Obj} (hb : b ∈ fp) (e : h.get? b = some o) : (b, o) ∈ pinsAt fp h := List.mem_filterMap.mpr ⟨b, hb, by rw [e]; rfl⟩
theorem of_pinsAt {fp : List Addr} {h : Heap} {p : Addr × Obj} (hp : p ∈ pinsAt fp h) : p.1 ∈ fp ∧ h.get? p.1 = some p.2 := by
  obtain ⟨b, hb, e⟩ := List.mem_filterMap.mp hp
  cases q : h.get? b with
  | none => rw [q] at e; cases e
  | some o =>
    rw [q] at e
    have e' : (b, o) = p := Option.some.inj e
    subst e'
    exact ⟨hb, q⟩
theorem Inv.pinned {pins : List (Addr × Obj)} {σ : St} {H : Hp} {s : Shared} {fp : List Addr} (I : Inv X pins σ H s) (hf : ∀ b ∈ fp, FpOk X pins H b) (ho : ∀ b ∈ fp, ∃ o, s.heap.get? b = some o ∧ ∀ v, o.data ≠ .cell v) : Inv X (pins ++ pinsAt fp s.heap) σ H s :=
  I.pins_of fun p hp => (List.mem_append.mp hp).elim (fun z => I.pin p (List.mem_append_right _ z)) fun z => by
    obtain ⟨hb, e⟩ := of_pinsAt z
    obtain ⟨f0, f1, f2, _⟩ := hf p.1 hb
    obtain ⟨o, e', d⟩ := ho p.1 hb
    rw [e] at e'; cases e'
    exact ⟨e, f0, f1, f2, d⟩
theorem Inv.unpinned {pins pl : List (Addr × Obj)} {σ : St} {H : Hp} {s : Shared} (I : Inv X (pins ++ pl) σ H s) : Inv X pins σ H s := I.pins_of fun p hp => I.pin p (List.mem_append_right _ (List.mem_append_left _ hp))
theorem ps_for {iter : Expr} {body : List Stmt} {wi : TI} {g : TG} {tb : TS} {pos : Pos} (hp : PassesOwn (model X.prog X.w) X.A X.env X.xe) (hc : X.calm = true) (hi : PI X tg iter wi) (hg : PG X tg g) (hb : PSs X body tb)
    (hs : ∀ x, foldedSetIterable iter X.env x = pure x := by intro _; rfl) : PS X (.For tg iter body [] pos) (tFor wi g tb) := by
  intro pins s σ H D I h
  refine wpAny_For (thn (hi pins s σ H _ I h) fun v s1 h1 => thn h1 fun itv s2 h2 => ?_) hs
  obtain ⟨it, fp, tn, J, H2, e, I2, T, st2, f2, W, ⟨m0, w0⟩, turn⟩ := h2
  subst e
  -- what stays true of the iterator's objects through the loop
  have stat : ∀ {H' : Hp}, (∀ b ∈ fp, H' b = none) → ∀ b ∈ fp, FpOk X pins H' b := fun hn b hb => ⟨hn b hb, (f2 b hb).2⟩
  refine codeAny_forLoop_any (fun n s' => ∃ i σ' H', Inv X pins σ' H' s' ∧ tn i s'.heap ∧ (∀ b ∈ fp, H' b = none) ∧ W i n σ' H') ?_ m0 ⟨0, σ, H2, I2, st2, fun b hb => (f2 b hb).1, w0⟩
  rintro n s3 ⟨i, σ3, H3, I3, st3, fr3, w3⟩
  rcases turn i n σ3 H3 w3 with ⟨stop, qn⟩ | ⟨go, N, hN, step⟩
  · refine wpAny_passesOwn hp (thn (T.done X rfl rfl rfl hc i pins s3 σ3 H3 X.xe I3 (stat fr3) st3 stop) fun r s4 ⟨hr, I4⟩ => ?_)
    subst hr
    exact wpAny_execs_nil ⟨σ3, H3, I4, qn⟩
  · refine wpAny_passesOwn hp (thn (T.item X rfl rfl rfl hc i pins s3 σ3 H3 X.xe I3 (stat fr3) st3 go) fun r s4 ⟨u, hr, h4⟩ => ?_)
    subst hr
    refine wpAny_passesOwn hp (thn h4 fun _ s5 ⟨x, H5, I5, r5, y5, st5, fr5⟩ => ?_)
    have I5' := I5.pinned (stat fr5) (T.obj _ _ st5)
    refine wpAny_passesOwn hp (thn (hg _ s5 σ3 H5 x u _ I5' r5 (step x H5 y5)) fun _ s6 ⟨σ6, H6, I6, q6⟩ => ?_)
    refine wpAny_passesOwn hp (thn (hb _ s6 σ6 H6 _ I6 q6) fun f s7 q7 => ?_)
    have again : ∀ {σ7 : St} {H7 : Hp}, Inv X (pins ++ pinsAt fp s5.heap) σ7 H7 s7 → N σ7 H7 → ∃ m, m < n ∧ ∃ i σ' H', Inv X pins σ' H' s7 ∧ tn i s7.heap ∧ (∀ b ∈ fp, H' b = none) ∧ W i m σ' H' := fun {σ7 H7} I7 n7 => by
      obtain ⟨m', hm, w7⟩ := hN σ7 H7 n7
      refine ⟨m', hm, i + 1, σ7, H7, I7.unpinned, T.keep _ _ _ st5 fun b hb o e => (I7.pin (b, o) (List.mem_append_right _ (List.mem_append_right _ (mem_pinsAt hb e)))).1, fun b hb => ?_, w7⟩
      obtain ⟨o, e, d⟩ := T.obj _ _ st5 b hb
      exact (I7.pin (b, o) (List.mem_append_right _ (List.mem_append_right _ (mem_pinsAt hb e)))).2.1
    cases f with
    | next => obtain ⟨σ7, H7, I7, n7⟩ := q7; exact again I7 n7
    | cont => obtain ⟨σ7, H7, I7, n7⟩ := q7; exact again I7 n7
    | brk => obtain ⟨σ7, H7, I7, q7⟩ := q7; exact ⟨σ7, H7, I7.unpinned, q7⟩
    | ret v => obtain ⟨x7, σ7, H7, I7, r7, q7⟩ := q7; exact ⟨x7, σ7, H7, I7.unpinned, r7, q7⟩
end

end L2

namespace L2
open PySem PySem.Spec PyProof.Rows

abbrev R2 := V → V → Hp → VK → Prop
def OpR (X : Cx) (f : Value → Value → Sem Value) (r : R2) : Prop :=
  ∀ (pins : List (Addr × Obj)) (s : Shared) (σ : St) (H : Hp) (x y : V) (v u : Value) (Q : VK), Inv X pins σ H s → RelV x v → RelV y u → r x y H Q →
    wpAny (model X.prog X.w) X.A (f v u) (EP X pins σ Q) X.xe s
def UnR (X : Cx) (f : Value → Sem Value) (r : V → Hp → VK → Prop) : Prop :=
  ∀ (pins : List (Addr × Obj)) (s : Shared) (σ : St) (H : Hp) (x : V) (v : Value) (Q : VK), Inv X pins σ H s → RelV x v → r x H Q →
    wpAny (model X.prog X.w) X.A (f v) (EP X pins σ Q) X.xe s
def CallR (X : Cx) (f : Value) (r : List V → Hp → VK → Prop) : Prop :=
  ∀ (pins : List (Addr × Obj)) (s : Shared) (σ : St) (H : Hp) (xs : List V) (us : List Value) (Q : VK), Inv X pins σ H s → Vals xs us → r xs H Q →
    wpAny (model X.prog X.w) X.A (call f us) (EP X pins σ Q) X.xe s
def tOp (r : R2) (ta tb : TE) : TE := fun σ H Q => ta σ H fun x H1 => tb σ H1 fun y H2 => r x y H2 Q
def tUn (r : V → Hp → VK → Prop) (ta : TE) : TE := fun σ H Q => ta σ H fun x H1 => r x H1 Q
def rI (C : Int → Int → Prop) (g : Int → Int → V) : R2 := fun x y H Q => ∃ i j, x = .int i ∧ y = .int j ∧ C i j ∧ Q (g i j) H
def rI0 (g : Int → Int → V) : R2 := fun x y H Q => ∃ i j, x = .int i ∧ y = .int j ∧ Q (g i j) H
def rU (g : Int → V) : V → Hp → VK → Prop := fun x H Q => ∃ i, x = .int i ∧ Q (g i) H

section
variable {X : Cx} {a b c : Expr} {ta tb tc : TE} {pos : Pos}

theorem binT (ha : PE X a ta) (hb : PE X b tb) {pins : List (Addr × Obj)} {s : Shared} {σ : St} {H : Hp} {R : V → V → Hp → Prop} (I : Inv X pins σ H s)
    (h : ta σ H fun x H1 => tb σ H1 fun y H2 => R x y H2) {Q : Value → Shared → Prop} {f : Value → Value → Sem Value}
    (hf : ∀ v u s2 x y H2, Inv X pins σ H2 s2 → RelV x v → RelV y u → R x y H2 → wpAny (model X.prog X.w) X.A (f v u) Q X.xe s2) :
    wpAny (model X.prog X.w) X.A (eval a X.env) (fun v s₁ => wpAny (model X.prog X.w) X.A (eval b X.env) (fun u s₂ => wpAny (model X.prog X.w) X.A (f v u) Q X.xe s₂) X.xe s₁) X.xe s := by
  refine thn (ha pins s σ H _ I h) fun v s1 ⟨x, H1, I1, r1, q1⟩ => ?_
  refine thn (hb pins s1 σ H1 _ I1 q1) fun u s2 ⟨y, H2, I2, r2, q2⟩ => ?_
  exact hf v u s2 x y H2 I2 r1 r2 q2

theorem pe_op {op : Operator} {r : R2} (ho : OpR X (binaryOp op) r) (ha : PE X a ta) (hb : PE X b tb) : PE X (.BinOp a op b pos) (tOp r ta tb) := by
  intro pins s σ H Q I h
  exact wpAny_BinOp (binT ha hb I h fun v u s2 x y H2 I2 rx ry q => ho pins s2 σ H2 x y v u Q I2 rx ry q)
theorem pe_un {op : UnaryOp} {r : V → Hp → VK → Prop} (ho : UnR X (unaryOp op) r) (ha : PE X a ta) : PE X (.UnaryOp op a pos) (tUn r ta) := by
  intro pins s σ H Q I h
  exact UnaryOp_ (thn (ha pins s σ H _ I h) fun v s1 ⟨x, H1, I1, r1, q1⟩ => ho pins s1 σ H1 x v Q I1 r1 q1)
theorem opI {f : Value → Value → Sem Value} {C : Int → Int → Prop} {g : Int → Int → Int}
    (rule : ∀ (i j : Int) (t u : Tok) (s : Shared) (Q : Value → Shared → Prop) (E : Value → Shared → Prop), C i j → Q (.int (g i j) s.toks) { s with toks := s.toks + 1 } → wpAny (model X.prog X.w) X.A (f (.int i t) (.int j u)) Q E s) :
    OpR X f (rI C fun i j => .int (g i j)) := by
  intro pins s σ H x y v u Q I rx ry h
  obtain ⟨i, j, rfl, rfl, hc, q⟩ := h
  obtain ⟨t, rfl⟩ := rx
  obtain ⟨t', rfl⟩ := ry
  exact rule i j t t' s _ _ hc ⟨.int (g i j), H, I.tok _, ⟨_, rfl⟩, q⟩
theorem opI0 {f : Value → Value → Sem Value} {g : Int → Int → Int}
    (rule : ∀ (i j : Int) (t u : Tok) (s : Shared) (Q : Value → Shared → Prop) (E : Value → Shared → Prop), Q (.int (g i j) s.toks) { s with toks := s.toks + 1 } → wpAny (model X.prog X.w) X.A (f (.int i t) (.int j u)) Q E s) :
    OpR X f (rI0 fun i j => .int (g i j)) := by
  intro pins s σ H x y v u Q I rx ry h
  obtain ⟨i, j, rfl, rfl, q⟩ := h
  obtain ⟨t, rfl⟩ := rx
  obtain ⟨t', rfl⟩ := ry
  exact rule i j t t' s _ _ ⟨.int (g i j), H, I.tok _, ⟨_, rfl⟩, q⟩
theorem opB0 {f : Value → Value → Sem Value} {g : Int → Int → Bool}
    (rule : ∀ (i j : Int) (t u : Tok) (s : Shared) (Q : Value → Shared → Prop) (E : Value → Shared → Prop), Q (.bool (g i j)) s → wpAny (model X.prog X.w) X.A (f (.int i t) (.int j u)) Q E s) :
    OpR X f (rI0 fun i j => .bl (g i j)) := by
  intro pins s σ H x y v u Q I rx ry h
  obtain ⟨i, j, rfl, rfl, q⟩ := h
  obtain ⟨t, rfl⟩ := rx
  obtain ⟨t', rfl⟩ := ry
  exact rule i j t t' s _ _ ⟨.bl (g i j), H, I, rfl, q⟩

def CPow (i j : Int) : Prop := 0 ≤ j ∧ j ≤ 1000000 ∧ i.natAbs < 2 ^ 64
theorem op_add : OpR X (binaryOp .Add) (rI0 fun i j => .int (i + j)) := opI0 fun _ _ _ _ _ _ _ q => add_int q
theorem op_sub : OpR X (binaryOp .Sub) (rI0 fun i j => .int (i - j)) := opI0 fun _ _ _ _ _ _ _ q => sub_int q
theorem op_modN : OpR X (binaryOp .Mod) (rI (fun _ j => j ≠ 0) fun i j => .int (i.fmod j)) := opI fun _ _ _ _ _ _ _ hc q => mod_int' hc q
theorem op_pow : OpR X (binaryOp .Pow) (rI CPow fun i j => .int (i ^ j.toNat)) := opI fun _ _ _ _ _ _ _ hc q => pow_int_small hc.1 hc.2.1 hc.2.2 q
theorem op_shl : OpR X (binaryOp .LShift) (rI CPow fun i j => .int (i * 2 ^ j.toNat)) := opI fun _ _ _ _ _ _ _ hc q => lshift_int_small hc.1 hc.2.1 hc.2.2 q
theorem unI {f : Value → Sem Value} {g : Int → Int}
    (rule : ∀ (i : Int) (t : Tok) (s : Shared) (Q : Value → Shared → Prop) (E : Value → Shared → Prop), Q (.int (g i) s.toks) { s with toks := s.toks + 1 } → wpAny (model X.prog X.w) X.A (f (.int i t)) Q E s) :
    UnR X f (rU fun i => .int (g i)) := by
  intro pins s σ H x v Q I rx h
  obtain ⟨i, rfl, q⟩ := h
  obtain ⟨t, rfl⟩ := rx
  exact rule i t s _ _ ⟨.int (g i), H, I.tok _, ⟨_, rfl⟩, q⟩
theorem un_neg : UnR X (unaryOp .USub) (rU fun i => .int (-i)) := unI fun _ _ _ _ _ q => neg_int q
end

section
variable {X : Cx} {a b c : Expr} {ta tb tc : TE} {pos : Pos}
theorem op_lt : OpR X (compareOp .Lt) (rI0 fun i j => .bl (decide (i < j))) := opB0 fun _ _ _ _ _ _ _ q => lt_int q
theorem op_le : OpR X (compareOp .LtE) (rI0 fun i j => .bl (decide (i ≤ j))) := opB0 fun _ _ _ _ _ _ _ q => le_int q
theorem op_gt : OpR X (compareOp .Gt) (rI0 fun i j => .bl (decide (j < i))) := opB0 fun _ _ _ _ _ _ _ q => gt_int q
theorem nomark (b : Expr) {op : CmpOp} (h : op ≠ .In := by decide) (h2 : op ≠ .NotIn := by decide) : behindInMarks op b = false := by
  have e1 : (op == CmpOp.In) = false := by cases op <;> first | rfl | exact absurd rfl h
  have e2 : (op == CmpOp.NotIn) = false := by cases op <;> first | rfl | exact absurd rfl h2
  cases b <;> simp [behindInMarks, e1, e2]
theorem pe_cmpR {op : CmpOp} {r : R2} (ho : OpR X (compareOp op) r) (ha : PE X a ta) (hb : PE X b tb) (hm : behindInMarks op b = false) : PE X (.Compare a [op] [b] pos) (tOp r ta tb) := by
  intro pins s σ H Q I h
  exact wpAny_Compare1 (binT ha hb I h fun v u s2 x y H2 I2 rx ry q => ho pins s2 σ H2 x y v u Q I2 rx ry q) hm
def tTest (t : TE) : TT := fun σ H Q => t σ H fun x H' => ∃ k, x = .bl k ∧ Q k H'
theorem pt_cmpR {op : CmpOp} {r : R2} (ho : OpR X (compareOp op) r) (ha : PE X a ta) (hb : PE X b tb) (hm : behindInMarks op b = false) : PT X (.Compare a [op] [b] pos) (tTest (tOp r ta tb)) := by
  intro pins s σ H Q I h
  refine wpAny_isTrue_Compare1 (thn (ha pins s σ H _ I h) fun v s1 ⟨x, H1, I1, r1, q1⟩ => thn (hb pins s1 σ H1 _ I1 q1) fun u s2 ⟨y, H2, I2, r2, q2⟩ =>
    thn (ho pins s2 σ H2 x y v u _ I2 r1 r2 q2) fun c s3 ⟨z, H3, I3, r3, k, e, q3⟩ => ?_) hm
  subst e
  cases r3
  exact wpAny_truthy_bool ⟨H3, I3, q3⟩
def tChain (r r' : R2) (ta tb tc : TE) : TE := fun σ H Q => ta σ H fun x H1 => tb σ H1 fun y H2 => r x y H2 fun z H3 => ∃ k, z = .bl k ∧
  (if k = true then tc σ H3 fun w' H4 => r' y w' H4 Q else Q (.bl false) H3)
theorem pe_chain {op op' : CmpOp} {r r' : R2} (ho : OpR X (compareOp op) r) (ho' : OpR X (compareOp op') r') (ha : PE X a ta) (hb : PE X b tb) (hc : PE X c tc)
    (hm : lastMarks [op, op'] [b, c] = false := by with_unfolding_all rfl) : PE X (.Compare a [op, op'] [b, c] pos) (tChain r r' ta tb tc) := by
  intro pins s σ H Q I h
  refine Compare_chain (thn (ha pins s σ H _ I h) fun v s1 ⟨x, H1, I1, r1, q1⟩ => chain_link (thn (hb pins s1 σ H1 _ I1 q1) fun u s2 ⟨y, H2, I2, r2, q2⟩ =>
    thn (ho pins s2 σ H2 x y v u _ I2 r1 r2 q2) fun d s3 ⟨z, H3, I3, r3, k, e, q3⟩ => ?_)) hm
  subst e
  cases r3
  refine wpAny_truthy_bool ?_
  cases k with
  | false => exact ite_ff ⟨.bl false, H3, I3, rfl, q3⟩
  | true => exact ite_tt (chain_last (thn (hc pins s3 σ H3 _ I3 q3) fun w' s4 ⟨z', H4, I4, r4, q4⟩ => ho' pins s4 σ H4 y z' u w' Q I4 r2 r4 q4))
theorem line63 : (sizeLine : Nat) < 2 ^ 63 := by rw [sizeLine_eq]; decide
theorem vals1 {x : V} {us : List Value} (r : Vals [x] us) : ∃ u, us = [u] ∧ RelV x u := by
  cases r with
  | cons r1 r2 => cases r2; exact ⟨_, rfl, r1⟩
theorem vals2 {x y : V} {us : List Value} (r : Vals [x, y] us) : ∃ u w', us = [u, w'] ∧ RelV x u ∧ RelV y w' := by
  cases r with
  | cons r1 r2 =>
    cases r2 with
    | cons r3 r4 => cases r4; exact ⟨_, _, rfl, r1, r3⟩
theorem call_abs : CallR X (.builtin "abs") (fun xs H Q => ∃ i, xs = [.int i] ∧ Q (.int (if i < 0 then -i else i)) H) := by
  intro pins s σ H xs us Q I r h
  obtain ⟨i, rfl, q⟩ := h
  obtain ⟨u, rfl, t, rfl⟩ := vals1 r
  exact call_abs_int fun u tk => ⟨.int (if i < 0 then -i else i), H, I.tok _, ⟨_, rfl⟩, q⟩
theorem call_max2 (hc : X.calm = true) : CallR X (.builtin "max") (fun xs H Q => ∃ i j, xs = [.int i, .int j] ∧ Q (.int (if j > i then j else i)) H) := by
  intro pins s σ H xs us Q I r h
  obtain ⟨i, j, rfl, q⟩ := h
  obtain ⟨u, w', rfl, ⟨t, rfl⟩, ⟨t', rfl⟩⟩ := vals2 r
  refine max_two_ints (I.ok.hd hc) fun h' tk k => ⟨_, H, I.kept k, ?_, q⟩
  by_cases hj : j > i
  · rw [if_pos hj, if_pos hj]; exact ⟨_, rfl⟩
  · rw [if_neg hj, if_neg hj]; exact ⟨_, rfl⟩
theorem call_int1 : CallR X (.type "int") (fun xs H Q => (∃ i, xs = [.int i] ∧ Q (.int i) H) ∨ ∃ k, xs = [.bl k] ∧ Q (.int (if k then 1 else 0)) H) := by
  intro pins s σ H xs us Q I r h
  rcases h with ⟨i, rfl, q⟩ | ⟨k, rfl, q⟩
  · obtain ⟨u, rfl, t, rfl⟩ := vals1 r
    exact call_int_int ⟨.int i, H, I, ⟨_, rfl⟩, q⟩
  · obtain ⟨u, rfl, r1⟩ := vals1 r
    cases r1
    exact call_int_bool ⟨.int (if k then 1 else 0), H, I.tok _, ⟨_, rfl⟩, q⟩
end
end L2

namespace L2
open PySem PySem.Spec PyProof.Rows

theorem lookIn_ns {h : Heap} {dx : Addr} {mA : Str → Option Value} (n : h.Ns1 dx mA) : ∃ od, h.get? dx = some od ∧ ∀ name, PySem.W.lookIn name od = some (mA name) := by
  obtain ⟨o, es, ep, ho, hd, hk, _, hm⟩ := n
  refine ⟨o, ho, fun name => ?_⟩
  have e := hm name
  unfold nsFind findBy at e
  rw [← Array.find?_toList] at e
  unfold PySem.W.lookIn
  rw [hd]
  dsimp only
  split
  · rename_i y q
    rw [q] at e
    exact congrArg some e
  · rename_i q
    rw [q] at e
    have a : es.toList.any (·.refKey) = false := by
      rw [List.any_eq_false]
      intro y hy
      obtain ⟨z, t, hkey⟩ := hk y (Array.mem_toList_iff.mp hy)
      simp [DictEntry.refKey, hkey]
    have a' : ¬ es.toList.any (·.refKey) = true := by rw [a]; exact Bool.false_ne_true
    rw [if_neg a']
    exact congrArg some e

section
variable {prog : Program} {w : World} {A : Around} {E : Value → Shared → Prop} {s : Shared} {K : PySem.W.Frag} {x dx C f : Addr} {mA : Str → Option Value} {name : Str} {v : Value}

end

theorem RelO.some_of {v : V} {o : Option Value} (r : RelO (some v) o) : ∃ u, o = some u ∧ RelV v u := by
  cases o with
  | none => exact (show False from r).elim
  | some u => exact ⟨u, rfl, r⟩
theorem handed_of {v : V} {u : Value} (r : RelV v u) : PySem.W.handedIn u = true := by
  cases v with
  | non => cases (show u = Value.none from r); rfl
  | bl b => cases (show u = Value.bool b from r); rfl
  | int i => obtain ⟨t, e⟩ := (show ∃ t, u = Value.int i t from r); cases e; rfl
  | str x => obtain ⟨t, e⟩ := (show ∃ t, u = Value.str x t from r); cases e; rfl
  | byt b => obtain ⟨t, e⟩ := (show ∃ t, u = Value.bytes b t from r); cases e; rfl
  | flt b => obtain ⟨t, e⟩ := (show ∃ t, u = Value.float b t from r); cases e; rfl
  | ref a => cases (show u = Value.ref a from r); rfl
  | ty n => cases (show u = Value.type n from r); rfl

section
variable {P : Program} {w : World} {H H' : Hp} {h h' : Heap} {a C dx : Addr} {fs fs' : List (Str × V)}
end

structure Cls (K : PySem.W.Frag) (C : Addr) : Prop where
  pg : PySem.W.plainGet K C Str.empty = true
  hd : PySem.W.hasDictIn K C = true
  po : PySem.W.plainOver K C = true
  sa : PySem.W.findIn K (.ref C) "__setattr__" = some (some (.builtin "object.__setattr__"))
section
variable {X : Cx} {pins : List (Addr × Obj)} {σ : St} {H : Hp} {s : Shared} {a C dx : Addr} {fs : List (Str × V)} {f : Str} {v : V} {A : Around} {E : Value → Shared → Prop}

theorem attr_of {prog : Program} {w : World} {env : Env} {e : Expr} {f : Str} {pos : Pos} {s : Shared} {Q : Value → Shared → Prop} (hb : attributeBase e f env (eval e env) = eval e env)
    (h : wpAny (model prog w) A (eval e env) (fun o s₁ => wpAny (model prog w) A (getAttr o f true) Q E s₁) E s) : wpAny (model prog w) A (eval (.Attribute e f pos) env) Q E s :=
  Attribute_any_ h (by rw [arm_eval_Attribute, hb])
end

section
variable {X : Cx} {o e value : Expr} {f : Str} {pos pos' tpos : Pos} {ta tv : TE}
end

section
variable {X : Cx} {pins : List (Addr × Obj)} {σ : St} {H : Hp} {s : Shared} {A : Around} {E : Value → Shared → Prop} {Q : Value → Shared → Prop} {c : Value} {b : Bool}
end
end L2

namespace L2
open PySem PySem.Spec PyProof.Rows

structure Room (k : Nat) (A : Around) : Prop where
  hd : A.handled = none
  dp : A.depth + 3 * k + 5 < recursionLimit
  un : A.units + 16 * k + 200 < cLine
theorem Room.mono {j k : Nat} {A : Around} (r : Room k A) (h : j ≤ k) : Room j A := ⟨r.hd, by have := r.dp; omega, by have := r.un; omega⟩
theorem Room.deeper {k : Nat} {A : Around} (r : Room (k + 1) A) (env : Env) : Room k (A.deeper env) :=
  ⟨r.hd, by have := r.dp; show A.depth + 1 + 3 * k + 5 < _; omega, by have := r.un; show A.units + 3 + 16 * k + 200 < _; omega⟩
theorem make_depth {A : Around} {C : Addr} {us : List Value} {kw : List (Str × Value)} : (A.under (.builtin "type.__call__" ⟨.ref C :: us, kw⟩)).depth = A.depth + 1 := by
  first | rfl | simp [Around.under, Code.weight, Code.isCreation, Code.isGuard, Code.isCaller, Code.frames, Code.isFrame, guardIds]
theorem make_units {A : Around} {C : Addr} {us : List Value} {kw : List (Str × Value)} : (A.under (.builtin "type.__call__" ⟨.ref C :: us, kw⟩)).units = A.units + 1 := by
  first | rfl | simp [Around.under, Code.cUnits, Code.frames, Code.isFrame]
theorem Room.make {k : Nat} {A : Around} (r : Room (k + 1) A) (C : Addr) (us : List Value) (kw : List (Str × Value)) : Room k (A.under (.builtin "type.__call__" ⟨.ref C :: us, kw⟩)) :=
  ⟨r.hd, by have := r.dp; rw [make_depth]; omega, by have := r.un; rw [make_units]; omega⟩
theorem Room.depth {k : Nat} {A : Around} (r : Room k A) : A.depth < recursionLimit := by have := r.dp; omega
theorem Room.units {k : Nat} {A : Around} (r : Room k A) : A.units + 64 < cLine := by have := r.un; omega
def tNil : TA := fun _ H Q => Q [] H
def tCons (ta : TE) (tr : TA) : TA := fun σ H Q => ta σ H fun x H1 => tr σ H1 fun xs H2 => Q (x :: xs) H2
section
variable {X : Cx} {e : Expr} {es : List Expr} {te : TE} {t : TA} {pos : Pos}
theorem pa_nil : PA X [] tNil := fun _ _ _ _ H Q I h => Calls.spliced_nil ⟨[], H, I, .nil, h⟩
theorem pa_cons (ha : PE X e te) (hr : PA X es t) (hs : starEach (e :: es) X.env = (false, eval e X.env) :: starEach es X.env := by rfl) : PA X (e :: es) (tCons te t) := by
  intro pos pins s σ H Q I h
  rw [hs]
  show wpAny _ _ (spliced ((false, eval e X.env) :: backTo pos (starEach es X.env))) _ _ s
  refine Calls.spliced_cons (thn (ha pins s σ H _ I h) fun u s1 ⟨x, H1, I1, r1, q1⟩ => ?_)
  exact thn (hr pos pins s1 σ H1 _ I1 q1) fun us s2 ⟨xs, H2, I2, r2, q2⟩ => ⟨x :: xs, H2, I2, .cons r1 r2, q2⟩

def tTup (t : TA) : TE := fun σ H Q => t σ H fun xs H1 => xs.length ≤ sizeLine ∧ ∀ p, H1 p = none → Q (.ref p) (upd H1 p (.tup xs))
def tLst (t : TA) : TE := fun σ H Q => t σ H fun xs H1 => xs.length ≤ sizeLine ∧ ∀ p, H1 p = none → Q (.ref p) (upd H1 p (.lst xs))
theorem pe_tup {x1} (h : PA X es t) : PE X (.Tuple es x1 pos) (tTup t) := by
  intro pins s σ H Q I hq
  refine wpAny_Tuple_spliced (thn (h pos pins s σ H _ I hq) fun us s1 ⟨xs, H1, I1, r, z, q⟩ => ⟨by rw [← r.length]; exact z, ?_⟩)
  have hf : H1 s1.heap.objs.size = none := I1.hok.fresh (Nat.le_refl _)
  refine ⟨.ref s1.heap.objs.size, upd H1 s1.heap.objs.size (.tup xs), I1.laid (t' := s1.toks) (fun b u e => Heap.get?_push_of_some _ e) (Nat.le_refl _) ?_, rfl, q _ hf⟩
  exact ⟨z, us, r, ⟨_, Heap.get?_push_size _ rfl, rfl, _, rfl⟩⟩
theorem pe_lst (h : PA X es t) : PE X (.List es pos) (tLst t) := by
  intro pins s σ H Q I hq
  refine wpAny_List_spliced (thn (h pos pins s σ H _ I hq) fun us s1 ⟨xs, H1, I1, r, z, q⟩ => ⟨by rw [← r.length]; exact z, ?_⟩)
  have hf : H1 s1.heap.objs.size = none := I1.hok.fresh (Nat.le_refl _)
  refine ⟨.ref s1.heap.objs.size, upd H1 s1.heap.objs.size (.lst xs), I1.laid (t' := s1.toks) (fun b u e => Heap.get?_push_of_some _ e) (Nat.le_refl _) ?_, rfl, q _ hf⟩
  exact ⟨z, us, 0, r, Heap.get?_push_size _ rfl⟩
end

abbrev Sp := List V → Hp → VK → XK → Prop
abbrev CXT := List Env → Hp → Shared → XK → Value → Shared → Prop

structure Env0 (P : Program) (w : World) (K : PySem.W.Frag) (mg : Str → Option Value) (base : Heap) (A : Around) (outer : List Env) (s : Shared) (H : Hp) : Prop where
  frames : A.frames = some outer
  mod : Mod K mg base
  bs : ∀ b o, base.get? b = some o → s.heap.get? b = some o ∧ H b = none
  bsz : base.objs.size ≤ s.heap.objs.size
  funs : s.heap.FunFrames base outer
  frf : ∀ b ∈ frs outer, H b = none
  hok : HOk P w H s.heap
  bare : AllBare s.gens
def CE (outer : List Env) (P : Program) (w : World) (H : Hp) (s : Shared) (Q : VK) (u : Value) (s' : Shared) : Prop :=
  ∃ v H', s'.os = s.os ∧ AllBare s'.gens ∧ Un (frs outer) [] H H' s.heap s'.heap ∧ HOk P w H' s'.heap ∧ RelV v u ∧ Q v H'
def CR (CX : CXT) (outer : List Env) (P : Program) (w : World) (H : Hp) (s : Shared) (Q : VK) (E : XK) (r : Result) (s' : Shared) : Prop :=
  match r with
  | .ok (.ret u) => CE outer P w H s Q u s'
  | .ok _ => False
  | .error e => CX outer H s E e s'
structure FnOk (P : Program) (w : World) (K : PySem.W.Frag) (mg : Str → Option Value) (base : Heap) (CX : CXT) (k : Nat) (f : Addr) (fd : FuncData) (ps : List Str) (sp : Sp) : Prop where
  len : ∀ vs H Q E, sp vs H Q E → vs.length = ps.length
  run : ∀ (A : Around) (outer : List Env) (s : Shared) (H : Hp) (args : Args) (us : List Value) (vs : List V) (Q : VK) (E : XK), Room k A → Env0 P w K mg base A outer s H → BindsTo s fd args (ps.zip us) → Vals vs us → sp vs H Q E →
    codeAny (model P w) A (.call (.ref f) args) (CR CX outer P w H s Q E) s
theorem Env0.make {P : Program} {w : World} {K : PySem.W.Frag} {mg : Str → Option Value} {base : Heap} {A : Around} {outer : List Env} {s : Shared} {H : Hp} (e : Env0 P w K mg base A outer s H) (C : Addr) (us : List Value) (kw : List (Str × Value)) :
    Env0 P w K mg base (A.under (.builtin "type.__call__" ⟨.ref C :: us, kw⟩)) outer s H := ⟨by first | exact e.frames | (simpa [Around.under, Code.envs, Code.isFrame, pushEnvs] using e.frames), e.mod, e.bs, e.bsz, e.funs, e.frf, e.hok, e.bare⟩
section
variable {X : Cx} {pins : List (Addr × Obj)} {σ : St} {H : Hp} {s s' : Shared}
theorem Inv.env0 (I : Inv X pins σ H s) : Env0 X.prog X.w X.K X.mg X.base X.A X.stack s H :=
  ⟨I.ok.frames, I.ok.mod, I.bs, Nat.le_trans I.ok.bsz I.sz, I.stack, I.stkFree, I.hok, I.bare⟩
theorem Inv.after {Q : VK} {u : Value} (I : Inv X pins σ H s) (h : CE X.stack X.prog X.w H s Q u s') : EP X pins σ Q u s' := by
  obtain ⟨v, H', os, bare, un, hok, r, q⟩ := h
  obtain ⟨hh, g, d, t, os'⟩ := s'
  obtain rfl : os' = s.os := os
  exact ⟨v, H', I.call (h' := hh) (g' := g) (d' := d) (t' := t) (ch := []) un hok bare (fun b z => absurd z (by simp)), r, q⟩
end

def tCall (sp : Sp) (dvs : List V) (E : XK) (t : TA) : TE := fun σ H Q => t σ H fun vs H1 => sp (vs ++ dvs) H1 Q E
def Binds (K : PySem.W.Frag) (fd : FuncData) (ps : List Str) (ds : List Value) : Prop :=
  ∀ (s : Shared) (us : List Value), K.In s.heap → (us ++ ds).length = ps.length → BindsTo s fd ⟨us, []⟩ (ps.zip (us ++ ds))
theorem Binds.all {K : PySem.W.Frag} {fd : FuncData} {ps : List Str} (h : ∀ us : List Value, us.length = ps.length → bindArgs fd ⟨us, []⟩ = pure (ps.zip us)) : Binds K fd ps [] := fun s us _ hl => by
  rw [List.append_nil] at hl ⊢
  exact .of_eq (h us hl)

def Passes (CX : CXT) (X : Cx) (E : XK) : Prop := ∀ (pins : List (Addr × Obj)) (σ : St) (H : Hp) (s : Shared) (e : Value) (s' : Shared), Inv X pins σ H s → CX X.stack H s E e s' → X.xe e s'

section
variable {X : Cx} {CX : CXT} {k : Nat} {f C : Addr} {fd : FuncData} {ps : List Str} {sp : Sp} {dvs : List V} {ds : List Value} {E : XK} {x m : Str} {p pos apos : Pos} {e o : Expr} {es : List Expr} {ta : TE} {t : TA}

theorem run_fn {pins : List (Addr × Obj)} {σ : St} {H : Hp} {s : Shared} {Q : VK} {us : List Value} {vs : List V} (F : FnOk X.prog X.w X.K X.mg X.base CX k f fd ps sp) (hr : Room k X.A) (hb : Binds X.K fd ps ds) (hd : Vals dvs ds) (hx : Passes CX X E)
    (I : Inv X pins σ H s) (r : Vals vs us) (h : sp (vs ++ dvs) H Q E) : wpAny (model X.prog X.w) X.A (call (.ref f) us) (EP X pins σ Q) X.xe s := by
  have r2 : Vals (vs ++ dvs) (us ++ ds) := r.append hd
  have hl : (us ++ ds).length = ps.length := by rw [← r2.length]; exact F.len _ _ _ _ h
  refine wpAny_call (codeAny_mono (F.run X.A X.stack s H ⟨us, []⟩ (us ++ ds) (vs ++ dvs) Q E hr I.env0 (hb s us I.kIn hl) r2 h) fun r s' hq => ?_)
  cases r with
  | error e => exact hx pins σ H s e s' I hq
  | ok fl =>
    cases fl with
    | ret u => exact I.after hq
    | next => exact False.elim hq
    | brk => exact False.elim hq
    | cont => exact False.elim hq

theorem pe_call (F : FnOk X.prog X.w X.K X.mg X.base CX k f fd ps sp) (hr : Room k X.A) (hg : Gl X x) (hm : X.mg x = some (.ref f)) (hk : PySem.W.keepIn X.K (.ref f) = true) (hb : Binds X.K fd ps ds) (hd : Vals dvs ds) (hx : Passes CX X E)
    (ha : PA X (e :: es) t) (hdb : (x == ("__debug__" : Str)) = false := by decide) (he : starEach (e :: es) X.env = (false, eval e X.env) :: starEach es X.env := by rfl) (hpl : (backTo pos (starEach es X.env)).any (·.1) = false := by rfl) :
    PE X (.Call (.Name x p) (e :: es) [] pos) (tCall sp dvs E t) := by
  intro pins s σ H Q I h
  refine wpAny_Call_Name_kw (ld_glob I hg hm ?_ hdb)
  refine PySem.W.callWith_K (h₀ := X.base) I.ok.mod.kin hk (thn (ha pos pins s σ H _ I h) fun us s1 ⟨vs, H1, I1, r, q⟩ => ⟨I1.kIn, ?_⟩) he hpl
  exact run_fn F hr hb hd hx I1 r q
end

section
variable {X : Cx} {CX : CXT} {k : Nat} {f C : Addr} {fd : FuncData} {ps ks : List Str} {sp : Sp} {E : XK} {x m : Str} {p pos apos kpos : Pos} {e o : Expr} {es : List Expr} {kws : List Keyword} {te ta : TE} {t tk : TA} {nm : Option Str}
variable {g : List Value → List Value → List Value} {gV : List V → List V → List V}
end

structure FnScope (N P : List Str) (sc : Scope) : Prop where
  kind : sc.kind = .function
  co : sc.isCoroutine = false
  gen : sc.isGenerator = false
  nd : N.Nodup
  pre : N.take P.length = P
  par : ∀ x ∈ P, sc.names.lookup x = some .local ∨ sc.names.lookup x = some .cell
  nofree : ∀ y ∈ sc.names, y.2 ≠ .free

theorem bindL_out {kindOf : Str → Option NameKind} {x : Str} : ∀ {binds : List (Str × Value)} {m : Str → Option Value}, (∀ v, (x, v) ∉ binds) → bindL kindOf binds m x = m x
  | [], _, _ => rfl
  | (n, v) :: r, m, h => by
    unfold bindL
    rw [bindL_out fun w hw => h w (List.mem_cons_of_mem _ hw)]
    split
    · have : x ≠ n := by rintro rfl; exact h v List.mem_cons_self
      simp [this]
    · rfl
theorem bindC_out {kindOf : Str → Option NameKind} {x : Str} : ∀ {binds : List (Str × Value)} {m : Str → Option Value}, (∀ v, (x, v) ∉ binds) → bindC kindOf binds m x = m x
  | [], _, _ => rfl
  | (n, v) :: r, m, h => by
    unfold bindC
    rw [bindC_out fun w hw => h w (List.mem_cons_of_mem _ hw)]
    split
    · rfl
    · have : x ≠ n := by rintro rfl; exact h v List.mem_cons_self
      simp [this]
theorem bindL_get {kindOf : Str → Option NameKind} {x : Str} {v : Value} : ∀ {P : List Str} {vs : List Value} {i : Nat} {m : Str → Option Value}, P.Nodup → P[i]? = some x → vs[i]? = some v → kindOf x = some .local →
    bindL kindOf (P.zip vs) m x = some v
  | [], _, _, _, _, h, _, _ => by simp at h
  | _ :: _, [], _, _, _, _, h, _ => by simp at h
  | p :: P, w :: vs, 0, m, nd, h1, h2, hk => by
    simp at h1 h2; subst h1; subst h2
    show bindL kindOf ((p, w) :: P.zip vs) m p = _
    unfold bindL
    rw [bindL_out fun v hv => (List.nodup_cons.mp nd).1 (List.of_mem_zip hv).1, if_pos hk]
    simp
  | p :: P, w :: vs, i + 1, m, nd, h1, h2, hk => by
    show bindL kindOf ((p, w) :: P.zip vs) m x = _
    unfold bindL
    exact bindL_get (i := i) (List.nodup_cons.mp nd).2 (by simpa using h1) (by simpa using h2) hk
theorem bindC_get {kindOf : Str → Option NameKind} {x : Str} {v : Value} : ∀ {P : List Str} {vs : List Value} {i : Nat} {m : Str → Option Value}, P.Nodup → P[i]? = some x → vs[i]? = some v → kindOf x ≠ some .local →
    bindC kindOf (P.zip vs) m x = some v
  | [], _, _, _, _, h, _, _ => by simp at h
  | _ :: _, [], _, _, _, _, h, _ => by simp at h
  | p :: P, w :: vs, 0, m, nd, h1, h2, hk => by
    simp at h1 h2; subst h1; subst h2
    show bindC kindOf ((p, w) :: P.zip vs) m p = _
    unfold bindC
    rw [bindC_out fun v hv => (List.nodup_cons.mp nd).1 (List.of_mem_zip hv).1, if_neg hk]
    simp
  | p :: P, w :: vs, i + 1, m, nd, h1, h2, hk => by
    show bindC kindOf ((p, w) :: P.zip vs) m x = _
    unfold bindC
    exact bindC_get (i := i) (List.nodup_cons.mp nd).2 (by simpa using h1) (by simpa using h2) hk

def start (N : List Str) (vs : List V) : St := vs.map some ++ List.replicate (N.length - vs.length) none

def cxOf (CX : CXT) (P : Program) (w : World) (K : PySem.W.Frag) (mg : Str → Option Value) (base : Heap) (N : List Str) (qual : Str) (scope : Scope) (f : Addr) (cd : Value) (A : Around) (outer : List Env) (s : Shared) (H : Hp) (E : XK) : Cx where
  prog := P
  w := w
  K := K
  mg := mg
  base := base
  A := A.deeper (envOfC qual scope s.heap.objs.size f cd)
  N := N
  s₀ := s
  H₀ := H
  env := envOfC qual scope s.heap.objs.size f cd
  outer := outer
  stack := envOfC qual scope s.heap.objs.size f cd :: outer
  ex := []
  calm := true
  fn := fun _ => true
  pn := []
  xe := fun e s' => wpAny (model P w) (A.deeper (envOfC qual scope s.heap.objs.size f cd)) (leaving (envOfC qual scope s.heap.objs.size f cd) e) (fun _ s'' => CX outer H s E e s'') (fun e' s'' => CX outer H s E e' s'') s'

theorem cell_has {sc : Scope} {n : Nat} {x : Str} (h : sc.names.lookup x = some .cell) : ∃ c, (cellsFrom n sc.names []).lookup x = some c := by
  have q := PySem.W.cellsFrom_some sc.names n [] (.inl h)
  exact Option.isSome_iff_exists.mp q

theorem inv_start {CX : CXT} {P : Program} {w : World} {K : PySem.W.Frag} {mg : Str → Option Value} {base : Heap} {N ps : List Str} {qual : Str} {scope : Scope} {f : Addr} {cd : Value} {A : Around} {outer : List Env} {s s1 : Shared} {H : Hp} {E : XK} {us : List Value} {vs : List V}
    (S : FnScope N ps scope) (hd : A.handled = none) (e0 : Env0 P w K mg base A outer s H) (hl : vs.length = ps.length) (r : Vals vs us)
    (x : InCallC s s.heap.objs.size (bindL (envOfC qual scope s.heap.objs.size f cd).kindOf (ps.zip us) fun _ => none) (cellsFrom (s.heap.objs.size + 1) scope.names []) (bindC (envOfC qual scope s.heap.objs.size f cd).kindOf (ps.zip us) fun _ => none) s1) :
    Inv (cxOf CX P w K mg base N qual scope f cd A outer s H E) [] (start N vs) H s1 := by
  have hpl : ps.length ≤ N.length := by have := congrArg List.length S.pre; rw [List.length_take] at this; omega
  obtain ⟨h1, tk, rfl, hk⟩ := x.done
  have noA : ∀ b : Addr, b ∉ (cxOf CX P w K mg base N qual scope f cd A outer s H E).ex := fun b z => absurd (show b ∈ ([] : List Addr) from z) (by simp)
  refine ⟨⟨e0.mod, S.kind, rfl, rfl, Nat.le_refl _, fun y z c h1 h2 => ?_, fun y hy => ?_, fun y c _ h => ?_, fun _ => hd, Around.frames_deeper e0.frames, .inr ⟨rfl, rfl⟩, fun b z => absurd z (noA b), e0.bs, e0.bsz, fun b _ _ => noA b, fun b z => absurd z (noA b), e0.funs, e0.frf⟩,
    rfl, e0.bare, Un.kept hk, ⟨_, x.toInCall.ns, fun i y v h1 h2 h3 => ?_⟩, fun y c h => ⟨_, x.cell y c h⟩, e0.hok.fresh (Nat.le_refl _), fun y c h => ?_, fun p hp => absurd (show p ∈ ([] : List (Addr × Obj)) from hp) (by simp), e0.hok.kept hk, ?_⟩
  · exact name_of_addr x.apart (PySem.mem_of_lookup h1) (PySem.mem_of_lookup h2)
  · have hy : scope.names.lookup y = some .cell ∨ scope.names.lookup y = some .free := hy
    rcases hy with hy | hy
    · exact cell_has hy
    · exact absurd rfl (S.nofree _ (PySem.mem_of_lookup hy))
  · exact Nat.le_of_lt (x.above y c (PySem.mem_of_lookup h))
  · have hi : i < vs.length := by
      unfold start at h2
      by_cases hi : i < vs.length
      · exact hi
      · rw [List.getElem?_append_right (by simpa using hi)] at h2
        rw [List.getElem?_replicate] at h2
        split at h2 <;> cases h2
    have ha : vs[i]? = some v := by
      unfold start at h2
      rw [List.getElem?_append_left (by simpa using hi), List.getElem?_map] at h2
      cases e : vs[i]? with
      | none => rw [e] at h2; cases h2
      | some a => rw [e] at h2; cases h2; rfl
    obtain ⟨u, hu, rv⟩ := r.get ha
    have hp : ps[i]? = some y := by
      rw [← S.pre, List.getElem?_take_of_lt (by omega)]; exact h1
    have ndP : ps.Nodup := by rw [← S.pre]; exact S.nd.sublist (List.take_sublist _ _)
    refine ⟨u, rv, ?_⟩
    rcases S.par y (List.mem_of_getElem? hp) with k | k
    · exact .inl ⟨k, bindL_get ndP hp hu k⟩
    · obtain ⟨c, e⟩ := cell_has (n := s.heap.objs.size + 1) k
      refine .inr ⟨.inl k, c, e, ?_⟩
      have q := x.cell y c e
      rw [bindC_get ndP hp hu (by show scope.names.lookup y ≠ _; rw [k]; decide)] at q
      exact q
  · exact e0.hok.fresh (Nat.le_of_lt (x.above y c (PySem.mem_of_lookup h)))
  · unfold start
    show _ = N.length
    rw [List.length_append, List.length_map, List.length_replicate]
    omega

theorem fn_of {CX : CXT} {P : Program} {w : World} {K : PySem.W.Frag} {mg : Str → Option Value} {base : Heap} {k : Nat} {f : Addr} {name qual : Str} {params : Arguments} {body : List Stmt} {scope : Scope} {dV kV doc pm cdv ct oc : Value} {an od : Option Addr}
    {osl : Array (Option Value)} {N ps : List Str} {sp : Sp} (lk : K.lookup f = some ⟨oc, od, .func (PySem.W.fnOf name qual params body scope dV kV doc pm an cdv ct), osl⟩) (hcd : PySem.W.codeIn K cdv qual = true) (S : FnScope N ps scope)
    (len : ∀ vs H Q E, sp vs H Q E → vs.length = ps.length)
    (hbody : ∀ (A : Around) (outer : List Env) (s : Shared) (H : Hp) (vs : List V) (Q : VK) (E : XK), Room k (A.deeper (envOfC qual scope s.heap.objs.size f cdv)) → sp vs H Q E →
      ∃ t, PSs (cxOf CX P w K mg base N qual scope f cdv A outer s H E) body t ∧ t { nx := fun _ H' => Q .non H', rt := Q } (start N vs) H) :
    FnOk P w K mg base CX (k + 1) f (PySem.W.fnOf name qual params body scope dV kV doc pm an cdv ct) ps sp := by
  refine ⟨len, fun A outer s H args us vs Q E hr e0 hb r hsp => ?_⟩
  have hl := len _ _ _ _ hsp
  have KX : K.In s.heap := e0.mod.kin.keeps fun b o e => (e0.bs b o e).1
  have lim : s.heap.NoLimit := e0.mod.nolimit.keeps fun b o e => (e0.bs b o e).1
  have hkind : ∀ y ∈ ps.zip us, scope.names.lookup y.1 = some .local ∨ (scope.names.lookup y.1 = some .cell ∧ ((cellsFrom (s.heap.objs.size + 1) scope.names []).lookup y.1).isSome = true) := fun ⟨n, v⟩ hy => by
    rcases S.par n (List.of_mem_zip hy).1 with q | q
    · exact .inl q
    · exact .inr ⟨q, PySem.W.cellsFrom_some _ _ _ (.inl q)⟩
  refine codeAny_call_function hr.depth (KX _ _ lk) rfl S.co S.gen rfl (PySem.W.codeRec_of KX hcd) (hb _ _ _ _ ?_)
  refine wpAny_newFunctionEnv_cells S.kind hkind fun env he s1 x => ?_
  subst he
  refine ⟨lim.keeps x.toInCall.keep, codeAny_func ?_⟩
  obtain ⟨t, ht, hq⟩ := hbody A outer s H vs Q E (hr.deeper _) hsp
  have I : Inv (cxOf CX P w K mg base N qual scope f cdv A outer s H E) [] (start N vs) H s1 := inv_start S hr.hd e0 hl r x
  refine wpAny_mono (ht [] s1 (start N vs) H _ I hq) (fun fl s' hs => ?_) fun e s' hs => hs
  have fin : ∀ {σ' : St} {H' : Hp} {v : V} {u : Value}, Inv (cxOf CX P w K mg base N qual scope f cdv A outer s H E) [] σ' H' s' → RelV v u → Q v H' → CE outer P w H s Q u s' :=
    fun {σ' H' v u} J rv q => ⟨v, H', J.os, J.bare, J.base, J.hok, rv, q⟩
  cases fl with
  | ret u =>
    obtain ⟨v, σ', H', J, rv, q⟩ := hs
    exact fin J rv q
  | next =>
    obtain ⟨σ', H', J, q⟩ := hs
    exact fin (v := V.non) (u := Value.none) J rfl q
  | brk =>
    obtain ⟨_, _, _, q⟩ := hs
    exact False.elim q
  | cont =>
    obtain ⟨_, _, _, q⟩ := hs
    exact False.elim q
end L2

namespace L2
open PySem PySem.Spec PyProof.Rows
section
variable {X : Cx} {x : Str} {p pos : Pos} {e : Expr} {es : List Expr} {t : TA} {id T : String} {r : List V → Hp → VK → Prop}

def tCB (r : List V → Hp → VK → Prop) (t : TA) : TE := fun σ H Q => t σ H fun vs H1 => r vs H1 Q
theorem pe_callB (hc : CallR X (.builtin id) r) (hg : Gl X x) (hm : X.mg x = none) (hv : bootBuiltins x = some (.builtin id)) (ha : PA X (e :: es) t) (hn : x ≠ "__name__" := by decide) (hdb : (x == ("__debug__" : Str)) = false := by decide)
    (he : starEach (e :: es) X.env = (false, eval e X.env) :: starEach es X.env := by rfl) (hpl : (backTo pos (starEach es X.env)).any (·.1) = false := by rfl) : PE X (.Call (.Name x p) (e :: es) [] pos) (tCB r t) := by
  intro pins s σ H Q I h
  refine wpAny_Call_Name_kw (ld_blt I hg hm hv ?_ hn hdb)
  exact PyProof.Rows.callWith_builtin1 (thn (ha pos pins s σ H _ I h) fun us s1 ⟨vs, H1, I1, r1, q1⟩ => hc pins s1 σ H1 vs us Q I1 r1 q1) he hpl
theorem pe_callTy (hc : CallR X (.type T) r) (hg : Gl X x) (hm : X.mg x = none) (hv : bootBuiltins x = some (.type T)) (ha : PA X (e :: es) t) (hn : x ≠ "__name__" := by decide) (hdb : (x == ("__debug__" : Str)) = false := by decide)
    (he : starEach (e :: es) X.env = (false, eval e X.env) :: starEach es X.env := by rfl) (hpl : (backTo pos (starEach es X.env)).any (·.1) = false := by rfl) : PE X (.Call (.Name x p) (e :: es) [] pos) (tCB r t) := by
  intro pins s σ H Q I h
  refine wpAny_Call_Name_kw (ld_blt I hg hm hv ?_ hn hdb)
  exact PyProof.Rows.callWith_type1 (thn (ha pos pins s σ H _ I h) fun us s1 ⟨vs, H1, I1, r1, q1⟩ => hc pins s1 σ H1 vs us Q I1 r1 q1) he hpl
end
end L2

namespace HT
open PySem PyProof.Rows

section
open PySem.SeqAt
open PySem.AutoSeq1 (wpAny_loadPart')
open PySem.MeetsSeq PySem.MeetsSeq2 PySem.MeetsSeq3

end

section
variable {prog : Program} {w : World} {A : Around} {E : Value → Shared → Prop} {s : Shared}

def sIx (n d : Nat) : Option Int → Nat
  | none => d
  | some v => if v < 0 then (v + (n : Int)).toNat else min v.toNat n
end
end HT

namespace L2
open PySem PySem.Spec PyProof.Rows

abbrev TO := St → Hp → (Option Int → Hp → Prop) → Prop
def PO (X : Cx) (e : Option Expr) (t : TO) : Prop :=
  ∀ (pins : List (Addr × Obj)) (s : Shared) (σ : St) (H : Hp) (Q : Option Int → Hp → Prop), Inv X pins σ H s → t σ H Q →
    wpAny (model X.prog X.w) X.A (evalPart e X.env) (fun u s' => ∃ o H', Inv X pins σ H' s' ∧ IsPart u o ∧ Q o H') X.xe s
def tPart (t : TE) : TO := fun σ H Q => t σ H fun x H1 => ∃ i, x = .int i ∧ Q (some i) H1

section
variable {X : Cx} {e : Expr} {te : TE} {lo hi : Option Expr} {tl th : TO} {pos p2 : Pos}

theorem po_some (h : PE X e te) : PO X (some e) (tPart te) := by
  intro pins s σ H Q I hw
  rw [evalPart_some]
  refine thn (h pins s σ H _ I hw) fun u s1 ⟨x, H1, I1, r1, q1⟩ => ?_
  obtain ⟨i, rfl, q⟩ := q1
  obtain ⟨t, rfl⟩ := r1
  exact ⟨some i, H1, I1, .int i t, q⟩

def SlR (X : Cx) (r : V → Option Int → Option Int → Hp → VK → Prop) : Prop :=
  ∀ (pins : List (Addr × Obj)) (s : Shared) (σ : St) (H : Hp) (x : V) (v vl vu : Value) (lo hi : Option Int) (sl : Addr) (Q : VK), Inv X pins σ H s → RelV x v → s.heap.IsSliceOf sl vl vu .none → IsPart vl lo → IsPart vu hi → r x lo hi H Q →
    ∃ T id, typeLookup (.type T) "__getitem__" = pure (some (.builtin id)) ∧ s.TypeIs v T ∧ wpAny (model X.prog X.w) X.A (getItem v (.ref sl)) (EP X pins σ Q) X.xe s
def tSl (r : V → Option Int → Option Int → Hp → VK → Prop) (te : TE) (tl th : TO) : TE := fun σ H Q => te σ H fun x H1 => tl σ H1 fun l H2 => th σ H2 fun u H3 => r x l u H3 Q
theorem pe_slice {r : V → Option Int → Option Int → Hp → VK → Prop} (hr : SlR X r) (he : PE X e te) (hl : PO X lo tl) (hu : PO X hi th) : PE X (.Subscript e (.Slice lo hi none p2) pos) (tSl r te tl th) := by
  intro pins s σ H Q I h
  refine Subscript_ (thn (he pins s σ H _ I h) fun v s1 ⟨x, H1, I1, r1, q1⟩ => ?_)
  refine wpAny_Slice (thn (hl pins s1 σ H1 _ I1 q1) fun vl s2 ⟨l, H2, I2, pl, q2⟩ => thn (hu pins s2 σ H2 _ I2 q2) fun vu s3 ⟨u, H3, I3, pu, q3⟩ => ?_)
  rw [evalPart_none]
  refine wpAny_pure ?_
  have I4 : Inv X pins σ H3 { s3 with heap := s3.heap.push { cls := .type "slice", data := .fields #[vl, vu, .none] } } := I3.kept (t' := s3.toks) fun b ob q => Heap.get?_push_of_some _ q
  obtain ⟨T, id, hT, ht, hg⟩ := hr pins { s3 with heap := s3.heap.push { cls := .type "slice", data := .fields #[vl, vu, .none] } } σ H3 x v vl vu l u s3.heap.objs.size Q I4 r1 (Heap.IsSliceOf.new ..) pl pu q3
  show wpAny (model X.prog X.w) X.A (subscriptTail e (.Slice lo hi none p2) v (.ref s3.heap.objs.size)) (EP X pins σ Q) X.xe { s3 with heap := s3.heap.push { cls := .type "slice", data := .fields #[vl, vu, .none] } }
  exact tail_any (ops := [.ref s3.heap.objs.size, v]) ht hT hg (by with_unfolding_all rfl)

def cutV (xs : List V) (lo hi : Option Int) : List V := (xs.drop (HT.sIx xs.length 0 lo)).take (HT.sIx xs.length xs.length hi - HT.sIx xs.length 0 lo)
theorem cutV_length (xs : List V) (lo hi : Option Int) : (cutV xs lo hi).length ≤ xs.length := by
  unfold cutV
  rw [List.length_take, List.length_drop]
  omega
end
end L2

namespace L2
open PySem PySem.Spec PyProof.Rows

def ixN (n : Nat) (i : Int) : Option Nat := if 0 ≤ i then (if i < n then some i.toNat else none) else if -(n : Int) ≤ i then some (i + n).toNat else none
def atI {α : Type} (xs : List α) (i : Int) : Option α := (ixN xs.length i).bind fun j => xs[j]?
theorem ixN_seq {n : Nat} {i : Int} {j : Nat} (h : ixN n i = some j) : seqIndex? i n = some j ∧ j < n ∧ -(n : Int) ≤ i ∧ i < n := by
  unfold ixN at h
  by_cases h0 : 0 ≤ i
  · rw [if_pos h0] at h
    by_cases h1 : i < n
    · rw [if_pos h1] at h
      have e : i.toNat = j := Option.some.inj h
      exact ⟨by rw [seqIndex_of h0 h1, e], by omega, by omega, h1⟩
    · rw [if_neg h1] at h; cases h
  · rw [if_neg h0] at h
    by_cases h1 : -(n : Int) ≤ i
    · rw [if_pos h1] at h
      have e : (i + n).toNat = j := Option.some.inj h
      exact ⟨by rw [seqIndex_neg (by omega) h1, e], by omega, h1, by omega⟩
    · rw [if_neg h1] at h; cases h
theorem atI_get {α : Type} {xs : List α} {i : Int} {v : α} (h : atI xs i = some v) : ∃ j, seqIndex? i xs.length = some j ∧ xs[j]? = some v ∧ j < xs.length ∧ -(xs.length : Int) ≤ i ∧ i < xs.length := by
  unfold atI at h
  cases e : ixN xs.length i with
  | none => rw [e] at h; cases h
  | some j =>
    rw [e] at h
    obtain ⟨h1, h2, h3, h4⟩ := ixN_seq e
    exact ⟨j, h1, h, h2, h3, h4⟩
theorem atI_nat {α : Type} {xs : List α} {j : Nat} {v : α} (h : xs[j]? = some v) : atI xs (j : Int) = some v := by
  have hj : j < xs.length := (List.getElem?_eq_some_iff.mp h).1
  have e : ixN xs.length (j : Int) = some j := by
    unfold ixN
    rw [if_pos (by omega), if_pos (by omega)]; simp
  unfold atI; rw [e]; exact h
def PlainIx (b : Expr) : Prop := ∀ o i, subscripted b false o i = operate [o, i] (getItem o i)
def IxR (X : Cx) (r : R2) : Prop :=
  ∀ (value slice : Expr) (pins : List (Addr × Obj)) (s : Shared) (σ : St) (H : Hp) (x y : V) (v u : Value) (Q : VK), Inv X pins σ H s → RelV x v → RelV y u → r x y H Q →
    subscripted slice false v u = operate [v, u] (getItem v u) → wpAny (model X.prog X.w) X.A (subscriptTail value slice v u) (EP X pins σ Q) X.xe s
def MtR (X : Cx) (id : String) (r : V → List V → Hp → VK → Prop) : Prop :=
  ∀ (pins : List (Addr × Obj)) (s : Shared) (σ : St) (H : Hp) (x : V) (xs : List V) (v : Value) (us : List Value) (Q : VK), Inv X pins σ H s → RelV x v → Vals xs us → r x xs H Q →
    wpAny (model X.prog X.w) X.A (call (.builtin id) (v :: us)) (EP X pins σ Q) X.xe s
section
variable {X : Cx} {a b : Expr} {ta tb : TE} {pos : Pos}
theorem IxR.or {r r' : R2} (h : IxR X r) (h' : IxR X r') : IxR X (fun x y H Q => r x y H Q ∨ r' x y H Q) := by
  intro value slice pins s σ H x y v u Q I rx ry q hs
  rcases q with q | q
  · exact h value slice pins s σ H x y v u Q I rx ry q hs
  · exact h' value slice pins s σ H x y v u Q I rx ry q hs
theorem pe_ix {r : R2} (hr : IxR X r) (ha : PE X a ta) (hb : PE X b tb) (hs : PlainIx b) : PE X (.Subscript a b pos) (tOp r ta tb) := by
  intro pins s σ H Q I h
  exact Subscript_ (binT ha hb I h fun v u s2 x y H2 I2 rx ry q => hr a b pins s2 σ H2 x y v u Q I2 rx ry q (hs _ _))

def rIxL (K : PySem.W.Frag) : R2 := fun x y H Q => ∃ p xs i v, x = .ref p ∧ y = .int i ∧ SqL K H p xs ∧ atI xs i = some v ∧ Q v H
def rIxT (K : PySem.W.Frag) : R2 := fun x y H Q => ∃ p xs i v, x = .ref p ∧ y = .int i ∧ SqT K H p xs ∧ atI xs i = some v ∧ Q v H
def rIxS : R2 := fun x y H Q => ∃ z i c, x = .str z ∧ y = .int i ∧ z.length ≤ sizeLine ∧ atI z.cps.toList i = some c ∧ Q (.str ⟨#[c]⟩) H
theorem ix_list : IxR X (rIxL X.K) := by
  intro value slice pins s σ H x y v u Q I rx ry h hs
  obtain ⟨p, xs, i, z, rfl, rfl, hq, he, q⟩ := h
  cases rx
  obtain ⟨t, rfl⟩ := ry
  obtain ⟨its, r, pl, hz⟩ := I.list hq
  obtain ⟨j, h1, h2, h3, h4, h5⟩ := atI_get he
  obtain ⟨w, ew, rw'⟩ := r.get h2
  have hl := r.length
  have hn := line63
  have fin : EP X pins σ Q w s := ⟨z, H, I, rw', q⟩
  by_cases h0 : 0 ≤ i
  · have hj : i.toNat = j := by
      rw [seqIndex_of h0 h5] at h1
      exact Option.some.inj h1
    exact item_listR pl.isList h0 (by omega) (by rw [hj]; simpa using ew) fin hs
  · have hj : (i + (its.toArray.size : Int)).toNat = j := by
      rw [seqIndex_neg (by omega) h4] at h1
      rw [List.size_toArray, ← hl]
      exact Option.some.inj h1
    exact subscriptTail_builtinR (x := w) pl.isList.typeIs slot_list_getitem.lookup
      (wpAny_getItem_list_neg (Q := fun r s' => r = w ∧ EP X pins σ Q r s') pl.isList (by omega) (by rw [List.size_toArray] <;> omega) (by omega) (by rw [hj]; simpa using ew) ⟨rfl, fin⟩) hs
theorem ix_tup : IxR X (rIxT X.K) := by
  intro value slice pins s σ H x y v u Q I rx ry h hs
  obtain ⟨p, xs, i, z, rfl, rfl, hq, he, q⟩ := h
  cases rx
  obtain ⟨t, rfl⟩ := ry
  obtain ⟨its, r, pl, hz⟩ := I.tuple hq
  obtain ⟨j, h1, h2, h3, h4, h5⟩ := atI_get he
  obtain ⟨w, ew, rw'⟩ := r.get h2
  have hl := r.length
  have hn := line63
  have fin : EP X pins σ Q w s := ⟨z, H, I, rw', q⟩
  exact subscriptTail_builtinR (x := w) pl.typeIs slot_tuple_getitem.lookup
    (getItem_tuple (j := j) (Q := fun r s' => r = w ∧ EP X pins σ Q r s') pl (by omega) (by omega) (by rw [List.size_toArray, ← hl]; exact h1) (by simpa using ew) ⟨rfl, fin⟩) hs
theorem ix_str : IxR X rIxS := by
  intro value slice pins s σ H x y v u Q I rx ry h hs
  obtain ⟨z, i, c, rfl, rfl, hz, he, q⟩ := h
  obtain ⟨t, rfl⟩ := rx
  obtain ⟨t', rfl⟩ := ry
  obtain ⟨j, h1, h2, h3, h4, h5⟩ := atI_get he
  have hl : z.cps.toList.length = z.length := by simp [Str.length]
  rw [hl] at h1 h4 h5
  have hn := line63
  exact tail_any (typeIs_str s z t) slot_str_getitem.lookup (getItem_str (c := c) (by
    have e1 : decide (i < -(2 ^ 63 : Int)) = false := decide_eq_false (by omega)
    have e2 : decide (i ≥ 2 ^ 63) = false := decide_eq_false (by omega)
    rw [e1, e2, Bool.or_false]) (by rw [h1]; simpa using h2) ⟨.str ⟨#[c]⟩, H, I.tok _, ⟨_, rfl⟩, q⟩) hs
def rIx (K : PySem.W.Frag) : R2 := fun x y H Q => rIxL K x y H Q ∨ rIxT K x y H Q ∨ rIxS x y H Q
theorem ix_seq : IxR X (rIx X.K) := ix_list.or (ix_tup.or ix_str)

theorem slice_bounds (lo hi : Option Int) (n : Nat) : (sliceBounds lo hi none n).1 = ((HT.sIx n 0 lo : Nat) : Int) ∧ (sliceBounds lo hi none n).2.1 = ((HT.sIx n n hi : Nat) : Int) ∧ (sliceBounds lo hi none n).2.2 = 1 := by
  refine ⟨?_, ?_, rfl⟩
  · cases lo with
    | none => simp [sliceBounds, HT.sIx]
    | some i =>
      simp only [sliceBounds, HT.sIx, Option.getD_none, show (1 : Int) > 0 by decide, if_true]
      by_cases h : i < 0
      · simp only [h, if_true] <;> omega
      · simp only [h, if_false] <;> omega
  · cases hi with
    | none => simp [sliceBounds, HT.sIx]
    | some i =>
      simp only [sliceBounds, HT.sIx, Option.getD_none, show (1 : Int) > 0 by decide, if_true]
      by_cases h : i < 0
      · simp only [h, if_true] <;> omega
      · simp only [h, if_false] <;> omega
theorem slicePick_cut (its : List Value) (lo hi : Option Int) : slicePick its.toArray lo hi none = ((its.drop (HT.sIx its.length 0 lo)).take (HT.sIx its.length its.length hi - HT.sIx its.length 0 lo)).toArray := by
  obtain ⟨h1, h2, h3⟩ := slice_bounds lo hi its.toArray.size
  unfold slicePick
  rw [h1, h2, h3]
  simp only [sliceRange_one, pick_run, List.size_toArray] <;> rfl
def rSlL (K : PySem.W.Frag) : V → Option Int → Option Int → Hp → VK → Prop := fun x lo hi H Q => ∃ a xs, x = .ref a ∧ SqL K H a xs ∧ ∀ p, H p = none → Q (.ref p) (upd H p (.lst (cutV xs lo hi)))
theorem sl_list : SlR X (rSlL X.K) := by
  intro pins s σ H x v vl vu lo hi sl Q I rx hs pl pu h
  obtain ⟨a, xs, rfl, hx, q⟩ := h
  cases rx
  obtain ⟨its, r, ht, hz⟩ := I.list hx
  have hlen := r.length
  refine ⟨"list", _, slot_list_getitem.lookup, ht.isList.typeIs, ?_⟩
  refine wpAny_getItem_list_slice ht.isList hs pl pu .none (by simp) ?_ (by rw [List.size_toArray] <;> omega)
  rw [slicePick_cut, ← hlen]
  refine ⟨.ref s.heap.objs.size, _, I.laid (t' := s.toks) (o := .lst (cutV xs lo hi)) (fun b ob q => Heap.get?_push_of_some _ q) (Nat.le_refl _) ?_, rfl, q _ (I.hok.fresh (Nat.le_refl _))⟩
  exact ⟨Nat.le_trans (cutV_length xs lo hi) hz, _, 0, (r.drop (HT.sIx xs.length 0 lo)).take (HT.sIx xs.length xs.length hi - HT.sIx xs.length 0 lo), Heap.get?_push_size _ rfl⟩

theorem call_len_seq : CallR X (.builtin "len") (fun xs H Q => ∃ p ys, xs = [.ref p] ∧ (SqL X.K H p ys ∨ SqT X.K H p ys) ∧ Q (.int ys.length) H) := by
  intro pins s σ H xs us Q I r h
  obtain ⟨p, ys, rfl, hq, q⟩ := h
  obtain ⟨u, rfl, rx⟩ := vals1 r
  cases rx
  have hn := line63
  rcases hq with hq | hq
  · obtain ⟨its, r', pl, hz⟩ := I.list hq
    have hlen := r'.length
    exact Calls.call_len_list pl.isList (by simp only [List.size_toArray] <;> omega) ⟨.int ys.length, H, I.tok _, ⟨s.toks + 1, by rw [List.size_toArray, hlen]⟩, q⟩
  · obtain ⟨its, r', pl, hz⟩ := I.tuple hq
    have hlen := r'.length
    exact len_tuple pl (by simp only [List.size_toArray] <;> omega) ⟨.int ys.length, H, I.tok _, ⟨s.toks + 1, by rw [List.size_toArray, hlen]⟩, q⟩
def tyV (K : PySem.W.Frag) (T : String) (x : V) (H : Hp) : Prop := match x with
  | .str _ => T = "str"
  | .int _ => T = "int"
  | .ref p => (T = "list" ∧ ∃ xs, SqL K H p xs) ∨ (T = "tuple" ∧ ∃ o, K.lookup p = some o ∧ o.cls = .type "tuple" ∧ o.dict = none) ∨
      (T = "dict" ∧ ((∃ kvs, H p = some (.dK kvs)) ∨ ∃ kvs, H p = some (.dT kvs))) ∨ (T = "set" ∧ ∃ S n, H p = some (.set S n))
  | _ => False
theorem tyV_is {pins : List (Addr × Obj)} {σ : St} {H : Hp} {s : Shared} {T : String} {x : V} {v : Value} (I : Inv X pins σ H s) (r : RelV x v) (ty : tyV X.K T x H) :
    s.TypeIs v T ∧ ∀ a, v = .ref a → ∃ ob, s.heap.get? a = some ob ∧ ob.dict = none := by
  cases x with
  | str z =>
    obtain ⟨t, rfl⟩ := r
    cases (show T = "str" from ty)
    exact ⟨typeIs_str s z t, fun _ e => nomatch e⟩
  | int i =>
    obtain ⟨t, rfl⟩ := r
    cases (show T = "int" from ty)
    exact ⟨typeIs_int s i t, fun _ e => nomatch e⟩
  | ref p =>
    cases r
    rcases ty with ⟨rfl, xs, hq⟩ | ⟨rfl, o, hk, hc, hd⟩ | ⟨rfl, hk⟩ | ⟨rfl, S, n, hk⟩
    · obtain ⟨its, _, pl, _⟩ := I.list hq
      refine ⟨pl.isList.typeIs, fun a e => ?_⟩
      cases e
      obtain ⟨o, n, e, c, hd, _⟩ := pl
      exact ⟨o, e, hd⟩
    · refine ⟨⟨o, I.kIn p o hk, hc⟩, fun a e => ?_⟩
      cases e
      exact ⟨o, I.kIn _ o hk, hd⟩
    · have z : ∃ o, s.heap.get? p = some o ∧ o.ExactDict := by
        rcases hk with ⟨kvs, hk⟩ | ⟨kvs, hk⟩
        · obtain ⟨_, _, _, _, o, _, _, e, ex, _⟩ := I.hok p _ hk
          exact ⟨o, e, ex⟩
        · obtain ⟨_, _, _, _, o, _, _, e, ex, _⟩ := I.hok p _ hk
          exact ⟨o, e, ex⟩
      obtain ⟨o, e, ex⟩ := z
      refine ⟨⟨o, e, ex.1⟩, fun a e2 => ?_⟩
      cases e2
      exact ⟨o, e, ex.2.1⟩
    · obtain ⟨o, _, _, _, e, ex, _⟩ := I.hok p _ hk
      refine ⟨⟨o, e, ex.1⟩, fun a e2 => ?_⟩
      cases e2
      exact ⟨o, e, ex.2.1⟩
  | _ => exact False.elim ty
def tBM0 (K : PySem.W.Frag) (T : String) (r : V → List V → Hp → VK → Prop) (to : TE) : TE := fun σ H Q => to σ H fun x H1 => tyV K T x H1 ∧ r x [] H1 Q
def tBM (K : PySem.W.Frag) (T : String) (r : V → List V → Hp → VK → Prop) (to : TE) (t : TA) : TE := fun σ H Q => to σ H fun x H1 => tyV K T x H1 ∧ t σ H1 fun xs H2 => r x xs H2 Q
variable {o e : Expr} {es : List Expr} {to : TE} {t : TA} {name : Str} {apos cpos : Pos} {T id : String} {r : V → List V → Hp → VK → Prop}
theorem pe_bm0 (pa : PlainAttrs T) (slot : Slot T name id) (hty : typeOf (.builtin id) = pure (.type "method_descriptor")) (hm : MtR X id r) (ho : PE X o to)
    (hbase : attributeBase o name X.env (eval o X.env) = eval o X.env := by rfl) (hline : (apos.endLine == cpos.line) = true := by rfl) : PE X (.Call (.Attribute o name apos) [] [] cpos) (tBM0 X.K T r to) := by
  intro pins s σ H Q I h
  refine wpAny_Call_method0_late hbase hline (thn (ho pins s σ H _ I h) fun v s1 ⟨x, H1, I1, r1, ty, q1⟩ => ?_)
  obtain ⟨h1, h2⟩ := tyV_is I1 r1 ty
  exact ⟨T, id, pa, slot, hty, h1, h2, Calls.callWith_builtin rfl (PySem.evalArgs_none (hm pins s1 σ H1 x [] v [] Q I1 r1 .nil q1))⟩
theorem pe_bm (pa : PlainAttrs T) (slot : Slot T name id) (hty : typeOf (.builtin id) = pure (.type "method_descriptor")) (hm : MtR X id r) (ho : PE X o to) (ha : PA X (e :: es) t)
    (hbase : attributeBase o name X.env (eval o X.env) = eval o X.env := by rfl)
    (hfew : ((backTo cpos (starEach (e :: es) X.env)).all (fun x => !x.1) && (backToKw cpos (keywordEach [] X.env)).all (fun x => x.1.isSome)
      && decide ((e :: es).length + ([] : List Keyword).length + (if ([] : List Keyword).isEmpty then 0 else 1) < 30)) = true := by rfl)
    (hline : (apos.endLine == cpos.line) = true := by rfl) (hs : starEach (e :: es) X.env = (false, eval e X.env) :: starEach es X.env := by rfl) (hplain : (backTo cpos (starEach es X.env)).any (·.1) = false := by rfl) :
    PE X (.Call (.Attribute o name apos) (e :: es) [] cpos) (tBM X.K T r to t) := by
  intro pins s σ H Q I h
  refine wpAny_Call_method_late hbase hfew hline rfl (thn (ho pins s σ H _ I h) fun v s1 ⟨x, H1, I1, r1, ty, q1⟩ => ?_)
  obtain ⟨h1, h2⟩ := tyV_is I1 r1 ty
  refine ⟨T, id, pa, slot, hty, h1, h2, ?_⟩
  have hA := ha cpos pins s1 σ H1 _ I1 q1
  rw [hs] at hA ⊢
  refine Calls.callWith_builtin (by show (false || (backTo cpos (starEach es X.env)).any (·.1)) = false; rw [hplain] <;> rfl) (Calls.evalArgs_plain ?_)
  exact thn hA fun us s2 ⟨vs, H2, I2, r2, q2⟩ => hm pins s2 σ H2 x vs v us Q I2 r1 r2 q2
/- xs.append(e), list.index on a module's tuple .. are MtR facts of 06m -/
end
end L2

namespace L2
open PySem PySem.Spec PyProof.Rows

def MtM (X : Cx) (id : String) (r : V → List V → Hp → VK → Prop) : Prop :=
  ∀ (pins : List (Addr × Obj)) (s : Shared) (σ : St) (H : Hp) (x : V) (xs : List V) (v : Value) (us : List Value) (Q : VK), Inv X pins σ H s → RelV x v → Vals xs us → r x xs H Q →
    wpAny (model X.prog X.w) X.A (call (.builtin id) (v :: us)) (EP X pins σ Q) X.xe s

theorem Vals.one : ∀ {x : V} {us : List Value}, Vals [x] us → ∃ u, us = [u] ∧ RelV x u
  | _, _, .cons r .nil => ⟨_, rfl, r⟩
section
variable {X : Cx} {pins : List (Addr × Obj)} {σ : St} {H : Hp} {s : Shared} {l b : Addr} {xs ys zs : List V}

theorem Inv.lset {its its' : List Value} {n : Nat} {f : Array Value → Array Value} {t' : Nat} (I : Inv X pins σ H s) (hH : H l = some (.lst xs))
    (e : s.heap.get? l = some { cls := .type "list", data := .seq its.toArray n }) (hf : f its.toArray = its'.toArray) (hv : Vals ys its') (hz : ys.length ≤ sizeLine) :
    Inv X pins σ (upd H l (.lst ys)) { s with heap := s.heap.update l (Obj.mapSeq f), toks := t' } := by
  have q := PySem.IsL.update e f
  rw [hf] at q
  refine I.write (x := l) (e := l) (by rw [hH]; exact trivial) (.inl rfl) (fun b' u hb hu => (Heap.get?_update_other s.heap (Obj.mapSeq f) (Ne.symm hb)).trans hu) ⟨_, q⟩ ?_
  exact ⟨hz, its', _, hv, q⟩
theorem Inv.lnew {its : List Value} {t' : Nat} (I : Inv X pins σ H s) (hv : Vals ys its) (hz : ys.length ≤ sizeLine) :
    Inv X pins σ (upd H s.heap.objs.size (.lst ys)) { s with heap := s.heap.push { cls := .type "list", data := .seq its.toArray }, toks := t' } :=
  I.laid (fun _ _ q => Heap.get?_push_of_some _ q) (Nat.le_refl _) ⟨hz, its, 0, hv, Heap.get?_push_size _ rfl⟩
theorem Inv.fresh (I : Inv X pins σ H s) : H s.heap.objs.size = none := I.hok.fresh (Nat.le_refl _)
theorem Inv.lstM (I : Inv X pins σ H s) (hH : H l = some (.lst xs)) : xs.length ≤ sizeLine ∧ ∃ (its : List Value) (n : Nat), Vals xs its ∧ xs.length = its.length ∧ s.heap.get? l = some { cls := .type "list", data := .seq its.toArray n } := by
  obtain ⟨z, its, n, r, e⟩ := I.hok l _ hH
  exact ⟨z, its, n, r, r.length, e⟩

end

section
variable {X : Cx}

def rAppend : V → List V → Hp → VK → Prop := fun x vs H Q => ∃ l xs y, x = .ref l ∧ vs = [y] ∧ H l = some (.lst xs) ∧ xs.length < sizeLine ∧ Q .non (upd H l (.lst (xs ++ [y])))
theorem mt_append : MtM X "list.append" rAppend := by
  intro pins s σ H x vs v us Q I rx rv h
  obtain ⟨l, xs, y, rfl, rfl, hH, hz, q⟩ := h
  cases rx
  obtain ⟨u, rfl, ru⟩ := rv.one
  obtain ⟨z, its, n, r, hl, e⟩ := I.lstM hH
  refine call_meets F.slot_list_append ⟨_, e, rfl⟩ F.entry_list_append (F.args_list_append_2 _ _) (PySem.list_append l its.toArray n u (by rw [List.size_toArray]; omega)) ⟨e, ?_⟩
  refine ⟨.non, _, I.lset (its' := its ++ [u]) hH e (by simp) (r.append (.cons ru .nil)) ?_, rfl, q⟩
  rw [List.length_append, List.length_singleton]
  omega

end

section
variable {prog : Program} {w : World} {A : Around} {E : Value → Shared → Prop} {s : Shared}
set_option maxRecDepth 100000 in
end

section
variable {X : Cx}
end
end L2

namespace Att
open PySem PySem.W PySem.Calls PyProof.Rows

theorem ints_of_wellAll {P : Params} {h : Heap} : ∀ (ns : List Int) (vs : List Value), WellAll P h vs (ns.map WData.int) → IntsAre vs ns := by
  intro ns
  induction ns with
  | nil =>
    intro vs w
    rw [List.map_nil] at w
    cases w
    exact .nil
  | cons n ns ih =>
    intro vs w
    rw [List.map_cons] at w
    cases w with
    | cons a b =>
      cases a
      exact .cons _ _ (ih _ b)

theorem script_of {l : OpenLaw} {n : Nat} (hn : l.most = some n) {P : Params} {h : Heap} {args : List WData} {vals : List Value}
    (hpre : l.row.toRowW.claim.pre args = true) (hwl : WellAll P h vals args) :
    ∃ a vs ns, vals = [Value.ref a] ∧ args = [WData.list (ns.map WData.int)] ∧ h.get? a = some { cls := .type "list", data := .seq vs.toArray } ∧ IntsAre vs ns ∧ ns.length ≤ n := by
  have hsh : WShape.hasAll [] args [.list .int] = true := (pre_splitW hpre).1
  have hc : l.pre.holds [] { args := args } = true := (pre_splitW hpre).2
  obtain ⟨d, r, rfl, h1, h2⟩ := hasAllW_cons hsh
  obtain rfl := hasAllW_nil h2
  obtain ⟨xs, rfl, h3⟩ := hasW_list h1
  obtain ⟨ns, rfl⟩ := items_int h3
  have hlen : ns.length ≤ n := by
    unfold OpenLaw.pre at hc
    have h4 : (WTm.not (.lt (.lit (.int (n : Int))) (.len (.arg 0)))).holds [] { args := [.list (ns.map .int)] } = true := by
      have h4 := (holds_andW hc).1
      rw [hn] at h4
      exact h4
    have h5 := condW_of h4 (w_not (w_lt w_lit (w_len_list (w_arg rfl))))
    rw [List.length_map] at h5
    refine Nat.le_of_not_lt fun q => ?_
    have q' : (n : Int) < ((ns.length : Nat) : Int) := by omega
    first
      | (rw [decide_eq_true q'] at h5; exact absurd h5 (by decide))
      | (simp at h5; omega)
  cases hwl with
  | cons w1 w2 =>
    cases w2
    cases w1 with
    | list ho hall => exact ⟨_, _, ns, rfl, rfl, ho, ints_of_wellAll ns _ hall, hlen⟩

theorem post_true (l : OpenLaw) (args : List WData) : l.row.toRowW.claim.post args (.bool true) args = true :=
  postW_of (r := l.row.toRowW) (X := (true == true))
    (show WShape.has [] (.bool true) .bool = true by first | rfl | decide | simp [WShape.has, WShape.arms, WShape.armsAll])
    (show (WTm.eq .res (.lit (.bool true))).value [] { args := args, res := some (.bool true), after := args } = some (.bool (true == true)) from w_eq_bool (w_res rfl) w_lit) rfl

theorem attach_call {l : OpenLaw} {n : Nat} {q : Program} {loose : List Str} {XP : (Str → Option Value) → Heap → Prop} {YP : World → Heap → Prop} {d : DefRec}
    (hn : l.most = some n) (hdf : d.params.defaults = [])
    (call : ∀ (w : World) (s₀ s₁ : Shared) (mg mb : Str → Option Value) (fa : Addr) (o : Obj) (pm cd doc : Value) (a : Addr) (vs : List Value) (ns : List Int),
      Ground q loose [] XP w s₀ mg mb s₁.heap → YP w s₁.heap →
      s₁.heap.get? fa = some o → o.data = .func (docDef d.name d.params d.body d.scope pm cd doc) → s₁.heap.CodeRec cd d.name → mg d.name = some (.ref fa) →
      s₁.heap.get? a = some { cls := .type "list", data := .seq vs.toArray } → IntsAre vs ns → ns.length ≤ n → s₁.gens = #[] →
      codeAny (model l.prog w) callerA (.call (.ref fa) ⟨[.ref a], []⟩) (fun r s' => r = .ok (.ret (.bool true)) ∧ OldK s₁.heap s'.heap ∧ s'.os = s₁.os ∧ AllBare s'.gens) s₁) :
    WalkO q loose XP YP l.row.toRowW d [] (fun f vs => PySem.call f vs) := by
  intro w s₀ s₁ mg mb G Y fa o pm cd doc dV kV ho hd hcd hD hmg hg args vals as hpre hlay hrd hwl hlo
  obtain rfl : dV = .none := Dflts.none hD hdf
  obtain rfl : kV = .none := Dflts.noKw hD
  obtain ⟨a, vs, ns, rfl, rfl, hobj, hints, hlen⟩ := script_of hn hpre hwl
  refine enter_call (codeAny_mono (call w s₀ s₁ mg mb fa o pm cd doc a vs ns G Y ho (fd_plain hd) hcd hmg hobj hints hlen hg) fun r s' hq => ?_)
  obtain ⟨rfl, h2, h3, h4⟩ := hq
  exact ⟨.inl ⟨.bool true, .bool true, [], rfl, fun _ => rfl, .bool true, post_true l _, fun _ => ⟨List.Pairwise.nil, fun _ hm => (nomatch hm)⟩⟩, h2, h3, h4⟩

section
variable {prog : Program} {w : World} {A : Around} {E : Value → Shared → Prop} {s : Shared} {K : Frag}

def ledger (h : Heap) (L d : Addr) : List (Addr × Obj) := (List.range h.objs.size).filterMap fun a => if a = L ∨ a = d then none else (h.get? a).map fun o => (a, o)
end
end Att

namespace L2
open PySem PySem.Spec PyProof.Rows

theorem vals_ints : ∀ {vs : List Value} {ns : List Int}, IntsAre vs ns → Vals (ns.map V.int) vs
  | _, _, .nil => .nil
  | _, _, .cons n t h => .cons ⟨t, rfl⟩ (vals_ints h)

def Only (H : Hp) : Prop := ∀ b, H b = none ∨ ∃ o xs, H b = some (.frz o (.lst xs))

theorem law_call {P : Program} {w : World} {K : PySem.W.Frag} {mg mb : Str → Option Value} {CX : CXT} {k : Nat} {fa a : Addr} {fd : FuncData} {x : Str} {sp : Sp} {s₁ : Shared} {vs : List Value} {ns : List Int}
    (KX : K.In s₁.heap) (hns : s₁.heap.Ns mainGlobals mg) (hb : s₁.heap.Ns builtinsNs mb) (hbb : ∀ x : Str, x ≠ "__name__" → mb x = bootBuiltins x) (hlim : s₁.heap.NoLimit) (hg : s₁.gens = #[])
    (ha : s₁.heap.get? a = some { cls := .type "list", data := .seq vs.toArray }) (hi : IntsAre vs ns) (hl : ns.length ≤ sizeLine) (hr : Room k callerA)
    (F : ∀ base : Heap, K.In base → base.Ns mainGlobals mg → FnOk P w K mg base CX k fa fd [x] sp) (hbind : ∀ (s : Shared) (u : Value), BindsTo s fd ⟨[u], []⟩ [(x, u)])
    (hsp : ∀ H : Hp, Only H → SqL K H a (ns.map V.int) → sp [.ref a] H (fun v _ => v = .bl true) fun _ _ _ => False)
    (hCX : ∀ H e s', CX [] H s₁ (fun _ _ _ => False) e s' → False) :
    codeAny (model P w) callerA (.call (.ref fa) ⟨[.ref a], []⟩) (fun r s' => r = .ok (.ret (.bool true)) ∧ OldK s₁.heap s'.heap ∧ s'.os = s₁.os ∧ AllBare s'.gens) s₁ := by
  have rv := vals_ints hi
  have lenV := hi.length
  -- from an abstract heap in which nothing but the script may be tracked
  have core : ∀ H : Hp, Only H → SqL K H a (ns.map V.int) → HOk P w H s₁.heap → (∀ b, H b ≠ none → b = a) → (H a ≠ none → K.lookup a = none) →
      codeAny (model P w) callerA (.call (.ref fa) ⟨[.ref a], []⟩) (fun r s' => r = .ok (.ret (.bool true)) ∧ OldK s₁.heap s'.heap ∧ s'.os = s₁.os ∧ AllBare s'.gens) s₁ := by
    intro H hO hS hok hA hK
    have base_of : ∀ {b : Addr} {o : Obj}, s₁.heap.get? b = some o → H b = none → (hidT s₁.heap H).get? b = some o := fun e n => hidT_get e n
    have noA : ∀ {b : Addr} {o : Obj} {es : Array DictEntry} {ep : Nat}, s₁.heap.get? b = some o → o.data = .dict es ep → H b = none := fun {b o es ep} e d => by
      cases q : H b with
      | none => rfl
      | some u =>
        have e' : b = a := hA b (by rw [q]; simp)
        subst e'
        rw [ha] at e; cases e
        have d' : Data.seq vs.toArray _ = Data.dict es ep := d
        cases d'
    have nsK : ∀ {b : Addr} {m : Str → Option Value}, s₁.heap.Ns b m → (hidT s₁.heap H).Ns b m := fun {b m} ⟨o, es, ep, e, d, r⟩ => ⟨o, es, ep, base_of e (noA e d), d, r⟩
    have hKb : K.In (hidT s₁.heap H) := fun b o e => base_of (KX b o e) (by
      cases q : H b with
      | none => rfl
      | some u =>
        have e' : b = a := hA b (by rw [q]; simp)
        subst e'
        rw [hK (by rw [q]; simp)] at e; cases e)
    have hM : Mod K mg (hidT s₁.heap H) := ⟨hKb, nsK hns, ⟨mb, nsK hb, hbb⟩, let ⟨mc, h1, h2⟩ := hlim; ⟨mc, nsK h1, h2⟩⟩
    have e0 : Env0 P w K mg (hidT s₁.heap H) callerA [] s₁ H := ⟨rfl, hM, fun b o e => of_hidT e, Nat.le_of_eq (hidT_size _ _), trivial, fun b hb => absurd (show b ∈ ([] : List Addr) from hb) (by simp), hok, .of_eq hg⟩
    refine codeAny_mono ((F _ hKb (nsK hns)).run callerA [] s₁ H ⟨[.ref a], []⟩ [.ref a] [.ref a] _ _ hr e0 (hbind s₁ (.ref a)) (.cons rfl .nil) (hsp H hO hS)) fun r s' h => ?_
    cases r with
    | error e => exact (hCX H e s' h).elim
    | ok fl =>
      cases fl with
      | next => exact False.elim h
      | brk => exact False.elim h
      | cont => exact False.elim h
      | ret u =>
        obtain ⟨v, H', os, bare, un, hok', r', q⟩ := h
        have q' : v = .bl true := q
        subst q'
        obtain rfl : u = Value.bool true := r'
        refine ⟨rfl, OldK.of_keep fun b o e => ?_, os, bare⟩
        cases q : H b with
        | none => exact un.keep b o e q (by intro z; exact absurd (show b ∈ ([] : List Addr) from z) (by simp)) (by simp)
        | some u =>
          rcases hO b with z | ⟨ob, xs, z⟩
          · rw [q] at z; cases z
          · have z2 := un.frzs b ob _ z
            obtain ⟨e1, _⟩ := hok b _ z
            obtain ⟨e2, _⟩ := hok' b _ z2
            rw [e] at e1; cases e1
            exact e2
  cases hk : K.lookup a with
  | some o =>
    -- the script is one of the module's own objects
    have e := KX a o hk
    rw [ha] at e
    cases e
    refine core (fun _ => none) (fun _ => .inl rfl) (.inr ⟨_, vs.toArray, _, hk, rfl, rfl, rfl, by rw [List.size_toArray, lenV]; exact hl, by simpa using rv⟩) (fun b u z => by have z' : (none : Option HO) = some u := z; cases z') (fun b z => absurd rfl z) fun z => absurd rfl z
  | none =>
    refine core (fun b => if b = a then some (.frz { cls := .type "list", data := .seq vs.toArray } (.lst (ns.map V.int))) else none) (fun b => ?_) (.inl (.inr ⟨{ cls := .type "list", data := .seq vs.toArray }, if_pos rfl⟩)) (fun b u z => ?_) (fun b z => ?_) fun _ => hk
    · by_cases hb : b = a
      · exact .inr ⟨_, _, if_pos hb⟩
      · exact .inl (if_neg hb)
    · by_cases hb : b = a
      · have z' := (if_pos hb).symm.trans z
        cases z'
        subst hb
        exact ⟨ha, by rw [List.length_map]; exact hl, vs, _, rv, ha⟩
      · have z' := (if_neg hb).symm.trans z
        cases z'
    · by_cases hb : b = a
      · exact hb
      · exact absurd (if_neg hb) z
end L2

namespace L2
open PySem PySem.Spec PyProof.Rows

abbrev KOf {K : PySem.W.Frag} {h : Heap} (_ : K.In h) : PySem.W.Frag := K

theorem walk_of {l : PySem.W.OpenLaw} {n k : Nat} {q : Program} {loose : List Str} {XP : (Str → Option Value) → Heap → Prop} {YP : World → Heap → Prop} {d : DefRec} {K : Params → PySem.W.Frag} {CX : World → CXT} {sp : World → Sp} {x : Str}
    (hn : l.most = some n) (hn2 : n ≤ sizeLine) (hdf : d.params.defaults = []) (hr : Room k callerA)
    (hY : ∀ (w : World) (h : Heap), YP w h → (K w.params).In h)
    (F : ∀ (w : World) (mg : Str → Option Value) (fa : Addr) (h : Heap), (K w.params).In h → h.Ns mainGlobals mg → mg d.name = some (.ref fa) →
      ∃ fd : FuncData, (∀ (s : Shared) (u : Value), BindsTo s fd ⟨[u], []⟩ [(x, u)]) ∧
        ∀ base : Heap, (K w.params).In base → base.Ns mainGlobals mg → FnOk l.prog w (K w.params) mg base (CX w) k fa fd [x] (sp w))
    (hsp : ∀ (w : World) (H : Hp) (a : Addr) (ns : List Int), ns.length ≤ n → Only H → SqL (K w.params) H a (ns.map V.int) → sp w [.ref a] H (fun v _ => v = .bl true) fun _ _ _ => False)
    (hCX : ∀ (w : World) (H : Hp) (s : Shared) (e : Value) (s' : Shared), CX w [] H s (fun _ _ _ => False) e s' → False) :
    PySem.W.WalkO q loose XP YP l.row.toRowW d [] (fun f vs => PySem.call f vs) := by
  refine Att.attach_call hn hdf fun w s₀ s₁ mg mb fa o pm cd doc a vs ns G Y ho hd hcd hmg hobj hints hlen hg => ?_
  have KX := hY w _ Y
  obtain ⟨fd, hb, hF⟩ := F w mg fa _ KX G.T.g hmg
  exact law_call KX G.T.g G.T.b G.T.builtins G.T.nolimit hg hobj hints (Nat.le_trans hlen hn2) hr hF hb (fun H hO hS => hsp w H a ns hlen hO hS) fun H e s' => hCX w H s₁ e s'
end L2

/- THE LAST THEOREM (shape; LID, My.* are yours):
   My.Adr: a structure of the addresses that your layer names (classes, functions); My.Txt K t: a structure (Prop) of the equations over K;
   My.txt_mk : {K} {implicit addresses ..} (e1 : nsIn K mainGlobals "law" = some (some (.ref f))) (e2 : K.lookup f = some ⟨oc, od, .func (fnOf "law" "law" params body scope dV kV doc pm an cdv ct), sl⟩) (e3 : codeIn K cdv "law" = true) .. : ∃ t, My.Txt K t

set_option maxRecDepth 100000 in
set_option maxHeartbeats 0 in
theorem PySem.Challenge.cw_LID_holds : PySem.Challenge.rw_LID.Holds := by
  w_on; o_law; k_head; (case hw => w_witness2)
  k_fill
  refine L2.walk_of (l := PySem.Challenge.rw_LID) (n := 63) (k := 40) (x := "script") (CX := fun w => ..) (sp := fun _ => My.sp_law) rfl (by decide) rfl ⟨rfl, by decide, by decide⟩ (fun w h Y => PySem.W.kIn_of Y) ?F ?S ?C
  case F =>
    intro w mg fa h KX G hmg
    have T : ∃ t, My.Txt (L2.KOf KX) t := by
      dsimp only [L2.KOf]                          -- K must stand as «<heap const> w.params» for k_is
      refine' My.txt_mk ?e1 ?e2 ?e3 ..
      (case e1 => PySem.W.k_is)                    -- in the order: a name -> its address -> its object -> its parts
      (case e2 => PySem.W.k_is)
      ..
    obtain ⟨t, T⟩ := T
    have e0 := hmg.symm.trans (PySem.W.mg_of KX G T.law)
    cases e0                                       -- fa is the law's own address
    exact ⟨_, fun s u => .of_eq rfl, fun base kb nb => My.law_fn T kb nb⟩     -- if «.of_eq rfl» comes too early: refine' ⟨_, ?b, fun base kb nb => My.law_fn T kb nb⟩; exact fun s u => .of_eq rfl
  case S => exact fun w H a ns hl hO hS => ..
  case C => exact ..
(the tactic k_is has no namespace: write k_is) -/

namespace L2
open PySem PySem.Spec PyProof.Rows

def inClass (s : Stmt) (j : Nat) : Stmt := match s with
  | .ClassDef _ _ _ body _ _ _ _ _ _ _ => body.getD j (.Pass ⟨0, 0, 0, 0⟩)
  | _ => .Pass ⟨0, 0, 0, 0⟩
def defArgs (s : Stmt) : Arguments := match s with
  | .FunctionDef _ a _ _ _ _ _ _ _ _ => a
  | _ => { posonlyargs := [], args := [], vararg := none, kwonlyargs := [], kw_defaults := [], kwarg := none, defaults := [] }
def defBody (s : Stmt) : List Stmt := match s with
  | .FunctionDef _ _ b _ _ _ _ _ _ _ => b
  | _ => []
def defScope (s : Stmt) : Scope := match s with
  | .FunctionDef _ _ _ _ _ _ sc _ _ _ => sc
  | _ => { kind := .function, names := [], isGenerator := false, isCoroutine := false }

abbrev CX0 : CXT := fun _ _ _ _ _ _ => False
abbrev E0 : XK := fun _ _ _ => False
theorem pass0 {X : Cx} : Passes CX0 X E0 := fun _ _ _ _ _ _ _ h => h.elim

structure Fun (K : PySem.W.Frag) (x qual : Str) (st : Stmt) (f : Addr) (fd : FuncData) : Prop where
  ex : ∃ (oc : Value) (od : Option Addr) (kV doc pm : Value) (an : Option Addr) (cdv ct : Value) (osl : Array (Option Value)),
    fd = PySem.W.fnOf x qual (defArgs st) (defBody st) (defScope st) .none kV doc pm an cdv ct ∧ K.lookup f = some ⟨oc, od, .func fd, osl⟩ ∧ PySem.W.codeIn K cdv qual = true
  kp : PySem.W.keepIn K (.ref f) = true
section
variable {P : Program} {w : World} {K : PySem.W.Frag} {mg : Str → Option Value} {base : Heap}
theorem Fun.ok {x qual : Str} {st : Stmt} {f : Addr} {fd : FuncData} {N ps : List Str} {k : Nat} {sp : Sp} (F : Fun K x qual st f fd) (S : FnScope N ps (defScope st)) (len : ∀ vs H Q E, sp vs H Q E → vs.length = ps.length)
    (hbody : ∀ (cdv : Value) (A : Around) (outer : List Env) (s : Shared) (H : Hp) (vs : List V) (Q : VK) (E : XK), Room k (A.deeper (envOfC qual (defScope st) s.heap.objs.size f cdv)) → sp vs H Q E →
      ∃ t, PSs (cxOf CX0 P w K mg base N qual (defScope st) f cdv A outer s H E).nox (defBody st) t ∧ t { nx := fun _ H' => Q .non H', rt := Q } (start N vs) H) : FnOk P w K mg base CX0 (k + 1) f fd ps sp := by
  obtain ⟨oc, od, kV, doc, pm, an, cdv, ct, osl, rfl, lk, hcd⟩ := F.ex
  refine fn_of lk hcd S len fun A outer s H vs Q E hr hsp => ?_
  obtain ⟨t, h, q⟩ := hbody cdv A outer s H vs Q E hr hsp
  exact ⟨t, h.nox, q⟩
theorem Fun.binds {x qual : Str} {st : Stmt} {f : Addr} {fd : FuncData} {ps : List Str} (F : Fun K x qual st f fd)
    (h : ∀ (kV doc pm : Value) (an : Option Addr) (cdv ct : Value) (us : List Value), us.length = ps.length → bindArgs (PySem.W.fnOf x qual (defArgs st) (defBody st) (defScope st) .none kV doc pm an cdv ct) ⟨us, []⟩ = pure (ps.zip us)) : Binds K fd ps [] := by
  obtain ⟨oc, od, kV, doc, pm, an, cdv, ct, osl, rfl, lk, hcd⟩ := F.ex
  exact .all (h kV doc pm an cdv ct)
theorem fun_mk {x qual : Str} {st : Stmt} {f : Addr} {oc : Value} {od an : Option Addr} {osl : Array (Option Value)} {kV doc pm cdv ct : Value} (l : K.lookup f = some ⟨oc, od, .func (PySem.W.fnOf x qual (defArgs st) (defBody st) (defScope st) .none kV doc pm an cdv ct), osl⟩)
    (c : PySem.W.codeIn K cdv qual = true) (k : PySem.W.keepIn K (.ref f) = true) : Fun K x qual st f (PySem.W.fnOf x qual (defArgs st) (defBody st) (defScope st) .none kV doc pm an cdv ct) := ⟨⟨oc, od, kV, doc, pm, an, cdv, ct, osl, rfl, l, c⟩, k⟩
end
theorem small1000 {n : Nat} (h : n ≤ 1000) : n < sizeLine := Nat.lt_of_le_of_lt h (by decide)

section
variable {X : Cx}
theorem pv (i : Nat) {x : Str} {pos : Pos} (hN : X.N[i]? = some x := by rfl) (hv : Vis X.env.scope x := by first | exact Or.inl rfl | exact Or.inr (Or.inl rfl) | exact Or.inr (Or.inr rfl)) (hd : (x == ("__debug__" : Str)) = false := by decide)
    (hcd : (x == ("__classdict__" : Str)) = false := by decide) : PE X (.Name x pos) (tVar i) := pe_var hN hv hd hcd
end

theorem ite2 {c A B : Prop} [Decidable c] (h1 : c → A) (h2 : ¬ c → B) : if c then A else B := by
  by_cases h : c
  · rw [if_pos h]
    exact h1 h
  · rw [if_neg h]
    exact h2 h
def Same (H H' : Hp) : Prop := ∀ b o, H b = some o → H' b = some o
theorem Same.refl (H : Hp) : Same H H := fun _ _ h => h
theorem Same.trans {H H1 H2 : Hp} (a : Same H H1) (b : Same H1 H2) : Same H H2 := fun c o h => b c o (a c o h)
theorem Same.seq {K : PySem.W.Frag} {H H' : Hp} {a : Addr} {xs : List V} (e : Same H H') (h : SqL K H a xs) : SqL K H' a xs := by
  rcases h with (h | ⟨o, h⟩) | h
  · exact .inl (.inl (e _ _ h))
  · exact .inl (.inr ⟨o, e _ _ h⟩)
  · exact .inr h

end L2

namespace L2
open PySem PySem.Spec PyProof.Rows

def tbO (T : Addr) (h : Heap) : Prop := ∃ o ts, h.get? T = some o ∧ o.data = .fields ts ∧ ts[3]? = some .none
def exO (a C dx : Addr) (h : Heap) : Prop := ∃ o vs, h.get? a = some o ∧ o.cls = .ref C ∧ o.dict = some dx ∧ o.data = .fields vs ∧ dx ≠ a
theorem tbO_stay {T : Addr} (h1 h2 : Heap) (x : tbO T h1) (k : ∀ o, h1.get? T = some o → h2.get? T = some o) : tbO T h2 :=
  let ⟨o, ts, e, r⟩ := x; ⟨o, ts, k o e, r⟩
theorem exO_stay {a C dx : Addr} (h1 h2 : Heap) (x : exO a C dx h1) (k : ∀ o, h1.get? a = some o → h2.get? a = some o) : exO a C dx h2 :=
  let ⟨o, vs, e, r⟩ := x; ⟨o, vs, k o e, r⟩
def Flight (h : Heap) (H : Hp) (a : Addr) : Prop := ∃ o vs, h.get? a = some o ∧ o.data = .fields vs ∧ (vs[1]? = some .none ∨ ∃ T, vs[1]? = some (.ref T) ∧ T ≠ a ∧ H T = some (.ext (tbO T)))

section
variable {M : Model} {A : Around} {E : Value → Shared → Prop} {s : Shared} {base : Heap} {env : Env} {outer : List Env} {L e : Addr}

structure Flown (fs : List Addr) (e : Addr) (old : Option Addr) (oe : Obj) (h h' : Heap) : Prop where
  keep : ∀ b o, b ∉ fs → b ≠ e → old ≠ some b → h.get? b = some o → h'.get? b = some o
  slot : ∀ b o, b ≠ e → old ≠ some b → h.get? b = some o → ∃ sl, h'.get? b = some { o with slots := sl }
  exc : ∃ vs T, h'.get? e = some { oe with data := .fields vs } ∧ vs[1]? = some (.ref T) ∧ T ≠ e ∧ h.objs.size ≤ T ∧ tbO T h'
  old : ∀ b, old = some b → tbO b h'

theorem fly_new {oe : Obj} {vs : Array Value} {head : Value} {hadNext : Bool} {Q : Unit → Shared → Prop} (fr : A.frames = some (env :: outer)) (ff : s.heap.FunFrames base (env :: outer)) (ef : env.frame = some L)
    (oe_at : s.heap.get? e = some oe) (od : oe.data = .fields vs) (z : 1 < vs.size)
    (q : ∀ h', Flown (frs (env :: outer)) e none oe s.heap h' → Q () { s with heap := h' }) :
    wpAny M A (frameOf env >>= fun a => entryPlaceOf L hadNext >>= fun pl => EntryCells.newEntry head a .none (rawInt L) .none pl >>= fun b => setField (.ref e) 1 b)
      (fun _ s' => wpAny M A (setFlight (.ref e) none) Q E s') E s := by
  have ne : e ∉ frs (env :: outer) := fun hm => by
    obtain ⟨_, o, ho, hnf⟩ := ff.mem hm
    rw [oe_at] at ho; cases ho; exact hnf vs od
  refine wpAny_bind (wpAny_frameOf_fun fr ff ef fun h₁ sl₁ => wpAny_bind (wpAny_entryPlaceOf fun pl hpl => ?_))
  unfold EntryCells.newEntry newFields
  refine wpAny_bind (wpAny_newObj_type ?_ (hpl.sizeOk5 _ _ _ _ _))
  generalize hob : ({ cls := .type "traceback", dict := none, data := .fields ([head, .ref L, .none, rawInt L, .none] ++ (if pl.isEmpty then List.replicate 6 Value.none else pl)).toArray } : Obj) = ob
  have obd : ∃ ts : Array Value, ob.data = .fields ts ∧ 3 < ts.size := ⟨_, by rw [← hob], by simp only [List.size_toArray, List.length_append, List.length_cons, List.length_nil]; omega⟩
  obtain ⟨ts, obd, tz⟩ := obd
  have e₁ : h₁.get? e = some oe := (sl₁.2.1 e ne).trans oe_at
  have e₂ : (h₁.push ob).get? e = some oe := Heap.get?_push_of_some ob e₁
  refine wpAny_setField e₂ od z ?_
  have Te : h₁.objs.size ≠ e := Nat.ne_of_gt (Heap.lt_size e₁)
  have d₃ := Obj.data_mapFields od (·.setIfInBounds 1 (Value.ref h₁.objs.size))
  have e₃ := Heap.get?_update_self (Obj.mapFields (·.setIfInBounds 1 (Value.ref h₁.objs.size))) e₂ (Obj.isFreed_of_fields d₃)
  have t₂ : (h₁.push ob).get? h₁.objs.size = some ob := Heap.get?_push_size h₁ (Obj.isFreed_of_fields obd)
  have t₃ := (Heap.get?_update_other (h₁.push ob) (Obj.mapFields (·.setIfInBounds 1 (Value.ref h₁.objs.size))) (Ne.symm Te)).trans t₂
  unfold setFlight
  refine wpAny_bind (wpAny_field e₃ d₃ (x := .ref h₁.objs.size) (by simp [z]) ?_)
  rw [if_pos (by simp)]
  refine wpAny_setField t₃ obd tz (q _ ?_)
  have kk : ∀ b o, b ≠ e → h₁.get? b = some o → (((h₁.push ob).update e (Obj.mapFields (·.setIfInBounds 1 (Value.ref h₁.objs.size)))).update h₁.objs.size (Obj.mapFields (·.setIfInBounds 3 ((none : Option Addr).elim Value.none fun f => rawInt f)))).get? b = some o := by
    intro b o nb hb
    rw [Heap.get?_update_other _ _ (Nat.ne_of_gt (Heap.lt_size hb)), Heap.get?_update_other _ _ (Ne.symm nb)]
    exact Heap.get?_push_of_some ob hb
  refine ⟨fun b o nf nb _ hb => kk b o nb ((sl₁.2.1 b nf).trans hb), fun b o nb _ hb => ?_, ⟨vs.setIfInBounds 1 (Value.ref h₁.objs.size), h₁.objs.size, ?_, by simp [z], Te, by rw [sl₁.1]; exact Nat.le_refl _, ?_⟩, fun b z => by cases z⟩
  · obtain ⟨sl, hs⟩ := sl₁.2.2 b o hb
    exact ⟨sl, kk b _ nb hs⟩
  · rw [Heap.get?_update_other _ _ Te, e₃]
    obtain ⟨c, d, dt, sl⟩ := oe
    cases od
    rfl
  · exact ⟨_, _, Heap.get?_update_self _ t₃ (Obj.isFreed_of_fields (Obj.data_mapFields obd _)), Obj.data_mapFields obd _, by simp [tz]⟩

theorem fly {oe : Obj} {vs : Array Value} {old : Option Addr} {Q : Unit → Shared → Prop} (fr : A.frames = some (env :: outer)) (ff : s.heap.FunFrames base (env :: outer)) (ef : env.frame = some L)
    (oe_at : s.heap.get? e = some oe) (od : oe.data = .fields vs) (ht : vs[1]? = some (old.elim .none .ref)) (ho : ∀ T, old = some T → T ≠ e ∧ tbO T s.heap)
    (q : ∀ h', Flown (frs (env :: outer)) e old oe s.heap h' → Q () { s with heap := h' }) :
    wpAny M A (noteFrame (.ref e) env) (fun _ s' => wpAny M A (setFlight (.ref e) none) Q E s') E s := by
  have z : 1 < vs.size := (Array.getElem?_eq_some_iff.mp ht).1
  unfold noteFrame
  simp only [ef]
  refine wpAny_bind (wpAny_field oe_at od ht ?_)
  cases old with
  | none =>
    rw [if_neg (by simp)]
    exact fly_new fr ff ef oe_at od z q
  | some T =>
    obtain ⟨Te, oT, ts, hT, dT, h3⟩ := ho T rfl
    rw [if_pos (by simp)]
    refine wpAny_bind (wpAny_field hT dT h3 ?_)
    rw [if_neg (by simp [rawInt])]
    have tz : 3 < ts.size := (Array.getElem?_eq_some_iff.mp h3).1
    refine wpAny_bind (wpAny_setField hT dT tz ?_)
    have oth : ∀ b, b ≠ T → (s.heap.update T (Obj.mapFields (·.setIfInBounds 3 Value.none))).get? b = s.heap.get? b := fun b hb => Heap.get?_update_other _ _ (Ne.symm hb)
    have dT' := Obj.data_mapFields dT (·.setIfInBounds 3 Value.none)
    have hT' := Heap.get?_update_self (Obj.mapFields (·.setIfInBounds 3 Value.none)) hT (Obj.isFreed_of_fields dT')
    have nT : T ∉ frs (env :: outer) := fun hm => by
      obtain ⟨_, o, ho, hnf⟩ := ff.mem hm
      rw [hT] at ho; cases ho; exact hnf ts dT
    refine fly_new (s := { s with heap := s.heap.update T (Obj.mapFields (·.setIfInBounds 3 Value.none)) }) fr (ff.of_keeps fun b o hb hnf => ⟨o, (oth b fun w => by subst w; rw [hT] at hb; cases hb; exact hnf ts dT).trans hb, rfl⟩) ef ((oth e (Ne.symm Te)).trans oe_at) od z fun h' F => q h' ?_
    obtain ⟨vs', T', x1, x2, x3, x4, x5⟩ := F.exc
    refine ⟨fun b o nf nb no hb => F.keep b o nf nb (by simp) ((oth b fun w => no (by rw [w])).trans hb), fun b o nb no hb => F.slot b o nb (by simp) ((oth b fun w => no (by rw [w])).trans hb), ⟨vs', T', x1, x2, x3, ?_, x5⟩, fun b w => ?_⟩
    · simpa [Heap.size_update] using x4
    · cases w
      exact ⟨_, _, F.keep T _ nT Te (by simp) hT', dT', by simp [tz]⟩
end

section
variable {P : Program} {w : World} {H : Hp} {h h' : Heap} {fs : List Addr} {e : Addr} {oe : Obj} {vs : Array Value} {old : Option Addr} {φ : Heap → Prop}
theorem Flown.held (F : Flown fs e old oe h h') (oe_at : h.get? e = some oe) (hok : HOk P w H h) (ff : ∀ b ∈ fs, H b = none) (He : H e = some (.ext φ)) (hφ : ∀ h1 h2 : Heap, (∀ o vs, h1.get? e = some o → h2.get? e = some { o with data := .fields vs } → φ h1 → φ h2))
    (ho : ∀ T, old = some T → H T = some (.ext (tbO T))) :
    ∃ H', Same H H' ∧ Un fs [] H H' h h' ∧ HOk P w H' h' ∧ Flight h' H' e := by
  obtain ⟨vs', T, x1, x2, x3, x4, x5⟩ := F.exc
  have nT : H T = none := hok.fresh x4
  have eT : ∀ b, old = some b → b ≠ T := fun b w z => by
    have := ho b w
    rw [z, nT] at this; cases this
  have hs : Same H (upd H T (.ext (tbO T))) := fun b o q => by rw [upd_ne (ne_of_none q nT)]; exact q
  have tr : ∀ b o, H b = none → h.get? b = some o → b ≠ e ∧ old ≠ some b := fun b o n q => ⟨fun z => (by rw [z, He] at n; cases n), fun z => (by rw [ho b z] at n; cases n)⟩
  refine ⟨upd H T (.ext (tbO T)), hs, ⟨fun b o q n nf _ => F.keep b o nf (tr b o n q).1 (tr b o n q).2 q, fun b o q n _ _ => F.slot b o (tr b o n q).1 (tr b o n q).2 q, fun b o q n _ => ?_, fun b o q _ => ?_, fun b xs q => hs b _ q, fun b o u q => hs b _ q, fun b ps q => ⟨#[], by rw [hs b _ q]; simp⟩⟩, fun b u q => ?_, ⟨_, vs', x1, rfl, .inr ⟨T, x2, x3, upd_same⟩⟩⟩
  · rw [upd_ne]
    · exact n
    · intro z; rw [z, Heap.get?_none_of_le x4] at q; cases q
  · by_cases z : b = e
    · exact ⟨_, by rw [z]; exact x1⟩
    · by_cases z' : old = some b
      · obtain ⟨o', _, k, _⟩ := F.old b z'; exact ⟨o', k⟩
      · obtain ⟨sl, k⟩ := F.slot b o z z' q; exact ⟨_, k⟩
  · by_cases z : b = T
    · subst z
      rw [upd_same] at q; cases q
      exact ⟨x5, let ⟨o, _, k, _⟩ := x5; ⟨o, k⟩, tbO_stay⟩
    · rw [upd_ne z] at q
      by_cases z1 : b = e
      · subst z1
        rw [He] at q; cases q
        obtain ⟨p1, _, p3⟩ := hok b _ He
        exact ⟨hφ h h' oe vs' oe_at x1 p1, ⟨_, x1⟩, p3⟩
      · by_cases z2 : old = some b
        · rw [ho b z2] at q; cases q
          have k := F.old b z2
          exact ⟨k, let ⟨o, _, k, _⟩ := k; ⟨o, k⟩, tbO_stay⟩
        · refine (hok b u q).stay (fun c v hc r => ?_) (fun c r => hs c _ r) fun c xs r => hs c _ r
          have nf : c ∉ fs := fun m => by
            have := ff c m
            rcases hc with rfl | hc
            · rw [q] at this; cases this
            · rw [hc] at this; cases this
          refine F.keep c v nf ?_ ?_ r
          · rintro rfl
            rcases hc with rfl | hc
            · exact z1 rfl
            · rw [He] at hc; cases hc
          · intro m
            rcases hc with rfl | hc
            · exact z2 m
            · rw [ho c m] at hc; cases hc
end
theorem exO_fields {a C dx : Addr} (h1 h2 : Heap) (o : Obj) (vs : Array Value) (e1 : h1.get? a = some o) (e2 : h2.get? a = some { o with data := .fields vs }) (x : exO a C dx h1) : exO a C dx h2 := by
  obtain ⟨o', vs', q, r1, r2, r3, r4⟩ := x
  rw [e1] at q; cases q
  exact ⟨_, vs, e2, r1, r2, rfl, r4⟩
end L2

namespace L2
open PySem PySem.Spec PyProof.Rows

def Exc (H : Hp) (a : Addr) : Prop := ∃ C dx, H a = some (.ext (exO a C dx))
theorem Exc.same {H H' : Hp} {a : Addr} (x : Exc H a) (s : Same H H') : Exc H' a := let ⟨C, dx, e⟩ := x; ⟨C, dx, s _ _ e⟩

def CXe (P : Program) (w : World) : CXT := fun outer H s E e s' =>
  ∃ a H', e = .ref a ∧ s'.os = s.os ∧ AllBare s'.gens ∧ Un (frs outer) [] H H' s.heap s'.heap ∧ HOk P w H' s'.heap ∧ Flight s'.heap H' a ∧ Exc H' a ∧ E (.ref a) none H'
def Wish (X : Cx) (σ : St) (a : Addr) (H : Hp) : Prop := ∀ (pins : List (Addr × Obj)) (s : Shared), Inv X pins σ H s → Flight s.heap H a → Exc H a → X.xe (.ref a) s

section
variable {X : Cx} {pins : List (Addr × Obj)} {σ : St} {H : Hp} {s : Shared} {a : Addr} {E : Value → Shared → Prop} {Q : Unit → Shared → Prop}
theorem flies (I : Inv X pins σ H s) (hst : X.stack = X.env :: X.outer) (hfr : X.env.frame = some X.env.locals) (fl : Flight s.heap H a) (ex : Exc H a)
    (q : ∀ H' h', Same H H' → Un (frs X.stack) [] H H' s.heap h' → HOk X.prog X.w H' h' → Flight h' H' a → Q () { s with heap := h' }) :
    wpAny (model X.prog X.w) X.A (noteFrame (.ref a) X.env) (fun _ s' => wpAny (model X.prog X.w) X.A (setFlight (.ref a) none) Q E s') E s := by
  obtain ⟨o, vs, e1, e2, e3⟩ := fl
  obtain ⟨C, dx, He⟩ := ex
  have ff := I.stack
  have fr := I.ok.frames
  rw [hst] at ff fr
  have key : ∀ old : Option Addr, vs[1]? = some (old.elim .none .ref) → (∀ T, old = some T → T ≠ a ∧ H T = some (.ext (tbO T))) →
      wpAny (model X.prog X.w) X.A (noteFrame (.ref a) X.env) (fun _ s' => wpAny (model X.prog X.w) X.A (setFlight (.ref a) none) Q E s') E s := by
    intro old h1 h2
    refine fly fr ff hfr e1 e2 h1 (fun T z => ⟨(h2 T z).1, (I.hok T _ (h2 T z).2).1⟩) fun h' F => ?_
    obtain ⟨H', y1, y2, y3, y4⟩ := F.held e1 I.hok (fun b hb => I.stkFree b (by rw [hst]; exact hb)) He (fun h1 h2 o vs x1 x2 x3 => exO_fields h1 h2 o vs x1 x2 x3) fun T z => (h2 T z).2
    exact q H' h' y1 (by rw [hst]; exact y2) y3 y4
  rcases e3 with e3 | ⟨T, e3, e4, e5⟩
  · exact key none e3 fun _ z => by cases z
  · exact key (some T) e3 fun _ z => by cases z; exact ⟨e4, e5⟩
theorem lands (I : Inv X pins σ H s) (hst : X.stack = X.env :: X.outer) (hfr : X.env.frame = some X.env.locals) (fl : Flight s.heap H a) (ex : Exc H a)
    (q : ∀ H' s', Same H H' → Inv X pins σ H' s' → Flight s'.heap H' a → Q () s') :
    wpAny (model X.prog X.w) X.A (noteFrame (.ref a) X.env) (fun _ s' => wpAny (model X.prog X.w) X.A (setFlight (.ref a) none) Q E s') E s :=
  flies I hst hfr fl ex fun H' h' y1 y2 y3 y4 => q H' _ y1 (I.call (t' := s.toks) (g' := s.gens) (d' := s.drawn) (ch := []) y2 y3 I.bare fun b z => absurd z (by simp)) y4
theorem leaves (I : Inv X pins σ H s) (hst : X.stack = X.env :: X.outer) (hfr : X.env.frame = some X.env.locals) (hx : X.ex = []) (fl : Flight s.heap H a) (ex : Exc H a)
    (q : ∀ H' s', s'.os = X.s₀.os → AllBare s'.gens → Same H H' → Un (frs X.outer) [] X.H₀ H' X.s₀.heap s'.heap → HOk X.prog X.w H' s'.heap → Flight s'.heap H' a → Exc H' a → Q () s') :
    wpAny (model X.prog X.w) X.A (leaving X.env (.ref a)) Q E s := by
  refine wpAny_bind (flies I hst hfr fl ex fun H' h' y1 y2 y3 y4 => q H' _ I.os I.bare y1 ?_ y3 y4 (ex.same y1))
  have b := I.base
  rw [hx] at b
  have nl : ∀ c o, X.s₀.heap.get? c = some o → c ≠ X.env.locals := fun c o e => Nat.ne_of_lt (Nat.lt_of_lt_of_le (Heap.lt_size e) I.ok.above)
  have nf : ∀ c o, X.s₀.heap.get? c = some o → c ∉ frs X.outer → c ∉ frs X.stack := fun c o e n m => (List.mem_cons.mp (I.stkSub c m)).elim (nl c o e) n
  refine ⟨fun c o e n m _ => y2.keep c o (b.keep c o e n m (by simp)) (b.free c o e n (by simp)) (nf c o e m) (by simp), fun c o e n m _ => ?_, fun c o e n _ => ?_, fun c o e _ => ?_, fun c xs e => y2.tups c xs (b.tups c xs e), fun c o u e => y2.frzs c o u (b.frzs c o u e), fun c ps e => ?_⟩
  · obtain ⟨sl, e1⟩ := b.slot c o e n m (by simp)
    obtain ⟨sl', e2⟩ := y2.any e1 (b.free c o e n (by simp)) (by simp)
    exact ⟨sl', e2⟩
  · obtain ⟨o', e1⟩ := b.there c o e (by simp)
    exact y2.free c o' e1 (b.free c o e n (by simp)) (by simp)
  · obtain ⟨o', e1⟩ := b.there c o e (by simp)
    exact y2.there c o' e1 (by simp)
  · obtain ⟨m1, e1⟩ := b.tbls c ps e
    obtain ⟨m2, e2⟩ := y2.tbls c _ e1
    exact ⟨m1 ++ m2, by rw [e2, Array.append_assoc]⟩
end

theorem wish_of {P : Program} {w : World} {K : PySem.W.Frag} {mg : Str → Option Value} {base : Heap} {N : List Str} {qual : Str} {scope : Scope} {f : Addr} {cd : Value} {A : Around} {outer : List Env} {s : Shared} {H₀ : Hp} {E : XK} {σ : St} {a : Addr} {H : Hp}
    (h : ∀ H', Same H H' → E (.ref a) none H') : Wish (cxOf (CXe P w) P w K mg base N qual scope f cd A outer s H₀ E) σ a H := fun pins s1 I fl ex =>
  leaves I rfl rfl rfl fl ex fun H' s' y1 y2 y3 y4 y5 y6 y7 => ⟨a, H', rfl, y1, y2, y4, y5, y6, y7, h H' y3⟩

section
variable {X : Cx} {k : Nat} {f : Addr} {fd : FuncData} {ps : List Str} {sp : Sp} {x : Str} {p pos : Pos} {e : Expr} {es : List Expr} {t : TA}
def tCallX (X : Cx) (sp : Sp) (t : TA) : TE := fun σ H Q => t σ H fun vs H1 => sp vs H1 Q fun v _ H' => ∃ a, v = .ref a ∧ Wish X σ a H'
theorem run_fnX {pins : List (Addr × Obj)} {σ : St} {H : Hp} {s : Shared} {Q : VK} {us : List Value} {vs : List V} (F : FnOk X.prog X.w X.K X.mg X.base (CXe X.prog X.w) k f fd ps sp) (hr : Room k X.A) (hb : Binds X.K fd ps [])
    (I : Inv X pins σ H s) (r : Vals vs us) (h : sp vs H Q fun v _ H' => ∃ a, v = .ref a ∧ Wish X σ a H') : wpAny (model X.prog X.w) X.A (call (.ref f) us) (EP X pins σ Q) X.xe s := by
  have hl : us.length = ps.length := by rw [← r.length]; exact F.len _ _ _ _ h
  have hb' := hb s us I.kIn (by rw [List.append_nil]; exact hl)
  rw [List.append_nil] at hb'
  refine wpAny_call (codeAny_mono (F.run X.A X.stack s H ⟨us, []⟩ us vs Q _ hr I.env0 hb' r h) fun r s' hq => ?_)
  cases r with
  | error e =>
    obtain ⟨a, H', rfl, y1, y2, y3, y4, y5, y6, a', y7, y8⟩ := hq
    cases y7
    exact y8 pins s' (I.call' (ch := []) y1 y3 y4 y2 fun b z => absurd z (by simp)) y5 y6
  | ok fl =>
    cases fl with
    | ret u => exact I.after hq
    | next => exact False.elim hq
    | brk => exact False.elim hq
    | cont => exact False.elim hq
theorem pe_callX (F : FnOk X.prog X.w X.K X.mg X.base (CXe X.prog X.w) k f fd ps sp) (hr : Room k X.A) (hg : Gl X x) (hm : X.mg x = some (.ref f)) (hk : PySem.W.keepIn X.K (.ref f) = true) (hb : Binds X.K fd ps [])
    (ha : PA X (e :: es) t) (hdb : (x == ("__debug__" : Str)) = false := by decide) (he : starEach (e :: es) X.env = (false, eval e X.env) :: starEach es X.env := by rfl) (hpl : (backTo pos (starEach es X.env)).any (·.1) = false := by rfl) :
    PE X (.Call (.Name x p) (e :: es) [] pos) (tCallX X sp t) := by
  intro pins s σ H Q I h
  refine wpAny_Call_Name_kw (ld_glob I hg hm ?_ hdb)
  refine PySem.W.callWith_K (h₀ := X.base) I.ok.mod.kin hk (thn (ha pos pins s σ H _ I h) fun us s1 ⟨vs, H1, I1, r, q⟩ => ⟨I1.kIn, run_fnX F hr hb I1 r q⟩) he hpl
theorem FnOk.calm {P : Program} {w : World} {K : PySem.W.Frag} {mg : Str → Option Value} {base : Heap} {k : Nat} {f : Addr} {fd : FuncData} {ps : List Str} {sp sp' : Sp} (F : FnOk P w K mg base (CXe P w) k f fd ps sp)
    (h : ∀ vs H Q E, sp' vs H Q E → sp vs H Q E0) : FnOk P w K mg base CX0 k f fd ps sp' :=
  ⟨fun vs H Q E q => F.len vs H Q E0 (h _ _ _ _ q), fun A outer s H args us vs Q E hr he hb hv hs => codeAny_mono (F.run A outer s H args us vs Q E0 hr he hb hv (h _ _ _ _ hs)) fun r s' hq => by
    cases r with
    | error e => obtain ⟨_, _, _, _, _, _, _, _, _, z⟩ := hq; exact z.elim
    | ok fl => cases fl <;> exact hq⟩
end
end L2

namespace L2
open PySem PySem.Spec PyProof.Rows

abbrev bmV : List Value := [.type "ValueError", .type "Exception", .type "BaseException", .type "object"]
def strK (es : Array DictEntry) : Bool := es.toList.all fun e => match e.key with | .str _ _ => true | _ => false
theorem strK_of {es : Array DictEntry} (h : strK es = true) : StrKeys es := fun e he => by
  have := List.all_eq_true.mp h e (Array.mem_toList_iff.mpr he)
  split at this
  · rename_i n t q; exact ⟨n, t, q⟩
  · cases this
structure XC (K : PySem.W.Frag) (C F : Addr) : Prop where
  obj : ∃ nm q N bs sn sub ab col dd k0 k1 k2 k3 k5, K.lookup C = some (excClassObj nm q C N bs (.ref F :: bmV) true sn sub ab col dd k0 k1 k2 k3 k5 "ValueError.__new__")
  tail : ∃ c0 dd cd sl oc od es ep sl', K.lookup F = some ⟨c0, dd, .cls cd, sl⟩ ∧ K.lookup cd.ns = some ⟨oc, od, .dict es ep, sl'⟩ ∧ strK es = true ∧ nsFind es "__init__" = none
  sa : PySem.W.findIn K (.ref C) "__setattr__" = some (some (.builtin "object.__setattr__"))
  ga : PySem.W.findIn K (.ref C) "__getattribute__" = some (some (.builtin "BaseException.__getattribute__"))
  gh : PySem.W.findIn K (.ref C) "__getattr__" = some none
  cl : PySem.W.findIn K (.ref C) "__class__" = some (some (.builtin "object.__class__"))
  gg : PySem.W.specialIn K (.builtin "object.__class__") "__get__" = some (some (.builtin "getset_descriptor.__get__"))
  gt : PySem.W.takesIn K (.builtin "object.__class__") = some true
theorem XC.own {K : PySem.W.Frag} {C F : Addr} {h : Heap} (c : XC K C F) (X : K.In h) : OwnTail h bmV (.ref F :: bmV) := by
  obtain ⟨c0, dd, cd, sl, oc, od, es, ep, sl', h1, h2, h3, h4⟩ := c.tail
  exact .own (X _ _ h1) ⟨_, es, ep, X _ _ h2, rfl, strK_of h3, fun _ => rfl⟩ h4 .base

def excAt (C t : Addr) : Obj := { cls := .ref C, data := .fields #[.ref t, .none, .none, .none, .bool false, .none] }
def tupOf (vs : List Value) : Obj := { cls := .type "tuple", data := .seq vs.toArray }
def withExc (h : Heap) (C : Addr) (vs : List Value) : Heap := (h.push (tupOf vs)).push (excAt C h.objs.size)
theorem withExc_keep {h : Heap} {C : Addr} {vs : List Value} {b : Addr} {o : Obj} (e : h.get? b = some o) : (withExc h C vs).get? b = some o := Heap.get?_push_of_some _ (Heap.get?_push_of_some _ e)
theorem withExc_at {h : Heap} {C : Addr} {vs : List Value} : (withExc h C vs).get? (h.objs.size + 1) = some (excAt C h.objs.size) := by
  unfold withExc
  have e : h.objs.size + 1 = (h.push (tupOf vs)).objs.size := (Heap.size_push _ _).symm
  rw [e]; exact Heap.get?_push_size _ rfl

section
variable {prog : Program} {w : World} {A : Around} {E : Value → Shared → Prop} {s : Shared} {K : PySem.W.Frag} {C U fI : Addr} {rest : List Value}
theorem make_exc1 {Q : Fin → Shared → Prop} (X : K.In s.heap) (c : XC K C U) (hi : PySem.W.findIn K (.ref C) "__init__" = some (some (.ref fI))) (hf : PySem.W.typeIn K (.ref fI) = some (.type "function")) (hz : rest.length ≤ sizeLine)
    (hq : wpAny (model prog w) A (call (.ref fI) (.ref (s.heap.objs.size + 1) :: rest)) (fun r s' => r = .none ∧ Q (.done (.ret (.ref (s.heap.objs.size + 1)))) s') E { s with heap := withExc s.heap C rest }) :
    wpAny (model prog w) A (Builtin.«type.__call__» ⟨.ref C :: rest, []⟩) Q E s := by
  obtain ⟨nm, q, N, bs, sn, sub, ab, col, dd, k0, k1, k2, k3, k5, lk⟩ := c.obj
  obtain ⟨h, g, d, t, os⟩ := s
  have oC : h.get? C = some _ := X _ _ lk
  have T := c.own X
  have FB := F.excBase_ValueError
  repeat (first | with_reducible refine wpAny_loadPart_at oC ?_ | with_reducible refine wpAny_madeBy_exc oC ?_ | wp_step)
  refine codeAny_call_builtin_code (Code.quiet_builtin _ FB.quiet) (wpAny_check_new_subT FB T oC (codeAny_exc_new_subT FB T oC ?_ hz))
  show wpAny (model prog w) A _ Q E { heap := withExc h C rest, gens := g, drawn := d, toks := t, os := os }
  have X1 : K.In (withExc h C rest) := X.keeps fun _ _ => withExc_keep
  have oC1 : (withExc h C rest).get? C = some _ := X1 _ _ lk
  have oe : (withExc h C rest).get? (h.objs.size + 1) = some { cls := .ref C, data := .fields #[.ref h.objs.size, .none, .none, .none, .bool false, .none] } := withExc_at
  have cC : (Value.ref C :: (.ref U :: bmV)).contains (.ref C) = true := by simp
  unfold isInstance
  repeat (first | with_reducible refine wpAny_loadPart_at oe ?_ | (with_reducible refine wpAny_isSubtype_exc oC1 ?_; rw [cC]) | wp_step)
  show wpAny _ _ (typeLookup (.ref C) _) _ _ _
  refine (PySem.W.looks_findIn X1 hi) _ _ _ _ (fun _ _ e => e) ?_
  refine wpAny_holding (wpAny_bind ((PySem.W.bind_fn X1 (.ref (h.objs.size + 1)) hf) _ _ _ _ (fun _ _ e => e) ?_))
  refine wpAny_bind (wpAny_mono hq (fun r s' hr => ?_) fun _ _ x => x)
  obtain ⟨rfl, hQ⟩ := hr
  wp_walk
  exact hQ
theorem make_exc {Q : Value → Shared → Prop} (X : K.In s.heap) (c : XC K C U) (hi : PySem.W.findIn K (.ref C) "__init__" = some (some (.ref fI))) (hf : PySem.W.typeIn K (.ref fI) = some (.type "function")) (hz : rest.length ≤ sizeLine)
    (hq : wpAny (model prog w) (A.under (.builtin "type.__call__" ⟨.ref C :: rest, []⟩)) (call (.ref fI) (.ref (s.heap.objs.size + 1) :: rest)) (fun r s' => r = .none ∧ Q (.ref (s.heap.objs.size + 1)) s') E { s with heap := withExc s.heap C rest }) :
    wpAny (model prog w) A (call (.ref C) rest) Q E s := by
  obtain ⟨nm, q, N, bs, sn, sub, ab, col, dd, k0, k1, k2, k3, k5, lk⟩ := id c.obj
  obtain ⟨h, g, d, t, os⟩ := s
  have oC : h.get? C = some _ := X _ _ lk
  have u1 := tc_lookup
  have u2 := tc_bind (.ref C)
  have u3 : (⟨h, g, d, t, os⟩ : Shared).TypeIs (.ref C) "type" := ⟨_, oC, rfl⟩
  refine wpAny_call (codeAny_of_tree ?_)
  show wpAny _ _ (callAny (.ref C) _) _ _ _
  repeat (any_goals (first | assumption | with_reducible refine wpAny_loadPart_at oC ?_ | wp_step))
  exact ⟨rfl, codeAny_call_builtin_at (Code.quiet_builtin _ (by decide +kernel)) entry_typeCall (wpAny_check_type_call_sub oC (make_exc1 X c hi hf hz hq))⟩

theorem raise_exc {env : Env} {x : Sem Value} {Q : Flow → Shared → Prop} (c : XC K C U) (hh : A.handled = none)
    (h : wpAny (model prog w) A x (fun v s₁ => K.In s₁.heap ∧ ∃ e od vs sl, v = .ref e ∧ s₁.heap.get? e = some ⟨.ref C, od, .fields vs, sl⟩ ∧ vs[1]? = some .none ∧ E (.ref e) s₁) E s) :
    wpAny (model prog w) A (raiseStmt env (some x) none) Q E s := by
  obtain ⟨nm, q, N, bs, sn, sub, ab, col, dd, k0, k1, k2, k3, k5, lk⟩ := c.obj
  have cB : (Value.ref C :: (.ref U :: bmV)).contains (.type "BaseException") = true := by simp
  unfold raiseStmt
  refine wpAny_bind (wpAny_mono h (fun v s₁ h₁ => ?_) fun _ _ x => x)
  obtain ⟨X, e, od, vs, sl, rfl, he, h1, hE⟩ := h₁
  obtain ⟨hp, g, d, tk, os⟩ := s₁
  have oC : hp.get? C = some _ := X _ _ lk
  repeat (first | with_reducible refine wpAny_loadPart_at he ?_ | with_reducible refine wpAny_field he rfl h1 ?_ | with_reducible refine wpAny_loadPart_at oC ?_ | (with_reducible refine wpAny_isSubtype_exc oC ?_; rw [cB]) | wp_step)
  exact wpAny_raiseNew_none hh hE
end
end L2

namespace L2
open PySem PySem.Spec PyProof.Rows PySem.W PySem.Builtin PySem.Builtin.ObjectAttr

section
variable {prog : Program} {w : World} {A : Around} {E : Value → Shared → Prop} {s : Shared} {K : PySem.W.Frag} {C U x : Addr} {name : Str} {v : Value}
theorem XC.cls (c : XC K C U) : ∃ cd, clsIn K C = some cd ∧ cd.mro = .ref C :: .ref U :: bmV ∧ cd.hasDict = true := by
  obtain ⟨nm, q, N, bs, sn, sub, ab, col, dd, k0, k1, k2, k3, k5, lk⟩ := c.obj
  exact ⟨_, by unfold clsIn; rw [lk], rfl, rfl⟩
theorem XC.sub (c : XC K C U) (b : Value) : mroIn K C b = some ((Value.ref C :: .ref U :: bmV).contains b) := by
  obtain ⟨cd, h1, h2, _⟩ := c.cls
  unfold mroIn
  rw [h1, Option.bind_some, h2]
  rfl
theorem xstore {R : Result → Shared → Prop} {od : Option Obj} {ox : Obj} {tk : Tok} (X : K.In s.heap) (c : XC K C U) (I : InstAt s.heap x ox C od) (ht : takerIn K C name = some none)
    (h : ∀ b, wpAny (model prog w) A.in1 (storeInOwnDict (.ref x) (.ref C) (.str name tk) name v b)
      (fun fin s' => match fin with | .done f => R (.ok f) s' | .again c' => c'.quiet = true ∧ codeAny (model prog w) A c' R s') (fun e s' => R (.error e) s') s) :
    codeAny (model prog w) A (.call (.builtin "object.__setattr__") ⟨[.ref x, .str name tk, v], []⟩) R s := by
  have SF := PySem.F.store_object
  have SV := PySem.F.store_ValueError
  obtain ⟨cd, hc, hm, _⟩ := c.cls
  have sub : Looks (model prog w) s.heap (isInstance (.ref x) (.type "object")) true := I.type.andThen (looks_mroIn X (by rw [c.sub]; simp))
  refine codeAny_call_builtin SF.slot.plain SF.entry (@check_slot (model prog w) _ _ s "object.__setattr__" "object" "__setattr__" (.ref x) [.str name tk, v] [] _ SF.kind SF.split sub (SF.args (.ref x) (.str name tk) v) ?_)
  obtain ⟨attr, ha, hr⟩ := Option.bind_eq_some_iff.mp ht
  have mr : Looks (model prog w) s.heap (mroOf (.ref C)) cd.mro := (looks_clsIn X hc).andThen .now
  have tk3 : Looks (model prog w) s.heap (storeTaker? attr) none := by
    cases attr with
    | none => exact .now
    | some a =>
      obtain ⟨b, hb, hn⟩ := Option.map_eq_some_iff.mp hr
      refine (looks_takesIn X hb).andThen ?_
      cases b with
      | true => cases hn
      | false => exact .now
  rw [osa_eq, refuse_eq]
  refine wpAny_bind (wpAny_bind (I.type.here (wpAny_bind (mr.here ?_))))
  rw [hm, refuseLoop_ref, refuseLoop_ref, SV.passes]
  exact wpAny_pure (wpAny_bind (I.type.here (wpAny_bind ((looks_findIn X ha).here (wpAny_bind (tk3.here (h _)))))))

theorem xset0 {Q : Unit → Shared → Prop} {vs : Array Value} {sl : Array (Option Value)} (X : K.In s.heap) (c : XC K C U) (ht : takerIn K C name = some none) (hx : s.heap.get? x = some ⟨.ref C, none, .fields vs, sl⟩)
    (h : ∀ h' tk', h'.get? x = some ⟨.ref C, some s.heap.objs.size, .fields vs, sl⟩ → h'.Ns1 s.heap.objs.size (fun y => if y = name then some v else none) → (∀ b o, b ≠ x → s.heap.get? b = some o → h'.get? b = some o) → Q () { s with heap := h', toks := tk' }) :
    wpAny (model prog w) A (setAttr (.ref x) name v) Q E s := by
  have I : InstAt s.heap x ⟨.ref C, none, .fields vs, sl⟩ C none := ⟨hx, rfl, rfl, trivial⟩
  refine set_plain X I c.sa (xstore (s := { s with toks := s.toks + 1 }) X c I ht fun b => ?_)
  obtain ⟨cd, hc, hm, hd⟩ := c.cls
  refine wpAny_bind (wpAny_pure (wpAny_bind ?_))
  show wpAny _ _ (instanceDict x true) _ _ _
  unfold instanceDict
  refine wpAny_bind (wpAny_loadPart hx ?_)
  dsimp only
  refine wpAny_bind ((looks_clsIn X hc).here (s := { s with toks := s.toks + 1 }) ?_)
  rw [hd]
  obtain ⟨hp, g, d, t, os⟩ := s
  have x1 : (hp.push { cls := .type "dict", data := .dict #[] }).get? x = some ⟨.ref C, none, .fields vs, sl⟩ := Heap.get?_push_of_some _ hx
  have nx : x ≠ hp.objs.size := Nat.ne_of_lt (Heap.lt_size hx)
  refine wpAny_bind (wpAny_alloc' (wpAny_bind (wpAny_update' x1 ?_)))
  refine wpAny_pure ?_
  have x2 := Heap.get?_update_self (fun o : Obj => { cls := o.cls, dict := some hp.objs.size, data := o.data, slots := o.slots }) x1 rfl
  have gd : ((hp.push { cls := .type "dict", data := .dict #[] }).update x fun o => { cls := o.cls, dict := some hp.objs.size, data := o.data, slots := o.slots }).get? hp.objs.size = some { cls := .type "dict", data := .dict #[] } :=
    (Heap.get?_update_ne _ _ _ _ nx.symm).trans (Heap.get?_push_at rfl rfl)
  have nd : ((hp.push { cls := .type "dict", data := .dict #[] }).update x fun o => { cls := o.cls, dict := some hp.objs.size, data := o.data, slots := o.slots }).Ns hp.objs.size (fun _ => none) :=
    ⟨_, #[], _, gd, rfl, fun e he => absurd he (by simp), fun _ => rfl⟩
  show wpAny _ _ (storeInDict hp.objs.size (.str name _) name v) _ _ _
  unfold storeInDict newKeyGuard
  refine wpAny_bind (wpAny_pure (wpAny_bind (wpAny_nsSet1 (Heap.Ns1.of_empty nd) fun h' hn' hs => ?_)))
  obtain ⟨oD, esD, epD, hoD, hdD, hcD⟩ := hn'.count (Within.cons name v Within.nil)
  refine wpAny_bind (wpAny_lookBehind hoD (by rw [hdD]; exact pastItsLine_dict (Nat.le_trans hcD (by rw [List.length_cons, List.length_nil, sizeLine_eq]; omega))) ?_)
  refine wpAny_pure (h h' _ ((hs.2 x nx).trans x2) hn' fun b o nb hb => ?_)
  exact (hs.2 b (Nat.ne_of_lt (Heap.lt_size hb))).trans ((Heap.get?_update_ne _ _ _ _ nb).trans (Heap.get?_push_of_some _ hb))
end
end L2

namespace L2
open PySem PySem.Spec PyProof.Rows PySem.W PySem.Builtin PySem.Builtin.ObjectAttr

section
variable {prog : Program} {w : World} {A : Around} {E : Value → Shared → Prop} {s : Shared} {K : PySem.W.Frag} {C U x : Addr} {name : Str} {v : Value} {ox : Obj} {od : Option Obj}
theorem xget_by {tk : Tok} {fill expr : Bool} {Q : Value → Shared → Prop} (X : K.In s.heap) (c : XC K C U) (I : InstAt s.heap x ox C od) (hv : handedIn v = true)
    (h : wpAny (model prog w) A.in1 (Builtin.«object.__getattribute__» ⟨[.ref x, .str name tk], []⟩) (fun fin s' => fin = .done (.ret v) ∧ Q v s') (fun _ _ => False) s) :
    wpAny (model prog w) A (getAttrBy (.ref x) (.str name tk) fill expr) Q E s := by
  have FX := PySem.F.excAttr_ValueError
  have e0 : (expr && onTheHeap (Value.builtin "BaseException.__getattribute__")) = false := by cases expr <;> rfl
  have e2 : (Value.builtin "BaseException.__getattribute__" == Value.builtin "object.__getattribute__") = false := by decide +kernel
  have L0 := I.type (M := model prog w)
  have L1 := looks_findIn (M := model prog w) X c.ga
  have L2 := looks_findIn (M := model prog w) X c.gh
  have sub : Looks (model prog w) s.heap (isInstance (.ref x) (.type "BaseException")) true := I.type.andThen (looks_mroIn X (by rw [c.sub]; simp))
  unfold getAttrBy
  refine wpAny_holding (wpAny_bind (L0.here (wpAny_bind (L1.here ?_))))
  dsimp only
  rw [show (onTheHeap (Value.ref C) && Value.builtin "BaseException.__getattribute__" == Value.builtin "object.__getattribute__") = false by rw [e2]; rfl]
  unfold getAttrByItsOwn hookBefore
  refine wpAny_bind (L2.here (wpAny_bind (wpAny_attempt ?_)))
  unfold callGetattribute
  rw [e0]
  refine wpAny_holding ?_
  unfold boundAndCalled
  rw [show (if false = true then runValue (.builtin "lifetime.attribute" ⟨[.ref x, .str name tk, .builtin "BaseException.__getattribute__"], []⟩) else (do let (g, first) ← bindSpecial (.builtin "BaseException.__getattribute__") (.ref x); call g (first ++ [.str name tk]))) = (do let (g, first) ← bindSpecial (.builtin "BaseException.__getattribute__") (.ref x); call g (first ++ [.str name tk])) from rfl, FX.ga.bind]
  refine wpAny_bind (wpAny_pure (wpAny_call (codeAny_call_builtin FX.ga.plain F.entry_bexc_ga (check_slot (i := "BaseException.__getattribute__") (owner := "BaseException") (n := "__getattribute__") (by decide +kernel) (by decide +kernel) sub (F.args_bexc_ga _ _) (wpAny_mono h (fun fin s' hq => ?_) fun _ _ z => z.elim)))))
  obtain ⟨rfl, q⟩ := hq
  show wpAny _ _ (handedOut v) _ _ _
  rw [handedOut_of hv]
  exact wpAny_pure q
theorem xget {expr : Bool} {Q : Value → Shared → Prop} (X : K.In s.heap) (c : XC K C U) (I : InstAt s.heap x ox C od) (hf : findObj K C od name = some (.value v)) (hv : handedIn v = true) (h : Q v { s with toks := s.toks + 1 }) :
    wpAny (model prog w) A (getAttr (.ref x) name expr) Q E s := by
  unfold getAttr
  refine wpAny_bind (wpAny_mkText (xget_by (s := { s with toks := s.toks + 1 }) X c I hv ?_))
  refine wpAny_bind (wpAny_pure (wpAny_bind (wpAny_pure (wpAny_bind (I.type.here (s := { s with toks := s.toks + 1 }) (wpAny_bind ((looks_find X I hf).here (s := { s with toks := s.toks + 1 }) ?_)))))))
  exact wpAny_pure ⟨rfl, h⟩
theorem xclass {o' : Obj} {Q : Option Value → Shared → Prop} (X : K.In s.heap) (c : XC K C U) (I : InstAt s.heap x ox C (some o')) (h : Q (some (.ref C)) { s with toks := s.toks + 1 }) :
    wpAny (model prog w) A (getAttr? (.ref x) "__class__") Q E s := by
  obtain ⟨cd, hc, _, _⟩ := c.cls
  have hf : findObj K C (some o') "__class__" = some (.bind (.builtin "getset_descriptor.__get__") (.builtin "object.__class__")) := findObj_data (by rw [hc]; rfl) c.cl c.gg c.gt
  unfold getAttr? getAttrBy?
  refine wpAny_bind (wpAny_mkText (wpAny_bind (wpAny_attempt (xget_by (v := .ref C) (s := { s with toks := s.toks + 1 }) X c I rfl ?_))))
  refine wpAny_bind (wpAny_pure (wpAny_bind (wpAny_pure (wpAny_bind (I.type.here (s := { s with toks := s.toks + 1 }) (wpAny_bind ((looks_find X I hf).here (s := { s with toks := s.toks + 1 }) ?_)))))))
  show wpAny _ _ (holding [.builtin "object.__class__"] (call (.builtin "getset_descriptor.__get__") [.builtin "object.__class__", .ref x, .ref C]) >>= ret) _ _ _
  exact wpAny_bind (wpAny_holding (wpAny_call (class_get (s := { s with toks := s.toks + 1 }) X I (by rw [c.sub]; simp) (wpAny_pure ⟨rfl, wpAny_pure h⟩))))
theorem xkit (c : XC K C U) : KitX K (.ref x) (.ref C) (fun h => ∃ ox o', InstAt h x ox C (some o')) where
  ty := fun _ _ _ ⟨_, _, I⟩ => I.type
  it := fun _ _ X _ => by
    obtain ⟨nm, q, N, bs, sn, sub, ab, col, dd, k0, k1, k2, k3, k5, lk⟩ := c.obj
    intro A' Q' E' s' k q
    unfold isType loadHead
    exact wpAny_bind (wpAny_loadPart (k _ _ (X _ _ lk)) (wpAny_pure q))
  ne := fun h tp dd its n sl X htp => by
    obtain ⟨nm, q, N, bs, sn, sub, ab, col, dd, k0, k1, k2, k3, k5, lk⟩ := c.obj
    refine Bool.eq_false_iff.mpr fun q => ?_
    have e : C = tp := Value.ref.inj (beq_iff_eq.mp q)
    subst e
    have z := congrArg Obj.cls (Option.some.inj ((X _ _ lk).symm.trans htp))
    exact absurd (Value.type.inj z) (by decide)
  ca := fun X ⟨_, _, I⟩ k => xclass X c I k
end
end L2

namespace L2
open PySem PySem.Spec PyProof.Rows PySem.SeqAt

inductive Dt where
  | non | bl (b : Bool) | int (i : Int) | str (x : Str) | tup (ds : List Dt) | lst (ds : List Dt) | fn (a : Addr)
  /-- an exception: its class's name, its fields -/
  | exc (c : Str) (ns : List Str) (ds : List Dt)
  /-- an instance: its class's name, its fields -/
  | obj (c : Str) (ns : List Str) (ds : List Dt)

def LsD (K : PySem.W.Frag) (H : Hp) (a : Addr) (xs : List V) : Prop := H a = some (.lst xs) ∨ (SqL K H a xs ∧ ∀ x ∈ xs, ∃ i : Int, x = .int i)
theorem LsD.sq {K : PySem.W.Frag} {H : Hp} {a : Addr} {xs : List V} (h : LsD K H a xs) : SqL K H a xs := by
  rcases h with h | ⟨h, _⟩
  · exact SqL.of h
  · exact h
theorem LsD.mono {K : PySem.W.Frag} {H H' : Hp} {a : Addr} {xs : List V} (s : Same H H') (h : LsD K H a xs) : LsD K H' a xs := by
  rcases h with h | ⟨h, q⟩
  · exact .inl (s _ _ h)
  · exact .inr ⟨s.seq h, q⟩
mutual
def Rp (K : PySem.W.Frag) (H : Hp) : Dt → V → Prop
  | .non, v => v = .non
  | .bl b, v => v = .bl b
  | .int i, v => v = .int i
  | .str x, v => v = .str x
  | .fn a, v => v = .ref a
  | .exc c ns ds, v => ∃ a C U dx vs, v = .ref a ∧ PySem.W.nsIn K mainGlobals c = some (some (.ref C)) ∧ XC K C U ∧ H a = some (.ext (exO a C dx)) ∧ H dx = some (.xd (ns.zip vs)) ∧ ns.length = ds.length ∧ RpL K H ds vs
  | .obj c ns ds, v => ∃ a C dx vs, v = .ref a ∧ PySem.W.nsIn K mainGlobals c = some (some (.ref C)) ∧ Cls K C ∧ H a = some (.ins C dx (ns.zip vs)) ∧ ns.length = ds.length ∧ RpL K H ds vs
  | .tup ds, v => ∃ a xs, v = .ref a ∧ SqT K H a xs ∧ RpL K H ds xs
  | .lst ds, v => ∃ a xs, v = .ref a ∧ LsD K H a xs ∧ RpL K H ds xs
def RpL (K : PySem.W.Frag) (H : Hp) : List Dt → List V → Prop
  | [], xs => xs = []
  | d :: ds, xs => ∃ v r, xs = v :: r ∧ Rp K H d v ∧ RpL K H ds r
end

theorem Same.seqT {K : PySem.W.Frag} {H H' : Hp} {a : Addr} {xs : List V} (e : Same H H') (h : SqT K H a xs) : SqT K H' a xs := by
  rcases h with (h | ⟨o, h⟩) | h
  · exact .inl (.inl (e _ _ h))
  · exact .inl (.inr ⟨o, e _ _ h⟩)
  · exact .inr h

mutual
theorem Rp.mono {K : PySem.W.Frag} {H H' : Hp} (s : Same H H') : ∀ {d : Dt} {v : V}, Rp K H d v → Rp K H' d v
  | .non, _, h => by unfold Rp at h ⊢; exact h
  | .bl _, _, h => by unfold Rp at h ⊢; exact h
  | .int _, _, h => by unfold Rp at h ⊢; exact h
  | .str _, _, h => by unfold Rp at h ⊢; exact h
  | .fn _, _, h => by unfold Rp at h ⊢; exact h
  | .exc _ _ _, _, h => by
    unfold Rp at h ⊢
    obtain ⟨a, C, U, dx, vs, e, q, x, h1, h2, l, r⟩ := h
    exact ⟨a, C, U, dx, vs, e, q, x, s _ _ h1, s _ _ h2, l, RpL.mono s r⟩
  | .obj _ _ _, _, h => by
    unfold Rp at h ⊢
    obtain ⟨a, C, dx, vs, e, q, x, h1, l, r⟩ := h
    exact ⟨a, C, dx, vs, e, q, x, s _ _ h1, l, RpL.mono s r⟩
  | .tup ds, _, h => by
    unfold Rp at h ⊢
    obtain ⟨a, xs, e, q, r⟩ := h
    exact ⟨a, xs, e, s.seqT q, RpL.mono s r⟩
  | .lst ds, _, h => by
    unfold Rp at h ⊢
    obtain ⟨a, xs, e, q, r⟩ := h
    exact ⟨a, xs, e, q.mono s, RpL.mono s r⟩
theorem RpL.mono {K : PySem.W.Frag} {H H' : Hp} (s : Same H H') : ∀ {ds : List Dt} {vs : List V}, RpL K H ds vs → RpL K H' ds vs
  | [], _, h => by unfold RpL at h ⊢; exact h
  | d :: ds, _, h => by
    unfold RpL at h ⊢
    obtain ⟨v, r, e, q, p⟩ := h
    exact ⟨v, r, e, Rp.mono s q, RpL.mono s p⟩
end

section
variable {K : PySem.W.Frag} {H : Hp}
theorem rp_non {v : V} : Rp K H .non v ↔ v = .non := by unfold Rp; exact Iff.rfl
theorem rp_bl {b : Bool} {v : V} : Rp K H (.bl b) v ↔ v = .bl b := by unfold Rp; exact Iff.rfl
theorem rp_int {i : Int} {v : V} : Rp K H (.int i) v ↔ v = .int i := by unfold Rp; exact Iff.rfl
theorem rp_str {x : Str} {v : V} : Rp K H (.str x) v ↔ v = .str x := by unfold Rp; exact Iff.rfl
theorem rp_fn {a : Addr} {v : V} : Rp K H (.fn a) v ↔ v = .ref a := by unfold Rp; exact Iff.rfl
theorem rp_exc {c : Str} {ns : List Str} {ds : List Dt} {v : V} : Rp K H (.exc c ns ds) v ↔ ∃ a C U dx vs, v = .ref a ∧ PySem.W.nsIn K mainGlobals c = some (some (.ref C)) ∧ XC K C U ∧ H a = some (.ext (exO a C dx)) ∧ H dx = some (.xd (ns.zip vs)) ∧ ns.length = ds.length ∧ RpL K H ds vs := by rw [Rp]
theorem rp_tup {ds : List Dt} {v : V} : Rp K H (.tup ds) v ↔ ∃ a xs, v = .ref a ∧ SqT K H a xs ∧ RpL K H ds xs := by rw [Rp]
theorem rp_lst0 {ds : List Dt} {v : V} : Rp K H (.lst ds) v ↔ ∃ a xs, v = .ref a ∧ LsD K H a xs ∧ RpL K H ds xs := by rw [Rp]
theorem rp_lstI {ds : List Dt} {v : V} (h : ∃ a xs, v = .ref a ∧ H a = some (.lst xs) ∧ RpL K H ds xs) : Rp K H (.lst ds) v := let ⟨a, xs, e, h1, h2⟩ := h; rp_lst0.mpr ⟨a, xs, e, .inl h1, h2⟩
theorem rp_lstE {ds : List Dt} {v : V} (h : Rp K H (.lst ds) v) : ∃ a xs, v = .ref a ∧ SqL K H a xs ∧ RpL K H ds xs := let ⟨a, xs, e, h1, h2⟩ := rp_lst0.mp h; ⟨a, xs, e, h1.sq, h2⟩
theorem rp_ints {ns : List Int} {a : Addr} (h : SqL K H a (ns.map V.int)) (r : RpL K H (ns.map Dt.int) (ns.map V.int)) : Rp K H (.lst (ns.map Dt.int)) (.ref a) := rp_lst0.mpr ⟨a, _, rfl, .inr ⟨h, fun x hx => by obtain ⟨i, _, rfl⟩ := List.mem_map.mp hx; exact ⟨i, rfl⟩⟩, r⟩
theorem rpl_nil {vs : List V} : RpL K H [] vs ↔ vs = [] := by rw [RpL]
theorem rpl_cons {d : Dt} {ds : List Dt} {vs : List V} : RpL K H (d :: ds) vs ↔ ∃ v r, vs = v :: r ∧ Rp K H d v ∧ RpL K H ds r := by rw [RpL]
theorem RpL.nil : RpL K H [] [] := rpl_nil.mpr rfl
theorem RpL.cons {d : Dt} {ds : List Dt} {v : V} {vs : List V} (h : Rp K H d v) (r : RpL K H ds vs) : RpL K H (d :: ds) (v :: vs) := rpl_cons.mpr ⟨v, vs, rfl, h, r⟩
theorem RpL.len : ∀ {ds : List Dt} {vs : List V}, RpL K H ds vs → vs.length = ds.length
  | [], _, h => by rw [rpl_nil.mp h]; rfl
  | d :: ds, _, h => by
    obtain ⟨v, r, rfl, _, p⟩ := rpl_cons.mp h
    simp [RpL.len p]
theorem RpL.get : ∀ {ds : List Dt} {vs : List V} {i : Nat} {d : Dt}, RpL K H ds vs → ds[i]? = some d → ∃ v, vs[i]? = some v ∧ Rp K H d v
  | [], _, _, _, _, e => by simp at e
  | d :: ds, _, 0, _, h, e => by
    obtain ⟨v, r, rfl, q, p⟩ := rpl_cons.mp h
    simp at e; subst e
    exact ⟨v, rfl, q⟩
  | d :: ds, _, i + 1, _, h, e => by
    obtain ⟨v, r, rfl, q, p⟩ := rpl_cons.mp h
    obtain ⟨u, e1, e2⟩ := RpL.get (i := i) p (by simpa using e)
    exact ⟨u, by simpa using e1, e2⟩
theorem RpL.append : ∀ {ds es : List Dt} {vs ws : List V}, RpL K H ds vs → RpL K H es ws → RpL K H (ds ++ es) (vs ++ ws)
  | [], _, _, _, h, q => by rw [rpl_nil.mp h]; exact q
  | d :: ds, _, _, _, h, q => by
    obtain ⟨v, r, rfl, a, p⟩ := rpl_cons.mp h
    exact .cons a (RpL.append p q)
theorem RpL.drop : ∀ {ds : List Dt} {vs : List V} (n : Nat), RpL K H ds vs → RpL K H (ds.drop n) (vs.drop n)
  | _, _, 0, h => by simpa using h
  | [], _, n + 1, h => by rw [rpl_nil.mp h]; simpa using RpL.nil
  | d :: ds, _, n + 1, h => by
    obtain ⟨v, r, rfl, a, p⟩ := rpl_cons.mp h
    simpa using RpL.drop n p
theorem RpL.take : ∀ {ds : List Dt} {vs : List V} (n : Nat), RpL K H ds vs → RpL K H (ds.take n) (vs.take n)
  | _, _, 0, h => by simpa using RpL.nil
  | [], _, n + 1, h => by rw [rpl_nil.mp h]; simpa using RpL.nil
  | d :: ds, _, n + 1, h => by
    obtain ⟨v, r, rfl, a, p⟩ := rpl_cons.mp h
    simpa using RpL.cons a (RpL.take n p)
theorem RpL.ints : ∀ (ns : List Int), RpL K H (ns.map Dt.int) (ns.map V.int)
  | [] => RpL.nil
  | _ :: ns => RpL.cons (rp_int.mpr rfl) (RpL.ints ns)
end

def mask (O : List Addr) (H : Hp) : Hp := fun a => if a ∈ O then none else H a
theorem mask_in {O : List Addr} {H : Hp} {a : Addr} (h : a ∈ O) : mask O H a = none := if_pos h
theorem mask_out {O : List Addr} {H : Hp} {a : Addr} (h : a ∉ O) : mask O H a = H a := if_neg h
theorem mask_some {O : List Addr} {H : Hp} {a : Addr} {o : HO} (h : mask O H a = some o) : a ∉ O ∧ H a = some o := by
  by_cases q : a ∈ O
  · rw [mask_in q] at h; cases h
  · rw [mask_out q] at h; exact ⟨q, h⟩
theorem mask_le {O : List Addr} {H : Hp} : Same (mask O H) H := fun _ _ h => (mask_some h).2
theorem Same.mask {O : List Addr} {H H' : Hp} (s : Same H H') : Same (mask O H) (L2.mask O H') := fun a o h => by
  obtain ⟨q, e⟩ := mask_some h
  rw [mask_out q]; exact s a o e
theorem mask_sub {O O' : List Addr} {H : Hp} (h : ∀ a ∈ O', a ∈ O) : Same (mask O H) (mask O' H) := fun a o e => by
  obtain ⟨q, e⟩ := mask_some e
  rw [mask_out fun z => q (h a z)]; exact e
theorem Same.upd {H : Hp} {p : Addr} {o : HO} (h : H p = none) : Same H (L2.upd H p o) := fun a u e => by
  rw [upd_ne (ne_of_none e h)]; exact e

inductive En where
  | is (d : Dt) | own (ds : List Dt)
abbrev DEnv := List (Option En)
abbrev DTE := DEnv → (Dt → Prop) → Prop
abbrev DTT := DEnv → (Bool → Prop) → Prop
abbrev DTA := DEnv → (List Dt → Prop) → Prop
structure DEnds where
  nx : DEnv → Prop
  rt : Dt → Prop
  bk : DEnv → Prop := fun _ => False
  ct : DEnv → Prop := fun _ => False
abbrev DTS := DEnds → DEnv → Prop

structure Rep (K : PySem.W.Frag) (B : Hp) (F O : List Addr) (H : Hp) (σ : St) (ρ : DEnv) : Prop where
  len : σ.length = ρ.length
  base : Same B H
  fr : ∀ a ∈ O, B a = none
  th : ∀ a ∈ F ++ O, H a ≠ none
  is : ∀ (i : Nat) (d : Dt), ρ[i]? = some (some (.is d)) → ∃ v, σ[i]? = some (some v) ∧ Rp K (mask (F ++ O) H) d v
  own : ∀ (i : Nat) (ds : List Dt), ρ[i]? = some (some (.own ds)) → ∃ a xs, σ[i]? = some (some (.ref a)) ∧ a ∈ O ∧ a ∉ F ∧ H a = some (.lst xs) ∧ RpL K (mask (F ++ O) H) ds xs
  inj : ∀ (i j : Nat) (ds es : List Dt) (a : Addr), ρ[i]? = some (some (.own ds)) → ρ[j]? = some (some (.own es)) → σ[i]? = some (some (.ref a)) → σ[j]? = some (some (.ref a)) → i = j

section
variable {K : PySem.W.Frag} {B : Hp} {F O : List Addr} {H H' : Hp} {σ : St} {ρ : DEnv}
theorem Rep.same (r : Rep K B F O H σ ρ) (s : Same H H') : Rep K B F O H' σ ρ where
  len := r.len
  base := r.base.trans s
  fr := r.fr
  th := fun a h e => by
    have := r.th a h
    cases q : H a with
    | none => exact this q
    | some o => rw [s a o q] at e; cases e
  is := fun i d e => let ⟨v, h1, h2⟩ := r.is i d e; ⟨v, h1, h2.mono s.mask⟩
  own := fun i ds e => let ⟨a, xs, h1, h2, h3, h4, h5⟩ := r.own i ds e; ⟨a, xs, h1, h2, h3, s _ _ h4, h5.mono s.mask⟩
  inj := r.inj
theorem Rep.below (r : Rep K B F O H σ ρ) : Same (mask F B) (mask (F ++ O) H) := fun a o e => by
  obtain ⟨q, e⟩ := mask_some e
  rw [mask_out]
  · exact r.base a o e
  · intro z
    rcases List.mem_append.mp z with z | z
    · exact q z
    · rw [r.fr a z] at e; cases e
theorem Rep.set (r : Rep K B F O H σ ρ) (i : Nat) {d : Dt} {v : V} (h : Rp K (mask (F ++ O) H) d v) : Rep K B F O H (σ.set i (some v)) (ρ.set i (some (.is d))) := by
  have hl := r.len
  have back : ∀ (j : Nat) (ds : List Dt), (ρ.set i (some (.is d)))[j]? = some (some (.own ds)) → j ≠ i ∧ ρ[j]? = some (some (.own ds)) := fun j ds e => by
    by_cases hj : j = i
    · subst hj
      by_cases hk : j < ρ.length
      · rw [List.getElem?_set_self hk] at e; cases e
      · rw [List.getElem?_eq_none (by simpa using hk)] at e; cases e
    · rw [List.getElem?_set_ne (Ne.symm hj)] at e; exact ⟨hj, e⟩
  refine ⟨by simpa using hl, r.base, r.fr, r.th, fun j e q => ?_, fun j ds q => ?_, fun j k ds es a h1 h2 h3 h4 => ?_⟩
  · by_cases hj : j = i
    · subst hj
      by_cases hk : j < ρ.length
      · rw [List.getElem?_set_self hk] at q
        cases q
        exact ⟨v, List.getElem?_set_self (by omega), h⟩
      · rw [List.getElem?_eq_none (by simpa using hk)] at q; cases q
    · rw [List.getElem?_set_ne (Ne.symm hj)] at q ⊢
      exact r.is j e q
  · obtain ⟨hj, q⟩ := back j ds q
    rw [List.getElem?_set_ne (Ne.symm hj)]
    exact r.own j ds q
  · obtain ⟨hj, q1⟩ := back j ds h1
    obtain ⟨hk, q2⟩ := back k es h2
    rw [List.getElem?_set_ne (Ne.symm hj)] at h3
    rw [List.getElem?_set_ne (Ne.symm hk)] at h4
    exact r.inj j k ds es a q1 q2 h3 h4
end

def lE (K : PySem.W.Frag) (t : DTE) : TE := fun σ H Q => ∃ B F O ρ, Rep K B F O H σ ρ ∧ t ρ fun d => ∀ v H', Same H H' → Rp K (mask (F ++ O) H') d v → Q v H'
def lT (K : PySem.W.Frag) (t : DTT) : TT := fun σ H Q => ∃ B F O ρ, Rep K B F O H σ ρ ∧ t ρ fun b => ∀ H', Same H H' → Q b H'
def lA (K : PySem.W.Frag) (t : DTA) : TA := fun σ H Q => ∃ B F O ρ, Rep K B F O H σ ρ ∧ t ρ fun ds => ∀ vs H', Same H H' → RpL K (mask (F ++ O) H') ds vs → Q vs H'
def lD (K : PySem.W.Frag) (B : Hp) (F : List Addr) (D : Ends) : DEnds where
  nx := fun ρ' => ∀ O' σ' H', Rep K B F O' H' σ' ρ' → D.nx σ' H'
  rt := fun d => ∀ v H', Same B H' → Rp K (mask F H') d v → D.rt v H'
  bk := fun ρ' => ∀ O' σ' H', Rep K B F O' H' σ' ρ' → D.bk σ' H'
  ct := fun ρ' => ∀ O' σ' H', Rep K B F O' H' σ' ρ' → D.ct σ' H'
def lS (K : PySem.W.Frag) (t : DTS) : TS := fun D σ H => ∃ B F O ρ, Rep K B F O H σ ρ ∧ t (lD K B F D) ρ

structure DEnds.le (D D' : DEnds) : Prop where
  nx : ∀ ρ, D.nx ρ → D'.nx ρ
  rt : ∀ d, D.rt d → D'.rt d
  bk : ∀ ρ, D.bk ρ → D'.bk ρ
  ct : ∀ ρ, D.ct ρ → D'.ct ρ

structure DE (X : Cx) (e : Expr) (t : DTE) : Prop where
  mono : ∀ {ρ Q Q'}, (∀ d, Q d → Q' d) → t ρ Q → t ρ Q'
  pe : PE X e (lE X.K t)
structure DT (X : Cx) (e : Expr) (t : DTT) : Prop where
  mono : ∀ {ρ Q Q'}, (∀ d, Q d → Q' d) → t ρ Q → t ρ Q'
  pt : PT X e (lT X.K t)
structure DA (X : Cx) (es : List Expr) (t : DTA) : Prop where
  mono : ∀ {ρ Q Q'}, (∀ d, Q d → Q' d) → t ρ Q → t ρ Q'
  pa : PA X es (lA X.K t)
structure DS (X : Cx) (st : Stmt) (t : DTS) : Prop where
  mono : ∀ {ρ D D'}, DEnds.le D D' → t D ρ → t D' ρ
  ps : PS X st (lS X.K t)
structure DSs (X : Cx) (st : List Stmt) (t : DTS) : Prop where
  mono : ∀ {ρ D D'}, DEnds.le D D' → t D ρ → t D' ρ
  ps : PSs X st (lS X.K t)

theorem PE.imp {X : Cx} {e : Expr} {t t' : TE} (h : PE X e t) (i : ∀ σ H Q, t' σ H Q → t σ H Q) : PE X e t' := fun pins s σ H Q I q => h pins s σ H Q I (i _ _ _ q)
theorem PT.imp {X : Cx} {e : Expr} {t t' : TT} (h : PT X e t) (i : ∀ σ H Q, t' σ H Q → t σ H Q) : PT X e t' := fun pins s σ H Q I q => h pins s σ H Q I (i _ _ _ q)
theorem PA.imp {X : Cx} {e : List Expr} {t t' : TA} (h : PA X e t) (i : ∀ σ H Q, t' σ H Q → t σ H Q) : PA X e t' := fun pos pins s σ H Q I q => h pos pins s σ H Q I (i _ _ _ q)
theorem PS.imp {X : Cx} {e : Stmt} {t t' : TS} (h : PS X e t) (i : ∀ D σ H, t' D σ H → t D σ H) : PS X e t' := fun pins s σ H D I q => h pins s σ H D I (i _ _ _ q)
theorem PSs.imp {X : Cx} {e : List Stmt} {t t' : TS} (h : PSs X e t) (i : ∀ D σ H, t' D σ H → t D σ H) : PSs X e t' := fun pins s σ H D I q => h pins s σ H D I (i _ _ _ q)

section
variable {X : Cx} {a b c e : Expr} {es : List Expr} {ta tb tc te : DTE} {tA tB : DTT} {tl : DTA} {pos : Pos}

def dVar (i : Nat) : DTE := fun ρ Q => match ρ[i]? with
  | some (some (.is d)) => Q d
  | _ => False
def dC (d : Dt) : DTE := fun _ Q => Q d
theorem dv (i : Nat) {x : Str} {pos : Pos} (hN : X.N[i]? = some x := by rfl) (hv : Vis X.env.scope x := by first | exact Or.inl rfl | exact Or.inr (Or.inl rfl) | exact Or.inr (Or.inr rfl)) (hd : (x == ("__debug__" : Str)) = false := by decide)
    (hcd : (x == ("__classdict__" : Str)) = false := by decide) : DE X (.Name x pos) (dVar i) where
  mono := fun {ρ Q Q'} hq h => by
    unfold dVar at h ⊢
    split at h
    · exact hq _ h
    · exact h.elim
  pe := (pe_var hN hv hd hcd).imp fun σ H Q ⟨B, F, O, ρ, r, h⟩ => by
    unfold dVar at h
    split at h
    · rename_i d e
      obtain ⟨v, h1, h2⟩ := r.is i d e
      exact ⟨v, h1, h v H (Same.refl H) h2⟩
    · exact h.elim
theorem de_c {v : V} {d : Dt} (h : PE X e (tC v)) (hr : ∀ K H, Rp K H d v) : DE X e (dC d) where
  mono := fun hq h => hq _ h
  pe := h.imp fun σ H Q ⟨B, F, O, ρ, r, h⟩ => h v H (Same.refl H) (hr _ _)
theorem de_int {i j pos} : DE X (.Constant (.int i) j pos) (dC (.int i)) := de_c pe_int fun _ _ => rp_int.mpr rfl
theorem de_bl {i j pos} : DE X (.Constant (.bool i) j pos) (dC (.bl i)) := de_c pe_bl fun _ _ => rp_bl.mpr rfl
theorem de_non {j pos} : DE X (.Constant .none j pos) (dC .non) := de_c pe_non fun _ _ => rp_non.mpr rfl
theorem de_str {x j pos} : DE X (.Constant (.str x) j pos) (dC (.str x)) := de_c pe_str fun _ _ => rp_str.mpr rfl
theorem de_glob {x : Str} {v : V} {u : Value} {d : Dt} {pos : Pos} (hg : Gl X x) (hm : X.mg x = some u) (r : RelV v u) (hr : ∀ H, Rp X.K H d v) (hd : (x == ("__debug__" : Str)) = false := by decide) : DE X (.Name x pos) (dC d) where
  mono := fun hq h => hq _ h
  pe := (pe_glob hg hm r hd).imp fun σ H Q ⟨B, F, O, ρ, _, h⟩ => h v H (Same.refl H) (hr _)

abbrev D2 := Dt → Dt → (Dt → Prop) → Prop
structure Sem2 (K : PySem.W.Frag) (r : R2) (t : D2) : Prop where
  mono : ∀ {a b Q Q'}, (∀ d, Q d → Q' d) → t a b Q → t a b Q'
  ok : ∀ (O : List Addr) (H : Hp) (a b : Dt) (x y : V) (Q : VK), (∀ p ∈ O, H p ≠ none) → Rp K (mask O H) a x → Rp K (mask O H) b y →
    t a b (fun d => ∀ v H', Same H H' → Rp K (mask O H') d v → Q v H') → r x y H Q
def dOp (t : D2) (ta tb : DTE) : DTE := fun ρ Q => ta ρ fun a => tb ρ fun b => t a b Q
theorem op_imp {K : PySem.W.Frag} {r : R2} {t : D2} (S : Sem2 K r t) {ta tb : DTE} (ma : ∀ {ρ Q Q'}, (∀ d, Q d → Q' d) → ta ρ Q → ta ρ Q') (mb : ∀ {ρ Q Q'}, (∀ d, Q d → Q' d) → tb ρ Q → tb ρ Q')
    (σ : St) (H : Hp) (Q : VK) (h : lE K (dOp t ta tb) σ H Q) : tOp r (lE K ta) (lE K tb) σ H Q := by
  obtain ⟨B, F, O, ρ, R, h⟩ := h
  refine ⟨B, F, O, ρ, R, ma (fun a h v H1 s1 r1 => ?_) h⟩
  refine ⟨B, F, O, ρ, R.same s1, mb (fun b h u H2 s2 r2 => ?_) h⟩
  exact S.ok _ H2 a b v u Q ((R.same s1).same s2).th (r1.mono s2.mask) r2 (S.mono (fun d q w H3 s3 r3 => q w H3 ((s1.trans s2).trans s3) r3) h)
theorem dop_mono {t : D2} (m : ∀ {a b Q Q'}, (∀ d, Q d → Q' d) → t a b Q → t a b Q') (ma : ∀ {ρ Q Q'}, (∀ d, Q d → Q' d) → ta ρ Q → ta ρ Q') (mb : ∀ {ρ Q Q'}, (∀ d, Q d → Q' d) → tb ρ Q → tb ρ Q') :
    ∀ {ρ Q Q'}, (∀ d, Q d → Q' d) → dOp t ta tb ρ Q → dOp t ta tb ρ Q' := fun hq h => ma (fun _ h => mb (fun _ h => m hq h) h) h
theorem de_op {op : Operator} {r : R2} {t : D2} (ho : OpR X (binaryOp op) r) (S : Sem2 X.K r t) (ha : DE X a ta) (hb : DE X b tb) : DE X (.BinOp a op b pos) (dOp t ta tb) where
  mono := dop_mono (t := t) (ta := ta) (tb := tb) S.mono ha.mono hb.mono
  pe := (pe_op ho ha.pe hb.pe).imp (op_imp (ta := ta) (tb := tb) S ha.mono hb.mono)
theorem de_cmp {op : CmpOp} {r : R2} {t : D2} (ho : OpR X (compareOp op) r) (S : Sem2 X.K r t) (ha : DE X a ta) (hb : DE X b tb) (hm : behindInMarks op b = false) : DE X (.Compare a [op] [b] pos) (dOp t ta tb) where
  mono := dop_mono (t := t) (ta := ta) (tb := tb) S.mono ha.mono hb.mono
  pe := (pe_cmpR ho ha.pe hb.pe hm).imp (op_imp (ta := ta) (tb := tb) S ha.mono hb.mono)
theorem de_ix {r : R2} {t : D2} (ho : IxR X r) (S : Sem2 X.K r t) (ha : DE X a ta) (hb : DE X b tb) (hs : PlainIx b) : DE X (.Subscript a b pos) (dOp t ta tb) where
  mono := dop_mono (t := t) (ta := ta) (tb := tb) S.mono ha.mono hb.mono
  pe := (pe_ix ho ha.pe hb.pe hs).imp (op_imp (ta := ta) (tb := tb) S ha.mono hb.mono)
def dI (C : Int → Int → Prop) (g : Int → Int → Int) : D2 := fun a b Q => match a, b with
  | .int i, .int j => C i j ∧ Q (.int (g i j))
  | _, _ => False
def dI0 (g : Int → Int → Int) : D2 := fun a b Q => match a, b with
  | .int i, .int j => Q (.int (g i j))
  | _, _ => False
def dB0 (g : Int → Int → Bool) : D2 := fun a b Q => match a, b with
  | .int i, .int j => Q (.bl (g i j))
  | _, _ => False
theorem sem_I {K : PySem.W.Frag} {C : Int → Int → Prop} {g : Int → Int → Int} : Sem2 K (rI C fun i j => .int (g i j)) (dI C g) where
  mono := fun {a b Q Q'} hq h => by
    unfold dI at h ⊢
    split at h
    · exact ⟨h.1, hq _ h.2⟩
    · exact h.elim
  ok := fun O H a b x y Q _ ra rb h => by
    unfold dI at h
    split at h
    · exact ⟨_, _, rp_int.mp ra, rp_int.mp rb, h.1, h.2 _ H (Same.refl H) (rp_int.mpr rfl)⟩
    · exact h.elim
theorem sem_I0 {K : PySem.W.Frag} {g : Int → Int → Int} : Sem2 K (rI0 fun i j => .int (g i j)) (dI0 g) where
  mono := fun {a b Q Q'} hq h => by
    unfold dI0 at h ⊢
    split at h
    · exact hq _ h
    · exact h.elim
  ok := fun O H a b x y Q _ ra rb h => by
    unfold dI0 at h
    split at h
    · exact ⟨_, _, rp_int.mp ra, rp_int.mp rb, h _ H (Same.refl H) (rp_int.mpr rfl)⟩
    · exact h.elim
theorem sem_B0 {K : PySem.W.Frag} {g : Int → Int → Bool} : Sem2 K (rI0 fun i j => .bl (g i j)) (dB0 g) where
  mono := fun {a b Q Q'} hq h => by
    unfold dB0 at h ⊢
    split at h
    · exact hq _ h
    · exact h.elim
  ok := fun O H a b x y Q _ ra rb h => by
    unfold dB0 at h
    split at h
    · exact ⟨_, _, rp_int.mp ra, rp_int.mp rb, h _ H (Same.refl H) (rp_bl.mpr rfl)⟩
    · exact h.elim
theorem op_mulO : OpR X (binaryOp .Mult) (rI IntMulOk fun i j => .int (i * j)) := opI fun _ _ _ _ _ _ _ hc q => mul_int q hc
def CDv (_ j : Int) : Prop := j ≠ 0 ∧ j.natAbs < 2 ^ 9000
theorem log2_small {n : Nat} (h : n < 2 ^ 9000) : n.log2 < 9000 := by
  by_cases h0 : n = 0
  · subst h0; decide +kernel
  · exact (Nat.log2_lt h0).mpr h
theorem op_fdivO : OpR X (binaryOp .FloorDiv) (rI CDv fun i j => .int (i.fdiv j)) := opI fun _ _ _ _ _ _ _ hc q => floordiv_int hc.1 q (.inl (PyProof.noPylong_of_log2 (log2_small hc.2)))
def dAdd : D2 := dI0 fun i j => i + j
def dSub : D2 := dI0 fun i j => i - j
def dMul : D2 := dI IntMulOk fun i j => i * j
def dMod : D2 := dI (fun _ j => j ≠ 0) fun i j => i.fmod j
def dDiv : D2 := dI CDv fun i j => i.fdiv j
def dPow : D2 := dI CPow fun i j => i ^ j.toNat
def dShl : D2 := dI CPow fun i j => i * 2 ^ j.toNat
def dShr : D2 := dI (fun _ j => 0 ≤ j) fun i j => i / 2 ^ j.toNat
theorem de_add (ha : DE X a ta) (hb : DE X b tb) : DE X (.BinOp a .Add b pos) (dOp dAdd ta tb) := de_op op_add sem_I0 ha hb
theorem de_sub (ha : DE X a ta) (hb : DE X b tb) : DE X (.BinOp a .Sub b pos) (dOp dSub ta tb) := de_op op_sub sem_I0 ha hb
theorem de_mul (ha : DE X a ta) (hb : DE X b tb) : DE X (.BinOp a .Mult b pos) (dOp dMul ta tb) := de_op op_mulO sem_I ha hb
theorem de_mod (ha : DE X a ta) (hb : DE X b tb) : DE X (.BinOp a .Mod b pos) (dOp dMod ta tb) := de_op op_modN sem_I ha hb
theorem de_div (ha : DE X a ta) (hb : DE X b tb) : DE X (.BinOp a .FloorDiv b pos) (dOp dDiv ta tb) := de_op op_fdivO sem_I ha hb
theorem de_pow (ha : DE X a ta) (hb : DE X b tb) : DE X (.BinOp a .Pow b pos) (dOp dPow ta tb) := de_op op_pow sem_I ha hb
theorem de_shl (ha : DE X a ta) (hb : DE X b tb) : DE X (.BinOp a .LShift b pos) (dOp dShl ta tb) := de_op op_shl sem_I ha hb
def dLt : D2 := dB0 fun i j => decide (i < j)
def dLe : D2 := dB0 fun i j => decide (i ≤ j)
def dGt : D2 := dB0 fun i j => decide (j < i)
def dGe : D2 := dB0 fun i j => decide (j ≤ i)
theorem de_gt (ha : DE X a ta) (hb : DE X b tb) : DE X (.Compare a [.Gt] [b] pos) (dOp dGt ta tb) := de_cmp op_gt sem_B0 ha hb (nomark _)
def ixL : Int → List Dt → Option Dt
  | .ofNat n, ds => ds[n]?
  | .negSucc m, ds => if m < ds.length then ds[ds.length - 1 - m]? else none
def ixD (i : Int) : Dt → Option Dt
  | .tup ds => ixL i ds
  | .lst ds => ixL i ds
  | _ => none
theorem ixL_at {i : Int} {ds : List Dt} {d : Dt} (h : ixL i ds = some d) : atI ds i = some d := by
  cases i with
  | ofNat n => exact atI_nat h
  | negSucc m =>
    have h' : (if m < ds.length then ds[ds.length - 1 - m]? else none) = some d := h
    by_cases hm : m < ds.length
    · rw [if_pos hm] at h'
      unfold atI ixN
      have h1 : ¬ (0 : Int) ≤ Int.negSucc m := by omega
      have h2 : -(ds.length : Int) ≤ Int.negSucc m := by omega
      have h3 : (Int.negSucc m + (ds.length : Int)).toNat = ds.length - 1 - m := by omega
      rw [if_neg h1, if_pos h2, Option.bind_some, h3]
      exact h'
    · rw [if_neg hm] at h'; cases h'
def dIx : D2 := fun a b Q => match b with
  | .int i => match ixD i a with
    | some d => Q d
    | none => False
  | _ => False
theorem atI_rp {K : PySem.W.Frag} {H : Hp} {ds : List Dt} {xs : List V} {i : Int} {d : Dt} (r : RpL K H ds xs) (h : atI ds i = some d) : ∃ v, atI xs i = some v ∧ Rp K H d v := by
  unfold atI at h ⊢
  rw [r.len]
  cases e : ixN ds.length i with
  | none => rw [e] at h; cases h
  | some j =>
    rw [e] at h
    exact r.get h
theorem sem_ix {K : PySem.W.Frag} : Sem2 K (rIx K) dIx where
  mono := fun {a b Q Q'} hq h => by
    unfold dIx at h ⊢
    split at h
    · split at h
      · rename_i e; exact hq _ h
      · exact h.elim
    · exact h.elim
  ok := fun O H a b x y Q _ ra rb h => by
    unfold dIx at h
    split at h
    · split at h
      · rename_i i _ d e
        have eb := rp_int.mp rb
        subst eb
        cases a with
        | tup ds =>
          obtain ⟨p, xs, rfl, hs, hl⟩ := rp_tup.mp ra
          obtain ⟨v, e1, e2⟩ := atI_rp hl (ixL_at e)
          exact .inr (.inl ⟨p, xs, i, v, rfl, rfl, mask_le.seqT hs, e1, h v H (Same.refl H) e2⟩)
        | lst ds =>
          obtain ⟨p, xs, rfl, hs, hl⟩ := rp_lstE ra
          obtain ⟨v, e1, e2⟩ := atI_rp hl (ixL_at e)
          exact .inl ⟨p, xs, i, v, rfl, rfl, mask_le.seq hs, e1, h v H (Same.refl H) e2⟩
        | _ => cases e
      · exact h.elim
    · exact h.elim
theorem de_sub_ix (ha : DE X a ta) (hb : DE X b tb) (hs : PlainIx b := by exact fun _ _ => rfl) : DE X (.Subscript a b pos) (dOp dIx ta tb) := de_ix ix_seq sem_ix ha hb hs

def dNeg : Dt → (Dt → Prop) → Prop := fun a Q => match a with
  | .int i => Q (.int (-i))
  | _ => False
def dUn (t : Dt → (Dt → Prop) → Prop) (ta : DTE) : DTE := fun ρ Q => ta ρ fun a => t a Q
theorem de_neg (ha : DE X a ta) : DE X (.UnaryOp .USub a pos) (dUn dNeg ta) where
  mono := fun hq h => ha.mono (fun d h => by
    unfold dNeg at h ⊢
    split at h
    · exact hq _ h
    · exact h.elim) h
  pe := (pe_un un_neg ha.pe).imp fun σ H Q ⟨B, F, O, ρ, R, h⟩ => ⟨B, F, O, ρ, R, ha.mono (fun d h v H1 s1 r1 => by
    unfold dNeg at h
    split at h
    · exact ⟨_, rp_int.mp r1, h _ H1 s1 (rp_int.mpr rfl)⟩
    · exact h.elim) h⟩

def dNot (ta : DTE) : DTE := fun ρ Q => ta ρ fun a => match a with
  | .bl k => Q (.bl (!k))
  | _ => False
def dAnd (ta tb : DTE) : DTE := fun ρ Q => ta ρ fun a => match a with
  | .bl k => if k = true then tb ρ Q else Q (.bl false)
  | _ => False
def dOr (ta tb : DTE) : DTE := fun ρ Q => ta ρ fun a => match a with
  | .bl k => if k = true then Q (.bl true) else tb ρ Q
  | _ => False
theorem de_not (ha : DE X a ta) : DE X (.UnaryOp .Not a pos) (dNot ta) where
  mono := fun hq h => ha.mono (fun d h => by
    split at h
    · exact hq _ h
    · exact h.elim) h
  pe := (pe_not ha.pe).imp fun σ H Q ⟨B, F, O, ρ, R, h⟩ => ⟨B, F, O, ρ, R, ha.mono (fun d h v H1 s1 r1 => by
    split at h
    · exact ⟨_, rp_bl.mp r1, h _ H1 s1 (rp_bl.mpr rfl)⟩
    · exact h.elim) h⟩
theorem de_one {op} (h : DE X a ta) : DE X (.BoolOp op [a] pos) ta := ⟨h.mono, pe_one h.pe⟩
theorem de_and {rest : List Expr} (ha : DE X a ta) (hb : DE X (.BoolOp .And (b :: rest) pos) tb) : DE X (.BoolOp .And (a :: b :: rest) pos) (dAnd ta tb) where
  mono := fun hq h => ha.mono (fun d h => by
    split at h
    · split at h
      · rename_i e; simp only [e, if_true]; exact hb.mono hq h
      · rename_i e; simp only [e]; exact hq _ h
    · exact h.elim) h
  pe := (pe_and ha.pe hb.pe).imp fun σ H Q ⟨B, F, O, ρ, R, h⟩ => ⟨B, F, O, ρ, R, ha.mono (fun d h v H1 s1 r1 => by
    split at h
    · rename_i k
      refine ⟨k, rp_bl.mp r1, ?_⟩
      cases k with
      | true => exact ⟨B, F, O, ρ, R.same s1, hb.mono (fun d q v H2 s2 r2 => q v H2 (s1.trans s2) r2) h⟩
      | false => exact h _ H1 s1 (rp_bl.mpr rfl)
    · exact h.elim) h⟩
theorem de_or {rest : List Expr} (ha : DE X a ta) (hb : DE X (.BoolOp .Or (b :: rest) pos) tb) : DE X (.BoolOp .Or (a :: b :: rest) pos) (dOr ta tb) where
  mono := fun hq h => ha.mono (fun d h => by
    split at h
    · split at h
      · rename_i e; simp only [e, if_true]; exact hq _ h
      · rename_i e; simp only [e]; exact hb.mono hq h
    · exact h.elim) h
  pe := (pe_or ha.pe hb.pe).imp fun σ H Q ⟨B, F, O, ρ, R, h⟩ => ⟨B, F, O, ρ, R, ha.mono (fun d h v H1 s1 r1 => by
    split at h
    · rename_i k
      refine ⟨k, rp_bl.mp r1, ?_⟩
      cases k with
      | false => exact ⟨B, F, O, ρ, R.same s1, hb.mono (fun d q v H2 s2 r2 => q v H2 (s1.trans s2) r2) h⟩
      | true => exact h _ H1 s1 (rp_bl.mpr rfl)
    · exact h.elim) h⟩

def dTst (t : DTE) : DTT := fun ρ Q => t ρ fun a => match a with
  | .bl k => Q k
  | _ => False
theorem dtst_mono {t : DTE} (m : ∀ {ρ Q Q'}, (∀ d, Q d → Q' d) → t ρ Q → t ρ Q') : ∀ {ρ Q Q'}, (∀ d, Q d → Q' d) → dTst t ρ Q → dTst t ρ Q' := fun hq h => m (fun d h => by
    split at h
    · exact hq _ h
    · exact h.elim) h
theorem dt_val (h : DE X e te) (he : ∀ whole, isTrue e X.env whole = (do let v ← whole; standAt e.pos; holding [v] (truthy v)) := by intro _; rfl) : DT X e (dTst te) where
  mono := dtst_mono (t := te) h.mono
  pt := (pt_val h.pe he).imp fun σ H Q ⟨B, F, O, ρ, R, q⟩ => ⟨B, F, O, ρ, R, h.mono (fun d q v H1 s1 r1 => by
    split at q
    · exact ⟨_, rp_bl.mp r1, q H1 s1⟩
    · exact q.elim) q⟩
theorem dt_cmp {op : CmpOp} {r : R2} {t : D2} (ho : OpR X (compareOp op) r) (S : Sem2 X.K r t) (ha : DE X a ta) (hb : DE X b tb) (hm : behindInMarks op b = false) : DT X (.Compare a [op] [b] pos) (dTst (dOp t ta tb)) where
  mono := dtst_mono (t := dOp t ta tb) (dop_mono (t := t) (ta := ta) (tb := tb) S.mono ha.mono hb.mono)
  pt := (pt_cmpR ho ha.pe hb.pe hm).imp fun σ H Q ⟨B, F, O, ρ, R, q⟩ => op_imp (ta := ta) (tb := tb) S ha.mono hb.mono σ H _ ⟨B, F, O, ρ, R, dop_mono (t := t) (ta := ta) (tb := tb) S.mono ha.mono hb.mono (fun d q v H1 s1 r1 => by
    split at q
    · exact ⟨_, rp_bl.mp r1, q H1 s1⟩
    · exact q.elim) q⟩
theorem dt_lt (ha : DE X a ta) (hb : DE X b tb) : DT X (.Compare a [.Lt] [b] pos) (dTst (dOp dLt ta tb)) := dt_cmp op_lt sem_B0 ha hb (nomark _)
theorem dt_le (ha : DE X a ta) (hb : DE X b tb) : DT X (.Compare a [.LtE] [b] pos) (dTst (dOp dLe ta tb)) := dt_cmp op_le sem_B0 ha hb (nomark _)
theorem dt_gt (ha : DE X a ta) (hb : DE X b tb) : DT X (.Compare a [.Gt] [b] pos) (dTst (dOp dGt ta tb)) := dt_cmp op_gt sem_B0 ha hb (nomark _)
def dTNot (t : DTT) : DTT := fun ρ Q => t ρ fun k => Q (!k)
def dTAnd (t u : DTT) : DTT := fun ρ Q => t ρ fun k => if k = true then u ρ Q else Q false
def dTOr (t u : DTT) : DTT := fun ρ Q => t ρ fun k => if k = true then Q true else u ρ Q
theorem dt_not (ha : DT X a tA) : DT X (.UnaryOp .Not a pos) (dTNot tA) where
  mono := fun hq h => ha.mono (fun _ h => hq _ h) h
  pt := (pt_not ha.pt).imp fun σ H Q ⟨B, F, O, ρ, R, q⟩ => ⟨B, F, O, ρ, R, q⟩
structure DW (X : Cx) (e : Expr) (t : DTT) : Prop where
  mono : ∀ {ρ Q Q'}, (∀ d, Q d → Q' d) → t ρ Q → t ρ Q'
  pw : PW X e (lT X.K t)
theorem DW.dt {t : DTT} (h : DW X e t) : DT X e t := ⟨h.mono, h.pw.pt⟩
theorem dw_and1 (ha : DT X a tA) : DW X (.BoolOp .And [a] pos) tA := ⟨ha.mono, pw_and1 ha.pt⟩
theorem dw_or1 (ha : DT X a tA) : DW X (.BoolOp .Or [a] pos) tA := ⟨ha.mono, pw_or1 ha.pt⟩
theorem PW.imp {t t' : TT} (h : PW X e t) (i : ∀ σ H Q, t' σ H Q → t σ H Q) : PW X e t' := fun wh pins s σ H Q I q => h wh pins s σ H Q I (i _ _ _ q)
theorem dw_and {rest : List Expr} (ha : DT X a tA) (hb : DW X (.BoolOp .And (b :: rest) pos) tB) : DW X (.BoolOp .And (a :: b :: rest) pos) (dTAnd tA tB) where
  mono := fun hq h => ha.mono (fun k h => by
    cases k with
    | true => exact hb.mono hq h
    | false => exact hq _ h) h
  pw := (pw_and ha.pt hb.pw).imp fun σ H Q ⟨B, F, O, ρ, R, q⟩ => ⟨B, F, O, ρ, R, ha.mono (fun k h H1 s1 => by
    cases k with
    | true => exact ⟨B, F, O, ρ, R.same s1, hb.mono (fun k q H2 s2 => q H2 (s1.trans s2)) h⟩
    | false => exact h H1 s1) q⟩
theorem dw_or {rest : List Expr} (ha : DT X a tA) (hb : DW X (.BoolOp .Or (b :: rest) pos) tB) : DW X (.BoolOp .Or (a :: b :: rest) pos) (dTOr tA tB) where
  mono := fun hq h => ha.mono (fun k h => by
    cases k with
    | true => exact hq _ h
    | false => exact hb.mono hq h) h
  pw := (pw_or ha.pt hb.pw).imp fun σ H Q ⟨B, F, O, ρ, R, q⟩ => ⟨B, F, O, ρ, R, ha.mono (fun k h H1 s1 => by
    cases k with
    | false => exact ⟨B, F, O, ρ, R.same s1, hb.mono (fun k q H2 s2 => q H2 (s1.trans s2)) h⟩
    | true => exact h H1 s1) q⟩
def dIfE (t : DTT) (ta tb : DTE) : DTE := fun ρ Q => t ρ fun k => if k = true then ta ρ Q else tb ρ Q
theorem de_ifE (hc : DT X c tA) (ha : DE X a ta) (hb : DE X b tb) : DE X (.IfExp c a b pos) (dIfE tA ta tb) where
  mono := fun hq h => hc.mono (fun k h => by
    cases k with
    | true => exact ha.mono hq h
    | false => exact hb.mono hq h) h
  pe := (pe_ifExp hc.pt ha.pe hb.pe).imp fun σ H Q ⟨B, F, O, ρ, R, q⟩ => ⟨B, F, O, ρ, R, hc.mono (fun k h H1 s1 => by
    cases k with
    | true => exact ⟨B, F, O, ρ, R.same s1, ha.mono (fun k q v H2 s2 r2 => q v H2 (s1.trans s2) r2) h⟩
    | false => exact ⟨B, F, O, ρ, R.same s1, hb.mono (fun k q v H2 s2 r2 => q v H2 (s1.trans s2) r2) h⟩) q⟩

def dNil : DTA := fun _ Q => Q []
def dCons (te : DTE) (tl : DTA) : DTA := fun ρ Q => te ρ fun d => tl ρ fun ds => Q (d :: ds)
theorem da_nil : DA X [] dNil := ⟨fun hq h => hq _ h, pa_nil.imp fun σ H Q ⟨B, F, O, ρ, R, q⟩ => q [] H (Same.refl H) RpL.nil⟩
theorem da_cons (ha : DE X e te) (hr : DA X es tl) (hs : starEach (e :: es) X.env = (false, eval e X.env) :: starEach es X.env := by rfl) : DA X (e :: es) (dCons te tl) where
  mono := fun hq h => ha.mono (fun d h => hr.mono (fun ds h => hq _ h) h) h
  pa := (pa_cons ha.pe hr.pa hs).imp fun σ H Q ⟨B, F, O, ρ, R, q⟩ => ⟨B, F, O, ρ, R, ha.mono (fun d h v H1 s1 r1 => ⟨B, F, O, ρ, R.same s1, hr.mono (fun ds h vs H2 s2 r2 =>
    h (v :: vs) H2 (s1.trans s2) (RpL.cons (r1.mono s2.mask) r2)) h⟩) q⟩
def dTup (tl : DTA) : DTE := fun ρ Q => tl ρ fun ds => ds.length ≤ sizeLine ∧ Q (.tup ds)
def dLst (tl : DTA) : DTE := fun ρ Q => tl ρ fun ds => ds.length ≤ sizeLine ∧ Q (.lst ds)
theorem mask_upd {O : List Addr} {H : Hp} {p : Addr} {o : HO} (hp : p ∉ O) : mask O (upd H p o) p = some o := by rw [mask_out hp, upd_same]
theorem de_tup {k} (h : DA X es tl) : DE X (.Tuple es k pos) (dTup tl) where
  mono := fun hq z => h.mono (fun ds q => ⟨q.1, hq _ q.2⟩) z
  pe := (pe_tup h.pa).imp fun σ H Q ⟨B, F, O, ρ, R, q⟩ => ⟨B, F, O, ρ, R, h.mono (fun ds z vs H1 s1 r1 => ⟨by rw [r1.len]; exact z.1, fun p hp => by
    have np : p ∉ F ++ O := fun m => (R.same s1).th p m hp
    exact z.2 (.ref p) _ (s1.trans (Same.upd hp)) (rp_tup.mpr ⟨p, vs, rfl, SqT.of (mask_upd np), r1.mono (Same.upd hp).mask⟩)⟩) q⟩
theorem de_lst (h : DA X es tl) : DE X (.List es pos) (dLst tl) where
  mono := fun hq z => h.mono (fun ds q => ⟨q.1, hq _ q.2⟩) z
  pe := (pe_lst h.pa).imp fun σ H Q ⟨B, F, O, ρ, R, q⟩ => ⟨B, F, O, ρ, R, h.mono (fun ds z vs H1 s1 r1 => ⟨by rw [r1.len]; exact z.1, fun p hp => by
    have np : p ∉ F ++ O := fun m => (R.same s1).th p m hp
    exact z.2 (.ref p) _ (s1.trans (Same.upd hp)) (rp_lstI ⟨p, vs, rfl, (mask_upd np), r1.mono (Same.upd hp).mask⟩)⟩) q⟩

abbrev DSp := List Dt → (Dt → Prop) → Prop
def lSp (K : PySem.W.Frag) (sp : DSp) : Sp := fun vs H Q _ => ∃ F ds, (∀ a ∈ F, H a ≠ none) ∧ RpL K (mask F H) ds vs ∧ sp ds fun d => ∀ v H', Same H H' → Rp K (mask F H') d v → Q v H'
def MonoSp (sp : DSp) : Prop := ∀ ds Q Q', (∀ d, Q d → Q' d) → sp ds Q → sp ds Q'
def dCall (sp : DSp) (tl : DTA) : DTE := fun ρ Q => tl ρ fun ds => sp ds Q
theorem de_call {CX : CXT} {k : Nat} {f : Addr} {fd : FuncData} {ps : List Str} {sp : DSp} {x : Str} {p : Pos} (m : MonoSp sp) (G : FnOk X.prog X.w X.K X.mg X.base CX0 k f fd ps (lSp X.K sp)) (hr : Room k X.A) (hg : Gl X x) (hm : X.mg x = some (.ref f))
    (hk : PySem.W.keepIn X.K (.ref f) = true) (hb : Binds X.K fd ps []) (ha : DA X (e :: es) tl) (hdb : (x == ("__debug__" : Str)) = false := by decide)
    (he : starEach (e :: es) X.env = (false, eval e X.env) :: starEach es X.env := by rfl) (hpl : (backTo pos (starEach es X.env)).any (·.1) = false := by rfl) : DE X (.Call (.Name x p) (e :: es) [] pos) (dCall sp tl) where
  mono := fun hq z => ha.mono (fun ds q => m _ _ _ hq q) z
  pe := (pe_call G hr hg hm hk hb .nil pass0 ha.pa hdb he hpl).imp fun σ H Q ⟨B, F, O, ρ, R, q⟩ => ⟨B, F, O, ρ, R, ha.mono (fun ds z vs H1 s1 r1 => by
    show lSp X.K sp (vs ++ []) H1 Q E0
    rw [List.append_nil]
    exact ⟨F ++ O, ds, (R.same s1).th, r1, m _ _ _ (fun d q v H2 s2 r2 => q v H2 (s1.trans s2) r2) z⟩) q⟩

variable {st : Stmt} {sts : List Stmt} {t u : DTS}
def dNext : DTS := fun D ρ => D.nx ρ
def dSeq (t u : DTS) : DTS := fun D ρ => t { D with nx := u D } ρ
theorem le_nx {D D' : DEnds} {P P' : DEnv → Prop} (h : DEnds.le D D') (hp : ∀ ρ, P ρ → P' ρ) : DEnds.le { D with nx := P } { D' with nx := P' } := ⟨hp, h.rt, h.bk, h.ct⟩
theorem le_refl {D : DEnds} : DEnds.le D D := ⟨fun _ h => h, fun _ h => h, fun _ h => h, fun _ h => h⟩
theorem dss_nil : DSs X [] dNext := ⟨fun hd h => hd.nx _ h, pss_nil.imp fun D σ H ⟨B, F, O, ρ, R, h⟩ => h O σ H R⟩
theorem dss_cons (h1 : DS X st t) (h2 : DSs X sts u) : DSs X (st :: sts) (dSeq t u) where
  mono := fun hd h => h1.mono (le_nx hd fun ρ q => h2.mono hd q) h
  ps := (pss_cons h1.ps h2.ps).imp fun D σ H ⟨B, F, O, ρ, R, h⟩ => ⟨B, F, O, ρ, R, h1.mono (D := { lD X.K B F D with nx := u (lD X.K B F D) }) ⟨fun ρ' q O' σ' H' R' => ⟨B, F, O', ρ', R', q⟩, fun _ q => q, fun _ q => q, fun _ q => q⟩ h⟩
theorem dss_one (h1 : DS X st t) : DSs X [st] t := ⟨h1.mono, pss_one h1.ps⟩
def dNever : DTS := fun _ _ => False
theorem ds_never : DS X st dNever := ⟨fun _ h => h.elim, ps_never.imp fun D σ H ⟨B, F, O, ρ, R, h⟩ => h.elim⟩
def dDrop (te : DTE) : DTS := fun D ρ => te ρ fun _ => D.nx ρ
theorem ds_expr (he : DE X e te) (hs : swapsWith e none pos.line X.env = pure false := by rfl) : DS X (.Expr e pos) (dDrop te) where
  mono := fun hd h => he.mono (fun _ h => hd.nx _ h) h
  ps := (ps_expr he.pe hs).imp fun D σ H ⟨B, F, O, ρ, R, h⟩ => ⟨B, F, O, ρ, R, he.mono (fun d q v H1 s1 _ => q O σ H1 (R.same s1)) h⟩
def dRet (te : DTE) : DTS := fun D ρ => te ρ D.rt
theorem mask_app {F O : List Addr} {H : Hp} : Same (mask (F ++ O) H) (mask F H) := mask_sub fun _ h => List.mem_append_left _ h
theorem ds_ret (he : DE X e te) : DS X (.Return (some e) pos) (dRet te) where
  mono := fun hd h => he.mono (fun _ h => hd.rt _ h) h
  ps := (ps_ret he.pe).imp fun D σ H ⟨B, F, O, ρ, R, h⟩ => ⟨B, F, O, ρ, R, he.mono (fun d q v H1 s1 r1 => q v H1 (R.base.trans s1) (r1.mono mask_app)) h⟩
def dRetN : DTS := fun D _ => D.rt .non
def dIf (c : DTT) (t u : DTS) : DTS := fun D ρ => c ρ fun k => if k = true then t D ρ else u D ρ
theorem ds_if {sa sb : List Stmt} (hc : DT X c tA) (ha : DSs X sa t) (hb : DSs X sb u) : DS X (.If c sa sb pos) (dIf tA t u) where
  mono := fun hd h => hc.mono (fun k h => by
    cases k with
    | true => exact ha.mono hd h
    | false => exact hb.mono hd h) h
  ps := (ps_if hc.pt ha.ps hb.ps).imp fun D σ H ⟨B, F, O, ρ, R, h⟩ => ⟨B, F, O, ρ, R, hc.mono (fun k h H1 s1 => by
    cases k with
    | true => exact ⟨B, F, O, ρ, R.same s1, h⟩
    | false => exact ⟨B, F, O, ρ, R.same s1, h⟩) h⟩

abbrev DTG := Dt → DEnv → (DEnv → Prop) → Prop
abbrev DTGs := List Dt → DEnv → (DEnv → Prop) → Prop
def lG (K : PySem.W.Frag) (g : DTG) : TG := fun v σ H Q => ∃ B F O ρ d, Rep K B F O H σ ρ ∧ Rp K (mask (F ++ O) H) d v ∧ g d ρ fun ρ' => ∀ σ', Rep K B F O H σ' ρ' → Q σ' H
def lGs (K : PySem.W.Frag) (g : DTGs) : TGs := fun vs σ H Q => ∃ B F O ρ ds, Rep K B F O H σ ρ ∧ RpL K (mask (F ++ O) H) ds vs ∧ g ds ρ fun ρ' => ∀ σ', Rep K B F O H σ' ρ' → Q σ' H
structure DG (X : Cx) (tg : Expr) (g : DTG) : Prop where
  mono : ∀ {d ρ Q Q'}, (∀ ρ', Q ρ' → Q' ρ') → g d ρ Q → g d ρ Q'
  pg : PG X tg (lG X.K g)
structure DGs (X : Cx) (tgs : List Expr) (g : DTGs) : Prop where
  mono : ∀ {d ρ Q Q'}, (∀ ρ', Q ρ' → Q' ρ') → g d ρ Q → g d ρ Q'
  pg : PGs X tgs (lGs X.K g)
theorem PG.imp {e : Expr} {t t' : TG} (h : PG X e t) (i : ∀ v σ H Q, t' v σ H Q → t v σ H Q) : PG X e t' := fun pins s σ H v u Q I r q => h pins s σ H v u Q I r (i _ _ _ _ q)
theorem PGs.imp {e : List Expr} {t t' : TGs} (h : PGs X e t) (i : ∀ v σ H Q, t' v σ H Q → t v σ H Q) : PGs X e t' := fun pins s σ H v u Q I r q => h pins s σ H v u Q I r (i _ _ _ _ q)
def dgName (i : Nat) : DTG := fun d ρ Q => Q (ρ.set i (some (.is d)))
theorem dg_name (i : Nat) {x : Str} (hN : X.N.Nodup) (hi : X.N[i]? = some x := by rfl) (hx : Loc X.env.scope x := by first | exact Or.inl rfl | exact Or.inr rfl)
    (hf : X.fn x = true ∨ X.env.scope.names.lookup x = some .local := by first | exact .inl rfl | exact .inr rfl | assumption) : DG X (.Name x pos) (dgName i) where
  mono := fun hq h => hq _ h
  pg := (pg_name hN hi hx hf).imp fun v σ H Q ⟨B, F, O, ρ, d, R, r, h⟩ => h _ (R.set i r)
def dgNil : DTGs := fun ds ρ Q => match ds with
  | [] => Q ρ
  | _ => False
def dgCons (g : DTG) (gs : DTGs) : DTGs := fun ds ρ Q => match ds with
  | d :: r => g d ρ fun ρ' => gs r ρ' Q
  | [] => False
theorem dgs_nil : DGs X [] dgNil where
  mono := fun hq h => by
    unfold dgNil at h ⊢
    split at h
    · exact hq _ h
    · exact h.elim
  pg := pgs_nil.imp fun vs σ H Q ⟨B, F, O, ρ, ds, R, r, h⟩ => by
    unfold dgNil at h
    split at h
    · exact ⟨rpl_nil.mp r, h σ R⟩
    · exact h.elim
theorem dgs_cons {g : DTG} {gs : DTGs} (h1 : DG X e g) (h2 : DGs X es gs) (hs : (assignEach (e :: es) X.env).map (·.2) = assign e X.env :: (assignEach es X.env).map (·.2) := by rfl) : DGs X (e :: es) (dgCons g gs) where
  mono := fun hq h => by
    unfold dgCons at h ⊢
    split at h
    · exact h1.mono (fun ρ' q => h2.mono hq q) h
    · exact h.elim
  pg := (pgs_cons h1.pg h2.pg hs).imp fun vs σ H Q ⟨B, F, O, ρ, ds, R, r, h⟩ => by
    unfold dgCons at h
    split at h
    · obtain ⟨v, vr, rfl, r1, r2⟩ := rpl_cons.mp r
      exact ⟨v, vr, rfl, B, F, O, ρ, _, R, r1, h1.mono (fun ρ' q σ' R' => ⟨B, F, O, ρ', _, R', r2, q⟩) h⟩
    · exact h.elim
def dgTup (n : Nat) (gs : DTGs) : DTG := fun d ρ Q => match d with
  | .tup ds => ds.length = n ∧ gs ds ρ Q
  | _ => False
theorem dg_tup {k : Nat} {gs : DTGs} {n : Nat} (hc : X.calm = true) (h : DGs X es gs) (hn : (assignEach es X.env).length = n := by rfl) (hst : (assignEach es X.env).findIdx? (·.1) = none := by rfl) : DG X (.Tuple es k pos) (dgTup n gs) where
  mono := fun hq z => by
    unfold dgTup at z ⊢
    split at z
    · exact ⟨z.1, h.mono hq z.2⟩
    · exact z.elim
  pg := (pg_tup hc h.pg hn hst).imp fun v σ H Q ⟨B, F, O, ρ, d, R, r, z⟩ => by
    unfold dgTup at z
    split at z
    · obtain ⟨a, xs, rfl, hs, hl⟩ := rp_tup.mp r
      exact ⟨a, xs, rfl, mask_le.seqT hs, by rw [hl.len]; exact z.1, B, F, O, ρ, _, R, hl, z.2⟩
    · exact z.elim
def dAsg (te : DTE) (g : DTG) : DTS := fun D ρ => te ρ fun d => g d ρ D.nx
theorem ds_asg {tg : Expr} {g : DTG} (he : DE X e te) (hg : DG X tg g) (hs : swapsWithSole [tg] e pos.line X.env = pure false := by rfl) (hw : swappedStores [tg] e X.env = pure none := by rfl)
    (h1 : (assignEach [tg] X.env).map (·.2) = [assign tg X.env] := by rfl) : DS X (.Assign [tg] e pos) (dAsg te g) where
  mono := fun hd h => he.mono (fun _ h => hg.mono (fun _ h => hd.nx _ h) h) h
  ps := (ps_asg he.pe hg.pg hs hw h1).imp fun D σ H ⟨B, F, O, ρ, R, h⟩ => ⟨B, F, O, ρ, R, he.mono (fun d q v H1 s1 r1 => ⟨B, F, O, ρ, d, R.same s1, r1, hg.mono (fun ρ' q σ' R' => q O σ' H1 R') q⟩) h⟩

def dWhile (c : DTT) (tb : DTS) : DTS := fun D ρ => ∃ W : Nat → DEnv → Prop, (∃ m, W m ρ) ∧ ∀ m ρ, W m ρ →
  c ρ fun k => if k = true then tb { D with nx := fun ρ' => ∃ m', m' < m ∧ W m' ρ', ct := fun ρ' => ∃ m', m' < m ∧ W m' ρ', bk := D.nx } ρ else D.nx ρ
theorem ds_while {body : List Stmt} (hp : PassesOwn (model X.prog X.w) X.A X.env X.xe) (hc : DT X c tA) (hb : DSs X body t) : DS X (.While c body [] pos) (dWhile tA t) where
  mono := fun {ρ D D'} hd ⟨W, h0, h⟩ => ⟨W, h0, fun m ρ w => hc.mono (fun k h => by
    cases k with
    | true => exact hb.mono (D := { D with nx := fun ρ' => ∃ m', m' < m ∧ W m' ρ', ct := fun ρ' => ∃ m', m' < m ∧ W m' ρ', bk := D.nx }) ⟨fun _ q => q, hd.rt, hd.nx, fun _ q => q⟩ h
    | false => exact hd.nx _ h) (h m ρ w)⟩
  ps := (ps_while hp hc.pt hb.ps).imp fun D σ H ⟨B, F, O, ρ, R, W, ⟨m0, w0⟩, h⟩ => by
    refine ⟨fun m σ H => ∃ O ρ, Rep X.K B F O H σ ρ ∧ W m ρ, ⟨m0, O, ρ, R, w0⟩, ?_⟩
    rintro m σ H ⟨O, ρ, R, w⟩
    refine ⟨B, F, O, ρ, R, hc.mono (fun k h H1 s1 => ?_) (h m ρ w)⟩
    cases k with
    | true =>
      refine ⟨fun σ' H' => ∃ m', m' < m ∧ ∃ O ρ, Rep X.K B F O H' σ' ρ ∧ W m' ρ, fun σ' H' ⟨m', l, q⟩ => ⟨m', l, q⟩, B, F, O, ρ, R.same s1, hb.mono (D := { lD X.K B F D with nx := fun ρ' => ∃ m', m' < m ∧ W m' ρ', ct := fun ρ' => ∃ m', m' < m ∧ W m' ρ', bk := (lD X.K B F D).nx }) ⟨?_, fun _ q => q, fun _ q => q, ?_⟩ h⟩
      · rintro ρ' ⟨m', l, w'⟩ O' σ' H' R'
        exact ⟨m', l, O', ρ', R', w'⟩
      · rintro ρ' ⟨m', l, w'⟩ O' σ' H' R'
        exact ⟨m', l, O', ρ', R', w'⟩
    | false => exact h O σ H1 (R.same s1)

def ItD (K : PySem.W.Frag) (M : Hp) (J : It) (items : List Dt) : Prop := ∀ H, Same M H →
  (∀ (k : Nat) d, items[k]? = some d → J.go k H ∧ ∀ x H', J.yld k H x H' → H' = H ∧ Rp K M d x) ∧ J.stop items.length H
abbrev DTI := DEnv → (List Dt → Prop) → Prop
def lI (K : PySem.W.Frag) (ti : DTI) : TI := fun σ H R => ∃ B F O ρ, Rep K B F O H σ ρ ∧ ti ρ fun items => ∀ J H', Same H H' → ItD K (mask (F ++ O) H') J items → R J H'
structure DI (X : Cx) (tg iter : Expr) (ti : DTI) : Prop where
  mono : ∀ {ρ Q Q'}, (∀ d, Q d → Q' d) → ti ρ Q → ti ρ Q'
  pi : PI X tg iter (lI X.K ti)
theorem PI.imp {tg e : Expr} {t t' : TI} (h : PI X tg e t) (i : ∀ σ H Q, t' σ H Q → t σ H Q) : PI X tg e t' := fun pins s σ H R I q => h pins s σ H R I (i _ _ _ q)
def dFor (ti : DTI) (g : DTG) (tb : DTS) : DTS := fun D ρ => ti ρ fun items => ∃ W : Nat → DEnv → Prop, W 0 ρ ∧
  (∀ (k : Nat) d ρ', items[k]? = some d → W k ρ' → g d ρ' fun ρ2 => tb { D with nx := W (k + 1), ct := W (k + 1), bk := D.nx } ρ2) ∧ ∀ ρ', W items.length ρ' → D.nx ρ'
theorem Rep.rebase {K : PySem.W.Frag} {B : Hp} {F O : List Addr} {H : Hp} {σ : St} {ρ : DEnv} (r : Rep K B F O H σ ρ) : Rep K (mask O H) F O H σ ρ :=
  ⟨r.len, mask_le, fun _ h => mask_in h, r.th, r.is, r.own, r.inj⟩
theorem Rep.unbase {K : PySem.W.Frag} {B B' : Hp} {F O O' : List Addr} {H H' : Hp} {σ σ' : St} {ρ ρ' : DEnv} (r : Rep K B F O H σ ρ) (r' : Rep K (mask O H) F O' H' σ' ρ') : Rep K B F O' H' σ' ρ' := by
  have s : Same B (mask O H) := fun a o e => by
    rw [mask_out]
    · exact r.base a o e
    · intro z; rw [r.fr a z] at e; cases e
  refine ⟨r'.len, s.trans r'.base, fun a h => ?_, r'.th, r'.is, r'.own, r'.inj⟩
  cases q : B a with
  | none => rfl
  | some o => have := s a o q; rw [r'.fr a h] at this; cases this
theorem Rep.sub {K : PySem.W.Frag} {B : Hp} {F O : List Addr} {H : Hp} {σ : St} {ρ : DEnv} (r : Rep K B F O H σ ρ) : Same B (mask O H) := fun a o e => by
  rw [mask_out]
  · exact r.base a o e
  · intro z; rw [r.fr a z] at e; cases e
theorem mask_mask {F O : List Addr} {H : Hp} : mask F (mask O H) = mask (F ++ O) H := by
  funext a
  by_cases h1 : a ∈ F
  · rw [mask_in h1, mask_in (List.mem_append_left _ h1)]
  · rw [mask_out h1]
    by_cases h2 : a ∈ O
    · rw [mask_in h2, mask_in (List.mem_append_right _ h2)]
    · rw [mask_out h2, mask_out fun z => (List.mem_append.mp z).elim h1 h2]
theorem ds_for {tg iter : Expr} {body : List Stmt} {ti : DTI} {g : DTG} (hp : PassesOwn (model X.prog X.w) X.A X.env X.xe) (hc : X.calm = true) (hi : DI X tg iter ti) (hg : DG X tg g) (hb : DSs X body t)
    (hs : ∀ x, foldedSetIterable iter X.env x = pure x := by intro _; rfl) : DS X (.For tg iter body [] pos) (dFor ti g t) where
  mono := fun {ρ D D'} hd h => hi.mono (fun items ⟨W, h0, h, he⟩ => ⟨W, h0, fun k d ρ' e w => hg.mono (fun ρ2 q => hb.mono (D := { D with nx := W (k + 1), ct := W (k + 1), bk := D.nx }) ⟨fun _ q => q, hd.rt, hd.nx, fun _ q => q⟩ q) (h k d ρ' e w), fun ρ' w => hd.nx _ (he ρ' w)⟩) h
  ps := (ps_for hp hc hi.pi hg.pg hb.ps hs).imp fun D σ H ⟨B, F, O, ρ, R, h⟩ => by
    refine ⟨B, F, O, ρ, R, hi.mono (fun items z J H1 s1 it => ?_) h⟩
    obtain ⟨W, h0, h, he⟩ := z
    have R1 := R.same s1
    refine ⟨fun i m σ H => m + i = items.length ∧ ∃ O' ρ', Rep X.K (mask O H1) F O' H σ ρ' ∧ W i ρ', ⟨items.length, by omega, O, ρ, R1.rebase, h0⟩, ?_⟩
    rintro i m σ2 H2 ⟨hm, O', ρ', R2, w⟩
    have sb : Same (mask (F ++ O) H1) H2 := fun a o e => R2.base a o (by
      obtain ⟨q, e⟩ := mask_some e
      rw [mask_out fun z => q (List.mem_append_right _ z)]; exact e)
    obtain ⟨go, stop⟩ := it H2 sb
    by_cases hlt : i < items.length
    · refine .inr ⟨(go i items[i] (by simp [hlt])).1, fun σ' H' => ∃ O' ρ', Rep X.K (mask O H1) F O' H' σ' ρ' ∧ W (i + 1) ρ', fun σ' H' q => ⟨m - 1, by omega, by omega, q⟩, fun x H3 y => ?_⟩
      obtain ⟨e, r⟩ := (go i items[i] (by simp [hlt])).2 x H3 y
      subst e
      have r' : Rp X.K (mask (F ++ O') H3) items[i] x := r.mono (by rw [← mask_mask]; exact R2.below)
      refine ⟨_, F, O', ρ', _, R2, r', hg.mono (fun ρ2 q σ3 R3 => ⟨_, F, O', ρ2, R3, hb.mono (D := { lD X.K B F D with nx := W (i + 1), ct := W (i + 1), bk := (lD X.K B F D).nx }) ⟨?_, ?_, ?_, ?_⟩ q⟩) (h i _ ρ' (by simp [hlt]) w)⟩
      · exact fun ρ4 w4 O4 σ4 H4 R4 => ⟨O4, ρ4, R4, w4⟩
      · exact fun d q v H4 s4 r4 => q v H4 (R1.sub.trans s4) r4
      · exact fun ρ4 q O4 σ4 H4 R4 => q O4 σ4 H4 (R1.unbase (B' := B) R4)
      · exact fun ρ4 w4 O4 σ4 H4 R4 => ⟨O4, ρ4, R4, w4⟩
    · have e : i = items.length := by omega
      subst e
      exact .inl ⟨stop, he ρ' w O' σ2 H2 (R1.unbase (B' := B) R2)⟩
def diSeq (te : DTE) : DTI := fun ρ Q => te ρ fun d => match d with
  | .lst ds => Q ds
  | _ => False
def diTup (te : DTE) : DTI := fun ρ Q => te ρ fun d => match d with
  | .tup ds => Q ds
  | _ => False
theorem di_lst {tg : Expr} (h : DE X e te) : DI X tg e (diSeq te) where
  mono := fun hq z => h.mono (fun d z => by
    split at z
    · exact hq _ z
    · exact z.elim) z
  pi := (pi_list h.pe).imp fun σ H Q ⟨B, F, O, ρ, R, z⟩ => ⟨B, F, O, ρ, R, h.mono (fun d z v H1 s1 r1 => by
    split at z
    · obtain ⟨a, xs, rfl, hs, hl⟩ := rp_lstE r1
      refine ⟨a, rfl, ⟨xs, mask_le.seq hs⟩, z _ H1 s1 fun H2 s2 => ⟨fun k d e => ?_, xs, s2.seq hs, by rw [hl.len]; exact Nat.le_refl _⟩⟩
      obtain ⟨x, e1, e2⟩ := hl.get e
      refine ⟨⟨xs, x, s2.seq hs, e1⟩, fun y H3 ⟨e3, e4⟩ => ⟨e3, ?_⟩⟩
      have e5 := e4 xs (s2.seq hs)
      rw [e1] at e5; cases e5; exact e2
    · exact z.elim) z⟩
theorem di_tup {tg : Expr} (h : DE X e te) : DI X tg e (diTup te) where
  mono := fun hq z => h.mono (fun d z => by
    split at z
    · exact hq _ z
    · exact z.elim) z
  pi := (pi_tup h.pe).imp fun σ H Q ⟨B, F, O, ρ, R, z⟩ => ⟨B, F, O, ρ, R, h.mono (fun d z v H1 s1 r1 => by
    split at z
    · obtain ⟨a, xs, rfl, hs, hl⟩ := rp_tup.mp r1
      refine ⟨a, rfl, ⟨xs, mask_le.seqT hs⟩, z _ H1 s1 fun H2 s2 => ⟨fun k d e => ?_, xs, s2.seqT hs, by rw [hl.len]; exact Nat.le_refl _⟩⟩
      obtain ⟨x, e1, e2⟩ := hl.get e
      refine ⟨⟨xs, x, s2.seqT hs, e1⟩, fun y H3 ⟨e3, e4⟩ => ⟨e3, ?_⟩⟩
      have e5 := e4 xs (s2.seqT hs)
      rw [e1] at e5; cases e5; exact e2
    · exact z.elim) z⟩
def ups (lo : Int) (n : Nat) : List Dt := (List.range n).map fun i => .int (lo + (i : Nat))
theorem ups_len {lo : Int} {n : Nat} : (ups lo n).length = n := by simp [ups]
theorem ups_get {lo : Int} {n k : Nat} {d : Dt} (h : (ups lo n)[k]? = some d) : k < n ∧ d = .int (lo + (k : Nat)) := by
  unfold ups at h
  rw [List.getElem?_map] at h
  by_cases hk : k < n
  · rw [List.getElem?_range hk] at h
    exact ⟨hk, (Option.some.inj h).symm⟩
  · rw [List.getElem?_eq_none (by simpa using hk)] at h; cases h
theorem itd_range {K : PySem.W.Frag} {M : Hp} {lo : Int} {n : Nat} : ItD K M (Itr lo n) (ups lo n) := fun H _ => by
  refine ⟨fun k d e => ?_, ?_⟩
  · obtain ⟨hk, rfl⟩ := ups_get e
    exact ⟨hk, fun x H' y => ⟨y.1, rp_int.mpr y.2⟩⟩
  · rw [ups_len]; exact Nat.le_refl n
def diRng1 (tl : DTA) : DTI := fun ρ Q => tl ρ fun ds => match ds with
  | [.int j] => (-(2 ^ 62) ≤ j ∧ j < 2 ^ 62) ∧ Q (ups 0 j.toNat)
  | _ => False
def diRng2 (tl : DTA) : DTI := fun ρ Q => tl ρ fun ds => match ds with
  | [.int i, .int j] => (-(2 ^ 62) ≤ i ∧ i < 2 ^ 62 ∧ -(2 ^ 62) ≤ j ∧ j < 2 ^ 62) ∧ Q (ups i (j - i).toNat)
  | _ => False
theorem di_rng1 {tg : Expr} {p : Pos} (hg : Gl X "range") (hm : X.mg "range" = none) (ha : DA X [a] tl) (hs : starEach [a] X.env = [(false, eval a X.env)] := by rfl) : DI X tg (.Call (.Name "range" p) [a] [] pos) (diRng1 tl) where
  mono := fun hq z => ha.mono (fun d z => by
    split at z
    · exact ⟨z.1, hq _ z.2⟩
    · exact z.elim) z
  pi := (pi_range1 hg hm ha.pa hs).imp fun σ H Q ⟨B, F, O, ρ, R, z⟩ => ⟨B, F, O, ρ, R, ha.mono (fun d z vs H1 s1 r1 => by
    split at z
    · obtain ⟨v, r, rfl, r2, r3⟩ := rpl_cons.mp r1
      rw [rpl_nil.mp r3, rp_int.mp r2]
      exact ⟨_, rfl, z.1.1, z.1.2, z.2 _ H1 s1 itd_range⟩
    · exact z.elim) z⟩
end

def dstart (N : List Str) (ds : List Dt) : DEnv := ds.map (fun d => some (.is d)) ++ List.replicate (N.length - ds.length) none
theorem rep_start {K : PySem.W.Frag} {F : List Addr} {H : Hp} {N : List Str} {ds : List Dt} {vs : List V} (hF : ∀ a ∈ F, H a ≠ none) (r : RpL K (mask F H) ds vs) : Rep K H F [] H (start N vs) (dstart N ds) := by
  have hl := r.len
  have noown : ∀ (i : Nat) es, (dstart N ds)[i]? = some (some (.own es)) → False := fun i es e => by
    unfold dstart at e
    by_cases hi : i < ds.length
    · rw [List.getElem?_append_left (by simpa using hi), List.getElem?_map] at e
      cases q : ds[i]? with
      | none => rw [q] at e; cases e
      | some d => rw [q] at e; cases e
    · rw [List.getElem?_append_right (by simpa using hi), List.getElem?_replicate] at e
      split at e <;> cases e
  refine ⟨?_, Same.refl H, fun a h => (nomatch h), fun a h => hF a (by simpa using h), fun i d e => ?_, fun i es e => (noown i es e).elim, fun i j es es' a h1 => (noown i es h1).elim⟩
  · unfold start dstart; simp [hl]
  · unfold dstart at e
    by_cases hi : i < ds.length
    · rw [List.getElem?_append_left (by simpa using hi), List.getElem?_map] at e
      cases q : ds[i]? with
      | none => rw [q] at e; cases e
      | some d' =>
        rw [q] at e; cases e
        obtain ⟨v, e1, e2⟩ := r.get q
        refine ⟨v, ?_, by rw [List.append_nil]; exact e2⟩
        unfold start
        rw [List.getElem?_append_left (by simp; omega), List.getElem?_map, e1]; rfl
    · rw [List.getElem?_append_right (by simpa using hi), List.getElem?_replicate] at e
      split at e <;> cases e
section
variable {P : Program} {w : World} {K : PySem.W.Frag} {mg : Str → Option Value} {base : Heap}
theorem Fun.okD {x qual : Str} {st : Stmt} {f : Addr} {fd : FuncData} {N ps : List Str} {k : Nat} {sp : DSp} (F : Fun K x qual st f fd) (S : FnScope N ps (defScope st)) (len : ∀ ds Q, sp ds Q → ds.length = ps.length)
    (hbody : ∀ (cdv : Value) (A : Around) (outer : List Env) (s : Shared) (H : Hp) (E : XK), Room k (A.deeper (envOfC qual (defScope st) s.heap.objs.size f cdv)) →
      ∃ t, DSs (cxOf CX0 P w K mg base N qual (defScope st) f cdv A outer s H E).nox (defBody st) t ∧ ∀ ds Q, sp ds Q → t { nx := fun _ => Q .non, rt := Q } (dstart N ds)) : FnOk P w K mg base CX0 (k + 1) f fd ps (lSp K sp) := by
  refine F.ok S (fun vs H Q E ⟨F, ds, _, r, h⟩ => by rw [r.len]; exact len _ _ h) fun cdv A outer s H vs Q E hr ⟨F', ds, hF, r, h⟩ => ?_
  obtain ⟨t, T, q⟩ := hbody cdv A outer s H E hr
  refine ⟨_, T.ps, H, F', [], dstart N ds, rep_start hF r, T.mono (D := { nx := fun _ => ∀ v H', Same H H' → Rp K (mask F' H') .non v → Q v H', rt := fun d => ∀ v H', Same H H' → Rp K (mask F' H') d v → Q v H' }) ⟨?_, ?_, fun _ z => False.elim z, fun _ z => False.elim z⟩ (q ds _ h)⟩
  · exact fun ρ z O' σ' H' R' => z .non H' R'.base (rp_non.mpr rfl)
  · exact fun d z v H' s' r' => z v H' s' r'
end
end L2

namespace L2
open PySem PySem.Spec PyProof.Rows PySem.SeqAt

structure FnT (K : PySem.W.Frag) (mg : Str → Option Value) (x : Str) (st : Stmt) (ps : List Str) (f : Addr) (fd : FuncData) : Prop where
  fn : Fun K x x st f fd
  mg : mg x = some (.ref f)
  bd : Binds K fd ps []
def Pm (P : Program) (w : World) (K : PySem.W.Frag) (mg : Str → Option Value) (base : Heap) (k : Nat) (x : Str) (st : Stmt) (ps : List Str) (sp : DSp) : Prop :=
  ∃ f fd, FnT K mg x st ps f fd ∧ FnOk P w K mg base CX0 k f fd ps (lSp K sp)
theorem Fun.uniq {K : PySem.W.Frag} {x q : Str} {st : Stmt} {f : Addr} {fd fd' : FuncData} (a : Fun K x q st f fd) (b : Fun K x q st f fd') : fd = fd' := by
  obtain ⟨oc, od, kV, doc, pm, an, cdv, ct, osl, _, h1, _⟩ := a.ex
  obtain ⟨oc', od', kV', doc', pm', an', cdv', ct', osl', _, h2, _⟩ := b.ex
  rw [h1] at h2
  injection h2 with h2
  injection h2 with _ _ h2 _
  injection h2
def spec {τ : Type} (args : τ → List Dt) (pre : τ → Prop) (post : τ → Dt → Prop) : DSp := fun ds Q => ∃ p, ds = args p ∧ pre p ∧ ∀ d, post p d → Q d
theorem spec_mono {τ : Type} {args : τ → List Dt} {pre : τ → Prop} {post : τ → Dt → Prop} : MonoSp (spec args pre post) := fun _ _ _ hq ⟨p, e, h, q⟩ => ⟨p, e, h, fun d z => hq _ (q d z)⟩
abbrev specF {τ : Type} (args : τ → List Dt) (pre : τ → Prop) (val : τ → Dt) : DSp := spec args pre fun p d => d = val p
abbrev T2 (a b : Int) : Dt := .tup [.int a, .int b]
abbrev T3 (a b c : Int) : Dt := .tup [.int a, .int b, .int c]
abbrev T4 (a b c d : Int) : Dt := .tup [.int a, .int b, .int c, .int d]
def spLaw : DSp := spec (fun ns : List Int => [.lst (ns.map Dt.int)]) (fun ns => ns.length ≤ 63) fun _ d => d = .bl true
theorem mask_nil {H : Hp} : mask [] H = H := by funext a; exact mask_out (by simp)
theorem law_start {K : PySem.W.Frag} {H : Hp} {a : Addr} {ns : List Int} {E : XK} (hl : ns.length ≤ 63) (hS : SqL K H a (ns.map V.int)) : lSp K spLaw [.ref a] H (fun v _ => v = .bl true) E :=
  ⟨[], [.lst (ns.map Dt.int)], fun _ h => (nomatch h), RpL.cons (rp_ints (by rw [mask_nil]; exact hS) (RpL.ints ns)) RpL.nil, ns, rfl, hl, fun d e v H' s r => by subst e; exact rp_bl.mp r⟩

section
variable {X : Cx} {a b c e : Expr} {es : List Expr} {ta tb tc te : DTE} {tA tB : DTT} {tl : DTA} {pos : Pos}
theorem de_callP {k : Nat} {ps : List Str} {sp : DSp} {x : Str} {stx : Stmt} {p : Pos} (m : MonoSp sp) (G : Pm X.prog X.w X.K X.mg X.base k x stx ps sp) (hr : Room k X.A) (hg : Gl X x)
    (ha : DA X (e :: es) tl) (hdb : (x == ("__debug__" : Str)) = false := by decide)
    (he : starEach (e :: es) X.env = (false, eval e X.env) :: starEach es X.env := by rfl) (hpl : (backTo pos (starEach es X.env)).any (·.1) = false := by rfl) : DE X (.Call (.Name x p) (e :: es) [] pos) (dCall sp tl) := by
  obtain ⟨f, fd, F, G⟩ := G
  exact de_call (CX := CX0) m G hr hg F.mg F.fn.kp F.bd ha hdb he hpl

theorem ds_set (i : Nat) {x : Str} {pos' : Pos} (hN : X.N.Nodup) (he : DE X e te) (hi : X.N[i]? = some x := by rfl) (hx : Loc X.env.scope x := by first | exact Or.inl rfl | exact Or.inr rfl) (hs : swapsWith e (some (.Name x pos')) pos.line X.env = pure false := by rfl)
    (hf : X.fn x = true ∨ X.env.scope.names.lookup x = some .local := by first | exact .inl rfl | exact .inr rfl | assumption) : DS X (.Assign [.Name x pos'] e pos) (dAsg te (dgName i)) where
  mono := fun hd h => he.mono (fun _ h => hd.nx _ h) h
  ps := (ps_set hN hi hx he.pe hs hf).imp fun D σ H ⟨B, F, O, ρ, R, h⟩ => ⟨B, F, O, ρ, R, he.mono (fun d q v H1 s1 r1 => q O _ H1 ((R.same s1).set i r1)) h⟩
def dPar2 (i j : Nat) (tl : DTA) : DTS := fun D ρ => tl ρ fun ds => match ds with
  | [d, e] => D.nx ((ρ.set i (some (.is d))).set j (some (.is e)))
  | _ => False
mutual
def Dt.py : Dt → PyData
  | .non => .none
  | .bl b => .bool b
  | .int i => .int i
  | .str x => .str x
  | .tup ds => .tuple (Dt.pys ds)
  | .lst ds => .list (Dt.pys ds)
  | .fn _ => .dict []
  | .exc _ _ _ => .dict []
  | .obj _ _ _ => .dict []
def Dt.pys : List Dt → List PyData
  | [] => []
  | d :: ds => d.py :: Dt.pys ds
end
mutual
theorem reads_of {X : Cx} {pins : List (Addr × Obj)} {σ : St} {H : Hp} {s : Shared} (I : Inv X pins σ H s) : ∀ {d : Dt} {v : V} {u : Value}, d.py.canLay0 = true → Rp X.K H d v → RelV v u → ∃ as, Reads s.heap u d.py as
  | .non, v, u, _, h, r => by rw [rp_non.mp h] at r; cases (show u = .none from r); exact ⟨_, by rw [Dt.py]; exact .none⟩
  | .bl b, v, u, _, h, r => by rw [rp_bl.mp h] at r; cases (show u = .bool b from r); exact ⟨_, by rw [Dt.py]; exact .bool b⟩
  | .int i, v, u, _, h, r => by rw [rp_int.mp h] at r; obtain ⟨t, rfl⟩ := r; exact ⟨_, by rw [Dt.py]; exact .int i t⟩
  | .str x, v, u, _, h, r => by rw [rp_str.mp h] at r; obtain ⟨t, rfl⟩ := r; exact ⟨_, by rw [Dt.py]; exact .str x t⟩
  | .fn a, v, u, c, h, r => by rw [Dt.py] at c; exact (nomatch c)
  | .exc _ _ _, v, u, c, h, r => by rw [Dt.py] at c; exact (nomatch c)
  | .obj _ _ _, v, u, c, h, r => by rw [Dt.py] at c; exact (nomatch c)
  | .tup ds, v, u, c, h, r => by
    obtain ⟨a, xs, rfl, hs, hl⟩ := rp_tup.mp h
    cases (show u = .ref a from r)
    obtain ⟨its, rv, ⟨o, h1, h2, n, h3⟩, _⟩ := I.tuple hs
    rw [Dt.py] at c
    obtain ⟨as, ra⟩ := readsL_of I (ds := ds) (by simpa [PyData.canLay0] using c) hl rv
    exact ⟨_, by rw [Dt.py]; exact .tuple h1 h2 h3 (by simpa using ra)⟩
  | .lst ds, v, u, c, h, r => by
    obtain ⟨a, xs, rfl, hs, hl⟩ := rp_lstE h
    cases (show u = .ref a from r)
    obtain ⟨its, rv, ⟨o, n, h1, h2, _, h3⟩, _⟩ := I.list hs
    rw [Dt.py] at c
    obtain ⟨as, ra⟩ := readsL_of I (ds := ds) (by simpa [PyData.canLay0] using c) hl rv
    exact ⟨_, by rw [Dt.py]; exact .list h1 h2 h3 (by simpa using ra)⟩
theorem readsL_of {X : Cx} {pins : List (Addr × Obj)} {σ : St} {H : Hp} {s : Shared} (I : Inv X pins σ H s) : ∀ {ds : List Dt} {vs : List V} {us : List Value}, PyData.canLayAll0 (Dt.pys ds) = true → RpL X.K H ds vs → Vals vs us → ∃ as, ReadsAll s.heap us (Dt.pys ds) as
  | [], vs, us, _, h, r => by rw [rpl_nil.mp h] at r; cases r; exact ⟨_, by rw [Dt.pys]; exact .nil⟩
  | d :: ds, vs, us, c, h, r => by
    obtain ⟨v, vr, rfl, h1, h2⟩ := rpl_cons.mp h
    rw [Dt.pys] at c
    have c' : d.py.canLay0 = true ∧ PyData.canLayAll0 (Dt.pys ds) = true := by simpa [PyData.canLayAll0] using c
    cases r with
    | cons r1 r2 =>
      obtain ⟨as, ra⟩ := reads_of I c'.1 h1 r1
      obtain ⟨bs, rb⟩ := readsL_of I c'.2 h2 r2
      exact ⟨_, by rw [Dt.pys]; exact .cons ra rb⟩
end
mutual
def Dt.eq : Dt → Dt → Bool
  | .non, .non => true
  | .bl a, .bl b => a == b
  | .bl a, .int j => (if a then 1 else 0) == j
  | .int i, .bl b => i == (if b then 1 else 0)
  | .int i, .int j => decide (i = j)
  | .str x, .str y => x == y
  | .tup xs, .tup ys => Dt.eqs xs ys
  | .lst xs, .lst ys => Dt.eqs xs ys
  | _, _ => false
def Dt.eqs : List Dt → List Dt → Bool
  | [], [] => true
  | x :: xs, y :: ys => Dt.eq x y && Dt.eqs xs ys
  | _, _ => false
end
mutual
def Dt.flat : Nat → Dt → Bool
  | _, .fn _ => false
  | _, .exc _ _ _ => false
  | _, .obj _ _ _ => false
  | _, .str x => (PyData.str x).canLay0
  | 0, .tup _ => false
  | 0, .lst _ => false
  | n + 1, .tup ds => Dt.flats n ds
  | n + 1, .lst ds => Dt.flats n ds
  | _, _ => true
def Dt.flats : Nat → List Dt → Bool
  | _, [] => true
  | n, d :: ds => Dt.flat n d && Dt.flats n ds
end
mutual
theorem flat_lay : ∀ (d : Dt) (n : Nat), d.flat n = true → d.py.canLay0 = true ∧ d.py.depth ≤ n
  | .non, n, h => by rw [Dt.py]; exact ⟨rfl, Nat.zero_le _⟩
  | .bl _, n, h => by rw [Dt.py]; exact ⟨rfl, Nat.zero_le _⟩
  | .int _, n, h => by rw [Dt.py]; exact ⟨rfl, Nat.zero_le _⟩
  | .str _, n, h => by rw [Dt.py]; exact ⟨by simpa [Dt.flat] using h, Nat.zero_le _⟩
  | .fn _, n, h => by simp [Dt.flat] at h
  | .exc _ _ _, n, h => by simp [Dt.flat] at h
  | .obj _ _ _, n, h => by simp [Dt.flat] at h
  | .tup ds, 0, h => by simp [Dt.flat] at h
  | .lst ds, 0, h => by simp [Dt.flat] at h
  | .tup ds, n + 1, h => by
    have := flats_lay ds n (by simpa [Dt.flat] using h)
    rw [Dt.py]
    exact ⟨by simpa [PyData.canLay0] using this.1, by simpa [PyData.depth] using this.2⟩
  | .lst ds, n + 1, h => by
    have := flats_lay ds n (by simpa [Dt.flat] using h)
    rw [Dt.py]
    exact ⟨by simpa [PyData.canLay0] using this.1, by simpa [PyData.depth] using this.2⟩
theorem flats_lay : ∀ (ds : List Dt) (n : Nat), Dt.flats n ds = true → PyData.canLayAll0 (Dt.pys ds) = true ∧ PyData.depthAll (Dt.pys ds) ≤ n
  | [], n, h => by rw [Dt.pys]; exact ⟨rfl, Nat.zero_le _⟩
  | d :: ds, n, h => by
    have h' : d.flat n = true ∧ Dt.flats n ds = true := by simpa [Dt.flats] using h
    have h1 := flat_lay d n h'.1
    have h2 := flats_lay ds n h'.2
    rw [Dt.pys]
    exact ⟨by simp [PyData.canLayAll0, h1.1, h2.1], by simp only [PyData.depthAll]; omega⟩
end
mutual
theorem eq_eqv : ∀ (a b : Dt), a.py.canLay0 = true → b.py.canLay0 = true → PyData.eqv a.py b.py = a.eq b
  | .fn _, b, h, _ => by rw [Dt.py] at h; exact (nomatch h)
  | .exc _ _ _, b, h, _ => by rw [Dt.py] at h; exact (nomatch h)
  | .obj _ _ _, b, h, _ => by rw [Dt.py] at h; exact (nomatch h)
  | a, .fn _, _, h => by rw [Dt.py] at h; exact (nomatch h)
  | a, .exc _ _ _, _, h => by rw [Dt.py] at h; exact (nomatch h)
  | a, .obj _ _ _, _, h => by rw [Dt.py] at h; exact (nomatch h)
  | .non, .non, _, _ => by simp [Dt.py, Dt.eq, PyData.eqv]
  | .non, .bl _, _, _ => by simp [Dt.py, Dt.eq, PyData.eqv]
  | .non, .int _, _, _ => by simp [Dt.py, Dt.eq, PyData.eqv]
  | .non, .str _, _, _ => by simp [Dt.py, Dt.eq, PyData.eqv]
  | .non, .tup _, _, _ => by simp [Dt.py, Dt.eq, PyData.eqv]
  | .non, .lst _, _, _ => by simp [Dt.py, Dt.eq, PyData.eqv]
  | .bl _, .non, _, _ => by simp [Dt.py, Dt.eq, PyData.eqv]
  | .bl _, .bl _, _, _ => by simp [Dt.py, Dt.eq, PyData.eqv]
  | .bl _, .int _, _, _ => by simp [Dt.py, Dt.eq, PyData.eqv]
  | .bl _, .str _, _, _ => by simp [Dt.py, Dt.eq, PyData.eqv]
  | .bl _, .tup _, _, _ => by simp [Dt.py, Dt.eq, PyData.eqv]
  | .bl _, .lst _, _, _ => by simp [Dt.py, Dt.eq, PyData.eqv]
  | .int _, .non, _, _ => by simp [Dt.py, Dt.eq, PyData.eqv]
  | .int _, .bl _, _, _ => by simp [Dt.py, Dt.eq, PyData.eqv]
  | .int i, .int j, _, _ => by
    simp only [Dt.py, Dt.eq, PyData.eqv]
    exact Bool.beq_eq_decide_eq i j
  | .int _, .str _, _, _ => by simp [Dt.py, Dt.eq, PyData.eqv]
  | .int _, .tup _, _, _ => by simp [Dt.py, Dt.eq, PyData.eqv]
  | .int _, .lst _, _, _ => by simp [Dt.py, Dt.eq, PyData.eqv]
  | .str _, .non, _, _ => by simp [Dt.py, Dt.eq, PyData.eqv]
  | .str _, .bl _, _, _ => by simp [Dt.py, Dt.eq, PyData.eqv]
  | .str _, .int _, _, _ => by simp [Dt.py, Dt.eq, PyData.eqv]
  | .str _, .str _, _, _ => by simp [Dt.py, Dt.eq, PyData.eqv]
  | .str _, .tup _, _, _ => by simp [Dt.py, Dt.eq, PyData.eqv]
  | .str _, .lst _, _, _ => by simp [Dt.py, Dt.eq, PyData.eqv]
  | .tup _, .non, _, _ => by simp [Dt.py, Dt.eq, PyData.eqv]
  | .tup _, .bl _, _, _ => by simp [Dt.py, Dt.eq, PyData.eqv]
  | .tup _, .int _, _, _ => by simp [Dt.py, Dt.eq, PyData.eqv]
  | .tup _, .str _, _, _ => by simp [Dt.py, Dt.eq, PyData.eqv]
  | .tup xs, .tup ys, h1, h2 => by
    rw [Dt.py] at h1 h2
    rw [Dt.py, Dt.py, Dt.eq, PyData.eqv]
    exact eqs_eqv xs ys (by simpa [PyData.canLay0] using h1) (by simpa [PyData.canLay0] using h2)
  | .tup _, .lst _, _, _ => by simp [Dt.py, Dt.eq, PyData.eqv]
  | .lst _, .non, _, _ => by simp [Dt.py, Dt.eq, PyData.eqv]
  | .lst _, .bl _, _, _ => by simp [Dt.py, Dt.eq, PyData.eqv]
  | .lst _, .int _, _, _ => by simp [Dt.py, Dt.eq, PyData.eqv]
  | .lst _, .str _, _, _ => by simp [Dt.py, Dt.eq, PyData.eqv]
  | .lst _, .tup _, _, _ => by simp [Dt.py, Dt.eq, PyData.eqv]
  | .lst xs, .lst ys, h1, h2 => by
    rw [Dt.py] at h1 h2
    rw [Dt.py, Dt.py, Dt.eq, PyData.eqv]
    exact eqs_eqv xs ys (by simpa [PyData.canLay0] using h1) (by simpa [PyData.canLay0] using h2)
theorem eqs_eqv : ∀ (xs ys : List Dt), PyData.canLayAll0 (Dt.pys xs) = true → PyData.canLayAll0 (Dt.pys ys) = true → PyData.eqvAll (Dt.pys xs) (Dt.pys ys) = Dt.eqs xs ys
  | [], [], _, _ => by simp [Dt.pys, Dt.eqs, PyData.eqvAll]
  | [], _ :: _, _, _ => by simp [Dt.pys, Dt.eqs, PyData.eqvAll]
  | _ :: _, [], _, _ => by simp [Dt.pys, Dt.eqs, PyData.eqvAll]
  | x :: xs, y :: ys, h1, h2 => by
    rw [Dt.pys] at h1 h2
    have h1' : x.py.canLay0 = true ∧ PyData.canLayAll0 (Dt.pys xs) = true := by simpa [PyData.canLayAll0] using h1
    have h2' : y.py.canLay0 = true ∧ PyData.canLayAll0 (Dt.pys ys) = true := by simpa [PyData.canLayAll0] using h2
    rw [Dt.pys, Dt.pys, Dt.eqs, PyData.eqvAll, eq_eqv x y h1'.1 h2'.1, eqs_eqv xs ys h1'.2 h2'.2]
end
def rEqD (K : PySem.W.Frag) (neg : Bool) : R2 := fun x y H Q => ∃ a b, Rp K H a x ∧ Rp K H b y ∧ a.flat 8 = true ∧ b.flat 8 = true ∧ Q (.bl (if neg then !a.eq b else a.eq b)) H
theorem op_eqD (hu : X.A.units + 64 < cLine) : OpR X (compareOp .Eq) (rEqD X.K false) := by
  intro pins s σ H x y v u Q I rx ry ⟨a, b, ra, rb, fa, fb, q⟩
  obtain ⟨ca, da⟩ := flat_lay a 8 fa
  obtain ⟨cb, db⟩ := flat_lay b 8 fb
  obtain ⟨as, r1⟩ := reads_of I ca ra rx
  obtain ⟨bs, r2⟩ := reads_of I cb rb ry
  refine rcAt_reads r1 r2 ca cb (by omega) _ _ _ _ ?_
  rw [eq_eqv a b ca cb]
  exact ⟨.bl _, H, I, rfl, q⟩
theorem op_neD (hu : X.A.units + 64 < cLine) : OpR X (compareOp .NotEq) (rEqD X.K true) := by
  intro pins s σ H x y v u Q I rx ry ⟨a, b, ra, rb, fa, fb, q⟩
  obtain ⟨ca, da⟩ := flat_lay a 8 fa
  obtain ⟨cb, db⟩ := flat_lay b 8 fb
  obtain ⟨as, r1⟩ := reads_of I ca ra rx
  obtain ⟨bs, r2⟩ := reads_of I cb rb ry
  refine compareNe_reads r1 r2 ca cb (by omega) ?_
  rw [eq_eqv a b ca cb]
  exact ⟨.bl _, H, I, rfl, q⟩
def dEq : D2 := fun a b Q => (a.flat 8 = true ∧ b.flat 8 = true) ∧ Q (.bl (a.eq b))
def dNe : D2 := fun a b Q => (a.flat 8 = true ∧ b.flat 8 = true) ∧ Q (.bl (!a.eq b))
theorem sem_eq {K : PySem.W.Frag} : Sem2 K (rEqD K false) dEq := ⟨fun hq h => ⟨h.1, hq _ h.2⟩, fun O H a b x y Q _ ra rb h => ⟨a, b, ra.mono mask_le, rb.mono mask_le, h.1.1, h.1.2, h.2 _ H (Same.refl H) (rp_bl.mpr rfl)⟩⟩
theorem sem_ne {K : PySem.W.Frag} : Sem2 K (rEqD K true) dNe := ⟨fun hq h => ⟨h.1, hq _ h.2⟩, fun O H a b x y Q _ ra rb h => ⟨a, b, ra.mono mask_le, rb.mono mask_le, h.1.1, h.1.2, h.2 _ H (Same.refl H) (rp_bl.mpr rfl)⟩⟩
theorem de_eq (hu : X.A.units + 64 < cLine) (ha : DE X a ta) (hb : DE X b tb) : DE X (.Compare a [.Eq] [b] pos) (dOp dEq ta tb) := de_cmp (op_eqD hu) sem_eq ha hb (nomark _)
theorem dt_eq (hu : X.A.units + 64 < cLine) (ha : DE X a ta) (hb : DE X b tb) : DT X (.Compare a [.Eq] [b] pos) (dTst (dOp dEq ta tb)) := dt_cmp (op_eqD hu) sem_eq ha hb (nomark _)
theorem dt_ne (hu : X.A.units + 64 < cLine) (ha : DE X a ta) (hb : DE X b tb) : DT X (.Compare a [.NotEq] [b] pos) (dTst (dOp dNe ta tb)) := dt_cmp (op_neD hu) sem_ne ha hb (nomark _)

def isB (k : Bool) : Dt → Bool
  | .bl b => b == k
  | _ => false
def isN : Dt → Bool
  | .non => true
  | _ => false
def dIs (neg : Bool) : D2 := fun a b Q => match b with
  | .bl k => Q (.bl (if neg then !isB k a else isB k a))
  | .non => Q (.bl (if neg then !isN a else isN a))
  | _ => False
def dChain (t t' : D2) (ta tb tc : DTE) : DTE := fun ρ Q => ta ρ fun a => tb ρ fun b => t a b fun z => match z with
  | .bl k => if k = true then tc ρ fun c => t' b c Q else Q (.bl false)
  | _ => False
theorem chain_mono {t t' : D2} {ta tb tc : DTE} (m : ∀ {a b Q Q'}, (∀ d, Q d → Q' d) → t a b Q → t a b Q') (m' : ∀ {a b Q Q'}, (∀ d, Q d → Q' d) → t' a b Q → t' a b Q')
    (ma : ∀ {ρ Q Q'}, (∀ d, Q d → Q' d) → ta ρ Q → ta ρ Q') (mb : ∀ {ρ Q Q'}, (∀ d, Q d → Q' d) → tb ρ Q → tb ρ Q') (mc : ∀ {ρ Q Q'}, (∀ d, Q d → Q' d) → tc ρ Q → tc ρ Q') :
    ∀ {ρ Q Q'}, (∀ d, Q d → Q' d) → dChain t t' ta tb tc ρ Q → dChain t t' ta tb tc ρ Q' := fun hq h => ma (fun _ h => mb (fun _ h => m (fun z h => by
      split at h
      · rename_i k
        cases k with
        | true => exact mc (fun _ h => m' hq h) h
        | false => exact hq _ h
      · exact h.elim) h) h) h
theorem chain_imp {K : PySem.W.Frag} {r r' : R2} {t t' : D2} (S : Sem2 K r t) (S' : Sem2 K r' t') {ta tb tc : DTE} (ma : ∀ {ρ Q Q'}, (∀ d, Q d → Q' d) → ta ρ Q → ta ρ Q') (mb : ∀ {ρ Q Q'}, (∀ d, Q d → Q' d) → tb ρ Q → tb ρ Q') (mc : ∀ {ρ Q Q'}, (∀ d, Q d → Q' d) → tc ρ Q → tc ρ Q')
    (σ : St) (H : Hp) (Q : VK) (h : lE K (dChain t t' ta tb tc) σ H Q) : tChain r r' (lE K ta) (lE K tb) (lE K tc) σ H Q := by
  obtain ⟨B, F, O, ρ, R, h⟩ := h
  refine ⟨B, F, O, ρ, R, ma (fun a h v H1 s1 r1 => ⟨B, F, O, ρ, R.same s1, mb (fun b h u H2 s2 r2 => ?_) h⟩) h⟩
  refine S.ok _ H2 a b v u _ ((R.same s1).same s2).th (r1.mono s2.mask) r2 (S.mono (fun z h w H3 s3 r3 => ?_) h)
  split at h
  · rename_i k
    refine ⟨k, rp_bl.mp r3, ?_⟩
    have s123 := (s1.trans s2).trans s3
    cases k with
    | true => exact ⟨B, F, O, ρ, R.same s123, mc (fun c h y H4 s4 r4 => S'.ok _ H4 b c u y Q ((R.same s123).same s4).th ((r2.mono s3.mask).mono s4.mask) r4 (S'.mono (fun d q w' H5 s5 r5 => q w' H5 ((s123.trans s4).trans s5) r5) h)) h⟩
    | false => exact h _ H3 s123 (rp_bl.mpr rfl)
  · exact h.elim
theorem de_chain {op op' : CmpOp} {r r' : R2} {t t' : D2} (ho : OpR X (compareOp op) r) (ho' : OpR X (compareOp op') r') (S : Sem2 X.K r t) (S' : Sem2 X.K r' t') (ha : DE X a ta) (hb : DE X b tb) (hc : DE X c tc)
    (hm : lastMarks [op, op'] [b, c] = false := by with_unfolding_all rfl) : DE X (.Compare a [op, op'] [b, c] pos) (dChain t t' ta tb tc) where
  mono := chain_mono (t := t) (t' := t') (ta := ta) (tb := tb) (tc := tc) S.mono S'.mono ha.mono hb.mono hc.mono
  pe := (pe_chain ho ho' ha.pe hb.pe hc.pe hm).imp (chain_imp (ta := ta) (tb := tb) (tc := tc) S S' ha.mono hb.mono hc.mono)
abbrev DL := List Dt → (Dt → Prop) → Prop
structure SemL (K : PySem.W.Frag) (r : List V → Hp → VK → Prop) (t : DL) : Prop where
  mono : ∀ {ds Q Q'}, (∀ d, Q d → Q' d) → t ds Q → t ds Q'
  ok : ∀ (O : List Addr) (H : Hp) (ds : List Dt) (xs : List V) (Q : VK), (∀ p ∈ O, H p ≠ none) → RpL K (mask O H) ds xs →
    t ds (fun d => ∀ v H', Same H H' → Rp K (mask O H') d v → Q v H') → r xs H Q
def dCB (t : DL) (tl : DTA) : DTE := fun ρ Q => tl ρ fun ds => t ds Q
theorem cb_imp {K : PySem.W.Frag} {r : List V → Hp → VK → Prop} {t : DL} (S : SemL K r t) {tl : DTA} (m : ∀ {ρ Q Q'}, (∀ d, Q d → Q' d) → tl ρ Q → tl ρ Q') (σ : St) (H : Hp) (Q : VK) (h : lE K (dCB t tl) σ H Q) : tCB r (lA K tl) σ H Q := by
  obtain ⟨B, F, O, ρ, R, h⟩ := h
  exact ⟨B, F, O, ρ, R, m (fun ds h vs H1 s1 r1 => S.ok _ H1 ds vs Q (R.same s1).th r1 (S.mono (fun d q v H2 s2 r2 => q v H2 (s1.trans s2) r2) h)) h⟩
theorem de_cb {id : String} {x : Str} {p : Pos} {r : List V → Hp → VK → Prop} {t : DL} (hc : CallR X (.builtin id) r) (S : SemL X.K r t) (hg : Gl X x) (hm : X.mg x = none) (hv : bootBuiltins x = some (.builtin id)) (ha : DA X (e :: es) tl) (hn : x ≠ "__name__" := by decide)
    (hdb : (x == ("__debug__" : Str)) = false := by decide) (he : starEach (e :: es) X.env = (false, eval e X.env) :: starEach es X.env := by rfl) (hpl : (backTo pos (starEach es X.env)).any (·.1) = false := by rfl) : DE X (.Call (.Name x p) (e :: es) [] pos) (dCB t tl) where
  mono := fun hq h => ha.mono (fun _ h => S.mono hq h) h
  pe := (pe_callB hc hg hm hv ha.pa hn hdb he hpl).imp (cb_imp (tl := tl) S ha.mono)
theorem de_ct {id : String} {x : Str} {p : Pos} {r : List V → Hp → VK → Prop} {t : DL} (hc : CallR X (.type id) r) (S : SemL X.K r t) (hg : Gl X x) (hm : X.mg x = none) (hv : bootBuiltins x = some (.type id)) (ha : DA X (e :: es) tl) (hn : x ≠ "__name__" := by decide)
    (hdb : (x == ("__debug__" : Str)) = false := by decide) (he : starEach (e :: es) X.env = (false, eval e X.env) :: starEach es X.env := by rfl) (hpl : (backTo pos (starEach es X.env)).any (·.1) = false := by rfl) : DE X (.Call (.Name x p) (e :: es) [] pos) (dCB t tl) where
  mono := fun hq h => ha.mono (fun _ h => S.mono hq h) h
  pe := (pe_callTy hc hg hm hv ha.pa hn hdb he hpl).imp (cb_imp (tl := tl) S ha.mono)
def dLen : DL := fun ds Q => match ds with
  | [.lst xs] => Q (.int xs.length)
  | [.tup xs] => Q (.int xs.length)
  | _ => False
def dAbs : DL := fun ds Q => match ds with
  | [.int i] => Q (.int (if i < 0 then -i else i))
  | _ => False
def dMax : DL := fun ds Q => match ds with
  | [.int i, .int j] => Q (.int (if j > i then j else i))
  | _ => False
def dMin : DL := fun ds Q => match ds with
  | [.int i, .int j] => Q (.int (if j < i then j else i))
  | _ => False
def dInt1 : DL := fun ds Q => match ds with
  | [.int i] => Q (.int i)
  | [.bl k] => Q (.int (if k then 1 else 0))
  | _ => False
theorem sem_len {K : PySem.W.Frag} : SemL K (fun xs H Q => ∃ p ys, xs = [.ref p] ∧ (SqL K H p ys ∨ SqT K H p ys) ∧ Q (.int ys.length) H) dLen where
  mono := fun hq h => by
    unfold dLen at h ⊢
    split at h
    · exact hq _ h
    · exact hq _ h
    · exact h.elim
  ok := fun O H ds xs Q _ r h => by
    unfold dLen at h
    split at h
    · obtain ⟨v, r', rfl, r2, r3⟩ := rpl_cons.mp r
      obtain rfl := rpl_nil.mp r3
      obtain ⟨a, ys, rfl, hs, hl⟩ := rp_lstE r2
      exact ⟨a, ys, rfl, .inl (mask_le.seq hs), by rw [hl.len]; exact h _ H (Same.refl H) (rp_int.mpr rfl)⟩
    · obtain ⟨v, r', rfl, r2, r3⟩ := rpl_cons.mp r
      obtain rfl := rpl_nil.mp r3
      obtain ⟨a, ys, rfl, hs, hl⟩ := rp_tup.mp r2
      exact ⟨a, ys, rfl, .inr (mask_le.seqT hs), by rw [hl.len]; exact h _ H (Same.refl H) (rp_int.mpr rfl)⟩
    · exact h.elim
theorem rpl1 {K : PySem.W.Frag} {H : Hp} {i : Int} {xs : List V} (h : RpL K H [.int i] xs) : xs = [.int i] := by
  obtain ⟨v, r, rfl, r2, r3⟩ := rpl_cons.mp h
  rw [rpl_nil.mp r3, rp_int.mp r2]
theorem rpl2 {K : PySem.W.Frag} {H : Hp} {i j : Int} {xs : List V} (h : RpL K H [.int i, .int j] xs) : xs = [.int i, .int j] := by
  obtain ⟨v, r, rfl, r2, r3⟩ := rpl_cons.mp h
  rw [rpl1 r3, rp_int.mp r2]
theorem sem_abs {K : PySem.W.Frag} : SemL K (fun xs H Q => ∃ i, xs = [.int i] ∧ Q (.int (if i < 0 then -i else i)) H) dAbs where
  mono := fun hq h => by
    unfold dAbs at h ⊢
    split at h
    · exact hq _ h
    · exact h.elim
  ok := fun O H ds xs Q _ r h => by
    unfold dAbs at h
    split at h
    · exact ⟨_, rpl1 r, h _ H (Same.refl H) (rp_int.mpr rfl)⟩
    · exact h.elim
theorem sem_max {K : PySem.W.Frag} : SemL K (fun xs H Q => ∃ i j, xs = [.int i, .int j] ∧ Q (.int (if j > i then j else i)) H) dMax where
  mono := fun hq h => by
    unfold dMax at h ⊢
    split at h
    · exact hq _ h
    · exact h.elim
  ok := fun O H ds xs Q _ r h => by
    unfold dMax at h
    split at h
    · exact ⟨_, _, rpl2 r, h _ H (Same.refl H) (rp_int.mpr rfl)⟩
    · exact h.elim
theorem sem_int1 {K : PySem.W.Frag} : SemL K (fun xs H Q => (∃ i, xs = [.int i] ∧ Q (.int i) H) ∨ ∃ k : Bool, xs = [.bl k] ∧ Q (.int (if k then 1 else 0)) H) dInt1 where
  mono := fun hq h => by
    unfold dInt1 at h ⊢
    split at h
    · exact hq _ h
    · exact hq _ h
    · exact h.elim
  ok := fun O H ds xs Q _ r h => by
    unfold dInt1 at h
    split at h
    · exact .inl ⟨_, rpl1 r, h _ H (Same.refl H) (rp_int.mpr rfl)⟩
    · obtain ⟨v, r', rfl, r2, r3⟩ := rpl_cons.mp r
      exact .inr ⟨_, by rw [rpl_nil.mp r3, rp_bl.mp r2], h _ H (Same.refl H) (rp_int.mpr rfl)⟩
    · exact h.elim
theorem de_len {p : Pos} (hm : X.mg "len" = none) (ha : DA X [a] tl) (hg : Gl X "len" := by rfl) (he : starEach [a] X.env = (false, eval a X.env) :: starEach [] X.env := by rfl) (hpl : (backTo pos (starEach [] X.env)).any (·.1) = false := by rfl) :
    DE X (.Call (.Name "len" p) [a] [] pos) (dCB dLen tl) := de_cb call_len_seq sem_len hg hm PySem.boot_len ha (he := he) (hpl := hpl)
theorem de_abs {p : Pos} (hm : X.mg "abs" = none) (ha : DA X [a] tl) (hg : Gl X "abs" := by rfl) (hv : bootBuiltins "abs" = some (.builtin "abs") := by rfl) (he : starEach [a] X.env = (false, eval a X.env) :: starEach [] X.env := by rfl) (hpl : (backTo pos (starEach [] X.env)).any (·.1) = false := by rfl) :
    DE X (.Call (.Name "abs" p) [a] [] pos) (dCB dAbs tl) := de_cb call_abs sem_abs hg hm hv ha (he := he) (hpl := hpl)
theorem de_max {p : Pos} (hm : X.mg "max" = none) (ha : DA X [a, b] tl) (hc : X.calm = true := by rfl) (hg : Gl X "max" := by rfl) (hv : bootBuiltins "max" = some (.builtin "max") := by rfl) (he : starEach [a, b] X.env = (false, eval a X.env) :: starEach [b] X.env := by rfl)
    (hpl : (backTo pos (starEach [b] X.env)).any (·.1) = false := by rfl) : DE X (.Call (.Name "max" p) [a, b] [] pos) (dCB dMax tl) := de_cb (call_max2 hc) sem_max hg hm hv ha (he := he) (hpl := hpl)
theorem de_int1 {p : Pos} (hm : X.mg "int" = none) (ha : DA X [a] tl) (hg : Gl X "int" := by rfl) (hv : bootBuiltins "int" = some (.type "int") := by rfl) (he : starEach [a] X.env = (false, eval a X.env) :: starEach [] X.env := by rfl) (hpl : (backTo pos (starEach [] X.env)).any (·.1) = false := by rfl) :
    DE X (.Call (.Name "int" p) [a] [] pos) (dCB dInt1 tl) := de_ct call_int1 sem_int1 hg hm hv ha (he := he) (hpl := hpl)

def tyOf : Dt → String
  | .non => "NoneType"
  | .bl _ => "bool"
  | .int _ => "int"
  | .str _ => "str"
  | .tup _ => "tuple"
  | .lst _ => "list"
  | .fn _ => "function"
  | .exc _ _ _ => "exception"
  | .obj _ _ _ => "instance"
def noFn : Dt → Bool
  | .fn _ => false
  | .exc _ _ _ => false
  | .obj _ _ _ => false
  | _ => true
def isT (T : String) (d : Dt) : Bool := tyOf d == T || (T == "int" && tyOf d == "bool")
def IsiOk (T : String) : Prop := ∀ (K : PySem.W.Frag) (d : Dt), noFn d = true → PySem.W.kitOne K (.type (tyOf d)) (.type T) = some (isT T d)
theorem call_isi {T : String} (hT : IsiOk T) : CallR X (.builtin "isinstance") (fun xs H Q => ∃ d x, xs = [x, .ty T] ∧ Rp X.K H d x ∧ noFn d = true ∧ Q (.bl (isT T d)) H) := by
  intro pins s σ H xs us Q I r ⟨d, x, e, rp, nf, q⟩
  subst e
  obtain ⟨u, u2, rfl, r1, r2⟩ := vals2 r
  cases (show u2 = .type T from r2)
  have hk := hT X.K d nf
  have fin : ∀ tk, EP X pins σ Q (.bool (isT T d)) { s with toks := tk } := fun tk => ⟨.bl _, H, I.tok tk, rfl, q⟩
  cases d with
  | non => rw [rp_non.mp rp] at r1; cases (show u = Value.none from r1); exact PySem.W.kia_one PySem.W.kitx_none I.kIn True.intro hk (fun z => nomatch z) fin
  | bl y => rw [rp_bl.mp rp] at r1; cases (show u = Value.bool y from r1); exact PySem.W.kia_one PySem.W.kitx_bool I.kIn True.intro hk (fun z => nomatch z) fin
  | int i => rw [rp_int.mp rp] at r1; obtain ⟨t, q⟩ := (show ∃ t, u = Value.int i t from r1); cases q; exact PySem.W.kia_one PySem.W.kitx_int I.kIn True.intro hk (fun z => nomatch z) fin
  | str y => rw [rp_str.mp rp] at r1; obtain ⟨t, q⟩ := (show ∃ t, u = Value.str y t from r1); cases q; exact PySem.W.kia_one PySem.W.kitx_str I.kIn True.intro hk (fun z => nomatch z) fin
  | fn a => cases nf
  | exc _ _ _ => cases nf
  | obj _ _ _ => cases nf
  | tup ds =>
    obtain ⟨a, ys, rfl, hs, _⟩ := rp_tup.mp rp
    cases (show u = Value.ref a from r1)
    obtain ⟨_, _, ⟨o, h1, h2, _⟩, _⟩ := I.tuple hs
    exact PySem.W.kia_one PySem.W.kitx_tuple I.kIn ⟨o, h1, h2⟩ hk (fun z => nomatch z) fin
  | lst ds =>
    obtain ⟨a, ys, rfl, hs, _⟩ := rp_lstE rp
    cases (show u = Value.ref a from r1)
    obtain ⟨_, _, ⟨o, n, h1, h2, _⟩, _⟩ := I.list hs
    exact PySem.W.kia_one PySem.W.kitx_list I.kIn ⟨o, h1, h2⟩ hk (fun z => nomatch z) fin
def dIsi (T : String) (ta : DTE) : DTE := fun ρ Q => ta ρ fun d => noFn d = true ∧ Q (.bl (isT T d))
theorem de_isi {T : String} {Ts : Str} {p p2 : Pos} (hm : X.mg "isinstance" = none) (hmT : X.mg Ts = none) (hT : IsiOk T) (ha : DE X a ta) (hg : Gl X "isinstance" := by rfl) (hgT : Gl X Ts := by rfl) (hv : bootBuiltins "isinstance" = some (.builtin "isinstance") := by rfl)
    (hvT : bootBuiltins Ts = some (.type T) := by rfl) (hn : Ts ≠ "__name__" := by decide) (hd : (Ts == ("__debug__" : Str)) = false := by decide)
    (hs1 : starEach [a, .Name Ts p2] X.env = (false, eval a X.env) :: starEach [.Name Ts p2] X.env := by rfl) (hs2 : starEach [.Name Ts p2] X.env = (false, eval (.Name Ts p2) X.env) :: starEach [] X.env := by rfl)
    (hpl : (backTo pos (starEach [.Name Ts p2] X.env)).any (·.1) = false := by rfl) : DE X (.Call (.Name "isinstance" p) [a, .Name Ts p2] [] pos) (dIsi T ta) where
  mono := fun hq h => ha.mono (fun _ h => ⟨h.1, hq _ h.2⟩) h
  pe := (pe_callB (call_isi hT) hg hm hv (pa_cons ha.pe (pa_cons (pe_bltn (v := .ty T) hgT hmT hvT rfl hn hd) pa_nil hs2) hs1) (he := hs1) (hpl := hpl)).imp fun σ H Q ⟨B, F, O, ρ, R, h⟩ =>
    ⟨B, F, O, ρ, R, ha.mono (fun d h v H1 s1 r1 => ⟨d, v, rfl, r1.mono mask_le, h.1, h.2 _ H1 s1 (rp_bl.mpr rfl)⟩) h⟩

abbrev DTO := DEnv → (Option Int → Prop) → Prop
def lO (K : PySem.W.Frag) (t : DTO) : TO := fun σ H Q => ∃ B F O ρ, Rep K B F O H σ ρ ∧ t ρ fun o => ∀ H', Same H H' → Q o H'
structure DO (X : Cx) (e : Option Expr) (t : DTO) : Prop where
  mono : ∀ {ρ Q Q'}, (∀ d, Q d → Q' d) → t ρ Q → t ρ Q'
  po : PO X e (lO X.K t)
def dNoPart : DTO := fun _ Q => Q none
def dPart (te : DTE) : DTO := fun ρ Q => te ρ fun d => match d with
  | .int i => Q (some i)
  | _ => False
theorem PO.imp {e : Option Expr} {t t' : TO} (h : PO X e t) (i : ∀ σ H Q, t' σ H Q → t σ H Q) : PO X e t' := fun pins s σ H Q I q => h pins s σ H Q I (i _ _ _ q)
theorem dp_some (h : DE X e te) : DO X (some e) (dPart te) where
  mono := fun hq z => h.mono (fun d z => by
    split at z
    · exact hq _ z
    · exact z.elim) z
  po := (po_some h.pe).imp fun σ H Q ⟨B, F, O, ρ, R, z⟩ => ⟨B, F, O, ρ, R, h.mono (fun d z v H1 s1 r1 => by
    split at z
    · exact ⟨_, rp_int.mp r1, z H1 s1⟩
    · exact z.elim) z⟩
def cutD (xs : List Dt) (lo hi : Option Int) : List Dt := (xs.drop (HT.sIx xs.length 0 lo)).take (HT.sIx xs.length xs.length hi - HT.sIx xs.length 0 lo)
theorem RpL.cut {K : PySem.W.Frag} {H : Hp} {ds : List Dt} {xs : List V} {lo hi : Option Int} (h : RpL K H ds xs) : RpL K H (cutD ds lo hi) (cutV xs lo hi) := by
  unfold cutD cutV
  rw [h.len]
  exact (h.drop _).take _
def dSlice (te : DTE) (tl th : DTO) : DTE := fun ρ Q => te ρ fun d => tl ρ fun lo => th ρ fun hi => match d with
  | .lst ds => Q (.lst (cutD ds lo hi))
  | _ => False
theorem de_slice {lo hi : Option Expr} {t1 t2 : DTO} {p2 : Pos} (he : DE X e te) (hl : DO X lo t1) (hh : DO X hi t2) : DE X (.Subscript e (.Slice lo hi none p2) pos) (dSlice te t1 t2) where
  mono := fun hq z => he.mono (fun d z => hl.mono (fun l z => hh.mono (fun h z => by
    split at z
    · exact hq _ z
    · exact z.elim) z) z) z
  pe := (pe_slice sl_list he.pe hl.po hh.po).imp fun σ H Q ⟨B, F, O, ρ, R, z⟩ => ⟨B, F, O, ρ, R, he.mono (fun d z v H1 s1 r1 => ⟨B, F, O, ρ, R.same s1, hl.mono (fun l z H2 s2 => ⟨B, F, O, ρ, (R.same s1).same s2, hh.mono (fun h z H3 s3 => by
    split at z
    · obtain ⟨a, xs, rfl, hs, hr⟩ := rp_lstE ((r1.mono s2.mask).mono s3.mask)
      refine ⟨a, xs, rfl, mask_le.seq hs, fun p hp => ?_⟩
      have R3 := ((R.same s1).same s2).same s3
      have np : p ∉ F ++ O := fun m => R3.th p m hp
      refine z (.ref p) _ (((s1.trans s2).trans s3).trans (Same.upd hp)) (rp_lstI ⟨p, _, rfl, (mask_upd np), ?_⟩)
      exact hr.cut.mono (Same.upd hp).mask
    · exact z.elim) z⟩) z⟩) z⟩
end
theorem isi_int : IsiOk "int" := fun K d h => by cases d <;> first | rfl | cases h
theorem isi_bool : IsiOk "bool" := fun K d h => by cases d <;> first | rfl | cases h
theorem isi_tuple : IsiOk "tuple" := fun K d h => by cases d <;> first | rfl | cases h
end L2

namespace L2
open PySem PySem.Spec PyProof.Rows PySem.SeqAt

theorem closure_go (env : Env) : ∀ (names : List (Str × NameKind)) (cs : List (Str × Addr)), (∀ y ∈ names, y.2 = .free → ∃ c, env.cells.lookup y.1 = some c) → (∀ n c, cs.lookup n = some c → env.cells.lookup n = some c) →
    ∃ cl, (forIn names cs fun (x : Str × NameKind) (r : List (Str × Addr)) => (if (x.2 == NameKind.free) = true then (do let c ← cellOf env x.1; pure (ForInStep.yield ((x.1, c) :: r))) else pure (ForInStep.yield r) : Sem (ForInStep (List (Str × Addr))))) = pure cl ∧
      (∀ n c, cl.lookup n = some c → env.cells.lookup n = some c) ∧ (∀ n, (cs.lookup n).isSome = true → (cl.lookup n).isSome = true) ∧ ∀ n, (n, NameKind.free) ∈ names → (cl.lookup n).isSome = true
  | [], cs, _, h2 => ⟨cs, rfl, h2, fun _ h => h, fun n h => (nomatch h)⟩
  | (x, k) :: names, cs, h1, h2 => by
    rw [List.forIn_cons]
    by_cases hk : k = .free
    · subst hk
      obtain ⟨c, hc⟩ := h1 (x, .free) List.mem_cons_self rfl
      have e : cellOf env x = pure c := by unfold cellOf; rw [hc]
      have h3 : ∀ n c', ((x, c) :: cs).lookup n = some c' → env.cells.lookup n = some c' := fun n c' q => by
        rw [List.lookup_cons] at q
        split at q
        · rename_i b; cases q; rw [eq_of_beq b]; exact hc
        · exact h2 n c' q
      obtain ⟨cl, g1, g2, g3, g4⟩ := closure_go env names ((x, c) :: cs) (fun y hy => h1 y (List.mem_cons_of_mem _ hy)) h3
      refine ⟨cl, ?_, g2, fun n q => g3 n ?_, fun n hn => ?_⟩
      · simp only [beq_self_eq_true, if_true, e, pure_bind]
        exact g1
      · rw [List.lookup_cons]; split
        · rfl
        · exact q
      · rcases List.mem_cons.mp hn with q | q
        · cases q
          exact g3 x (by rw [List.lookup_cons]; simp)
        · exact g4 n q
    · have hb : (k == NameKind.free) = false := by simpa using hk
      obtain ⟨cl, g1, g2, g3, g4⟩ := closure_go env names cs (fun y hy => h1 y (List.mem_cons_of_mem _ hy)) h2
      refine ⟨cl, ?_, g2, g3, fun n hn => ?_⟩
      · simp only [hb, Bool.false_eq_true, if_false, pure_bind]
        exact g1
      · rcases List.mem_cons.mp hn with q | q
        · cases q; exact absurd rfl hk
        · exact g4 n q
theorem closure_of {env : Env} {scope : Scope} (h : ∀ y ∈ scope.names, y.2 = .free → ∃ c, env.cells.lookup y.1 = some c) :
    ∃ cl, closureFor scope env = pure cl ∧ (∀ n c, cl.lookup n = some c → env.cells.lookup n = some c) ∧ ∀ n, (n, NameKind.free) ∈ scope.names → ∃ c, cl.lookup n = some c := by
  obtain ⟨cl, g1, g2, _, g4⟩ := closure_go env scope.names [] h (fun n c q => by simp at q)
  refine ⟨cl, ?_, g2, fun n q => Option.isSome_iff_exists.mp (g4 n q)⟩
  unfold closureFor
  simp only [bind_pure]
  exact g1

def compCx (X : Cx) (scope : Scope) (N : List Str) (cl : List (Str × Addr)) (C : Addr) (s₀ : Shared) (H₀ : Hp) (ex : List Addr) : Cx where
  prog := X.prog
  w := X.w
  K := X.K
  mg := X.mg
  base := X.base
  A := X.A
  N := N
  s₀ := s₀
  H₀ := H₀
  env := compEnvC scope cl C X.env
  outer := X.stack
  stack := X.stack
  ex := ex
  fn := fun _ => false
  calm := X.calm
  pn := []
  xe := fun _ _ => False

def PTs (X : Cx) (ifs : List Expr) (t : TT) : Prop :=
  ∀ (pins : List (Addr × Obj)) (s : Shared) (σ : St) (H : Hp) (Q : Bool → Hp → Prop), Inv X pins σ H s → t σ H Q →
    wpAny (model X.prog X.w) X.A (forIn ifs true fun c r => if r = true then do let ok ← isTrue c X.env (eval c X.env); pure (ForInStep.yield ok) else pure (ForInStep.yield r)) (TP X pins σ Q) X.xe s
theorem pts_one {X : Cx} {c : Expr} {t : TT} (h : PT X c t) : PTs X [c] t := fun pins s σ H Q I q => wpAny_tests_one (h pins s σ H Q I q)

def tComp (sl : List Nat) (wi : TI) (tt : TT) (te : TE) : TE := fun σ H Q => wi σ H fun J H1 => ∃ vs : List V, sl.map (fun j => σ[j]?) = vs.map (fun v => some (some v)) ∧ ∀ D, H1 D = none →
  ∃ W : Nat → Nat → List V → Hp → Prop, (∃ m, W 0 m [] (upd H1 D (.lst []))) ∧ ∀ i m acc H, W i m acc H →
    (J.stop i H ∧ Q (.ref D) H) ∨
    (J.go i H ∧ ∀ x H', J.yld i H x H' → tt (some x :: vs.map some) H' fun b H2 =>
      if b = true then te (some x :: vs.map some) H2 fun y H3 => H3 D = some (.lst acc) ∧ acc.length < sizeLine ∧ ∃ m', m' < m ∧ W (i + 1) m' (acc ++ [y]) (upd H3 D (.lst (acc ++ [y])))
      else ∃ m', m' < m ∧ W (i + 1) m' acc H2)

theorem lookup_relabel_free {env : Env} : ∀ {names : List (Str × NameKind)} {x : Str}, names.lookup x = some .free → env.scope.kind = .function → env.kindOf x = some .cell →
    (names.map fun (n, k) => if (k == NameKind.free && env.scope.kind == .function && env.kindOf n == some .cell) then (n, NameKind.cell) else (n, k)).lookup x = some .cell
  | [], _, h, _, _ => by simp at h
  | (n, k) :: r, x, h, hk, he => by
    have ih := @lookup_relabel_free env r x
    show List.lookup x ((if (k == NameKind.free && env.scope.kind == .function && env.kindOf n == some .cell) = true then (n, NameKind.cell) else (n, k)) :: _) = _
    cases hx : x == n with
    | true =>
      simp only [List.lookup_cons, hx] at h
      cases h
      have e := eq_of_beq hx
      subst e
      simp [List.lookup_cons, hk, he]
    | false =>
      simp only [List.lookup_cons, hx] at h
      by_cases hc : (k == NameKind.free && env.scope.kind == .function && env.kindOf n == some .cell) = true
      · rw [if_pos hc]; simp only [List.lookup_cons, hx]; exact ih h hk he
      · rw [if_neg hc]; simp only [List.lookup_cons, hx]; exact ih h hk he
theorem relabel_back {env : Env} : ∀ {names : List (Str × NameKind)} {x : Str}, (∀ y ∈ names, y.2 ≠ .cell) →
    ((names.map fun (n, k) => if (k == NameKind.free && env.scope.kind == .function && env.kindOf n == some .cell) then (n, NameKind.cell) else (n, k)).lookup x = some .cell ∨
     (names.map fun (n, k) => if (k == NameKind.free && env.scope.kind == .function && env.kindOf n == some .cell) then (n, NameKind.cell) else (n, k)).lookup x = some .free) → (x, NameKind.free) ∈ names
  | [], _, _, h => by simp at h
  | (n, k) :: r, x, hn, h => by
    have ih := @relabel_back env r x fun y hy => hn y (List.mem_cons_of_mem _ hy)
    have nk : k ≠ .cell := hn (n, k) List.mem_cons_self
    rw [List.map_cons] at h
    by_cases hc : (k == NameKind.free && env.scope.kind == .function && env.kindOf n == some .cell) = true
    · simp only [hc, if_true, List.lookup_cons] at h
      have kf : k = .free := by simp at hc; exact hc.1.1
      subst kf
      cases hx : x == n with
      | true => rw [eq_of_beq hx]; exact List.mem_cons_self
      | false => simp only [hx] at h; exact List.mem_cons_of_mem _ (ih h)
    · have hc' : (k == NameKind.free && env.scope.kind == .function && env.kindOf n == some .cell) = false := by simpa using hc
      simp only [hc', Bool.false_eq_true, if_false, List.lookup_cons] at h
      cases hx : x == n with
      | true =>
        simp only [hx] at h
        have kf : k = .free := by
          rcases h with h | h
          · exact absurd (Option.some.inj h) nk
          · exact Option.some.inj h
        subst kf
        rw [eq_of_beq hx]; exact List.mem_cons_self
      | false => simp only [hx] at h; exact List.mem_cons_of_mem _ (ih h)

section
variable {X : Cx} {elt iter : Expr} {x : Str} {px : Pos} {ifs : List Expr} {scope : Scope} {pos : Pos} {N : List Str} {sl : List Nat} {wi : TI} {tt : TT} {te : TE}
structure CompSide (X : Cx) (scope : Scope) (x : Str) (N : List Str) (sl : List Nat) : Prop where
  hx : scope.names.lookup x = some .local
  kind : scope.kind = .function
  cell : ∀ y ∈ scope.names, y.2 ≠ .cell
  names : ∀ y ∈ scope.names, y.2 = .local → scope.names.lookup y.1 = some .local
  free : ∀ y ∈ scope.names, y.2 = .free → X.env.kindOf y.1 = some .cell
  nd : (x :: N).Nodup
  sl : N.map some = sl.map (fun j => X.N[j]?)
  frN : ∀ n ∈ N, scope.names.lookup n = some .free

theorem comp_inv (S : CompSide X scope x N sl) {pins : List (Addr × Obj)} {σ : St} {H : Hp} {s : Shared} {h₁ : Heap} {tk : Nat} {fp : List Addr} {cl : List (Str × Addr)} {vs : List V} {o : Obj} (I : Inv X pins σ H s)
    (hfp : ∀ b ∈ fp, FpOk X pins H b) (hob : ∀ b ∈ fp, ∃ o, s.heap.get? b = some o) (hns : h₁.Ns s.heap.objs.size (fun _ => none)) (hsb : Heap.SameBut s.heap.objs.size (s.heap.push o) h₁)
    (hcl : ∀ n c, cl.lookup n = some c → X.env.cells.lookup n = some c) (hcl2 : ∀ n, (n, NameKind.free) ∈ scope.names → ∃ c, cl.lookup n = some c)
    (hvs : sl.map (fun j => σ[j]?) = vs.map (fun v => some (some v))) :
    Inv (compCx X scope (x :: N) cl s.heap.objs.size s H fp) [] (none :: vs.map some) H { s with heap := h₁, toks := tk } := by
  have hL := I.lt
  have keep : ∀ b o, s.heap.get? b = some o → h₁.get? b = some o := fun b o e => (hsb.2 b (Nat.ne_of_lt (Heap.lt_size e))).trans (Heap.get?_push_of_some _ e)
  have kf : X.env.scope.kind = .function := I.ok.kind
  refine ⟨⟨I.ok.mod, ?_, I.ok.glob, I.ok.blt, Nat.le_refl _, fun y z c h1 h2 => I.ok.inj y z c (hcl y c h1) (hcl z c h2), fun y hy => ?_, fun y c h => (by cases h), I.ok.hd, I.ok.frames, .inl rfl, fun b hb => ⟨?_, fun y c e => ?_⟩, fun b o e => I.bs b o e,
    Nat.le_trans I.ok.bsz I.sz, fun b o e hb => ?_, fun b hb hz => ?_, I.stack, I.stkFree⟩, rfl, I.bare, Un.kept keep, ⟨_, hns, fun i y v e1 e2 e3 => ?_⟩, fun y c e => ?_, I.hok.fresh (Nat.le_refl _), fun y c e => I.freeC y c (hcl y c e),
    fun p hp => absurd (show p ∈ ([] : List (Addr × Obj)) from hp) (by simp), I.hok.kept keep, ?_⟩
  · exact S.kind
  · exact hcl2 y (relabel_back (env := X.env) (fun z hz => S.cell z hz) hy)
  · obtain ⟨o', e⟩ := hob b hb
    exact Nat.ne_of_lt (Heap.lt_size e)
  · exact (hfp b hb).2.2.2.2.1 y c (hcl y c e)
  · rcases (hfp b hb).2.2.2.1 with z | z
    · exact I.ok.noex b o e z
    · exact absurd (Nat.lt_of_lt_of_le (Heap.lt_size e) (Nat.le_trans I.ok.bsz z)) (Nat.lt_irrefl _)
  · rcases List.mem_cons.mp (I.stkSub b hz) with q | q
    · exact (hfp b hb).2.1 q
    · exact (hfp b hb).2.2.1 q
  · cases i with
    | zero => simp at e2
    | succ j =>
      have e1' : N[j]? = some y := by simpa [compCx] using e1
      have e2' : vs[j]? = some v := by
        rw [List.getElem?_cons_succ, List.getElem?_map] at e2
        cases q : vs[j]? with
        | none => rw [q] at e2; cases e2
        | some v' => rw [q] at e2; cases e2; rfl
      have q1 := congrArg (fun l => l[j]?) S.sl
      have q2 := congrArg (fun l => l[j]?) hvs
      simp only [List.getElem?_map, e1', e2', Option.map_some] at q1 q2
      cases hk : sl[j]? with
      | none => rw [hk] at q1; cases q1
      | some k =>
        rw [hk] at q1 q2
        have n1 : X.N[k]? = some y := (Option.some.inj q1).symm
        have n2 : σ[k]? = some (some v) := Option.some.inj q2
        have hfr := S.frN y (List.mem_of_getElem? e1')
        have hm := PySem.mem_of_lookup hfr
        have hc := S.free _ hm rfl
        obtain ⟨m, hn, hl⟩ := I.loc
        obtain ⟨u, r, lk⟩ := hl k y v n1 n2 (.inr (.inl hc))
        refine ⟨u, r, .inr ⟨.inl (lookup_relabel_free hfr kf hc), ?_⟩⟩
        rcases lk with ⟨kl, _⟩ | ⟨_, c, ec, ⟨o', ho, hd⟩⟩
        · rw [hc] at kl; cases kl
        · obtain ⟨c', ec'⟩ := hcl2 y hm
          have := hcl y c' ec'
          rw [ec] at this; cases this
          exact ⟨c, ec', o', keep _ _ ho, hd⟩
  · obtain ⟨v, o', ho, hd⟩ := I.cell y c (hcl y c e)
    exact ⟨v, o', keep _ _ ho, hd⟩
  · have l1 := congrArg List.length S.sl
    have l2 := congrArg List.length hvs
    simp only [List.length_map] at l1 l2
    simp [compCx]; omega

theorem pe_comp (S : CompSide X scope x N sl) (hc : X.calm = true) (hi : PI X (.Name x px) iter wi) (ht : ∀ cl C s₀ H₀ ex, PTs (compCx X scope (x :: N) cl C s₀ H₀ ex) ifs tt) (he : ∀ cl C s₀ H₀ ex, PE (compCx X scope (x :: N) cl C s₀ H₀ ex) elt te)
    (hs : ∀ x, foldedSetIterable iter X.env x = pure x := by intro _; rfl) : PE X (.ListComp elt [⟨.Name x px, iter, ifs, 0⟩] scope pos) (tComp sl wi tt te) := by
  intro pins s σ H Q I h
  obtain ⟨cl, hclos, hcl, hcl2⟩ := closure_of (env := X.env) (scope := scope) fun y hy hf => I.ok.has y.1 (.inl (S.free y hy hf))
  rw [eval_ListComp]
  refine wpAny_comprehension_free (use := none) rfl hs hclos S.kind S.names (thn (hi pins s σ H _ I h) fun v s1 h1 => thn h1 fun itv s2 h2 => ?_)
  obtain ⟨it, fp, tn, J, H2, e, I2, T, st2, f2, vs, hvs, hW⟩ := h2
  subst e
  refine wpAny_newObj_type (wpAny_newFunctionEnv S.cell (by intro y hy; simp at hy) (fun h₁ hns₁ hsb₁ => ?_) S.kind)
  have hD : H2 s2.heap.objs.size = none := I2.fresh
  have I3 : Inv X pins σ (upd H2 s2.heap.objs.size (.lst [])) { s2 with heap := s2.heap.push { cls := .type "list", data := .seq ([] : List Value).toArray }, toks := s2.toks } := I2.lnew (its := []) (ys := []) .nil (Nat.zero_le _)
  have hbD : ∀ b ∈ fp, b ≠ s2.heap.objs.size := fun b hb z => by
    obtain ⟨o', e', _⟩ := T.obj _ _ st2 b hb
    exact absurd (Heap.lt_size e') (by rw [z]; exact Nat.lt_irrefl _)
  have f3 : ∀ b ∈ fp, FpOk X pins (upd H2 s2.heap.objs.size (.lst [])) b := fun b hb => ⟨by rw [upd_ne (hbD b hb)]; exact (f2 b hb).1, (f2 b hb).2⟩
  have ob3 : ∀ b ∈ fp, ∃ o, (s2.heap.push { cls := .type "list", data := .seq ([] : List Value).toArray }).get? b = some o := fun b hb => by
    obtain ⟨o', e', _⟩ := T.obj _ _ st2 b hb
    exact ⟨o', Heap.get?_push_of_some _ e'⟩
  have IC := comp_inv (tk := s2.toks + ([] : List (Str × Value)).length) S I3 f3 ob3 hns₁ hsb₁ hcl hcl2 hvs
  dsimp only at hsb₁ IC ⊢
  generalize hCC : (s2.heap.push { cls := .type "list", data := .seq ([] : List Value).toArray }).objs.size = C at hns₁ hsb₁ IC ⊢
  have old : ∀ b o, s2.heap.get? b = some o → h₁.get? b = some o := fun b o e => by
    have e1 : (s2.heap.push { cls := .type "list", data := .seq ([] : List Value).toArray }).get? b = some o := Heap.get?_push_of_some _ e
    exact (hsb₁.2 b (by rw [← hCC]; exact Nat.ne_of_lt (Heap.lt_size e1))).trans (Heap.get?_push_of_some _ e1)
  have st₁ : tn 0 h₁ := T.keep _ _ _ st2 fun b hb o e => old b o e
  obtain ⟨W, ⟨m0, w0⟩, turn⟩ := hW s2.heap.objs.size hD
  have fpC : ∀ {H' : Hp} {pl : List (Addr × Obj)}, (∀ b ∈ fp, H' b = none) → (∀ p ∈ pl, p.1 ∉ fp) → ∀ b ∈ fp, FpOk (compCx X scope (x :: N) cl C { s2 with heap := s2.heap.push { cls := .type "list", data := .seq ([] : List Value).toArray }, toks := s2.toks } (upd H2 s2.heap.objs.size (.lst [])) fp) pl H' b := fun {H' pl} hn hp b hb => by
    refine ⟨hn b hb, (IC.ok.exf b hb).1, IC.ok.exfs b hb, .inl hb, (IC.ok.exf b hb).2, fun p hq z => ?_⟩
    have hq' : p ∈ pl := by simpa [compCx] using hq
    exact hp p hq' (by rw [z]; exact hb)
  have done : ∀ {σ' : St} {H' : Hp} {s' : Shared}, Inv (compCx X scope (x :: N) cl C { s2 with heap := s2.heap.push { cls := .type "list", data := .seq ([] : List Value).toArray }, toks := s2.toks } (upd H2 s2.heap.objs.size (.lst [])) fp) [] σ' H' s' → Q (.ref s2.heap.objs.size) H' →
      ∃ m, s'.heap.Ns C m ∧ ∀ h', Heap.SameBut C s'.heap h' → EP X pins σ Q (.ref s2.heap.objs.size) { s' with heap := h' } := fun {σ' H' s'} J q => by
    obtain ⟨m, hn, _⟩ := id J.loc
    refine ⟨m, hn, fun h' hs' => ⟨.ref s2.heap.objs.size, H', ?_, rfl, q⟩⟩
    have u : Un (frs X.stack) fp H2 H' s2.heap s'.heap := (Un.laid (fun b u e => Heap.get?_push_of_some _ e) (Nat.le_refl _) hD).trans J.base
    have nC : ∀ b o, s2.heap.get? b = some o → b ≠ C := fun b o e => by
      have e1 : (s2.heap.push { cls := .type "list", data := .seq ([] : List Value).toArray }).get? b = some o := Heap.get?_push_of_some _ e
      rw [← hCC]; exact Nat.ne_of_lt (Heap.lt_size e1)
    have u' : Un (frs X.stack) fp H2 H' s2.heap h' :=
      ⟨fun b o e n hb hx => (hs'.2 b (nC b o e)).trans (u.keep b o e n hb hx), fun b o e n hb hx => let ⟨sl, q⟩ := u.slot b o e n hb hx; ⟨sl, (hs'.2 b (nC b o e)).trans q⟩, u.free, fun b o e hx => let ⟨o', q⟩ := u.there b o e hx; ⟨o', (hs'.2 b (nC b o e)).trans q⟩, u.tups, u.frzs, u.tbls⟩
    have hok : HOk X.prog X.w H' h' := fun b ob e => (J.hok b ob e).stay (fun c w' hc q => (hs'.2 c (by
      rintro rfl
      have hf : H' c = none := J.free
      rcases hc with rfl | hc
      · rw [hf] at e; cases e
      · rw [hf] at hc; cases hc)).trans q) (fun _ q => q) fun _ _ q => q
    have hos : s'.os = s2.os := J.os
    exact I2.call' (s' := { s' with heap := h' }) (ch := fp) hos u' hok J.bare fun b hb => ⟨(f2 b hb).2.2.2.1, (f2 b hb).2.1, (f2 b hb).2.2.2.2.1, (f2 b hb).2.2.2.2.2⟩
  have loop : codeAny (model X.prog X.w) X.A (.compLoop (.ListComp elt [⟨.Name x px, iter, ifs, 0⟩] scope pos) 0 (.ref it) (.ref s2.heap.objs.size) (compEnvC scope cl C X.env)) (compPost (model X.prog X.w) X.A X.xe none (EP X pins σ Q) (.ref s2.heap.objs.size) C)
      { s2 with heap := h₁, toks := s2.toks + ([] : List (Str × Value)).length } := by
    refine codeAny_compLoop_tests (fun n s' => ∃ i acc σ' H', Inv (compCx X scope (x :: N) cl C { s2 with heap := s2.heap.push { cls := .type "list", data := .seq ([] : List Value).toArray }, toks := s2.toks } (upd H2 s2.heap.objs.size (.lst [])) fp) [] σ' H' s' ∧ (∃ y, σ' = y :: vs.map some) ∧
      tn i s'.heap ∧ (∀ b ∈ fp, H' b = none) ∧ W i n acc H') ?_ m0 ⟨0, [], _, _, IC, ⟨none, rfl⟩, st₁, fun b hb => (f3 b hb).1, w0⟩
    rintro n s3 ⟨i, acc, σ3, H3, I4, ⟨y, rfl⟩, st3, fr3, w3⟩
    rcases turn i n acc H3 w3 with ⟨stop, qn⟩ | ⟨go, step⟩
    · refine wpAny_mono (T.done (compCx X scope (x :: N) cl C { s2 with heap := s2.heap.push { cls := .type "list", data := .seq ([] : List Value).toArray }, toks := s2.toks } (upd H2 s2.heap.objs.size (.lst [])) fp) rfl rfl rfl hc i [] s3 _ H3 (fun _ _ => False) I4 (fpC fr3 (by simp)) st3 stop) (fun r s4 ⟨hr, I5⟩ => ?_) fun _ _ z => False.elim z
      subst hr
      exact done I5 qn
    · refine wpAny_mono (T.item (compCx X scope (x :: N) cl C { s2 with heap := s2.heap.push { cls := .type "list", data := .seq ([] : List Value).toArray }, toks := s2.toks } (upd H2 s2.heap.objs.size (.lst [])) fp) rfl rfl rfl hc i [] s3 _ H3 (fun _ _ => False) I4 (fpC fr3 (by simp)) st3 go) (fun r s4 ⟨u, hr, h4⟩ => ?_) fun _ _ z => False.elim z
      subst hr
      have e0 : ∀ (k : Unit → Sem Unit), (letOwnedTupleGo (.Name x px) (.ref it) u >>= k) = k () := fun k => rfl
      have hg : PG (compCx X scope (x :: N) cl C { s2 with heap := s2.heap.push { cls := .type "list", data := .seq ([] : List Value).toArray }, toks := s2.toks } (upd H2 s2.heap.objs.size (.lst [])) fp) (.Name x px) (gName 0) := pg_name S.nd rfl (.inl (lookup_relabel_local S.hx)) (.inr (lookup_relabel_local S.hx))
      show wpAny (model X.prog X.w) X.A (assign (.Name x px) (compEnvC scope cl C X.env) u) _ _ s4
      rw [← e0 fun _ => assign (.Name x px) (compEnvC scope cl C X.env) u]
      refine wpAny_bind (wpAny_mono h4 (fun _ s5 ⟨z, H5, I5, r5, y5, st5, fr5⟩ => ?_) fun _ _ z => False.elim z)
      have I5' := I5.pinned (fpC fr5 (by simp)) (T.obj _ _ st5)
      have W5 := hg _ s5 _ H5 z u (fun σ' H' => σ' = some z :: vs.map some ∧ H' = H5) I5' r5 ⟨rfl, rfl⟩
      refine wpAny_mono W5 (fun _ s6 ⟨σ6, H6, I6, e6, e7⟩ => ?_) fun _ _ z => False.elim z
      subst e6 e7
      refine wpAny_mono (ht _ _ _ _ _ _ s6 _ H6 _ I6 (step z H6 y5)) (fun b s7 ⟨H7, I7, q7⟩ => ?_) fun _ _ z => False.elim z
      have again : ∀ {H8 : Hp} {s8 : Shared} {acc' : List V}, Inv (compCx X scope (x :: N) cl C { s2 with heap := s2.heap.push { cls := .type "list", data := .seq ([] : List Value).toArray }, toks := s2.toks } (upd H2 s2.heap.objs.size (.lst [])) fp) ([] ++ pinsAt fp s5.heap) (some z :: vs.map some) H8 s8 → (∃ m', m' < n ∧ W (i + 1) m' acc' H8) → ∃ m, m < n ∧ ∃ i acc σ' H', Inv (compCx X scope (x :: N) cl C { s2 with heap := s2.heap.push { cls := .type "list", data := .seq ([] : List Value).toArray }, toks := s2.toks } (upd H2 s2.heap.objs.size (.lst [])) fp) [] σ' H' s8 ∧ (∃ y, σ' = y :: vs.map some) ∧ tn i s8.heap ∧ (∀ b ∈ fp, H' b = none) ∧ W i m acc H' := fun {H8 s8 acc'} I8 ⟨m', hm, w8⟩ => by
        refine ⟨m', hm, i + 1, acc', _, H8, I8.unpinned, ⟨_, rfl⟩, T.keep _ _ _ st5 fun b hb o e => (I8.pin (b, o) (List.mem_append_right _ (List.mem_append_right _ (mem_pinsAt hb e)))).1, fun b hb => ?_, w8⟩
        obtain ⟨o, e, d⟩ := T.obj _ _ st5 b hb
        exact (I8.pin (b, o) (List.mem_append_right _ (List.mem_append_right _ (mem_pinsAt hb e)))).2.1
      cases b with
      | false => exact again I7 q7
      | true =>
        rw [if_pos rfl]
        refine wpAny_mono (he _ _ _ _ _ _ s7 _ H7 _ I7 q7) (fun v8 s8 ⟨x8, H8, I8, r8, hD8, hz8, q8⟩ => ?_) fun _ _ z => False.elim z
        refine wpAny_mono (mt_append (X := (compCx X scope (x :: N) cl C { s2 with heap := s2.heap.push { cls := .type "list", data := .seq ([] : List Value).toArray }, toks := s2.toks } (upd H2 s2.heap.objs.size (.lst [])) fp)) _ s8 _ H8 (.ref s2.heap.objs.size) [x8] (.ref s2.heap.objs.size) [v8] (fun _ H9 => H9 = upd H8 s2.heap.objs.size (.lst (acc ++ [x8]))) I8 rfl (.cons r8 .nil) ⟨_, acc, x8, rfl, rfl, hD8, hz8, rfl⟩) (fun _ s9 ⟨_, H9, I9, _, e9⟩ => ?_) fun _ _ z => False.elim z
        subst e9
        exact again I9 q8
  exact codeAny_compStart_list loop (T.self _ 0 _ _ _ st₁ loop)

def inner (sl : List Nat) (ρ : DEnv) (d : Dt) : DEnv := some (.is d) :: sl.map fun j => (ρ[j]?).join
structure DTs (X : Cx) (ifs : List Expr) (t : DTT) : Prop where
  mono : ∀ {ρ Q Q'}, (∀ d, Q d → Q' d) → t ρ Q → t ρ Q'
  pts : PTs X ifs (lT X.K t)
def dTrue : DTT := fun _ Q => Q true
theorem dts_one {c : Expr} {t : DTT} (h : DT X c t) : DTs X [c] t := ⟨h.mono, pts_one h.pt⟩
def caught (sl : List Nat) (ρ : DEnv) : Prop := ∀ j ∈ sl, ∃ d, ρ[j]? = some (some (.is d))
def dComp (sl : List Nat) (ti : DTI) (tt : DTT) (te : DTE) : DTE := fun ρ Q => ti ρ fun items => items.length ≤ sizeLine ∧ caught sl ρ ∧
  ∃ W : Nat → List Dt → Prop, W 0 [] ∧ (∀ (k : Nat) d acc, items[k]? = some d → W k acc → tt (inner sl ρ d) fun b => if b = true then te (inner sl ρ d) fun e => W (k + 1) (acc ++ [e]) else W (k + 1) acc) ∧
    ∀ acc, acc.length ≤ items.length → W items.length acc → Q (.lst acc)
theorem caught_vals {K : PySem.W.Frag} {B : Hp} {F O : List Addr} {H : Hp} {σ : St} {ρ : DEnv} (R : Rep K B F O H σ ρ) : ∀ {sl : List Nat}, caught sl ρ → ∃ vs ds, sl.map (fun j => σ[j]?) = vs.map (fun v => some (some v)) ∧ sl.map (fun j => (ρ[j]?).join) = ds.map (fun d => some (En.is d)) ∧ RpL K (mask (F ++ O) H) ds vs
  | [], _ => ⟨[], [], rfl, rfl, RpL.nil⟩
  | j :: sl, h => by
    obtain ⟨d, e⟩ := h j List.mem_cons_self
    obtain ⟨v, e1, e2⟩ := R.is j d e
    obtain ⟨vs, ds, h1, h2, h3⟩ := caught_vals R (sl := sl) fun k hk => h k (List.mem_cons_of_mem _ hk)
    exact ⟨v :: vs, d :: ds, by simp [e1, h1], by simp [e, h2], RpL.cons e2 h3⟩
theorem rep_inner {K : PySem.W.Frag} {F : List Addr} {H : Hp} {d : Dt} {v : V} {ds : List Dt} {vs : List V} (th : ∀ a ∈ F, H a ≠ none) (r : Rp K (mask F H) d v) (rs : RpL K (mask F H) ds vs) :
    Rep K (fun _ => none) F [] H (some v :: vs.map some) (some (.is d) :: ds.map fun d => some (En.is d)) := by
  have e : mask (F ++ []) H = mask F H := by rw [List.append_nil]
  have noown : ∀ (i : Nat) es, (some (En.is d) :: ds.map fun d => some (En.is d))[i]? = some (some (.own es)) → False := fun i es q => by
    cases i with
    | zero => cases q
    | succ j =>
      rw [List.getElem?_cons_succ, List.getElem?_map] at q
      cases z : ds[j]? with
      | none => rw [z] at q; cases q
      | some y => rw [z] at q; cases q
  refine ⟨by simp [rs.len], fun a o q => (nomatch q), fun a h => (nomatch h), fun a h => th a (by simpa using h), fun i y q => ?_, fun i es q => (noown i es q).elim, fun i j es es' a h1 => (noown i es h1).elim⟩
  rw [e]
  cases i with
  | zero => cases q; exact ⟨v, rfl, r⟩
  | succ j =>
    rw [List.getElem?_cons_succ, List.getElem?_map] at q
    cases z : ds[j]? with
    | none => rw [z] at q; cases q
    | some y' =>
      rw [z] at q; cases q
      obtain ⟨u, h1, h2⟩ := rs.get z
      exact ⟨u, by rw [List.getElem?_cons_succ, List.getElem?_map, h1]; rfl, h2⟩
theorem comp_imp {K : PySem.W.Frag} {sl : List Nat} {ti : DTI} {dt : DTT} {de : DTE} (mi : ∀ {ρ Q Q'}, (∀ d, Q d → Q' d) → ti ρ Q → ti ρ Q') (mt : ∀ {ρ Q Q'}, (∀ d, Q d → Q' d) → dt ρ Q → dt ρ Q') (me : ∀ {ρ Q Q'}, (∀ d, Q d → Q' d) → de ρ Q → de ρ Q')
    (σ : St) (H : Hp) (Q : VK) (h : lE K (dComp sl ti dt de) σ H Q) : tComp sl (lI K ti) (lT K dt) (lE K de) σ H Q := by
  obtain ⟨B, F, O, ρ, R, h⟩ := h
  refine ⟨B, F, O, ρ, R, mi (fun items ⟨h1, h2, W, w0, st, fin⟩ J H1 s1 it => ?_) h⟩
  have R1 := R.same s1
  obtain ⟨vs, ds, ev, ed, rs⟩ := caught_vals R1 h2
  refine ⟨vs, ev, fun D hD => ?_⟩
  have nD : D ∉ F ++ O := fun z => R1.th D z hD
  have sM : Same (mask (F ++ O) H1) (mask (F ++ O) (upd H1 D (.lst []))) := (Same.upd hD).mask
  refine ⟨fun i m acc H2 => m + i = items.length ∧ H2 D = some (.lst acc) ∧ acc.length ≤ i ∧ Same H1 H2 ∧ ∃ as, RpL K (mask (D :: (F ++ O)) H2) as acc ∧ W i as, ⟨items.length, by omega, upd_same, Nat.le_refl _, Same.upd hD, [], RpL.nil, w0⟩, ?_⟩
  rintro i m acc H2 ⟨hm, e2, hl, s2, as, ra, w⟩
  have sb : Same (mask (F ++ O) H1) H2 := fun a o e => s2 a o (mask_some e).2
  have sD : Same (mask (F ++ O) H1) (mask (D :: (F ++ O)) H2) := fun a o e => by
    obtain ⟨q, e⟩ := mask_some e
    rw [mask_out fun z => by
      rcases List.mem_cons.mp z with z | z
      · rw [z, hD] at e; cases e
      · exact q z]
    exact s2 a o e
  obtain ⟨go, stop⟩ := it H2 sb
  by_cases hlt : i < items.length
  · refine .inr ⟨(go i items[i] (by simp [hlt])).1, fun z H3 y => ?_⟩
    obtain ⟨e, r⟩ := (go i items[i] (by simp [hlt])).2 z H3 y
    subst e
    have th : ∀ a ∈ D :: (F ++ O), H3 a ≠ none := fun a ha q => by
      rcases List.mem_cons.mp ha with z | z
      · rw [z, e2] at q; cases q
      · have := R1.th a z
        cases q' : H1 a with
        | none => exact this q'
        | some o => rw [s2 a o q'] at q; cases q
    have R3 := rep_inner th (r.mono sD) (rs.mono sD)
    have ei : some (En.is items[i]) :: ds.map (fun d => some (En.is d)) = inner sl ρ items[i] := by unfold inner; rw [ed]
    rw [ei] at R3
    refine ⟨_, _, _, _, R3, mt (fun b q H4 s4 => ?_) (st i _ as (by simp [hlt]) w)⟩
    cases b with
    | false =>
      refine ⟨m - 1, by omega, by omega, s4 _ _ e2, by omega, s2.trans s4, as, ra.mono s4.mask, q⟩
    | true =>
      refine ⟨_, _, _, _, R3.same s4, me (fun e q v5 H5 s5 r5 => ?_) q⟩
      have e5 : H5 D = some (.lst acc) := s5 _ _ (s4 _ _ e2)
      have hz : acc.length < sizeLine := by omega
      have s6 : Same (mask (D :: (F ++ O)) H5) (mask (D :: (F ++ O)) (upd H5 D (.lst (acc ++ [v5])))) := fun a o q => by
        obtain ⟨n, q⟩ := mask_some q
        rw [mask_out n, upd_ne fun z => n (by rw [z]; exact List.mem_cons_self)]; exact q
      have em : mask (D :: (F ++ O) ++ []) H5 = mask (D :: (F ++ O)) H5 := by rw [List.append_nil]
      rw [em] at r5
      refine ⟨e5, hz, m - 1, by omega, by omega, upd_same, by simp; omega, fun a o q => ?_, as ++ [e], (((ra.mono s4.mask).mono s5.mask).append (RpL.cons r5 RpL.nil)).mono s6, q⟩
      rw [upd_ne (ne_of_none q hD)]
      exact s5 _ _ (s4 _ _ (s2 a o q))
  · have e : i = items.length := by omega
    subst e
    refine .inl ⟨stop, fin as (by rw [← ra.len]; exact hl) w (.ref D) H2 (s1.trans s2) (rp_lstI ⟨D, acc, rfl, (by rw [mask_out nD]; exact e2), ra.mono (mask_sub fun a h => List.mem_cons_of_mem _ h)⟩)⟩
theorem de_compG {ti : DTI} {dt : DTT} {de : DTE} (S : CompSide X scope x N sl) (hc : X.calm = true) (hi : DI X (.Name x px) iter ti) (ht : ∀ cl C s₀ H₀ ex, DTs (compCx X scope (x :: N) cl C s₀ H₀ ex) ifs dt) (he : ∀ cl C s₀ H₀ ex, DE (compCx X scope (x :: N) cl C s₀ H₀ ex) elt de)
    (hs : ∀ x, foldedSetIterable iter X.env x = pure x := by intro _; rfl) : DE X (.ListComp elt [⟨.Name x px, iter, ifs, 0⟩] scope pos) (dComp sl ti dt de) := by
  have mt : ∀ {ρ Q Q'}, (∀ d, Q d → Q' d) → dt ρ Q → dt ρ Q' := (ht [] 0 X.s₀ X.H₀ []).mono
  have me : ∀ {ρ Q Q'}, (∀ d, Q d → Q' d) → de ρ Q → de ρ Q' := (he [] 0 X.s₀ X.H₀ []).mono
  refine ⟨fun hq h => hi.mono (fun items ⟨h1, h2, W, w0, st, fin⟩ => ⟨h1, h2, W, w0, st, fun acc l w => hq _ (fin acc l w)⟩) h, ?_⟩
  refine (pe_comp (tt := lT X.K dt) (te := lE X.K de) S hc hi.pi (fun cl C s₀ H₀ ex => (ht cl C s₀ H₀ ex).pts) (fun cl C s₀ H₀ ex => (he cl C s₀ H₀ ex).pe) hs).imp (comp_imp (ti := ti) (dt := dt) (de := de) hi.mono mt me)
theorem de_compI {c : Expr} {ti : DTI} {dt : DTT} {de : DTE} (S : CompSide X scope x N sl) (hc : X.calm = true) (hi : DI X (.Name x px) iter ti) (ht : ∀ cl C s₀ H₀ ex, DT (compCx X scope (x :: N) cl C s₀ H₀ ex) c dt) (he : ∀ cl C s₀ H₀ ex, DE (compCx X scope (x :: N) cl C s₀ H₀ ex) elt de)
    (hs : ∀ x, foldedSetIterable iter X.env x = pure x := by intro _; rfl) : DE X (.ListComp elt [⟨.Name x px, iter, [c], 0⟩] scope pos) (dComp sl ti dt de) := de_compG S hc hi (fun _ _ _ _ _ => dts_one (ht _ _ _ _ _)) he hs
end
end L2

namespace L2
open PySem PySem.Spec PyProof.Rows PySem.SeqAt

def compB (sc scope : Scope) (NN : List Str) (x : Str) (N : List Str) (sl : List Nat) : Bool :=
  decide (scope.names.lookup x = some .local) && decide (scope.kind = .function) && scope.names.all (fun y => decide (y.2 ≠ .cell)) && scope.names.all (fun y => decide (y.2 = .local → scope.names.lookup y.1 = some .local)) &&
    scope.names.all (fun y => decide (y.2 = .free → sc.names.lookup y.1 = some .cell)) && decide (x :: N).Nodup && decide (N.map some = sl.map (fun j => NN[j]?)) && N.all (fun n => decide (scope.names.lookup n = some .free))
theorem comp_side {X : Cx} {sc scope : Scope} {NN : List Str} {x : Str} {N : List Str} {sl : List Nat} (h1 : X.env.scope = sc) (h2 : X.N = NN) (h : compB sc scope NN x N sl = true) : CompSide X scope x N sl := by
  subst h1 h2
  unfold compB at h
  simp only [Bool.and_eq_true, decide_eq_true_eq, List.all_eq_true] at h
  obtain ⟨⟨⟨⟨⟨⟨⟨a, b⟩, c⟩, d⟩, e⟩, f⟩, g⟩, i⟩ := h
  exact ⟨a, b, c, d, e, f, g, i⟩

def Bt (n : Nat) (x : Int) : Prop := x.natAbs < 2 ^ n
theorem Bt.le {n m : Nat} {x : Int} (h : Bt n x) (l : n ≤ m) : Bt m x := Nat.lt_of_lt_of_le h (Nat.pow_le_pow_right (by decide) l)
theorem Bt.mul {n m : Nat} {x y : Int} (a : Bt n x) (b : Bt m y) : Bt (n + m) (x * y) := by
  unfold Bt at *
  rw [Int.natAbs_mul, Nat.pow_add]
  exact Nat.mul_lt_mul'' a b
theorem Bt.add {n m : Nat} {x y : Int} (a : Bt n x) (b : Bt m y) : Bt (max n m + 1) (x + y) := by
  have a' := a.le (Nat.le_max_left n m)
  have b' := b.le (Nat.le_max_right n m)
  unfold Bt at *
  rw [Nat.pow_succ]
  have := Int.natAbs_add_le x y
  omega
theorem Bt.neg {n : Nat} {x : Int} (a : Bt n x) : Bt n (-x) := by unfold Bt at *; rw [Int.natAbs_neg]; exact a
theorem Bt.sub {n m : Nat} {x y : Int} (a : Bt n x) (b : Bt m y) : Bt (max n m + 1) (x - y) := by rw [Int.sub_eq_add_neg]; exact a.add b.neg
theorem Bt.of_abs {n : Nat} {x : Int} (h : x.natAbs < 2 ^ n) : Bt n x := h
theorem Bt.of {n : Nat} {x : Int} (h1 : -(2 ^ n) < x) (h2 : x < 2 ^ n) : Bt n x := by
  unfold Bt
  have : ((x.natAbs : Nat) : Int) < ((2 ^ n : Nat) : Int) := by push_cast; omega
  omega
theorem Bt.mulOk {n m : Nat} {x y : Int} (a : Bt n x) (b : Bt m y) (hn : n ≤ 1048576 := by decide) (hm : m ≤ 1048576 := by decide) : IntMulOk x y :=
  IntMulOk.of_bits (intBits_le_iff.mpr (a.le hn)) (intBits_le_iff.mpr (b.le hm))
theorem Bt.divOk {n : Nat} {x y : Int} (a : Bt n y) (h : y ≠ 0) (hn : n ≤ 9000 := by decide) : CDv x y := ⟨h, a.le hn⟩
theorem Bt.zero : Bt 0 0 := by unfold Bt; decide
theorem Bt.one : Bt 1 1 := by unfold Bt; decide
end L2
namespace L2
open PySem PySem.Spec PyProof.Rows PySem.SeqAt
section
variable {a b c d e f : Dt} {r s : List Dt} {i j : Int} {k l : Bool} {n : Nat} {x y : Str}
theorem ixt0 : ixD 0 (.tup (a :: r)) = some a := rfl
theorem ixt1 : ixD 1 (.tup (a :: b :: r)) = some b := rfl
theorem ixt2 : ixD 2 (.tup (a :: b :: c :: r)) = some c := rfl
theorem ixt3 : ixD 3 (.tup (a :: b :: c :: d :: r)) = some d := rfl
theorem ixl0 : ixD 0 (.lst (a :: r)) = some a := rfl
theorem ixl1 : ixD 1 (.lst (a :: b :: r)) = some b := rfl
theorem ixl2 : ixD 2 (.lst (a :: b :: c :: r)) = some c := rfl
theorem ixl3 : ixD 3 (.lst (a :: b :: c :: d :: r)) = some d := rfl
theorem eq_ii : Dt.eq (.int i) (.int j) = decide (i = j) := by rw [Dt.eq]
theorem eq_bb : Dt.eq (.bl k) (.bl l) = (k == l) := by rw [Dt.eq]
theorem eq_ss : Dt.eq (.str x) (.str y) = (x == y) := by rw [Dt.eq]
theorem eq_nn : Dt.eq .non .non = true := by rw [Dt.eq]
theorem eq_ni : Dt.eq .non (.int i) = false := by simp [Dt.eq]
theorem eq_nt : Dt.eq .non (.tup r) = false := by simp [Dt.eq]
theorem eq_tn : Dt.eq (.tup r) .non = false := by simp [Dt.eq]
theorem eq_tt : Dt.eq (.tup r) (.tup s) = Dt.eqs r s := by rw [Dt.eq]
theorem eq_ll : Dt.eq (.lst r) (.lst s) = Dt.eqs r s := by rw [Dt.eq]
theorem eqs_nn : Dt.eqs [] [] = true := by rw [Dt.eqs]
theorem eqs_cc : Dt.eqs (a :: r) (b :: s) = (Dt.eq a b && Dt.eqs r s) := by rw [Dt.eqs]
theorem eqs_nc : Dt.eqs [] (b :: s) = false := by simp [Dt.eqs]
theorem eqs_cn : Dt.eqs (b :: s) [] = false := by simp [Dt.eqs]
theorem flat_i : Dt.flat n (.int i) = true := by cases n <;> rw [Dt.flat] <;> simp
theorem flat_b : Dt.flat n (.bl k) = true := by cases n <;> rw [Dt.flat] <;> simp
theorem flat_n : Dt.flat n .non = true := by cases n <;> rw [Dt.flat] <;> simp
theorem flat_t : Dt.flat (n + 1) (.tup r) = Dt.flats n r := by rw [Dt.flat]
theorem flat_l : Dt.flat (n + 1) (.lst r) = Dt.flats n r := by rw [Dt.flat]
theorem flat_t8 : Dt.flat 8 (.tup r) = Dt.flats 7 r := flat_t
theorem flat_l8 : Dt.flat 8 (.lst r) = Dt.flats 7 r := flat_l
theorem flat_t7 : Dt.flat 7 (.tup r) = Dt.flats 6 r := flat_t
theorem flat_l7 : Dt.flat 7 (.lst r) = Dt.flats 6 r := flat_l
theorem flat_t6 : Dt.flat 6 (.tup r) = Dt.flats 5 r := flat_t
theorem flats_n : Dt.flats n [] = true := by rw [Dt.flats]
theorem flats_c : Dt.flats n (a :: r) = (Dt.flat n a && Dt.flats n r) := by rw [Dt.flats]
theorem dstart_c {N : Str} {M : List Str} : dstart (N :: M) (a :: r) = some (.is a) :: dstart M r := by
  unfold dstart
  simp only [List.map_cons, List.length_cons, List.cons_append, Nat.add_sub_add_right]
theorem dstart_n {N : Str} {M : List Str} : dstart (N :: M) [] = none :: dstart M [] := by
  unfold dstart
  simp [List.replicate_succ]
theorem dstart_e : dstart [] [] = [] := rfl
theorem size_ok (h : n ≤ 1000) : n ≤ sizeLine := Nat.le_of_lt (small1000 h)
theorem isT_tt : isT "tuple" (.tup r) = true := rfl
theorem isT_ll : isT "list" (.lst r) = true := rfl
theorem isT_ii : isT "int" (.int i) = true := rfl
theorem isT_bi : isT "bool" (.int i) = false := rfl
theorem isT_ib : isT "int" (.bl k) = true := rfl
theorem isT_bb : isT "bool" (.bl k) = true := rfl
theorem isT_tn : isT "tuple" .non = false := rfl
theorem isT_in : isT "int" .non = false := rfl
theorem isT_it : isT "int" (.tup r) = false := rfl
theorem isT_bt : isT "bool" (.tup r) = false := rfl
theorem nf_i : noFn (.int i) = true := rfl
theorem nf_b : noFn (.bl k) = true := rfl
theorem nf_n : noFn .non = true := rfl
theorem nf_t : noFn (.tup r) = true := rfl
theorem nf_l : noFn (.lst r) = true := rfl
theorem nf_s : noFn (.str x) = true := rfl
theorem isB_t : isB true (.bl k) = k := by cases k <;> rfl
theorem isB_f : isB false (.bl k) = !k := by cases k <;> rfl
theorem isB_i : isB k (.int i) = false := rfl
theorem isB_n : isB k .non = false := rfl
theorem isB_tu : isB k (.tup r) = false := rfl
theorem isB_l : isB k (.lst r) = false := rfl
theorem isN_n : isN .non = true := rfl
theorem isN_i : isN (.int i) = false := rfl
theorem isN_b : isN (.bl k) = false := rfl
theorem isN_t : isN (.tup r) = false := rfl
theorem isN_l : isN (.lst r) = false := rfl
end
end L2
namespace L2
open PySem PySem.Spec PyProof.Rows PySem.SeqAt
theorem ifn {c : Bool} {A B : Prop} (h : c = true) (b : B) : if (!c) = true then A else B := by subst h; exact b
theorem ift {c : Bool} {A B : Prop} (h : c = true) (a : A) : if c = true then A else B := by subst h; exact a
theorem iff' {c : Bool} {A B : Prop} (h : c = false) (b : B) : if c = true then A else B := by subst h; exact b
theorem ifnf {c : Bool} {A B : Prop} (h : c = false) (a : A) : if (!c) = true then A else B := by subst h; exact a
theorem specF_of {τ : Type} {args : τ → List Dt} {pre : τ → Prop} {val : τ → Dt} {Q : Dt → Prop} (p : τ) (h : pre p) (k : Q (val p)) : specF args pre val (args p) Q := ⟨p, rfl, h, fun d e => by rw [e]; exact k⟩
theorem spec_of {τ : Type} {args : τ → List Dt} {pre : τ → Prop} {post : τ → Dt → Prop} {Q : Dt → Prop} (p : τ) (h : pre p) (k : ∀ d, post p d → Q d) : spec args pre post (args p) Q := ⟨p, rfl, h, k⟩
theorem comp_filter {sl : List Nat} {tt : DTT} {te : DTE} {ρ : DEnv} {Q : Dt → Prop} {items : List Dt} (p : Dt → Bool) (f : Dt → Dt) (ht : ∀ d ∈ items, ∀ R : Bool → Prop, R (p d) → tt (inner sl ρ d) R) (he : ∀ d ∈ items, p d = true → ∀ R : Dt → Prop, R (f d) → te (inner sl ρ d) R)
    (hq : Q (.lst ((items.filter p).map f))) : ∃ W : Nat → List Dt → Prop, W 0 [] ∧ (∀ (k : Nat) d acc, items[k]? = some d → W k acc → tt (inner sl ρ d) fun b => if b = true then te (inner sl ρ d) fun e => W (k + 1) (acc ++ [e]) else W (k + 1) acc) ∧
      ∀ acc, acc.length ≤ items.length → W items.length acc → Q (.lst acc) := by
  refine ⟨fun k acc => acc = ((items.take k).filter p).map f, by simp, fun k d acc e w => ?_, fun acc _ w => by rw [w, List.take_length]; exact hq⟩
  have hm := List.mem_of_getElem? e
  refine ht d hm _ ?_
  have ht := take_succ_filter p items k d e
  by_cases hp : p d = true
  · rw [if_pos hp]
    refine he d hm hp _ ?_
    show acc ++ [f d] = _
    rw [w, ht, if_pos hp]; simp
  · rw [if_neg hp]
    show acc = _
    rw [w, ht, if_neg hp]; simp
theorem dComp_filter {sl : List Nat} {ti : DTI} {tt : DTT} {te : DTE} {ρ : DEnv} {Q : Dt → Prop} (items : List Dt) (p : Dt → Bool) (f : Dt → Dt) (hi : ∀ R : List Dt → Prop, R items → ti ρ R) (hl : items.length ≤ sizeLine) (hc : caught sl ρ)
    (ht : ∀ d ∈ items, ∀ R : Bool → Prop, R (p d) → tt (inner sl ρ d) R) (he : ∀ d ∈ items, p d = true → ∀ R : Dt → Prop, R (f d) → te (inner sl ρ d) R) (hq : Q (.lst ((items.filter p).map f))) : dComp sl ti tt te ρ Q :=
  hi _ ⟨hl, hc, comp_filter p f ht he hq⟩
theorem dFor_of {ti : DTI} {g : DTG} {tb : DTS} {D : DEnds} {ρ : DEnv} (items : List Dt) (hi : ∀ R : List Dt → Prop, R items → ti ρ R) (W : Nat → DEnv → Prop) (h0 : W 0 ρ)
    (hs : ∀ (k : Nat) d ρ', items[k]? = some d → W k ρ' → g d ρ' fun ρ2 => tb { D with nx := W (k + 1), ct := W (k + 1), bk := D.nx } ρ2) (he : ∀ ρ', W items.length ρ' → D.nx ρ') : dFor ti g tb D ρ := hi _ ⟨W, h0, hs, he⟩
theorem ints_get {ns : List Int} {k : Nat} {d : Dt} (h : (ns.map Dt.int)[k]? = some d) : ∃ n, ns[k]? = some n ∧ d = .int n := by
  rw [List.getElem?_map] at h
  cases e : ns[k]? with
  | none => rw [e] at h; cases h
  | some n => rw [e] at h; cases h; exact ⟨n, rfl, rfl⟩
theorem caught_nil {ρ : DEnv} : caught [] ρ := fun _ h => (nomatch h)
theorem ix_ints {ns : List Int} {k : Int} (h0 : 0 ≤ k) (h1 : k < ns.length) : ixD k (.lst (ns.map Dt.int)) = some (.int (ns.getD k.toNat 0)) := by
  obtain ⟨j, rfl⟩ := Int.eq_ofNat_of_zero_le h0
  have hj : j < ns.length := by omega
  show (ns.map Dt.int)[j]? = _
  rw [List.getElem?_map]
  simp [hj]
end L2
namespace L2
theorem while_of {c : DTT} {tb : DTS} {D : DEnds} {ρ : DEnv} (W : Nat → DEnv → Prop) (m : Nat) (h0 : W m ρ) (h : ∀ m ρ, W m ρ → c ρ fun k => if k = true then tb { D with nx := fun ρ' => ∃ m', m' < m ∧ W m' ρ', ct := fun ρ' => ∃ m', m' < m ∧ W m' ρ', bk := D.nx } ρ else D.nx ρ) : dWhile c tb D ρ := ⟨W, ⟨m, h0⟩, h⟩
end L2

namespace L2
open PySem PySem.Spec PyProof.Rows PySem.SeqAt

def Itd (lo : Int) (n : Nat) : It := ⟨fun i _ => i < n, fun i H x H' => H' = H ∧ x = .int (lo - i), fun i _ => n ≤ i⟩
theorem turn_rangeD {P : Program} {w : World} {K : PySem.W.Frag} {tg : Expr} (it : Addr) (lo : Int) (n : Nat) : Turn P w K tg (Itd lo n) [it] it (fun i h => IsRangeIter h it (lo + (i : Nat) * (-1)) ((n : Int) - (i : Nat)) (-1)) where
  mem := by simp
  obj := fun i h st b hb => by
    have e : b = it := by simpa using hb
    subst e
    exact ⟨_, st, fun v z => by
      have z' : Data.fields _ = Data.cell v := z
      cases z'⟩
  keep := fun i h h' st k => k it (by simp) _ st
  item := by
    intro X hP hw hK hc i pins s σ H E I hf st hg
    subst hP hw hK
    obtain ⟨f0, f1, f2, f3, f4, f5⟩ := hf it (by simp)
    have W := Walks.range (prog := X.prog) (w := X.w) (I.ok.hd hc) it lo (-1) n
    refine W.item i s _ _ hg st fun v h' tk hv st' kk => ?_
    obtain ⟨t, rfl⟩ := hv
    have I1 : Inv X pins σ H { s with heap := h', toks := tk } := I.turned (fun b o hb e => kk b o (by simpa using hb) e) f0 f1 f3 f4 f5
    refine ⟨_, rfl, go_of (s := { s with heap := h', toks := tk }) (n := "range_iterator") st' rfl rfl (by decide) ⟨.int (lo - i), H, I1, ⟨t, ?_⟩, ⟨rfl, rfl⟩, st', fun b hb => (hf b hb).1⟩⟩
    have e : lo + (i : Int) * (-1) = lo - i := by omega
    rw [e]
  done := by
    intro X hP hw hK hc i pins s σ H E I hf st hg
    subst hP hw hK
    obtain ⟨f0, f1, f2, f3, f4, f5⟩ := hf it (by simp)
    exact wpAny_pyNext_range_end (I.ok.hd hc) st (by have : n ≤ i := hg; omega) fun h' eb => ⟨rfl, I.turned (t' := s.toks) (fun b o hb e => eb b o hb e) f0 f1 f3 f4 f5⟩
  self := fun _ _ _ _ _ st h => wpAny_pyIter_rangeiter st h
section
variable {X : Cx} {a b c e : Expr} {es : List Expr} {ta tb te : DTE} {tl : DTA} {pos : Pos}
theorem rangeSize_down (a b : Int) : Builtin.Range.rangeSize a b (-1) = if a > b then a - b else 0 := by
  unfold Builtin.Range.rangeSize
  simp only [show ¬ ((-1 : Int) > 0) by decide, if_false, Int.neg_neg, Int.ediv_one]
  split <;> omega
theorem small_down {a b : Int} (ha : -(2 ^ 62) ≤ a) (ha' : a < 2 ^ 62) (hb : -(2 ^ 62) ≤ b) (hb' : b < 2 ^ 62) : Builtin.Range.small a b (-1) = true := by
  unfold Builtin.Range.small
  rw [rangeSize_down]
  simp only [Builtin.Range.rangeFitsLong, Bool.and_eq_true, Bool.or_eq_true, decide_eq_true_eq, beq_iff_eq, show ¬ ((-1 : Int) > 0) by decide, if_false]
  split <;> omega
def iRng3 (ta : TA) : TI := fun σ H R => ta σ H fun vs H1 => ∃ i j : Int, vs = [.int i, .int j, .int (-1)] ∧ (-(2 ^ 62) ≤ i ∧ i < 2 ^ 62 ∧ -(2 ^ 62) ≤ j ∧ j < 2 ^ 62) ∧ R (Itd i (i - j).toNat) H1
theorem pi_range3 {tg : Expr} {ta : TA} {p : Pos} (hg : Gl X "range") (hm : X.mg "range" = none) (ha : PA X [a, b, c] ta) (hs : starEach [a, b, c] X.env = (false, eval a X.env) :: starEach [b, c] X.env := by rfl) (hpl : (backTo pos (starEach [b, c] X.env)).any (·.1) = false := by rfl) :
    PI X tg (.Call (.Name "range" p) [a, b, c] [] pos) (iRng3 ta) := by
  intro pins s σ H R I h
  refine Call_ (ld_blt I hg hm boot_range (PyProof.Rows.callWith_type1 (thn (ha pos pins s σ H _ I h) fun us s1 ⟨vs, H1, I1, r1, q1⟩ => ?_) hs hpl))
  obtain ⟨i, j, e, ⟨q1, q2, q3, q4⟩, q⟩ := q1
  subst e
  cases r1 with
  | cons r rr =>
    cases rr with
    | cons r' rr =>
      cases rr with
      | cons r'' rr =>
        cases rr
        obtain ⟨t, rfl⟩ := r
        obtain ⟨t', rfl⟩ := r'
        obtain ⟨t'', rfl⟩ := r''
        refine call_range_3 (by decide) ?_ (.inl (PyProof.noPylong_small (by decide)))
        refine wpAny_pyIter_range (IsRange.new ..) (small_down q1 q2 q3 q4) ?_
        have I2 : Inv X pins σ H1 { s1 with heap := s1.heap.push { cls := .type "range", data := .fields #[.int i t, .int j t', .int (-1) t''] }, toks := s1.toks } := I1.kept fun b o e => Heap.get?_push_of_some _ e
        refine ⟨(s1.heap.push { cls := .type "range", data := .fields #[.int i t, .int j t', .int (-1) t''] }).objs.size, [(s1.heap.push { cls := .type "range", data := .fields #[.int i t, .int j t', .int (-1) t''] }).objs.size], _, _, H1, rfl,
          I2.kept (t' := s1.toks) fun b o e => Heap.get?_push_of_some _ e, turn_rangeD _ i (i - j).toNat, ?_, fun b hb => ?_, q⟩
        · have e1 : i + ((0 : Nat) : Int) * (-1) = i := by simp
          have e2 : (((i - j).toNat : Nat) : Int) - ((0 : Nat) : Int) = Builtin.Range.rangeSize i j (-1) := by rw [rangeSize_down]; split <;> omega
          show IsRangeIter _ _ (i + ((0 : Nat) : Int) * (-1)) ((((i - j).toNat : Nat) : Int) - ((0 : Nat) : Int)) (-1)
          rw [e1, e2]
          exact Heap.get?_push_size _ rfl
        · have e : b = (s1.heap.push { cls := .type "range", data := .fields #[.int i t, .int j t', .int (-1) t''] }).objs.size := by simpa using hb
          subst e
          exact I2.fpOk (Nat.le_refl _) (I2.hok.fresh (Nat.le_refl _))
def downs (hi : Int) (n : Nat) : List Dt := (List.range n).map fun i => .int (hi - (i : Nat))
theorem downs_len {lo : Int} {n : Nat} : (downs lo n).length = n := by simp [downs]
theorem downs_get {lo : Int} {n k : Nat} {d : Dt} (h : (downs lo n)[k]? = some d) : k < n ∧ d = .int (lo - (k : Nat)) := by
  unfold downs at h
  rw [List.getElem?_map] at h
  by_cases hk : k < n
  · rw [List.getElem?_range hk] at h
    exact ⟨hk, (Option.some.inj h).symm⟩
  · rw [List.getElem?_eq_none (by simpa using hk)] at h; cases h
theorem itd_down {K : PySem.W.Frag} {M : Hp} {lo : Int} {n : Nat} : ItD K M (Itd lo n) (downs lo n) := fun H _ => by
  refine ⟨fun k d e => ?_, ?_⟩
  · obtain ⟨hk, rfl⟩ := downs_get e
    exact ⟨hk, fun x H' y => ⟨y.1, rp_int.mpr y.2⟩⟩
  · rw [downs_len]; exact Nat.le_refl n
def diRng3 (tl : DTA) : DTI := fun ρ Q => tl ρ fun ds => match ds with
  | [.int i, .int j, .int k] => k = -1 ∧ (-(2 ^ 62) ≤ i ∧ i < 2 ^ 62 ∧ -(2 ^ 62) ≤ j ∧ j < 2 ^ 62) ∧ Q (downs i (i - j).toNat)
  | _ => False
theorem di_rng3 {tg : Expr} {p : Pos} (hg : Gl X "range") (hm : X.mg "range" = none) (ha : DA X [a, b, c] tl) (hs : starEach [a, b, c] X.env = (false, eval a X.env) :: starEach [b, c] X.env := by rfl) (hpl : (backTo pos (starEach [b, c] X.env)).any (·.1) = false := by rfl) :
    DI X tg (.Call (.Name "range" p) [a, b, c] [] pos) (diRng3 tl) where
  mono := fun hq z => ha.mono (fun d z => by
    split at z
    · exact ⟨z.1, z.2.1, hq _ z.2.2⟩
    · exact z.elim) z
  pi := (pi_range3 hg hm ha.pa hs hpl).imp fun σ H Q ⟨B, F, O, ρ, R, z⟩ => ⟨B, F, O, ρ, R, ha.mono (fun d z vs H1 s1 r1 => by
    split at z
    · obtain ⟨e, z1, z2⟩ := z
      subst e
      obtain ⟨v, r, rfl, r2, r3⟩ := rpl_cons.mp r1
      rw [rpl2 r3, rp_int.mp r2]
      exact ⟨_, _, rfl, z1, z2 _ H1 s1 itd_down⟩
    · exact z.elim) z⟩

theorem mt_bits : MtR X "int.bit_length" (fun x xs H Q => ∃ i, x = .int i ∧ xs = [] ∧ Q (.int (Builtin.Int.intBits i)) H) := by
  intro pins s σ H x xs v us Q I rx rs ⟨i, e, e2, q⟩
  subst e e2
  cases rs
  obtain ⟨t, rfl⟩ := rx
  exact call_int_bit_length ⟨.int _, H, I.tok _, ⟨_, rfl⟩, q⟩
def dBits (ta : DTE) : DTE := fun ρ Q => ta ρ fun d => match d with
  | .int i => Q (.int (Builtin.Int.intBits i))
  | _ => False
theorem de_bits {apos : Pos} (ha : DE X a ta) (hbase : attributeBase a "bit_length" X.env (eval a X.env) = eval a X.env := by rfl) (hline : (apos.endLine == pos.line) = true := by rfl) : DE X (.Call (.Attribute a "bit_length" apos) [] [] pos) (dBits ta) where
  mono := fun hq h => ha.mono (fun d h => by
    split at h
    · exact hq _ h
    · exact h.elim) h
  pe := (pe_bm0 PySem.F.plainAttrs_int PySem.F.slot_int_bit_length PySem.F.type_int_bit_length mt_bits ha.pe hbase hline).imp fun σ H Q ⟨B, F, O, ρ, R, h⟩ => ⟨B, F, O, ρ, R, ha.mono (fun d h v H1 s1 r1 => by
    split at h
    · rw [rp_int.mp r1]
      exact ⟨rfl, _, rfl, rfl, h _ H1 s1 (rp_int.mpr rfl)⟩
    · exact h.elim) h⟩

def FnVal (P : Program) (w : World) (K : PySem.W.Frag) (mg : Str → Option Value) (base : Heap) (k : Nat) (a : Addr) (sp : DSp) : Prop :=
  ∃ fd ps, FnOk P w K mg base CX0 k a fd ps (lSp K sp) ∧ Binds K fd ps [] ∧ PySem.W.keepIn K (.ref a) = true
def dCallV (P : Program) (w : World) (K : PySem.W.Frag) (mg : Str → Option Value) (base : Heap) (k : Nat) (tf : DTE) (tl : DTA) : DTE := fun ρ Q => tf ρ fun d => match d with
  | .fn a => PySem.W.keepIn K (.ref a) = true ∧ tl ρ fun ds => ∃ sp, MonoSp sp ∧ FnVal P w K mg base k a sp ∧ sp ds Q
  | _ => False
def dOf (t : DTA) : DTE := fun ρ Q => t ρ fun ds => Q (.lst ds)
def dLstF (tl : DTA) : DTA := fun ρ Q => tl ρ fun ds => ds.length ≤ sizeLine ∧ Q ds
def dSliceF (te : DTE) (tl th : DTO) : DTA := fun ρ Q => te ρ fun d => tl ρ fun lo => th ρ fun hi => match d with
  | .lst ds => Q (cutD ds lo hi)
  | _ => False
def dCatF (t u : DTA) : DTA := fun ρ Q => t ρ fun xs => u ρ fun ys => xs.length + ys.length ≤ sizeLine ∧ Q (xs ++ ys)
end
end L2

namespace L2
open PySem PySem.Spec PyProof.Rows PySem.SeqAt
section
variable {X : Cx} {elt iter : Expr} {x : Str} {px : Pos} {ifs : List Expr} {scope : Scope} {pos : Pos} {N : List Str} {sl : List Nat} {wi : TI} {tt : TT} {te : TE}
def dSetC (i : Nat) (sl : List Nat) (ti : DTI) (tt : DTT) (te : DTE) : DTS := fun D ρ => dComp sl ti tt te ρ fun d => D.nx (ρ.set i (some (.is d)))
end

section
variable {prog : Program} {w : World} {A : Around} {E : Value → Shared → Prop} {s : Shared}
end
section
variable {X : Cx} {es : List Expr} {pos : Pos}
def dgLst (n : Nat) (gs : DTGs) : DTG := fun d ρ Q => match d with
  | .lst ds => ds.length = n ∧ gs ds ρ Q
  | _ => False
end
end L2
namespace L2
end L2
namespace L2
theorem flat_s {n : Nat} {x : PySem.Str} : Dt.flat n (.str x) = (PySem.PyData.str x).canLay0 := by cases n <;> rw [Dt.flat]
end L2

namespace L2
open PySem PySem.Spec PyProof.Rows PySem.SeqAt

def exN (a C : Addr) (h : Heap) : Prop := ∃ vs sl, h.get? a = some ⟨.ref C, none, .fields vs, sl⟩ ∧ vs[1]? = some .none
def exF (a C dx : Addr) (h : Heap) : Prop := ∃ vs sl, h.get? a = some ⟨.ref C, some dx, .fields vs, sl⟩ ∧ vs[1]? = some .none ∧ dx ≠ a
theorem exN_stay {a C : Addr} (h1 h2 : Heap) (x : exN a C h1) (k : ∀ o, h1.get? a = some o → h2.get? a = some o) : exN a C h2 := let ⟨vs, sl, e, r⟩ := x; ⟨vs, sl, k _ e, r⟩
theorem exF_stay {a C dx : Addr} (h1 h2 : Heap) (x : exF a C dx h1) (k : ∀ o, h1.get? a = some o → h2.get? a = some o) : exF a C dx h2 := let ⟨vs, sl, e, r⟩ := x; ⟨vs, sl, k _ e, r⟩
theorem exF.ex {a C dx : Addr} {h : Heap} (x : exF a C dx h) : exO a C dx h := let ⟨vs, sl, e, _, r⟩ := x; ⟨_, vs, e, rfl, rfl, rfl, r⟩

section
variable {X : Cx} {pins : List (Addr × Obj)} {σ : St} {H : Hp} {s : Shared} {h' : Heap} {a dx C U f fI : Addr} {φ ψ : Heap → Prop}
theorem Inv.put2 {od : HO} {t' : Nat} (I : Inv X pins σ H s) (Ha : H a = some (.ext φ)) (hd : s.heap.objs.size ≤ dx) (k : ∀ b u, b ≠ a → s.heap.get? b = some u → h'.get? b = some u) (ha : ∃ u, h'.get? a = some u)
    (n1 : ObjOk X.prog X.w (upd (upd H dx od) a (.ext ψ)) h' a (.ext ψ)) (n2 : ObjOk X.prog X.w (upd (upd H dx od) a (.ext ψ)) h' dx od) : Inv X pins σ (upd (upd H dx od) a (.ext ψ)) { s with heap := h', toks := t' } := by
  have nd : H dx = none := I.hok.fresh hd
  have na : a ≠ dx := ne_of_none Ha nd
  have keepH : ∀ b u, H b = some u → b ≠ a → upd (upd H dx od) a (.ext ψ) b = some u := fun b u e n => by rw [upd_ne n, upd_ne (ne_of_none e nd)]; exact e
  have nt : ∀ b u, H b = none → s.heap.get? b = some u → b ≠ a := fun b u n _ z => by rw [z, Ha] at n; cases n
  refine I.un ⟨fun b u e n _ _ => k b u (nt b u n e) e, fun b u e n _ _ => ⟨u.slots, k b u (nt b u n e) e⟩, fun b u e n _ => ?_, fun b u e _ => ?_, fun b xs e => keepH b _ e fun z => (by rw [z, Ha] at e; cases e), fun b o u e => keepH b _ e fun z => (by rw [z, Ha] at e; cases e), fun b ps e => ⟨#[], by rw [keepH b _ e fun z => by rw [z, Ha] at e; cases e]; simp⟩⟩ ?_
  · rw [upd_ne (nt b u n e), upd_ne (Nat.ne_of_lt (Nat.lt_of_lt_of_le (Heap.lt_size e) hd))]; exact n
  · by_cases z : b = a
    · rw [z]; exact ha
    · exact ⟨u, k b u z e⟩
  · intro b u e
    by_cases z : b = a
    · subst z; rw [upd_same] at e; cases e; exact n1
    · rw [upd_ne z] at e
      by_cases z' : b = dx
      · subst z'; rw [upd_same] at e; cases e; exact n2
      · rw [upd_ne z'] at e
        refine (I.hok b u e).stay (fun c v hc q => k c v ?_ q) (fun c q => keepH c _ q fun w => by rw [w, Ha] at q; cases q) fun c xs q => keepH c _ q fun w => by rw [w, Ha] at q; cases q
        rcases hc with rfl | hc
        · exact z
        · rintro rfl; rw [Ha] at hc; cases hc
theorem Inv.again (I : Inv X pins σ H s) (Ha : H a = some (.ext φ)) (n : ψ s.heap) (st : ∀ h1 h2 : Heap, ψ h1 → (∀ o, h1.get? a = some o → h2.get? a = some o) → ψ h2) : Inv X pins σ (upd H a (.ext ψ)) s := by
  obtain ⟨_, th, _⟩ := I.hok a _ Ha
  exact I.write (t' := s.toks) (h' := s.heap) (by rw [Ha]; exact True.intro) (.inl rfl) (fun _ _ _ e => e) th ⟨n, th, st⟩

def sX1 (C : Addr) (ta tv : TE) (f : Str) : TS := fun D σ H => tv σ H fun y H1 => ta σ H1 fun x H2 => ∃ a, x = .ref a ∧ H2 a = some (.ext (exN a C)) ∧ ∀ dx, H2 dx = none → dx ≠ a → D.nx σ (upd (upd H2 dx (.xd [(f, y)])) a (.ext (exF a C dx)))
theorem ps_x1 {o value : Expr} {f : Str} {pos pos' : Pos} {ta tv : TE} (c : XC X.K C U) (ht : PySem.W.takerIn X.K C f = some none) (ha : PE X o ta) (hv : PE X value tv) (hs : swapsWith value (some (.Attribute o f pos')) pos.line X.env = pure false := by rfl) :
    PS X (.Assign [.Attribute o f pos'] value pos) (sX1 C ta tv f) := by
  intro pins s σ H D I h
  refine plainObj_wpAny_Assign_Attribute (thn (hv pins s σ H _ I h) fun u s1 ⟨y, H1, I1, ry, q⟩ => thn (ha pins s1 σ H1 _ I1 q) fun ov s2 ⟨x, H2, I2, rx, a, ex, ea, q2⟩ => ?_) hs
  subst ex
  obtain rfl : ov = Value.ref a := rx
  obtain ⟨⟨vs, sl, hx, h1⟩, _, _⟩ := I2.hok a _ ea
  have nx : s2.heap.objs.size ≠ a := Nat.ne_of_gt (Heap.lt_size hx)
  refine xset0 I2.kIn c ht hx fun h' tk' x1 x2 x3 => ⟨σ, _, I2.put2 (dx := s2.heap.objs.size) (od := .xd [(f, y)]) (ψ := exF a C s2.heap.objs.size) (t' := tk') ea (Nat.le_refl _) x3 ⟨_, x1⟩ ⟨⟨vs, sl, x1, h1, nx⟩, ⟨_, x1⟩, exF_stay⟩ ⟨_, x2, fun g => ?_⟩, q2 _ (I2.hok.fresh (Nat.le_refl _)) nx⟩
  show RelO (List.lookup g [(f, y)]) (if g = f then some u else none)
  by_cases q : g = f
  · rw [if_pos q, show List.lookup g [(f, y)] = some y by simp [List.lookup, beq_iff_eq.mpr q]]; exact ry
  · rw [if_neg q, show List.lookup g [(f, y)] = none by simp [List.lookup, beq_eq_false_iff_ne.mpr q]]; trivial
def spIni (C : Addr) (ns : List Str) : Sp := fun vs H Q _ => ∃ a ys, vs = .ref a :: ys ∧ ys.length = ns.length ∧ H a = some (.ext (exN a C)) ∧ ∀ dx, H dx = none → dx ≠ a → Q .non (upd (upd H dx (.xd (ns.zip ys))) a (.ext (exF a C dx)))
structure XR (P : Program) (w : World) (K : PySem.W.Frag) (mg : Str → Option Value) (base : Heap) (k : Nat) (c : Str) (ns : List Str) (C U fI : Addr) (fd : FuncData) (ps : List Str) : Prop where
  at_ : PySem.W.nsIn K mainGlobals c = some (some (.ref C))
  gl : mg c = some (.ref C)
  kp : PySem.W.keepIn K (.ref C) = true
  xc : XC K C U
  hi : PySem.W.findIn K (.ref C) "__init__" = some (some (.ref fI))
  hf : PySem.W.typeIn K (.ref fI) = some (.type "function")
  bd : Binds K fd ps []
  ln : ps.length = ns.length + 1
  ok : FnOk P w K mg base CX0 k fI fd ps (spIni C ns)

def tXMake (C : Addr) (ns : List Str) (t : TA) : TE := fun σ H Q => t σ H fun vs H1 => vs.length = ns.length ∧ vs.length ≤ 1000 ∧ ∀ a dx, H1 a = none → H1 dx = none → dx ≠ a → Q (.ref a) (upd (upd (upd H1 a (.ext (exN a C))) dx (.xd (ns.zip vs))) a (.ext (exF a C dx)))
theorem pe_xmake {k : Nat} {c : Str} {ns ps : List Str} {fd : FuncData} {e : Expr} {es : List Expr} {p pos : Pos} {t : TA} (G : XR X.prog X.w X.K X.mg X.base k c ns C U fI fd ps) (hr : Room (k + 1) X.A) (hg : Gl X c) (ha : PA X (e :: es) t)
    (hdb : (c == ("__debug__" : Str)) = false := by decide) (he : starEach (e :: es) X.env = (false, eval e X.env) :: starEach es X.env := by rfl) (hpl : (backTo pos (starEach es X.env)).any (·.1) = false := by rfl) :
    PE X (.Call (.Name c p) (e :: es) [] pos) (tXMake C ns t) := by
  intro pins s σ H Q I h
  refine wpAny_Call_Name_kw (ld_glob I hg G.gl ?_ hdb)
  refine PySem.W.callWith_K (h₀ := X.base) I.ok.mod.kin G.kp (thn (ha pos pins s σ H _ I h) fun us s1 ⟨vs, H1, I1, r, l1, l2, q⟩ => ⟨I1.kIn, ?_⟩) he hpl
  have nz : H1 (s1.heap.objs.size + 1) = none := I1.hok.fresh (Nat.le_succ _)
  have lu : us.length = vs.length := r.length.symm
  have I2 : Inv X pins σ (upd H1 (s1.heap.objs.size + 1) (.ext (exN (s1.heap.objs.size + 1) C))) { s1 with heap := withExc s1.heap C us } :=
    I1.laid (t' := s1.toks) (fun _ _ => withExc_keep) (Nat.le_succ _) ⟨⟨_, _, withExc_at, rfl⟩, ⟨_, withExc_at⟩, exN_stay⟩
  refine make_exc I1.kIn G.xc G.hi G.hf (by rw [List.nil_append, lu]; exact Nat.le_of_lt (small1000 l2)) ?_
  have hb := G.bd { s1 with heap := withExc s1.heap C us } (.ref (s1.heap.objs.size + 1) :: us) I2.kIn (by rw [List.append_nil, List.length_cons, lu, l1, G.ln])
  rw [List.append_nil] at hb
  refine wpAny_call (codeAny_mono (G.ok.run _ X.stack { s1 with heap := withExc s1.heap C us } _ ⟨.ref (s1.heap.objs.size + 1) :: us, []⟩ _ (.ref (s1.heap.objs.size + 1) :: vs) (fun v H2 => v = .non ∧ Q (.ref (s1.heap.objs.size + 1)) H2) E0 (hr.make C us []) (I2.env0.make C us []) hb (.cons rfl r)
    ⟨_, vs, rfl, l1, upd_same, fun dx h1 h2 => ⟨rfl, ?_⟩⟩) fun r' s' hq => ?_)
  · rw [upd_ne h2] at h1
    exact q _ dx nz h1 h2
  · cases r' with
    | error e => exact False.elim hq
    | ok fl =>
      cases fl with
      | ret u =>
        obtain ⟨v, H', I3, ru, e1, q3⟩ := I2.after hq
        rw [e1] at ru
        exact ⟨ru, .ref _, H', I3, rfl, q3⟩
      | next => exact False.elim hq
      | brk => exact False.elim hq
      | cont => exact False.elim hq
def tRaise (X : Cx) (C : Addr) (te : TE) : TS := fun _ σ H => te σ H fun v H2 => ∃ a dx, v = .ref a ∧ H2 a = some (.ext (exF a C dx)) ∧ Wish X σ a (upd H2 a (.ext (exO a C dx)))
theorem ps_raise {e : Expr} {pos : Pos} {te : TE} (c : XC X.K C U) (hc : X.calm = true) (he : PE X e te) : PS X (.Raise (some e) none pos) (tRaise X C te) := by
  intro pins s σ H D I h
  rw [arm_exec_Raise]
  have key : wpAny (model X.prog X.w) X.A (eval e X.env) (fun v s₁ => X.K.In s₁.heap ∧ ∃ b od vs sl, v = .ref b ∧ s₁.heap.get? b = some ⟨.ref C, od, .fields vs, sl⟩ ∧ vs[1]? = some .none ∧ X.xe (.ref b) s₁) X.xe s := by
    refine thn (he pins s σ H _ I h) fun u s1 ⟨v, H2, I2, rv, a, dx, e1, e2, wi⟩ => ⟨I2.kIn, ?_⟩
    subst e1
    obtain rfl : u = Value.ref a := rv
    obtain ⟨⟨vs, sl, hx, h1, nd⟩, _, _⟩ := I2.hok a _ e2
    refine ⟨a, _, vs, sl, rfl, hx, h1, wi pins s1 (I2.again e2 (exF.ex ⟨vs, sl, hx, h1, nd⟩) exO_stay) ⟨_, vs, hx, rfl, .inl h1⟩ ⟨C, dx, upd_same⟩⟩
  refine wpAny_bind (wpAny_standAt (raise_exc c (I.ok.hd hc) ?_))
  first
    | exact wpAny_bind (thn key fun v s₃ h₃ => wpAny_bind (wpAny_standAt (wpAny_pure h₃)))
    | exact key
end
end L2

namespace L2
open PySem PySem.Spec PyProof.Rows PySem.SeqAt

structure DEndsX where
  d : DEnds
  ex : DEnv → Dt → Prop
abbrev DTSX := DEndsX → DEnv → Prop
abbrev DTEX := DEnv → (Dt → Prop) → (Dt → Prop) → Prop
structure DEndsX.le (D D' : DEndsX) : Prop where
  d : DEnds.le D.d D'.d
  ex : ∀ ρ x, D.ex ρ x → D'.ex ρ x
def lDX (X : Cx) (B : Hp) (F : List Addr) (D : Ends) : DEndsX := ⟨lD X.K B F D, fun ρ' x => ∀ O' σ' a H', Rep X.K B F O' H' σ' ρ' → Rp X.K (mask (F ++ O') H') x (.ref a) → Wish X σ' a H'⟩
def lSX (X : Cx) (t : DTSX) : TS := fun D σ H => ∃ B F O ρ, Rep X.K B F O H σ ρ ∧ t (lDX X B F D) ρ
def lEX (X : Cx) (t : DTEX) : TE := fun σ H Q => ∃ B F O ρ, Rep X.K B F O H σ ρ ∧ t ρ (fun d => ∀ v H', Same H H' → Rp X.K (mask (F ++ O) H') d v → Q v H') (fun x => ∀ a H', Same H H' → Rp X.K (mask (F ++ O) H') x (.ref a) → Wish X σ a H')
structure DSX (X : Cx) (st : Stmt) (t : DTSX) : Prop where
  mono : ∀ {ρ D D'}, DEndsX.le D D' → t D ρ → t D' ρ
  ps : PS X st (lSX X t)
structure DSsX (X : Cx) (st : List Stmt) (t : DTSX) : Prop where
  mono : ∀ {ρ D D'}, DEndsX.le D D' → t D ρ → t D' ρ
  ps : PSs X st (lSX X t)
structure DEX (X : Cx) (e : Expr) (t : DTEX) : Prop where
  mono : ∀ {ρ Q Q' E E'}, (∀ d, Q d → Q' d) → (∀ d, E d → E' d) → t ρ Q E → t ρ Q' E'
  pe : PE X e (lEX X t)

section
variable {X : Cx} {a b c e : Expr} {es : List Expr} {st : Stmt} {sts sa sb : List Stmt} {t u : DTSX} {ts us : DTS} {te : DTEX} {tA : DTT} {tl : DTA} {pos : Pos}
theorem PS.nox {st : Stmt} {t : TS} (h : PS X.nox st t) : PS X st t := fun pins s σ H D I hw =>
  wpAny_mono (h pins s σ H D (I.wish _) hw) (fun _ _ q => q.unwish) fun _ _ z => False.elim z
def dQuiet (t : DTS) : DTSX := fun D ρ => t D.d ρ
theorem dsx_of (h : DS X.nox st ts) : DSX X st (dQuiet ts) where
  mono := fun hd z => h.mono hd.d z
  ps := (PS.nox h.ps).imp fun D σ H ⟨B, F, O, ρ, R, z⟩ => ⟨B, F, O, ρ, R, z⟩
def dNextX : DTSX := fun D ρ => D.d.nx ρ
def dSeqX (t u : DTSX) : DTSX := fun D ρ => t ⟨{ D.d with nx := u D }, D.ex⟩ ρ
theorem dssx_nil : DSsX X [] dNextX := ⟨fun hd h => hd.d.nx _ h, pss_nil.imp fun D σ H ⟨B, F, O, ρ, R, h⟩ => h O σ H R⟩
theorem dssx_cons (h1 : DSX X st t) (h2 : DSsX X sts u) : DSsX X (st :: sts) (dSeqX t u) where
  mono := fun {ρ D D'} hd h => h1.mono (D := ⟨{ D.d with nx := u D }, D.ex⟩) ⟨⟨fun ρ q => h2.mono hd q, hd.d.rt, hd.d.bk, hd.d.ct⟩, hd.ex⟩ h
  ps := (pss_cons h1.ps h2.ps).imp fun D σ H ⟨B, F, O, ρ, R, h⟩ => ⟨B, F, O, ρ, R, h1.mono (D := ⟨{ (lDX X B F D).d with nx := u (lDX X B F D) }, (lDX X B F D).ex⟩) ⟨⟨fun ρ' q O' σ' H' R' => ⟨B, F, O', ρ', R', q⟩, fun _ q => q, fun _ q => q, fun _ q => q⟩, fun _ _ q => q⟩ h⟩
theorem dssx_one (h1 : DSX X st t) : DSsX X [st] t := ⟨h1.mono, pss_one h1.ps⟩
def dIfX (c : DTT) (t u : DTSX) : DTSX := fun D ρ => c ρ fun k => if k = true then t D ρ else u D ρ
theorem dsx_if (hc : DT X c tA) (ha : DSsX X sa t) (hb : DSsX X sb u) : DSX X (.If c sa sb pos) (dIfX tA t u) where
  mono := fun hd h => hc.mono (fun k h => by
    cases k with
    | true => exact ha.mono hd h
    | false => exact hb.mono hd h) h
  ps := (ps_if hc.pt ha.ps hb.ps).imp fun D σ H ⟨B, F, O, ρ, R, h⟩ => ⟨B, F, O, ρ, R, hc.mono (fun k h H1 s1 => by
    cases k with
    | true => exact ⟨B, F, O, ρ, R.same s1, h⟩
    | false => exact ⟨B, F, O, ρ, R.same s1, h⟩) h⟩

def dDropX (te : DTEX) : DTSX := fun D ρ => te ρ (fun _ => D.d.nx ρ) (D.ex ρ)
theorem dsx_expr (he : DEX X e te) (hs : swapsWith e none pos.line X.env = pure false := by rfl) : DSX X (.Expr e pos) (dDropX te) where
  mono := fun hd h => he.mono (fun _ h => hd.d.nx _ h) (fun _ h => hd.ex _ _ h) h
  ps := (ps_expr he.pe hs).imp fun D σ H ⟨B, F, O, ρ, R, h⟩ => ⟨B, F, O, ρ, R, he.mono (fun d q v H1 s1 _ => q O σ H1 (R.same s1)) (fun x q a H1 s1 r1 => q O σ a H1 (R.same s1) r1) h⟩
def dRetX (te : DTEX) : DTSX := fun D ρ => te ρ D.d.rt (D.ex ρ)
def dAsgX (te : DTEX) (g : DTG) : DTSX := fun D ρ => te ρ (fun d => g d ρ D.d.nx) (D.ex ρ)
abbrev DSpX := List Dt → (Dt → Prop) → (Dt → Prop) → Prop
def lSpX (K : PySem.W.Frag) (sp : DSpX) : Sp := fun vs H Q E => ∃ F ds, (∀ a ∈ F, H a ≠ none) ∧ RpL K (mask F H) ds vs ∧ sp ds (fun d => ∀ v H', Same H H' → Rp K (mask F H') d v → Q v H') (fun x => ∀ a H', Same H H' → Rp K (mask F H') x (.ref a) → E (.ref a) none H')
def MonoX (sp : DSpX) : Prop := ∀ ds Q Q' E E', (∀ d, Q d → Q' d) → (∀ d, E d → E' d) → sp ds Q E → sp ds Q' E'
def dCallX (sp : DSpX) (tl : DTA) : DTEX := fun ρ Q E => tl ρ fun ds => sp ds Q E
def PmX (P : Program) (w : World) (K : PySem.W.Frag) (mg : Str → Option Value) (base : Heap) (k : Nat) (x : Str) (st : Stmt) (ps : List Str) (sp : DSpX) : Prop :=
  ∃ f fd, FnT K mg x st ps f fd ∧ FnOk P w K mg base (CXe P w) k f fd ps (lSpX K sp)
theorem dex_call {k : Nat} {ps : List Str} {sp : DSpX} {x : Str} {stx : Stmt} {p : Pos} (m : MonoX sp) (G : PmX X.prog X.w X.K X.mg X.base k x stx ps sp) (hr : Room k X.A) (hg : Gl X x)
    (ha : DA X (e :: es) tl) (hdb : (x == ("__debug__" : Str)) = false := by decide)
    (he : starEach (e :: es) X.env = (false, eval e X.env) :: starEach es X.env := by rfl) (hpl : (backTo pos (starEach es X.env)).any (·.1) = false := by rfl) : DEX X (.Call (.Name x p) (e :: es) [] pos) (dCallX sp tl) := by
  obtain ⟨f, fd, F, G⟩ := G
  refine ⟨fun hq hx h => ha.mono (fun ds h => m ds _ _ _ _ hq hx h) h, (pe_callX G hr hg F.mg F.fn.kp F.bd ha.pa hdb he hpl).imp fun σ H Q ⟨B, F, O, ρ, R, h⟩ => ⟨B, F, O, ρ, R, ha.mono (fun ds q vs H1 s1 r1 => ⟨F ++ O, ds, (R.same s1).th, r1, m ds _ _ _ _ (fun d z v H2 s2 r2 => z v H2 (s1.trans s2) r2) (fun x z a H2 s2 r2 => ⟨a, rfl, z a H2 (s1.trans s2) r2⟩) q⟩) h⟩⟩
theorem PmX.pm {P : Program} {w : World} {K : PySem.W.Frag} {mg : Str → Option Value} {base : Heap} {k : Nat} {x : Str} {st : Stmt} {ps : List Str} {sp : DSpX} {sp' : DSp} (G : PmX P w K mg base k x st ps sp) (m : MonoX sp)
    (h : ∀ ds Q, sp' ds Q → sp ds Q fun _ => False) : Pm P w K mg base k x st ps sp' := by
  obtain ⟨f, fd, F, G⟩ := G
  exact ⟨f, fd, F, G.calm fun vs H Q E ⟨F', ds, h1, r, q⟩ => ⟨F', ds, h1, r, m ds _ _ _ _ (fun _ z => z) (fun _ z => z.elim) (h ds _ q)⟩⟩
def dRaise (c : Str) (ns : List Str) (tl : DTA) : DTSX := fun D ρ => tl ρ fun ds => ds.length = ns.length ∧ ds.length ≤ 1000 ∧ D.ex ρ (.exc c ns ds)
theorem dsx_raise {k : Nat} {c : Str} {ns ps : List Str} {fd : FuncData} {C U fI : Addr} {p cp : Pos} (G : XR X.prog X.w X.K X.mg X.base k c ns C U fI fd ps) (hr : Room (k + 1) X.A) (hc : X.calm = true) (hg : Gl X c) (ha : DA X (e :: es) tl)
    (hdb : (c == ("__debug__" : Str)) = false := by decide) (he : starEach (e :: es) X.env = (false, eval e X.env) :: starEach es X.env := by rfl) (hpl : (backTo cp (starEach es X.env)).any (·.1) = false := by rfl) :
    DSX X (.Raise (some (.Call (.Name c p) (e :: es) [] cp)) none pos) (dRaise c ns tl) where
  mono := fun hd h => ha.mono (fun ds ⟨h1, h2, h3⟩ => ⟨h1, h2, hd.ex _ _ h3⟩) h
  ps := (ps_raise G.xc hc (pe_xmake G hr hg ha.pa hdb he hpl)).imp fun D σ H ⟨B, F, O, ρ, R, h⟩ => ⟨B, F, O, ρ, R, ha.mono (fun ds ⟨h1, h2, h3⟩ vs H1 s1 r1 => by
    refine ⟨by rw [r1.len]; exact h1, by rw [r1.len]; exact h2, fun a dx na nd ne => ⟨a, dx, rfl, upd_same, ?_⟩⟩
    have R1 := R.same s1
    have oa : a ∉ F ++ O := fun z => R1.th a z na
    have od : dx ∉ F ++ O := fun z => R1.th dx z nd
    have s2 : Same H1 (upd (upd (upd (upd H1 a (.ext (exN a C))) dx (.xd (ns.zip vs))) a (.ext (exF a C dx))) a (.ext (exO a C dx))) := fun b o q => by
      rw [upd_ne (ne_of_none q na), upd_ne (ne_of_none q na), upd_ne (ne_of_none q nd), upd_ne (ne_of_none q na)]; exact q
    refine h3 O σ a _ (R1.same s2) (rp_exc.mpr ⟨a, C, U, dx, vs, rfl, G.at_, G.xc, ?_, ?_, h1.symm, r1.mono s2.mask⟩)
    · rw [mask_out oa]; exact upd_same
    · rw [mask_out od, upd_ne ne, upd_ne ne]; exact upd_same) h⟩
end

section
variable {P : Program} {w : World} {K : PySem.W.Frag} {mg : Str → Option Value} {base : Heap}
theorem Fun.okX {x qual : Str} {st : Stmt} {f : Addr} {fd : FuncData} {N ps : List Str} {k : Nat} {sp : DSpX} (F : Fun K x qual st f fd) (S : FnScope N ps (defScope st)) (len : ∀ ds Q E, sp ds Q E → ds.length = ps.length)
    (hbody : ∀ (cdv : Value) (A : Around) (outer : List Env) (s : Shared) (H : Hp) (E : XK), Room k (A.deeper (envOfC qual (defScope st) s.heap.objs.size f cdv)) →
      ∃ t, DSsX (cxOf (CXe P w) P w K mg base N qual (defScope st) f cdv A outer s H E) (defBody st) t ∧ ∀ ds Q Ex, sp ds Q Ex → t ⟨{ nx := fun _ => Q .non, rt := Q }, fun _ => Ex⟩ (dstart N ds)) : FnOk P w K mg base (CXe P w) (k + 1) f fd ps (lSpX K sp) := by
  obtain ⟨oc, od, kV, doc, pm, an, cdv, ct, osl, rfl, lk, hcd⟩ := F.ex
  refine fn_of lk hcd S (fun vs H Q E ⟨F, ds, _, r, h⟩ => by rw [r.len]; exact len _ _ _ h) fun A outer s H vs Q E hr ⟨F', ds, hF, r, h⟩ => ?_
  obtain ⟨t, T, q⟩ := hbody cdv A outer s H E hr
  refine ⟨_, T.ps, H, F', [], dstart N ds, rep_start hF r, T.mono (D := ⟨{ nx := fun _ => ∀ v H', Same H H' → Rp K (mask F' H') .non v → Q v H', rt := fun d => ∀ v H', Same H H' → Rp K (mask F' H') d v → Q v H' }, fun _ x => ∀ a H', Same H H' → Rp K (mask F' H') x (.ref a) → E (.ref a) none H'⟩) ⟨⟨?_, ?_, fun _ z => False.elim z, fun _ z => False.elim z⟩, ?_⟩ (q ds _ _ h)⟩
  · exact fun ρ z O' σ' H' R' => z .non H' R'.base (rp_non.mpr rfl)
  · exact fun d z v H' s' r' => z v H' s' r'
  · exact fun ρ x z O' σ' a H' R' r' => wish_of fun H2 s2 => z a H2 (R'.base.trans s2) ((r'.mono mask_app).mono s2.mask)
end
def specX {τ : Type} (args : τ → List Dt) (pre : τ → Prop) (good : τ → Prop) (post : τ → Dt → Prop) (exc : τ → Dt) : DSpX := fun ds Q E => ∃ p, ds = args p ∧ pre p ∧ (good p → ∀ d, post p d → Q d) ∧ (¬ good p → E (exc p))
theorem specX_mono {τ : Type} {args : τ → List Dt} {pre good : τ → Prop} {post : τ → Dt → Prop} {exc : τ → Dt} : MonoX (specX args pre good post exc) := fun _ _ _ _ _ hq hx ⟨p, e, h, q, x⟩ => ⟨p, e, h, fun g d z => hq _ (q g d z), fun g => hx _ (x g)⟩
theorem specX_of {τ : Type} {args : τ → List Dt} {pre good : τ → Prop} {post : τ → Dt → Prop} {exc : τ → Dt} {Q E : Dt → Prop} (p : τ) (h : pre p) (k : good p → ∀ d, post p d → Q d) (x : ¬ good p → E (exc p)) : specX args pre good post exc (args p) Q E := ⟨p, rfl, h, k, x⟩
end L2

namespace L2
open PySem PySem.Spec PyProof.Rows PySem.SeqAt

section
variable {X : Cx} {pins : List (Addr × Obj)} {σ : St} {H : Hp} {s : Shared}
theorem Inv.forget {j : Nat} {n : Str} {m : Str → Option Value} {u : Option Value} {h' : Heap} (I : Inv X pins σ H s) (hN : X.N.Nodup) (hj : X.N[j]? = some n) (hl : ∀ (i : Nat) (x : Str) (v : V), X.N[i]? = some x → σ[i]? = some (some v) → Vis X.env.scope x → ∃ u, RelV v u ∧ Look X.env s.heap m x u)
    (hn : h'.Ns X.env.locals (fun x => if x = n then u else m x)) (sb : Heap.SameBut X.env.locals s.heap h') : Inv X pins (σ.set j none) H { s with heap := h' } := by
  have ne : ∀ b o, X.s₀.heap.get? b = some o → b ≠ X.env.locals := fun b o e => Nat.ne_of_lt (Nat.lt_of_lt_of_le (Heap.lt_size e) I.ok.above)
  refine ⟨I.ok, I.os, I.bare, ⟨fun b o e n hb hx => (sb.2 b (ne b o e)).trans (I.base.keep b o e n hb hx), fun b o e n hb hx => ?_, I.base.free, fun b o e hx => ?_, I.base.tups, I.base.frzs, I.base.tbls⟩, ⟨_, hn, fun i y v e1 e2 e3 => ?_⟩, fun y c e => ?_, I.free, I.freeC, fun p hp => ?_, fun b ob e => ?_, by simpa using I.len⟩
  · obtain ⟨sl, e1⟩ := I.base.slot b o e n hb hx
    exact ⟨sl, (sb.2 b (ne b o e)).trans e1⟩
  · obtain ⟨o', e1⟩ := I.base.there b o e hx
    exact ⟨o', (sb.2 b (ne b o e)).trans e1⟩
  · have hij : i ≠ j := fun z => by
      subst z
      by_cases hk : i < σ.length
      · rw [List.getElem?_set_self hk] at e2; cases e2
      · rw [List.getElem?_eq_none (by simpa using hk)] at e2; cases e2
    rw [List.getElem?_set_ne (Ne.symm hij)] at e2
    obtain ⟨u', r', q⟩ := hl i y v e1 e2 e3
    refine ⟨u', r', ?_⟩
    rcases q with ⟨k, e⟩ | ⟨k, c, e, z⟩
    · have : y ≠ n := fun e => hij (nodup_ix hN e1 (e ▸ hj))
      exact .inl ⟨k, by simp [this, e]⟩
    · exact .inr ⟨k, c, e, z.sameBut sb (I.cne y c e)⟩
  · obtain ⟨w', z⟩ := I.cell y c e
    exact ⟨w', z.sameBut sb (I.cne y c e)⟩
  · obtain ⟨e, n, ne, nf, d⟩ := I.pin p hp
    exact ⟨(sb.2 p.1 ne).trans e, n, ne, nf, d⟩
  · refine (I.hok b ob e).stay (fun c w' hc q => (sb.2 c ?_).trans q) (fun _ q => q) fun _ _ q => q
    rintro rfl
    rcases hc with hc | hc
    · rw [← hc, I.free] at e; cases e
    · rw [I.free] at hc; cases hc
theorem unbind_ok {M : Model} {A : Around} {E : Value → Shared → Prop} {j : Nat} {n : Str} {pos : Pos} {Q : Unit → Shared → Prop} (I : Inv X pins σ H s) (hN : X.N.Nodup) (hj : X.N[j]? = some n) (hk : X.env.scope.names.lookup n = some .local)
    (h : ∀ s', Inv X pins (σ.set j none) H s' → Q () s') : wpAny M A (bindName X.env n .none >>= fun _ => unbindBehindTheSuite X.env n pos) Q E s := by
  refine wpAny_bind (wpAny_bindName (store_ok (v := .non) I hN hj (.inl hk) rfl (fun s1 I1 => ?_) (.inr hk)))
  obtain ⟨m, hn, hl⟩ := id I1.loc
  have hjσ : j < σ.length := by rw [I.len]; exact (List.getElem?_eq_some_iff.mp hj).1
  obtain ⟨u, r, q⟩ := hl j n .non hj (List.getElem?_set_self hjσ) (.inl hk)
  have hm : m n = some u := by
    rcases q with ⟨_, e⟩ | ⟨k, _⟩
    · exact e
    · rcases k with k | k
      · have k : X.env.scope.names.lookup n = some .cell := k
        rw [hk] at k; cases k
      · have k : X.env.scope.names.lookup n = some .free := k
        rw [hk] at k; cases k
  have hp : (X.env.scope.kind == .class || (X.env.scope.kind == .module && X.env.locals != X.env.globals)) = false := by rw [I.ok.kind]; rfl
  unfold unbindBehindTheSuite
  refine wpAny_onRaise (wpAny_mono (wpAny_unbindName_local (E := fun _ _ => False) hk hn hm hp fun h' u' hn' sb => ?_) (fun _ _ z => z) fun _ _ z => z.elim)
  refine h _ ?_
  have := I1.forget hN hj hl hn' sb
  rwa [List.set_set] at this

abbrev Cx.body (X : Cx) (W : Value → Shared → Prop) (pn : List (Addr × Obj)) : Cx := { X with xe := W, pn := pn }
abbrev Cx.suite (X : Cx) (a : Addr) : Cx := { X with A := X.A.mark (some (.ref a)), calm := false, xe := fun _ _ => False }
theorem Inv.body (I : Inv X pins σ H s) (W : Value → Shared → Prop) : Inv (X.body W (X.pn ++ pins)) [] σ H s :=
  ⟨⟨I.ok.mod, I.ok.kind, I.ok.glob, I.ok.blt, I.ok.above, I.ok.inj, I.ok.has, I.ok.cab, I.ok.hd, I.ok.frames, I.ok.stk, I.ok.exf, I.ok.bs, I.ok.bsz, I.ok.noex, I.ok.exfs, I.ok.funs, I.ok.frf⟩, I.os, I.bare, I.base, I.loc, I.cell, I.free, I.freeC, fun p hp => I.pin p (by simpa using hp), I.hok, I.len⟩
theorem Inv.unbody {W : Value → Shared → Prop} {pins' : List (Addr × Obj)} (I : Inv (X.body W (X.pn ++ pins)) pins' σ H s) : Inv X pins σ H s :=
  ⟨⟨I.ok.mod, I.ok.kind, I.ok.glob, I.ok.blt, I.ok.above, I.ok.inj, I.ok.has, I.ok.cab, I.ok.hd, I.ok.frames, I.ok.stk, I.ok.exf, I.ok.bs, I.ok.bsz, I.ok.noex, I.ok.exfs, I.ok.funs, I.ok.frf⟩, I.os, I.bare, I.base, I.loc, I.cell, I.free, I.freeC, fun p hp => I.pin p (List.mem_append_left _ hp), I.hok, I.len⟩
theorem Inv.suite (I : Inv X pins σ H s) (a : Addr) : Inv (X.suite a) pins σ H s :=
  ⟨⟨I.ok.mod, I.ok.kind, I.ok.glob, I.ok.blt, I.ok.above, I.ok.inj, I.ok.has, I.ok.cab, fun z => (by cases z), I.ok.frames, I.ok.stk, I.ok.exf, I.ok.bs, I.ok.bsz, I.ok.noex, I.ok.exfs, I.ok.funs, I.ok.frf⟩, I.os, I.bare, I.base, I.loc, I.cell, I.free, I.freeC, I.pin, I.hok, I.len⟩
theorem Inv.unsuite {a : Addr} (I : Inv (X.suite a) pins σ H s) (hd : X.calm = true → X.A.handled = none) : Inv X pins σ H s :=
  ⟨⟨I.ok.mod, I.ok.kind, I.ok.glob, I.ok.blt, I.ok.above, I.ok.inj, I.ok.has, I.ok.cab, hd, I.ok.frames, I.ok.stk, I.ok.exf, I.ok.bs, I.ok.bsz, I.ok.noex, I.ok.exfs, I.ok.funs, I.ok.frf⟩, I.os, I.bare, I.base, I.loc, I.cell, I.free, I.freeC, I.pin, I.hok, I.len⟩
end

structure XU (K : PySem.W.Frag) (mg : Str → Option Value) (c : Str) (U : Addr) : Prop where
  gl : mg c = some (.ref U)
  obj : ∃ nm q N bs hd sn sub ab col dd k0 k1 k2 k3 k5 id, K.lookup U = some (excClassObj nm q U N bs bmV hd sn sub ab col dd k0 k1 k2 k3 k5 id)
theorem xmatch {M : Model} {A : Around} {E : Value → Shared → Prop} {s : Shared} {K : PySem.W.Frag} {mg : Str → Option Value} {C U e : Addr} {oe : Obj} {c : Str} {Q : Bool → Shared → Prop} (X : K.In s.heap) (x : XC K C U) (u : XU K mg c U) (he : s.heap.get? e = some oe) (hc : oe.cls = .ref C) (q : Q true s) :
    wpAny M A (excMatches (.ref e) (.ref U)) Q E s := by
  obtain ⟨nm, q1, N, bs, sn, sub, ab, col, dd, k0, k1, k2, k3, k5, lk⟩ := x.obj
  obtain ⟨nm', q1', N', bs', hd', sn', sub', ab', col', dd', k0', k1', k2', k3', k5', id', lk'⟩ := u.obj
  obtain ⟨h, g, d, t, os⟩ := s
  have oC : h.get? C = some _ := X _ _ lk
  have oU : h.get? U = some _ := X _ _ lk'
  have c1 : (Value.ref U :: bmV).contains (.type "BaseException") = true := by simp
  have c2 : (Value.ref C :: (.ref U :: bmV)).contains (.ref U) = true := by simp
  have nt := tc_notTuple
  unfold excMatches
  repeat (first | (with_reducible refine wpAny_loadPart_at he ?_; rw [hc]) | with_reducible refine wpAny_loadPart_at oU ?_ | (with_reducible refine wpAny_isSubtype_exc oU ?_; rw [c1]) | (with_reducible refine wpAny_isSubtype_exc oC ?_; rw [c2]) | wp_step)
  exact q

theorem XC.uniq {K : PySem.W.Frag} {C U U' : Addr} (x : XC K C U) (y : XC K C U') : U = U' := by
  obtain ⟨nm, q1, N, bs, sn, sub, ab, col, dd, k0, k1, k2, k3, k5, lk⟩ := x.obj
  obtain ⟨nm', q1', N', bs', sn', sub', ab', col', dd', k0', k1', k2', k3', k5', lk'⟩ := y.obj
  rw [lk] at lk'
  injection lk' with e
  injection e with _ _ e _
  injection e with e
  injection e with _ _ e
  injection e with _ e
  injection e with e _
  injection e
def Under (K : PySem.W.Frag) (mg : Str → Option Value) (c T : Str) : Prop := ∀ C U, PySem.W.nsIn K mainGlobals c = some (some (.ref C)) → XC K C U → mg T = some (.ref U)
theorem Rep.unset {K : PySem.W.Frag} {B : Hp} {F O : List Addr} {H : Hp} {σ : St} {ρ : DEnv} (r : Rep K B F O H σ ρ) (j : Nat) : Rep K B F O H (σ.set j none) (ρ.set j none) := by
  have back : ∀ (i : Nat) (x : En), (ρ.set j none)[i]? = some (some x) → i ≠ j ∧ ρ[i]? = some (some x) := fun i x e => by
    by_cases hi : i = j
    · subst hi
      by_cases hk : i < ρ.length
      · rw [List.getElem?_set_self hk] at e; cases e
      · rw [List.getElem?_eq_none (by simpa using hk)] at e; cases e
    · rw [List.getElem?_set_ne (Ne.symm hi)] at e; exact ⟨hi, e⟩
  refine ⟨by simpa using r.len, r.base, r.fr, r.th, fun i d e => ?_, fun i ds e => ?_, fun i k ds es a h1 h2 h3 h4 => ?_⟩
  · obtain ⟨n, e⟩ := back i _ e
    rw [List.getElem?_set_ne (Ne.symm n)]; exact r.is i d e
  · obtain ⟨n, e⟩ := back i _ e
    rw [List.getElem?_set_ne (Ne.symm n)]; exact r.own i ds e
  · obtain ⟨n1, e1⟩ := back i _ h1
    obtain ⟨n2, e2⟩ := back k _ h2
    rw [List.getElem?_set_ne (Ne.symm n1)] at h3
    rw [List.getElem?_set_ne (Ne.symm n2)] at h4
    exact r.inj i k ds es a e1 e2 h3 h4
theorem calmed {X : Cx} {pins : List (Addr × Obj)} {σ : St} {H : Hp} {s : Shared} {a : Addr} {M : Model} {A : Around} {E : Value → Shared → Prop} {Q : Unit → Shared → Prop} (I : Inv X pins σ H s) (fl : Flight s.heap H a) (q : ∀ s', Inv X pins σ H s' → Q () s') : wpAny M A (setFlight (.ref a) none) Q E s := by
  obtain ⟨o, vs, e1, e2, e3⟩ := fl
  unfold setFlight
  rcases e3 with e3 | ⟨T, e3, e4, e5⟩
  · refine wpAny_bind (wpAny_field e1 e2 e3 ?_)
    rw [if_neg (by simp)]
    exact wpAny_pure (q s I)
  · refine wpAny_bind (wpAny_field e1 e2 e3 ?_)
    rw [if_pos (by simp)]
    obtain ⟨⟨oT, ts, t1, t2, t3⟩, _, _⟩ := I.hok T _ e5
    have tz : 3 < ts.size := (Array.getElem?_eq_some_iff.mp t3).1
    have d' := Obj.data_mapFields t2 (·.setIfInBounds 3 Value.none)
    have t' := Heap.get?_update_self (Obj.mapFields (·.setIfInBounds 3 Value.none)) t1 (Obj.isFreed_of_fields d')
    refine wpAny_setField t1 t2 tz (q _ ?_)
    have J := I.write (x := T) (e := T) (o := .ext (tbO T)) (t' := s.toks) (h' := s.heap.update T (Obj.mapFields (·.setIfInBounds 3 Value.none))) (by rw [e5]; exact True.intro) (.inl rfl) (fun b u n e => (Heap.get?_update_other _ _ (Ne.symm n)).trans e) ⟨_, t'⟩ ⟨⟨_, _, t', d', by simp [tz]⟩, ⟨_, t'⟩, tbO_stay⟩
    have eH : upd H T (.ext (tbO T)) = H := by
      funext b
      by_cases z : b = T
      · rw [z, upd_same, e5]
      · rw [upd_ne z]
    rw [eH] at J
    exact J

section
variable {X : Cx} {tb : DTSX} {ts : DTS} {pos tp hp : Pos} {T n : Str} {U : Addr} {body suite : List Stmt} {b₀ : Stmt}
def xcatch (K : PySem.W.Frag) (mg : Str → Option Value) (T : Str) (j : Nat) (ts : DTS) (D : DEnds) (ρ : DEnv) (x : Dt) : Prop := match x with
  | .exc c ns ds => Under K mg c T ∧ ts { nx := fun ρ2 => D.nx (ρ2.set j none), rt := fun _ => False } (ρ.set j (some (.is (.exc c ns ds))))
  | _ => False
def dTry (K : PySem.W.Frag) (mg : Str → Option Value) (T : Str) (j : Nat) (tb : DTSX) (ts : DTS) : DTSX := fun D ρ => tb ⟨D.d, xcatch K mg T j ts D.d⟩ ρ
theorem dsx_try (j : Nat) (u : XU X.K X.mg T U) (hN : X.N.Nodup) (hb : ∀ W pn, DSsX (X.body W pn) body tb) (hs : ∀ a, DSs (X.suite a) (b₀ :: suite) ts) (hst : X.stack = X.env :: X.outer := by rfl) (hfr : X.env.frame = some X.env.locals := by rfl) (hj : X.N[j]? = some n := by rfl) (hk : X.env.scope.names.lookup n = some .local := by rfl) (hg : Gl X T := by rfl)
    (hd : (T == ("__debug__" : Str)) = false := by decide) : DSX X (.Try body [.ExceptHandler (some (.Name T tp)) (some n) (b₀ :: suite) hp] [] [] pos) (dTry X.K X.mg T j tb ts) where
  mono := fun {ρ D D'} hd h => (hb X.xe X.pn).mono (D := ⟨D.d, xcatch X.K X.mg T j ts D.d⟩) ⟨hd.d, fun ρ' x z => by
    revert z
    dsimp only
    unfold xcatch
    split
    · exact fun z => ⟨z.1, (hs 0).mono (D := { nx := fun ρ2 => D.d.nx (ρ2.set j none), rt := fun _ => False }) ⟨fun _ q => hd.d.nx _ q, fun _ q => q, fun _ q => q, fun _ q => q⟩ z.2⟩
    · exact fun z => z⟩ h
  ps := by
    rintro pins s σ H D I ⟨B, F, O, ρ, R, h⟩
    refine wpAny_Try_except ?_
    refine wpAny_mono ((hb (fun e s₁ => wpAny (model X.prog X.w) X.A (noteFrame e X.env) (fun _ s₂ => wpAny (model X.prog X.w) X.A (setFlight e none) (fun _ s₃ => wpAny (model X.prog X.w) X.A (handleBy e X.env [.ExceptHandler (some (.Name T tp)) (some n) (b₀ :: suite) hp]) (SP X pins D) X.xe s₃) X.xe s₂) X.xe s₁) (X.pn ++ pins)).ps [] s σ H D (I.body _) ⟨B, F, O, ρ, R, (hb X.xe X.pn).mono (D := ⟨(lDX X B F D).d, xcatch X.K X.mg T j ts (lDX X B F D).d⟩) ⟨⟨fun _ q => q, fun _ q => q, fun _ q => q, fun _ q => q⟩, fun ρ' x z => ?_⟩ h⟩) (fun f s1 q => ?_) fun e s1 q => q
    · revert z
      dsimp only
      unfold xcatch
      split
      · rintro ⟨un, z⟩ O' σ' a H' R' rp pins' s1 I1 fl ex
        have I2 : Inv X pins σ' H' s1 := I1.unbody
        obtain ⟨a', C, U', dx, vs, ea, h1, xc, h2, h3, h4, h5⟩ := rp_exc.mp rp
        obtain rfl : a = a' := V.ref.inj ea
        refine lands I2 hst hfr fl ex fun H2 s2 sm I3 fl2 => ?_
        refine wpAny_handleBy_cons (codeAny_handlers_test (ld_glob (X := X.suite a) (E := fun x s₁ => _) (I3.suite a) hg u.gl ?_ hd)) (by intro q; cases q)
        have eU : U' = U := by
          have := (un C U' h1 xc).symm.trans u.gl
          injection this with this
          injection this
        subst eU
        have h2' := I3.hok a _ (sm _ _ (mask_le _ _ h2))
        obtain ⟨⟨oe, _, k1, k2, _⟩, _, _⟩ := h2'
        refine xmatch I3.kIn xc u k1 k2 ?_
        refine codeAny_handlers_suite_as (calmed I3 fl2 fun s3 I4 => ?_)
        refine store_ok (X := X.suite a) (v := .ref a) (I4.suite a) hN hj (.inl hk) rfl (fun s4 I5 => ?_) (.inr hk)
        have R2 := (R'.same sm).set j (rp.mono sm.mask)
        refine wpAny_mono ((hs a).ps pins s4 _ H2 { nx := fun σ5 H5 => D.nx (σ5.set j none) H5, rt := fun _ _ => False } I5 ⟨B, F, O', _, R2, (hs a).mono (D := { nx := fun ρ2 => (lDX X B F D).d.nx (ρ2.set j none), rt := fun _ => False }) ⟨fun ρ5 q O5 σ5 H5 R5 => q O5 _ H5 (R5.unset j), fun _ q => q.elim, fun _ q => q.elim, fun _ q => q.elim⟩ z⟩) (fun f s5 q => ?_) fun _ _ z => z.elim
        cases f with
        | next =>
          obtain ⟨σ5, H5, I6, q⟩ := q
          exact unbind_ok (I6.unsuite I.ok.hd) hN hj hk fun s6 I7 => ⟨_, H5, I7, q⟩
        | brk => obtain ⟨_, _, _, q⟩ := q; exact q.elim
        | cont => obtain ⟨_, _, _, q⟩ := q; exact q.elim
        | ret u => obtain ⟨_, _, _, _, _, q⟩ := q; exact q.elim
      · exact fun z => z.elim
    · cases f with
      | next =>
        obtain ⟨σ', H', I', q⟩ := q
        exact wpAny_execs_nil ⟨σ', H', I'.unbody, q⟩
      | brk => obtain ⟨σ', H', I', q⟩ := q; exact ⟨σ', H', I'.unbody, q⟩
      | cont => obtain ⟨σ', H', I', q⟩ := q; exact ⟨σ', H', I'.unbody, q⟩
      | ret u => obtain ⟨v, σ', H', I', r, q⟩ := q; exact ⟨v, σ', H', I'.unbody, r, q⟩
end
end L2

namespace L2
open PySem PySem.Spec PyProof.Rows PySem.SeqAt

def SubX (K : PySem.W.Frag) (c : Str) (A : Addr) (b : Bool) : Prop := ∀ C, PySem.W.nsIn K mainGlobals c = some (some (.ref C)) → PySem.W.kitOne K (.ref C) (.ref A) = some b
def SubXs (K : PySem.W.Frag) (c : Str) (As : List Addr) (b : Bool) : Prop := ∀ C, PySem.W.nsIn K mainGlobals c = some (some (.ref C)) → PySem.W.kitAny K (.ref C) (As.map .ref) = some b
def NoAt (K : PySem.W.Frag) (c f : Str) : Prop := ∀ C, PySem.W.nsIn K mainGlobals c = some (some (.ref C)) → PySem.W.findIn K (.ref C) f = some none
theorem SubXs.nil {K : PySem.W.Frag} {c : Str} : SubXs K c [] false := fun _ _ => rfl
theorem SubXs.cons {K : PySem.W.Frag} {c : Str} {A : Addr} {As : List Addr} (h : SubX K c A false) (r : SubXs K c As false) : SubXs K c (A :: As) false := fun C e => by
  show PySem.W.kitAny K (.ref C) (.ref A :: As.map .ref) = some false
  unfold PySem.W.kitAny
  rw [h C e]
  exact r C e
theorem refs_of : ∀ {As : List Addr} {its : List Value}, Vals (As.map V.ref) its → its = As.map .ref
  | [], _, rv => by cases rv; rfl
  | A :: As, _, rv => by
    cases rv with
    | cons z1 z2 => rw [refs_of z2]; rw [show _ = Value.ref A from z1]; rfl
theorem XC.inst {X : Cx} {pins : List (Addr × Obj)} {σ : St} {H : Hp} {s : Shared} {a C dx : Addr} {fs : List (Str × V)} (I : Inv X pins σ H s) (h1 : H a = some (.ext (exO a C dx))) (h2 : H dx = some (.xd fs)) :
    ∃ (ox od : Obj) (mA : Str → Option Value), PySem.W.InstAt s.heap a ox C (some od) ∧ (∀ name, PySem.W.lookIn name od = some (mA name)) ∧ ∀ f, RelO (fs.lookup f) (mA f) := by
  obtain ⟨⟨o, vs, e1, e2, e3, e4, _⟩, _, _⟩ := I.hok a _ h1
  obtain ⟨mA, n, r⟩ := (show ObjOk X.prog X.w H s.heap dx (.xd fs) from I.hok dx _ h2)
  obtain ⟨od, e5, e6⟩ := lookIn_ns n
  exact ⟨o, od, mA, ⟨e1, e2, by unfold PySem.W.notCls; rw [e4], by rw [e3]; exact e5⟩, e6, r⟩
section
variable {X : Cx} {a b c e : Expr} {es : List Expr} {ta tb te : DTE} {tl : DTA} {pos : Pos}
theorem call_isx : CallR X (.builtin "isinstance") (fun xs H Q => ∃ c ns ds x A v, xs = [x, .ref A] ∧ Rp X.K H (.exc c ns ds) x ∧ SubX X.K c A v ∧ Q (.bl v) H) := by
  intro pins s σ H xs us Q I r ⟨c, ns, ds, x, A, v, e, rp, sx, q⟩
  subst e
  obtain ⟨u, u2, rfl, r1, r2⟩ := vals2 r
  cases (show u2 = .ref A from r2)
  obtain ⟨a, C, U, dx, vs, rfl, h1, xc, h2, h3, _, _⟩ := rp_exc.mp rp
  cases (show u = .ref a from r1)
  obtain ⟨ox, od, mA, J, _, _⟩ := XC.inst I h2 h3
  exact PySem.W.kia_one (xkit xc) I.kIn ⟨ox, od, J⟩ (sx C h1) (fun z => nomatch z) fun tk => ⟨.bl _, H, I.tok tk, rfl, q⟩
theorem call_isxs : CallR X (.builtin "isinstance") (fun xs H Q => ∃ c ns ds x t As v, xs = [x, .ref t] ∧ Rp X.K H (.exc c ns ds) x ∧ SqT X.K H t (As.map .ref) ∧ SubXs X.K c As v ∧ Q (.bl v) H) := by
  intro pins s σ H xs us Q I r ⟨c, ns, ds, x, t, As, v, e, rp, ht, sx, q⟩
  subst e
  obtain ⟨u, u2, rfl, r1, r2⟩ := vals2 r
  cases (show u2 = .ref t from r2)
  obtain ⟨a, C, U, dx, vs, rfl, h1, xc, h2, h3, _, _⟩ := rp_exc.mp rp
  cases (show u = .ref a from r1)
  obtain ⟨ox, od, mA, J, _, _⟩ := XC.inst I h2 h3
  obtain ⟨its, rv, ⟨o, k1, k2, n, k3⟩, _⟩ := I.tuple ht
  have ei : its = As.map .ref := refs_of rv
  subst ei
  obtain ⟨oc, odd, dt, osl⟩ := o
  cases k2
  cases k3
  exact PySem.W.kia_tup (xkit xc) I.kIn ⟨ox, od, J⟩ k1 (by simpa using sx C h1) (fun z => nomatch z) fun tk => ⟨.bl _, H, I.tok tk, rfl, q⟩

def dIsx (K : PySem.W.Frag) : DL := fun ds Q => match ds with
  | [.exc c _ _, .fn A] => ∃ v, SubX K c A v ∧ Q (.bl v)
  | _ => False
theorem sem_isx {K : PySem.W.Frag} : SemL K (fun xs H Q => ∃ c ns ds x A v, xs = [x, .ref A] ∧ Rp K H (.exc c ns ds) x ∧ SubX K c A v ∧ Q (.bl v) H) (dIsx K) where
  mono := fun hq h => by
    unfold dIsx at h ⊢
    split at h
    · exact let ⟨v, h1, h2⟩ := h; ⟨v, h1, hq _ h2⟩
    · exact h.elim
  ok := fun O H ds xs Q _ r h => by
    unfold dIsx at h
    split at h
    · obtain ⟨v, h1, h2⟩ := h
      obtain ⟨x, xr, rfl, r1, r2⟩ := rpl_cons.mp r
      obtain ⟨y, yr, rfl, r3, r4⟩ := rpl_cons.mp r2
      rw [rpl_nil.mp r4, rp_fn.mp r3]
      exact ⟨_, _, _, x, _, v, rfl, r1.mono mask_le, h1, h2 _ H (Same.refl H) (rp_bl.mpr rfl)⟩
    · exact h.elim
def dIsxs (K : PySem.W.Frag) : DL := fun ds Q => match ds with
  | [.exc c _ _, .tup es] => ∃ As v, es = As.map .fn ∧ SubXs K c As v ∧ Q (.bl v)
  | _ => False
theorem fns_of {K : PySem.W.Frag} {H : Hp} : ∀ {As : List Addr} {vs : List V}, RpL K H (As.map Dt.fn) vs → vs = As.map .ref
  | [], _, h => rpl_nil.mp h
  | A :: As, _, h => by
    obtain ⟨v, r, rfl, h1, h2⟩ := rpl_cons.mp h
    rw [fns_of h2, rp_fn.mp h1]; rfl
theorem sem_isxs {K : PySem.W.Frag} : SemL K (fun xs H Q => ∃ c ns ds x t As v, xs = [x, .ref t] ∧ Rp K H (.exc c ns ds) x ∧ SqT K H t (As.map .ref) ∧ SubXs K c As v ∧ Q (.bl v) H) (dIsxs K) where
  mono := fun hq h => by
    unfold dIsxs at h ⊢
    split at h
    · exact let ⟨As, v, h0, h1, h2⟩ := h; ⟨As, v, h0, h1, hq _ h2⟩
    · exact h.elim
  ok := fun O H ds xs Q _ r h => by
    unfold dIsxs at h
    split at h
    · obtain ⟨As, v, rfl, h1, h2⟩ := h
      obtain ⟨x, xr, rfl, r1, r2⟩ := rpl_cons.mp r
      obtain ⟨y, yr, rfl, r3, r4⟩ := rpl_cons.mp r2
      obtain ⟨t, ys, rfl, q1, q2⟩ := rp_tup.mp r3
      rw [rpl_nil.mp r4]
      rw [fns_of q2] at q1
      exact ⟨_, _, _, x, t, As, v, rfl, r1.mono mask_le, mask_le.seqT q1, h1, h2 _ H (Same.refl H) (rp_bl.mpr rfl)⟩
    · exact h.elim
theorem de_isx {p : Pos} (hm : X.mg "isinstance" = none) (ha : DA X [a, b] tl) (hg : Gl X "isinstance" := by rfl) (hv : bootBuiltins "isinstance" = some (.builtin "isinstance") := by rfl) (he : starEach [a, b] X.env = (false, eval a X.env) :: starEach [b] X.env := by rfl)
    (hpl : (backTo pos (starEach [b] X.env)).any (·.1) = false := by rfl) : DE X (.Call (.Name "isinstance" p) [a, b] [] pos) (dCB (dIsx X.K) tl) := de_cb call_isx sem_isx hg hm hv ha (he := he) (hpl := hpl)
theorem de_isxs {p : Pos} (hm : X.mg "isinstance" = none) (ha : DA X [a, b] tl) (hg : Gl X "isinstance" := by rfl) (hv : bootBuiltins "isinstance" = some (.builtin "isinstance") := by rfl) (he : starEach [a, b] X.env = (false, eval a X.env) :: starEach [b] X.env := by rfl)
    (hpl : (backTo pos (starEach [b] X.env)).any (·.1) = false := by rfl) : DE X (.Call (.Name "isinstance" p) [a, b] [] pos) (dCB (dIsxs X.K) tl) := de_cb call_isxs sem_isxs hg hm hv ha (he := he) (hpl := hpl)
theorem de_class {x : Str} {A : Addr} {pos : Pos} (hm : X.mg x = some (.ref A)) (hg : Gl X x := by rfl) (hd : (x == ("__debug__" : Str)) = false := by decide) : DE X (.Name x pos) (dC (.fn A)) := de_glob (v := .ref A) hg hm rfl (fun _ => rp_fn.mpr rfl) hd

theorem XC.value {K : PySem.W.Frag} {C U : Addr} (c : XC K C U) : PySem.W.kitOne K (.ref C) (.type "ValueError") = some true := by
  unfold PySem.W.kitOne
  rw [if_neg (by simp)]
  show (if PySem.W.kitMeta "ValueError" = true then PySem.W.mroIn K C (.type "ValueError") else none) = some true
  rw [if_pos (by decide +kernel), c.sub]
  simp
theorem call_isv : CallR X (.builtin "isinstance") (fun xs H Q => ∃ c ns ds x, xs = [x, .ty "ValueError"] ∧ Rp X.K H (.exc c ns ds) x ∧ Q (.bl true) H) := by
  intro pins s σ H xs us Q I r ⟨c, ns, ds, x, e, rp, q⟩
  subst e
  obtain ⟨u, u2, rfl, r1, r2⟩ := vals2 r
  cases (show u2 = .type "ValueError" from r2)
  obtain ⟨a, C, U, dx, vs, rfl, h1, xc, h2, h3, _, _⟩ := rp_exc.mp rp
  cases (show u = .ref a from r1)
  obtain ⟨ox, od, mA, J, _, _⟩ := XC.inst I h2 h3
  exact PySem.W.kia_one (xkit xc) I.kIn ⟨ox, od, J⟩ xc.value (fun z => nomatch z) fun tk => ⟨.bl _, H, I.tok tk, rfl, q⟩
def dIsv (ta : DTE) : DTE := fun ρ Q => ta ρ fun d => match d with
  | .exc _ _ _ => Q (.bl true)
  | _ => False
theorem de_isv {p p2 : Pos} (hm : X.mg "isinstance" = none) (hmT : X.mg "ValueError" = none) (ha : DE X a ta) (hg : Gl X "isinstance" := by rfl) (hgT : Gl X "ValueError" := by rfl) (hv : bootBuiltins "isinstance" = some (.builtin "isinstance") := by rfl)
    (hvT : bootBuiltins "ValueError" = some (.type "ValueError") := by rfl)
    (hs1 : starEach [a, .Name "ValueError" p2] X.env = (false, eval a X.env) :: starEach [.Name "ValueError" p2] X.env := by rfl) (hs2 : starEach [.Name "ValueError" p2] X.env = (false, eval (.Name "ValueError" p2) X.env) :: starEach [] X.env := by rfl)
    (hpl : (backTo pos (starEach [.Name "ValueError" p2] X.env)).any (·.1) = false := by rfl) : DE X (.Call (.Name "isinstance" p) [a, .Name "ValueError" p2] [] pos) (dIsv ta) where
  mono := fun hq h => ha.mono (fun d h => by
    split at h
    · exact hq _ h
    · exact h.elim) h
  pe := (pe_callB call_isv hg hm hv (pa_cons ha.pe (pa_cons (pe_bltn (v := .ty "ValueError") hgT hmT hvT rfl (by decide) (by decide)) pa_nil hs2) hs1) (he := hs1) (hpl := hpl)).imp fun σ H Q ⟨B, F, O, ρ, R, h⟩ =>
    ⟨B, F, O, ρ, R, ha.mono (fun d h v H1 s1 r1 => by
      split at h
      · exact ⟨_, _, _, v, rfl, r1.mono mask_le, h _ H1 s1 (rp_bl.mpr rfl)⟩
      · exact h.elim) h⟩

def tXfld (K : PySem.W.Frag) (ta : TE) (f : Str) : TE := fun σ H Q => ta σ H fun x H1 => ∃ a C U dx fs v, x = .ref a ∧ XC K C U ∧ PySem.W.findIn K (.ref C) f = some none ∧ H1 a = some (.ext (exO a C dx)) ∧ H1 dx = some (.xd fs) ∧ fs.lookup f = some v ∧ Q v H1
theorem pe_xfld {f : Str} {ta : TE} (he : PE X e ta) (hb : attributeBase e f X.env (eval e X.env) = eval e X.env := by rfl) : PE X (.Attribute e f pos) (tXfld X.K ta f) := by
  intro pins s σ H Q I h
  refine attr_of hb (thn (he pins s σ H _ I h) fun u s1 ⟨x, H1, I1, rx, a, C, U, dx, fs, v, ex, xc, nf, h1, h2, l, q⟩ => ?_)
  subst ex
  obtain rfl : u = Value.ref a := rx
  obtain ⟨ox, od, mA, J, lk, r⟩ := XC.inst I1 h1 h2
  obtain ⟨cd, hc, _, hd⟩ := xc.cls
  have rf := r f
  rw [l] at rf
  obtain ⟨y, e1, e2⟩ := RelO.some_of rf
  exact xget I1.kIn xc J (PySem.W.findObj_own (by unfold PySem.W.hasDictIn; rw [hc]; exact hd) nf rfl (by rw [lk, e1])) (handed_of e2) ⟨v, H1, I1.tok _, e2, q⟩
theorem zip_get {K : PySem.W.Frag} {H : Hp} {f : Str} {d : Dt} : ∀ {ns : List Str} {ds : List Dt} {vs : List V}, RpL K H ds vs → (ns.zip ds).lookup f = some d → ∃ v, (ns.zip vs).lookup f = some v ∧ Rp K H d v
  | [], _, _, _, h => by simp at h
  | _ :: _, [], _, _, h => by simp at h
  | n :: ns, x :: ds, _, r, h => by
    obtain ⟨v, vr, rfl, r1, r2⟩ := rpl_cons.mp r
    rw [List.zip_cons_cons] at h ⊢
    by_cases q : f = n
    · have hb : (f == n) = true := beq_iff_eq.mpr q
      simp only [List.lookup, hb] at h ⊢
      cases h; exact ⟨v, rfl, r1⟩
    · have hb : (f == n) = false := beq_eq_false_iff_ne.mpr q
      simp only [List.lookup, hb] at h ⊢
      exact zip_get r2 h
def dXfld (K : PySem.W.Frag) (te : DTE) (f : Str) : DTE := fun ρ Q => te ρ fun d => match d with
  | .exc c ns ds => NoAt K c f ∧ ∃ v, (ns.zip ds).lookup f = some v ∧ Q v
  | _ => False
theorem de_xfld {f : Str} (h : DE X e te) (hb : attributeBase e f X.env (eval e X.env) = eval e X.env := by rfl) : DE X (.Attribute e f pos) (dXfld X.K te f) where
  mono := fun hq z => h.mono (fun d z => by
    split at z
    · exact let ⟨a, v, b, c⟩ := z; ⟨a, v, b, hq _ c⟩
    · exact z.elim) z
  pe := (pe_xfld h.pe hb).imp fun σ H Q ⟨B, F, O, ρ, R, z⟩ => ⟨B, F, O, ρ, R, h.mono (fun d z v H1 s1 r1 => by
    split at z
    · obtain ⟨na, y, ly, q⟩ := z
      obtain ⟨a, C, U, dx, vs, rfl, h1, xc, h2, h3, _, h5⟩ := rp_exc.mp r1
      obtain ⟨v, lv, rv⟩ := zip_get h5 ly
      exact ⟨a, C, U, dx, _, v, rfl, xc, na C h1, mask_le _ _ h2, mask_le _ _ h3, lv, q v H1 s1 rv⟩
    · exact z.elim) z⟩
def dCalm (t : DTSX) : DTS := fun D ρ => t ⟨D, fun _ _ => False⟩ ρ
theorem ds_calm {st : Stmt} {t : DTSX} (h : DSX X st t) : DS X st (dCalm t) where
  mono := fun {ρ D D'} hd z => h.mono (D := ⟨D, fun _ _ => False⟩) ⟨hd, fun _ _ q => q⟩ z
  ps := h.ps.imp fun D σ H ⟨B, F, O, ρ, R, z⟩ => ⟨B, F, O, ρ, R, h.mono (D := ⟨lD X.K B F D, fun _ _ => False⟩) ⟨⟨fun _ q => q, fun _ q => q, fun _ q => q, fun _ q => q⟩, fun _ _ q => q.elim⟩ z⟩
end
end L2

namespace L2
open PySem PySem.Spec PyProof.Rows PySem.SeqAt

structure XRT (K : PySem.W.Frag) (mg : Str → Option Value) (c : Str) (ns : List Str) (qual : Str) (st : Stmt) (C U fI : Addr) (fd : FuncData) (ps : List Str) : Prop where
  at_ : PySem.W.nsIn K mainGlobals c = some (some (.ref C))
  gl : mg c = some (.ref C)
  kp : PySem.W.keepIn K (.ref C) = true
  xc : XC K C U
  hi : PySem.W.findIn K (.ref C) "__init__" = some (some (.ref fI))
  hf : PySem.W.typeIn K (.ref fI) = some (.type "function")
  bd : Binds K fd ps []
  ln : ps.length = ns.length + 1
  fn : Fun K "__init__" qual st fI fd
  tk : ∀ f ∈ ns, PySem.W.takerIn K C f = some none
theorem XRT.mk1 {P : Program} {w : World} {K : PySem.W.Frag} {mg : Str → Option Value} {base : Heap} {k : Nat} {c qual : Str} {ns : List Str} {st : Stmt} {C U fI : Addr} {fd : FuncData} {ps : List Str} (R : XRT K mg c ns qual st C U fI fd ps)
    (h : FnOk P w K mg base CX0 k fI fd ps (spIni C ns)) : XR P w K mg base k c ns C U fI fd ps := ⟨R.at_, R.gl, R.kp, R.xc, R.hi, R.hf, R.bd, R.ln, h⟩
section
variable {K : PySem.W.Frag} {mg : Str → Option Value} {c T f : Str} {C U A : Addr} {cd : ClassData}
theorem SubX.self (h : PySem.W.nsIn K mainGlobals c = some (some (.ref C))) : SubX K c C true := fun C' e => by
  rw [h] at e; cases e
  unfold PySem.W.kitOne
  rw [if_pos (by simp)]
theorem SubX.no (h : PySem.W.nsIn K mainGlobals c = some (some (.ref C))) (x : XC K C U) (z : PySem.W.clsIn K A = some cd) (t : PySem.W.typeIn K (.ref A) = some (.type "type")) (m : PySem.W.mroIn K C (.ref A) = some false) : SubX K c A false := fun C' e => by
  rw [h] at e; cases e
  have ne : C ≠ A := fun q => by
    subst q
    rw [x.sub] at m
    simp at m
  unfold PySem.W.kitOne
  rw [if_neg (by simp [ne])]
  show (if ((PySem.W.clsIn K A).isSome && PySem.W.typeIn K (.ref A) == some (.type "type")) = true then PySem.W.mroIn K C (.ref A) else none) = some false
  rw [if_pos (by rw [z, t]; simp), m]
theorem Under.mk (h : PySem.W.nsIn K mainGlobals c = some (some (.ref C))) (x : XC K C U) (m : mg T = some (.ref U)) : Under K mg c T := fun C' U' e y => by
  rw [h] at e; cases e
  rw [x.uniq y] at m
  exact m
theorem NoAt.mk (h : PySem.W.nsIn K mainGlobals c = some (some (.ref C))) (n : PySem.W.findIn K (.ref C) f = some none) : NoAt K c f := fun C' e => by
  rw [h] at e; cases e
  exact n
end
end L2

namespace L2
open PySem PySem.Spec PyProof.Rows PySem.SeqAt

theorem mask_updIn {O : List Addr} {H : Hp} {a : Addr} {o : HO} (h : a ∈ O) : mask O (upd H a o) = mask O H := by
  funext b
  by_cases q : b ∈ O
  · rw [mask_in q, mask_in q]
  · rw [mask_out q, mask_out q, upd_ne (a := a) (fun z => q (by rw [z]; exact h))]
theorem mask_new {F O : List Addr} {H : Hp} {p : Addr} {o : HO} (h : H p = none) : mask (F ++ (p :: O)) (upd H p o) = mask (F ++ O) H := by
  funext b
  by_cases e : b = p
  · subst e
    rw [mask_in (List.mem_append_right _ List.mem_cons_self)]
    by_cases q : b ∈ F ++ O
    · rw [mask_in q]
    · rw [mask_out q, h]
  · by_cases q : b ∈ F ++ O
    · rw [mask_in q, mask_in]
      rcases List.mem_append.mp q with q | q
      · exact List.mem_append_left _ q
      · exact List.mem_append_right _ (List.mem_cons_of_mem _ q)
    · rw [mask_out q, mask_out, upd_ne e]
      intro z
      rcases List.mem_append.mp z with z | z
      · exact q (List.mem_append_left _ z)
      · rcases List.mem_cons.mp z with z | z
        · exact e z
        · exact q (List.mem_append_right _ z)
section
variable {K : PySem.W.Frag} {B : Hp} {F O : List Addr} {H : Hp} {σ : St} {ρ : DEnv}
theorem Rep.newOwn (r : Rep K B F O H σ ρ) (i : Nat) {p : Addr} {ds : List Dt} {xs : List V} (hp : H p = none) (h : RpL K (mask (F ++ O) H) ds xs) : Rep K B F (p :: O) (upd H p (.lst xs)) (σ.set i (some (.ref p))) (ρ.set i (some (.own ds))) := by
  have hl := r.len
  have nF : p ∉ F := fun z => r.th p (List.mem_append_left _ z) hp
  have nO : p ∉ O := fun z => r.th p (List.mem_append_right _ z) hp
  have em := mask_new (F := F) (O := O) (o := .lst xs) hp
  refine ⟨by simpa using hl, r.base.trans (Same.upd hp), fun a h => ?_, fun a h e => ?_, fun j d q => ?_, fun j es q => ?_, fun j k es es' a h1 h2 h3 h4 => ?_⟩
  · rcases List.mem_cons.mp h with rfl | h
    · cases q : B a with
      | none => rfl
      | some o => rw [r.base a o q] at hp; cases hp
    · exact r.fr a h
  · by_cases z : a = p
    · rw [z, upd_same] at e; cases e
    · rw [upd_ne z] at e
      refine r.th a ?_ e
      rcases List.mem_append.mp h with h | h
      · exact List.mem_append_left _ h
      · exact List.mem_append_right _ ((List.mem_cons.mp h).resolve_left z)
  · by_cases hj : j = i
    · subst hj
      by_cases hk : j < ρ.length
      · rw [List.getElem?_set_self hk] at q; cases q
      · rw [List.getElem?_eq_none (by simpa using hk)] at q; cases q
    · rw [List.getElem?_set_ne (Ne.symm hj)] at q ⊢
      rw [em]; exact r.is j d q
  · by_cases hj : j = i
    · subst hj
      by_cases hk : j < ρ.length
      · rw [List.getElem?_set_self hk] at q; cases q
        exact ⟨p, xs, List.getElem?_set_self (by omega), List.mem_cons_self, nF, upd_same, by rw [em]; exact h⟩
      · rw [List.getElem?_eq_none (by simpa using hk)] at q; cases q
    · rw [List.getElem?_set_ne (Ne.symm hj)] at q ⊢
      obtain ⟨a, ys, h1, h2, h3, h4, h5⟩ := r.own j es q
      exact ⟨a, ys, h1, List.mem_cons_of_mem _ h2, h3, by rw [upd_ne (a := p) (fun z => nO (by rw [← z]; exact h2))]; exact h4, by rw [em]; exact h5⟩
  · have other : ∀ (m : Nat) es, m ≠ i → (ρ.set i (some (.own ds)))[m]? = some (some (.own es)) → (σ.set i (some (.ref p)))[m]? = some (some (.ref p)) → False := fun m es hm q1 q2 => by
      rw [List.getElem?_set_ne (Ne.symm hm)] at q1 q2
      obtain ⟨b, _, e1, e2, _⟩ := r.own m es q1
      rw [e1] at q2
      cases q2
      exact nO e2
    by_cases hj : j = i
    · by_cases hk : k = i
      · rw [hj, hk]
      · subst hj
        have : a = p := by
          rw [List.getElem?_set_self (by
            have := (List.getElem?_eq_some_iff.mp h1).1
            simp at this; omega)] at h3
          cases h3; rfl
        subst this
        exact (other k es' hk h2 h4).elim
    · by_cases hk : k = i
      · subst hk
        have : a = p := by
          rw [List.getElem?_set_self (by
            have := (List.getElem?_eq_some_iff.mp h2).1
            simp at this; omega)] at h4
          cases h4; rfl
        subst this
        exact (other j es hj h1 h3).elim
      · rw [List.getElem?_set_ne (Ne.symm hj)] at h1 h3
        rw [List.getElem?_set_ne (Ne.symm hk)] at h2 h4
        exact r.inj j k es es' a h1 h2 h3 h4
theorem Rep.putOwn (r : Rep K B F O H σ ρ) {i : Nat} {a : Addr} {ds es : List Dt} {xs ys : List V} (hi : ρ[i]? = some (some (.own ds))) (hs : σ[i]? = some (some (.ref a))) (ha : a ∈ O) (hH : H a = some (.lst xs)) (h : RpL K (mask (F ++ O) H) es ys) :
    Rep K B F O (upd H a (.lst ys)) σ (ρ.set i (some (.own es))) := by
  have em : mask (F ++ O) (upd H a (.lst ys)) = mask (F ++ O) H := mask_updIn (List.mem_append_right _ ha)
  have hk : i < ρ.length := (List.getElem?_eq_some_iff.mp hi).1
  refine ⟨by simpa using r.len, fun b o e => ?_, r.fr, fun b hb e => ?_, fun j d q => ?_, fun j ks q => ?_, fun j k es' es'' b h1 h2 h3 h4 => ?_⟩
  · rw [upd_ne fun z => by rw [z, r.fr a ha] at e; cases e]; exact r.base b o e
  · by_cases z : b = a
    · rw [z, upd_same] at e; cases e
    · rw [upd_ne z] at e; exact r.th b hb e
  · have hj : j ≠ i := fun z => by subst z; rw [List.getElem?_set_self hk] at q; cases q
    rw [List.getElem?_set_ne (Ne.symm hj)] at q
    rw [em]; exact r.is j d q
  · by_cases hj : j = i
    · subst hj
      rw [List.getElem?_set_self hk] at q; cases q
      obtain ⟨b, _, e1, e2, e3, _⟩ := r.own j ds hi
      rw [hs] at e1; cases e1
      exact ⟨a, ys, hs, ha, e3, upd_same, by rw [em]; exact h⟩
    · rw [List.getElem?_set_ne (Ne.symm hj)] at q
      obtain ⟨b, zs, e1, e2, e3, e4, e5⟩ := r.own j ks q
      have nb : b ≠ a := fun z => by subst z; exact hj (r.inj j i ks ds b q hi e1 hs)
      exact ⟨b, zs, e1, e2, e3, by rw [upd_ne nb]; exact e4, by rw [em]; exact e5⟩
  · have back : ∀ (m : Nat) ks, (ρ.set i (some (.own es)))[m]? = some (some (.own ks)) → ∃ ks', ρ[m]? = some (some (.own ks')) := fun m ks q => by
      by_cases hm : m = i
      · subst hm; exact ⟨ds, hi⟩
      · rw [List.getElem?_set_ne (Ne.symm hm)] at q; exact ⟨ks, q⟩
    obtain ⟨_, q1⟩ := back j es' h1
    obtain ⟨_, q2⟩ := back k es'' h2
    exact r.inj j k _ _ b q1 q2 h3 h4
theorem Rep.freeze (r : Rep K B F O H σ ρ) {i : Nat} {ds : List Dt} (hi : ρ[i]? = some (some (.own ds))) : ∃ O', Rep K B F O' H σ (ρ.set i (some (.is (.lst ds)))) := by
  obtain ⟨a, xs, h1, h2, h3, h4, h5⟩ := r.own i ds hi
  have hk : i < ρ.length := (List.getElem?_eq_some_iff.mp hi).1
  have sub : ∀ b ∈ F ++ O.filter (fun b => decide (b ≠ a)), b ∈ F ++ O := fun b hb => by
    rcases List.mem_append.mp hb with hb | hb
    · exact List.mem_append_left _ hb
    · exact List.mem_append_right _ (List.mem_filter.mp hb).1
  have na : a ∉ F ++ O.filter (fun b => decide (b ≠ a)) := fun z => by
    rcases List.mem_append.mp z with z | z
    · exact h3 z
    · exact of_decide_eq_true (List.mem_filter.mp z).2 rfl
  refine ⟨O.filter fun b => decide (b ≠ a), by simpa using r.len, r.base, fun b hb => r.fr b (List.mem_filter.mp hb).1, fun b hb => r.th b (sub b hb), fun j d q => ?_, fun j es q => ?_, fun j k es es' b q1 q2 q3 q4 => ?_⟩
  · by_cases hj : j = i
    · subst hj
      rw [List.getElem?_set_self hk] at q; cases q
      exact ⟨.ref a, h1, rp_lstI ⟨a, xs, rfl, (by rw [mask_out na]; exact h4), h5.mono (mask_sub sub)⟩⟩
    · rw [List.getElem?_set_ne (Ne.symm hj)] at q
      obtain ⟨v, e1, e2⟩ := r.is j d q
      exact ⟨v, e1, e2.mono (mask_sub sub)⟩
  · have hj : j ≠ i := fun z => by subst z; rw [List.getElem?_set_self hk] at q; cases q
    rw [List.getElem?_set_ne (Ne.symm hj)] at q
    obtain ⟨b, ys, e1, e2, e3, e4, e5⟩ := r.own j es q
    have nb : b ≠ a := fun z => by subst z; exact hj (r.inj j i es ds b q hi e1 h1)
    exact ⟨b, ys, e1, List.mem_filter.mpr ⟨e2, decide_eq_true nb⟩, e3, e4, e5.mono (mask_sub sub)⟩
  · have nj : ∀ (m : Nat) ks, (ρ.set i (some (.is (.lst ds))))[m]? = some (some (.own ks)) → ρ[m]? = some (some (.own ks)) := fun m ks q => by
      have hm : m ≠ i := fun z => by subst z; rw [List.getElem?_set_self hk] at q; cases q
      rw [List.getElem?_set_ne (Ne.symm hm)] at q; exact q
    exact r.inj j k es es' b (nj j es q1) (nj k es' q2) q3 q4
end
section
variable {X : Cx} {a b c e : Expr} {es : List Expr} {st : Stmt} {ta tb te : DTE} {tl : DTA} {t : DTS} {pos : Pos}
def dOwn (i : Nat) (tl : DTA) : DTS := fun D ρ => tl ρ fun ds => ds.length ≤ sizeLine ∧ D.nx (ρ.set i (some (.own ds)))
theorem ds_own (i : Nat) {x : Str} {pos' lp : Pos} (hN : X.N.Nodup) (ha : DA X es tl) (hi : X.N[i]? = some x := by rfl) (hx : Loc X.env.scope x := by first | exact Or.inl rfl | exact Or.inr rfl) (hs : swapsWith (.List es lp) (some (.Name x pos')) pos.line X.env = pure false := by rfl)
    (hf : X.fn x = true ∨ X.env.scope.names.lookup x = some .local := by first | exact .inl rfl | exact .inr rfl | assumption) : DS X (.Assign [.Name x pos'] (.List es lp) pos) (dOwn i tl) where
  mono := fun hd h => ha.mono (fun ds ⟨h1, h2⟩ => ⟨h1, hd.nx _ h2⟩) h
  ps := (ps_set hN hi hx (pe_lst ha.pa) hs hf).imp fun D σ H ⟨B, F, O, ρ, R, h⟩ => ⟨B, F, O, ρ, R, ha.mono (fun ds ⟨h1, h2⟩ vs H1 s1 r1 => ⟨by rw [r1.len]; exact h1, fun p hp => h2 (p :: O) _ _ ((R.same s1).newOwn i hp r1)⟩) h⟩
def ownAt (ρ : DEnv) (j : Nat) (k : List Dt → Prop) : Prop := match ρ[j]? with
  | some (some (.own ds)) => k ds
  | _ => False
theorem ownAt.mono {ρ : DEnv} {j : Nat} {k k' : List Dt → Prop} (hk : ∀ ds, k ds → k' ds) (h : ownAt ρ j k) : ownAt ρ j k' := by
  unfold ownAt at h ⊢
  split at h
  · exact hk _ h
  · exact h.elim
theorem ownAt.get {ρ : DEnv} {j : Nat} {k : List Dt → Prop} (h : ownAt ρ j k) : ∃ ds, ρ[j]? = some (some (.own ds)) ∧ k ds := by
  unfold ownAt at h
  split at h
  · rename_i ds e; exact ⟨ds, e, h⟩
  · exact h.elim
def dIxO (j : Nat) (tb : DTE) : DTE := fun ρ Q => ownAt ρ j fun ds => tb ρ fun k => match k with
  | .int i => match ixL i ds with
    | some v => Q v
    | none => False
  | _ => False
theorem de_ixo (j : Nat) {x : Str} {px : Pos} (hb : DE X b tb) (hN : X.N[j]? = some x := by rfl) (hv : Vis X.env.scope x := by first | exact Or.inl rfl | exact Or.inr (Or.inl rfl) | exact Or.inr (Or.inr rfl)) (hd : (x == ("__debug__" : Str)) = false := by decide)
    (hcd : (x == ("__classdict__" : Str)) = false := by decide) (hs : PlainIx b := by exact fun _ _ => rfl) : DE X (.Subscript (.Name x px) b pos) (dIxO j tb) where
  mono := fun hq h => h.mono fun ds h => hb.mono (fun d h => by
    split at h
    · split at h
      · exact hq _ h
      · exact h.elim
    · exact h.elim) h
  pe := (pe_ix ix_list (pe_var hN hv hd hcd) hb.pe hs).imp fun σ H Q ⟨B, F, O, ρ, R, h⟩ => by
    obtain ⟨ds, e1, h⟩ := h.get
    obtain ⟨a, xs, h1, h2, h3, h4, h5⟩ := R.own j ds e1
    refine ⟨_, h1, B, F, O, ρ, R, hb.mono (fun d h v H1 s1 r1 => ?_) h⟩
    split at h
    · split at h
      · rename_i i _ w e2
        obtain ⟨z, e3, e4⟩ : ∃ z, atI xs i = some z ∧ Rp X.K (mask (F ++ O) H) w z := by
          have e5 := ixL_at e2
          unfold atI at e5 ⊢
          obtain ⟨m, e6, e7⟩ := Option.bind_eq_some_iff.mp e5
          obtain ⟨z, e8, e9⟩ := h5.get e7
          exact ⟨z, by rw [h5.len, e6]; exact e8, e9⟩
        exact ⟨a, xs, i, z, rfl, rp_int.mp r1, SqL.of (s1 _ _ h4), e3, h z H1 s1 (e4.mono s1.mask)⟩
      · exact h.elim
    · exact h.elim
def dSetO (j : Nat) (te tb : DTE) : DTS := fun D ρ => te ρ fun d => ownAt ρ j fun ds => tb ρ fun k => match k with
  | .int i => (0 ≤ i ∧ i < ds.length) ∧ D.nx (ρ.set j (some (.own (ds.set i.toNat d))))
  | _ => False
def dAppO (j : Nat) (te : DTE) : DTS := fun D ρ => ownAt ρ j fun ds => te ρ fun d => ds.length < sizeLine ∧ D.nx (ρ.set j (some (.own (ds ++ [d]))))
theorem ds_app (j : Nat) {x : Str} {px ap cp : Pos} (he : DE X e te) (hN : X.N[j]? = some x := by rfl) (hv : Vis X.env.scope x := by first | exact Or.inl rfl | exact Or.inr (Or.inl rfl) | exact Or.inr (Or.inr rfl)) (hd : (x == ("__debug__" : Str)) = false := by decide)
    (hcd : (x == ("__classdict__" : Str)) = false := by decide) (hbase : attributeBase (.Name x px) "append" X.env (eval (.Name x px) X.env) = eval (.Name x px) X.env := by rfl)
    (hfew : ((backTo cp (starEach [e] X.env)).all (fun x => !x.1) && (backToKw cp (keywordEach [] X.env)).all (fun x => x.1.isSome) && decide ([e].length + ([] : List Keyword).length + (if ([] : List Keyword).isEmpty then 0 else 1) < 30)) = true := by rfl)
    (hline : (ap.endLine == cp.line) = true := by rfl) (hst : starEach [e] X.env = (false, eval e X.env) :: starEach [] X.env := by rfl) (hplain : (backTo cp (starEach [] X.env)).any (·.1) = false := by rfl)
    (hs : swapsWith (.Call (.Attribute (.Name x px) "append" ap) [e] [] cp) none pos.line X.env = pure false := by rfl) : DS X (.Expr (.Call (.Attribute (.Name x px) "append" ap) [e] [] cp) pos) (dAppO j te) where
  mono := fun hd h => h.mono fun ds h => he.mono (fun d h => ⟨h.1, hd.nx _ h.2⟩) h
  ps := (ps_expr (pe_bm PySem.F.plainAttrs_list PySem.F.slot_list_append PySem.F.type_list_append mt_append (pe_var hN hv hd hcd) (pa_cons he.pe pa_nil hst) hbase hfew hline hst hplain) hs).imp fun D σ H ⟨B, F, O, ρ, R, h⟩ => by
    obtain ⟨ds, e1, h⟩ := h.get
    obtain ⟨a, xs, h1, h2, h3, h4, h5⟩ := R.own j ds e1
    refine ⟨_, h1, .inl ⟨rfl, _, SqL.of h4⟩, B, F, O, ρ, R, he.mono (fun d h v H1 s1 r1 => ?_) h⟩
    exact ⟨a, xs, v, rfl, rfl, s1 _ _ h4, by rw [h5.len]; exact h.1, h.2 O σ _ ((R.same s1).putOwn e1 h1 h2 (s1 _ _ h4) ((h5.mono s1.mask).append (.cons r1 .nil)))⟩
def dFrz (j : Nat) (t : DTS) : DTS := fun D ρ => ownAt ρ j fun ds => t D (ρ.set j (some (.is (.lst ds))))
theorem ds_frz (j : Nat) (h : DS X st t) : DS X st (dFrz j t) where
  mono := fun hd z => z.mono fun ds z => h.mono hd z
  ps := h.ps.imp fun D σ H ⟨B, F, O, ρ, R, z⟩ => by
    obtain ⟨ds, e1, z⟩ := z.get
    obtain ⟨O', R'⟩ := R.freeze e1
    exact ⟨B, F, O', _, R', z⟩
def dLenO (j : Nat) : DTE := fun ρ Q => ownAt ρ j fun ds => Q (.int ds.length)
theorem de_leno (j : Nat) {x : Str} {p px : Pos} (hm : X.mg "len" = none) (hN : X.N[j]? = some x := by rfl) (hv : Vis X.env.scope x := by first | exact Or.inl rfl | exact Or.inr (Or.inl rfl) | exact Or.inr (Or.inr rfl)) (hd : (x == ("__debug__" : Str)) = false := by decide)
    (hcd : (x == ("__classdict__" : Str)) = false := by decide) (hg : Gl X "len" := by rfl) (hst : starEach [.Name x px] X.env = (false, eval (.Name x px) X.env) :: starEach [] X.env := by rfl) (hpl : (backTo pos (starEach [] X.env)).any (·.1) = false := by rfl) : DE X (.Call (.Name "len" p) [.Name x px] [] pos) (dLenO j) where
  mono := fun hq h => h.mono fun ds h => hq _ h
  pe := (pe_callB call_len_seq hg hm PySem.boot_len (pa_cons (pe_var hN hv hd hcd) pa_nil hst) (he := hst) (hpl := hpl)).imp fun σ H Q ⟨B, F, O, ρ, R, h⟩ => by
    obtain ⟨ds, e1, h⟩ := h.get
    obtain ⟨a, xs, h1, h2, h3, h4, h5⟩ := R.own j ds e1
    exact ⟨_, h1, a, xs, rfl, .inl (SqL.of h4), by rw [h5.len]; exact h _ H (Same.refl H) (rp_int.mpr rfl)⟩
def dCatT : D2 := fun a b Q => match a with
  | .tup xs => match b with
    | .tup ys => (xs ≠ [] ∧ xs.length + ys.length ≤ sizeLine) ∧ Q (.tup (xs ++ ys))
    | _ => False
  | _ => False
end
end L2

namespace L2
open PySem PySem.Spec PyProof.Rows
section chain3
variable {X : Cx} {a b c e : Expr} {ta tb tc te : TE} {pos : Pos}
end chain3
def dChain3 (t t' t2 : D2) (ta tb tc te : DTE) : DTT := fun ρ Q => ta ρ fun a => tb ρ fun b => t a b fun z => match z with
  | .bl k => if k = true then tc ρ fun c => t' b c fun z => match z with
    | .bl k => if k = true then te ρ fun e => t2 c e fun z => match z with
      | .bl k => Q k
      | _ => False
      else Q false
    | _ => False
    else Q false
  | _ => False
section
variable {X : Cx} {a b c e : Expr} {ta tb tc te : DTE} {pos : Pos}
end
end L2

namespace L2
open PySem PySem.Spec PyProof.Rows PySem.W
end L2

namespace L2
open PySem PySem.Spec PyProof.Rows
variable {X : Cx} {a b : Expr} {ta tb : DTE} {pos : Pos}
def dIn : D2 := fun a b Q => ∃ (i : Int) (ns : List Int), a = .int i ∧ b = .lst (ns.map Dt.int) ∧ Q (.bl (decide (i ∈ ns)))
def dAugI (i : Nat) (te : DTE) : DTS := fun D ρ => match ρ[i]? with
  | some (some (.is (.int a))) => te ρ fun d => match d with
    | .int b => D.nx (ρ.set i (some (.is (.int (a + b)))))
    | _ => False
  | _ => False
theorem ds_augI (i : Nat) {e : Expr} {te : DTE} {x : Str} {pos' : Pos} (hN : X.N.Nodup) (he : DE X e te) (hi : X.N[i]? = some x := by rfl) (hx : Loc X.env.scope x := by first | exact Or.inl rfl | exact Or.inr rfl)
    (hf : X.fn x = true ∨ X.env.scope.names.lookup x = some .local := by first | exact .inl rfl | exact .inr rfl | assumption) : DS X (.AugAssign (.Name x pos') .Add e pos) (dAugI i te) where
  mono := fun {ρ D D'} hd h => by
    unfold dAugI at *
    match hq : ρ[i]?, h with
    | some (some (.is (.int a))), h =>
      refine he.mono (fun d q => ?_) h
      match d, q with
      | .int b, q => exact hd.nx _ q
  ps := (ps_aug hN hi hx he.pe ip_add hf).imp fun D σ H ⟨B, F, O, ρ, R, h⟩ => by
    unfold dAugI at h
    match hq : ρ[i]?, h with
    | some (some (.is (.int a))), h =>
      obtain ⟨v, e1, r⟩ := R.is i _ hq
      rw [rp_int] at r
      subst r
      refine ⟨_, e1, B, F, O, ρ, R, he.mono (fun d q v H1 s1 r1 => ?_) h⟩
      match d, q, r1 with
      | .int b, q, r1 =>
        rw [rp_int] at r1
        subst r1
        exact ⟨a, b, rfl, rfl, q O _ H1 ((R.same s1).set i (rp_int.mpr rfl))⟩
def dPar3 (i j k : Nat) (tl : DTA) : DTS := fun D ρ => tl ρ fun ds => match ds with
  | [d, e, f] => D.nx (((ρ.set i (some (.is d))).set j (some (.is e))).set k (some (.is f)))
  | _ => False
end L2

namespace L2
open PySem PySem.Spec PyProof.Rows PySem.SeqAt

mutual
def Dt.noL : Nat → Dt → Bool
  | _, .non => true
  | _, .bl _ => true
  | _, .int _ => true
  | _, .str _ => true
  | 0, _ => false
  | n + 1, .tup ds => Dt.noLs n ds
  | _, _ => false
def Dt.noLs : Nat → List Dt → Bool
  | _, [] => true
  | n, d :: ds => Dt.noL n d && Dt.noLs n ds
end
theorem noLs_c {n : Nat} {d : Dt} {r : List Dt} : Dt.noLs n (d :: r) = (Dt.noL n d && Dt.noLs n r) := by rw [Dt.noLs]
theorem noL_t {n : Nat} {r : List Dt} : Dt.noL (n + 1) (.tup r) = Dt.noLs n r := by rw [Dt.noL]
def Keep (M M' : Hp) : Prop := ∀ b o, M b = some o → (∀ xs, o ≠ .lst xs) → M' b = some o
mutual
theorem rp_noL {K : PySem.W.Frag} {M M' : Hp} (k : Keep M M') : ∀ (n : Nat) (d : Dt) (v : V), d.noL n = true → Rp K M d v → Rp K M' d v
  | _, .non, _, _, r => by rw [rp_non] at r ⊢; exact r
  | _, .bl _, _, _, r => by rw [rp_bl] at r ⊢; exact r
  | _, .int _, _, _, r => by rw [rp_int] at r ⊢; exact r
  | _, .str _, _, _, r => by rw [rp_str] at r ⊢; exact r
  | 0, .tup _, _, h, _ => by simp [Dt.noL] at h
  | n + 1, .tup ds, _, h, r => by
    rw [noL_t] at h
    obtain ⟨a, xs, e, q, r⟩ := rp_tup.mp r
    refine rp_tup.mpr ⟨a, xs, e, ?_, rpl_noL k n ds xs h r⟩
    rcases q with (q | ⟨o, q⟩) | q
    · exact .inl (.inl (k _ _ q fun _ => by simp))
    · exact .inl (.inr ⟨o, k _ _ q fun _ => by simp⟩)
    · exact .inr q
  | 0, .lst _, _, h, _ => by simp [Dt.noL] at h
  | _ + 1, .lst _, _, h, _ => by simp [Dt.noL] at h
  | 0, .fn _, _, h, _ => by simp [Dt.noL] at h
  | _ + 1, .fn _, _, h, _ => by simp [Dt.noL] at h
  | 0, .exc _ _ _, _, h, _ => by simp [Dt.noL] at h
  | _ + 1, .exc _ _ _, _, h, _ => by simp [Dt.noL] at h
  | 0, .obj _ _ _, _, h, _ => by simp [Dt.noL] at h
  | _ + 1, .obj _ _ _, _, h, _ => by simp [Dt.noL] at h
theorem rpl_noL {K : PySem.W.Frag} {M M' : Hp} (k : Keep M M') : ∀ (n : Nat) (ds : List Dt) (vs : List V), Dt.noLs n ds = true → RpL K M ds vs → RpL K M' ds vs
  | _, [], _, _, r => by rw [rpl_nil] at r ⊢; exact r
  | n, d :: ds, _, h, r => by
    rw [noLs_c, Bool.and_eq_true] at h
    obtain ⟨v, w, rfl, r1, r2⟩ := rpl_cons.mp r
    exact rpl_cons.mpr ⟨v, w, rfl, rp_noL k n d v h.1 r1, rpl_noL k n ds w h.2 r2⟩
end
def isLst : Option HO → Bool
  | some (.lst _) => true
  | _ => false
def lists (H : Hp) (n : Nat) : List Addr := (List.range n).filter fun a => isLst (H a)
section
variable {X : Cx} {a b c e : Expr} {es : List Expr} {st : Stmt} {ta tb te : DTE} {tl : DTA} {tA : DTT} {t : DTS} {pos : Pos}
def dFresh (i : Nat) (sp : DSp) (tl : DTA) : DTS := fun D ρ => tl ρ fun ds => Dt.noLs 4 ds = true ∧ sp ds fun d => ∃ ks, d = .lst ks ∧ (∃ r, Dt.tup r ∈ ks) ∧ Dt.noLs 4 ks = true ∧ D.nx (ρ.set i (some (.own ks)))
def dLendT (j : Nat) (t : DTT) : DTT := fun ρ Q => ownAt ρ j fun ds => t (ρ.set j (some (.is (.lst ds)))) Q
def dCopyO (j : Nat) : DTE := fun ρ Q => ownAt ρ j fun ds => Q (.lst ds)
end
end L2

namespace L2
open PySem PySem.Spec PyProof.Rows PySem.W PySem.Builtin PySem.Builtin.ObjectAttr

section
variable {prog : Program} {w : World} {A : Around} {E : Value → Shared → Prop} {s : Shared} {K : PySem.W.Frag} {C U x dx : Addr} {name : Str} {v : Value}
end
section
variable {X : Cx} {pins : List (Addr × Obj)} {σ : St} {H : Hp} {s : Shared} {h' : Heap} {a dx C U f fI : Addr}
end
end L2
namespace L2
open PySem PySem.Spec PyProof.Rows PySem.SeqAt

abbrev DTAX := DEnv → (List Dt → Prop) → (Dt → Prop) → Prop
section
variable {X : Cx} {e : Expr} {es : List Expr} {te : DTEX} {tl : DTA} {tx : DTAX} {pos : Pos}
def dConsX (te : DTEX) (tl : DTA) : DTAX := fun ρ Q E => te ρ (fun d => tl ρ fun ds => Q (d :: ds)) E
def dCallA (sp : DSp) (tx : DTAX) : DTEX := fun ρ Q E => tx ρ (fun ds => sp ds Q) E
end
end L2

namespace My
open PySem L2
abbrev sp_law : DSp := spLaw
abbrev I4 := Int × Int × Int × Int
abbrev I2 := Int × Int
abbrev t4 (p : I4) : Dt := T4 p.1 p.2.1 p.2.2.1 p.2.2.2
abbrev t2 (p : I2) : Dt := T2 p.1 p.2
def B4 (n : Nat) (p : I4) : Prop := Bt n p.1 ∧ Bt n p.2.1 ∧ Bt n p.2.2.1 ∧ Bt n p.2.2.2
def B2 (n : Nat) (p : I2) : Prop := Bt n p.1 ∧ Bt n p.2
def det (p : I4) : Int := p.1 * p.2.2.2 - p.2.1 * p.2.2.1
def ledV (t : I4) (p : I2) : I2 := (t.1 * p.1 + t.2.1 * p.2, t.2.2.1 * p.1 + t.2.2.2 * p.2)
def thenV (a b : I4) : I4 := (a.1 * b.1 + a.2.1 * b.2.2.1, a.1 * b.2.1 + a.2.1 * b.2.2.2, a.2.2.1 * b.1 + a.2.2.2 * b.2.2.1, a.2.2.1 * b.2.1 + a.2.2.2 * b.2.2.2)
def backV (t : I4) : I4 := (t.2.2.2, -t.2.1, -t.2.2.1, t.1)
theorem B4.le {n m : Nat} {t : I4} (h : B4 n t) (l : n ≤ m) : B4 m t := ⟨h.1.le l, h.2.1.le l, h.2.2.1.le l, h.2.2.2.le l⟩
theorem B4.back {n : Nat} {t : I4} (h : B4 n t) : B4 n (backV t) := ⟨h.2.2.2, h.2.1.neg, h.2.2.1.neg, h.1⟩
theorem B2.led {n m : Nat} {t : I4} {p : I2} (h : B4 n t) (q : B2 m p) : B2 (n + m + 1) (ledV t p) :=
  ⟨((h.1.mul q.1).add (h.2.1.mul q.2)).le (by omega), ((h.2.2.1.mul q.1).add (h.2.2.2.mul q.2)).le (by omega)⟩
theorem B4.then {n m : Nat} {t u : I4} (h : B4 n t) (q : B4 m u) : B4 (n + m + 1) (thenV t u) :=
  ⟨((h.1.mul q.1).add (h.2.1.mul q.2.2.1)).le (by omega), ((h.1.mul q.2.1).add (h.2.1.mul q.2.2.2)).le (by omega), ((h.2.2.1.mul q.1).add (h.2.2.2.mul q.2.2.1)).le (by omega), ((h.2.2.1.mul q.2.1).add (h.2.2.2.mul q.2.2.2)).le (by omega)⟩
theorem det_back {t : I4} : det (backV t) = det t := by obtain ⟨a, b, c, d⟩ := t; simp only [det, backV]; grind
theorem det_then {t u : I4} : det (thenV t u) = det t * det u := by obtain ⟨a, b, c, d⟩ := t; obtain ⟨e, f, g, h⟩ := u; simp only [det, thenV]; grind
theorem then_back {t : I4} (h : det t = 1) : thenV t (backV t) = (1, 0, 0, 1) := by
  obtain ⟨a, b, c, d⟩ := t
  simp only [det, thenV, backV, Prod.mk.injEq] at *
  refine ⟨?_, ?_, ?_, ?_⟩ <;> grind
theorem back_then {t : I4} (h : det t = 1) : thenV (backV t) t = (1, 0, 0, 1) := by
  obtain ⟨a, b, c, d⟩ := t
  simp only [det, thenV, backV, Prod.mk.injEq] at *
  refine ⟨?_, ?_, ?_, ?_⟩ <;> grind
theorem eq_t4 {s t : I4} : Dt.eq (t4 s) (t4 t) = decide (s = t) := by
  obtain ⟨a, b, c, d⟩ := s
  obtain ⟨e, f, g, h⟩ := t
  simp only [eq_tt, eqs_cc, eqs_nn, eq_ii, Prod.mk.injEq, Bool.and_true]
  simp only [Bool.decide_and]
theorem eq_t2 {s t : I2} : Dt.eq (t2 s) (t2 t) = decide (s = t) := by
  obtain ⟨a, b⟩ := s
  obtain ⟨e, f⟩ := t
  simp only [eq_tt, eqs_cc, eqs_nn, eq_ii, Prod.mk.injEq, Bool.and_true]
  simp only [Bool.decide_and]
abbrev I3 := Int × Int × Int
abbrev t3 (p : I3) : Dt := T3 p.1 p.2.1 p.2.2
def B3 (n : Nat) (p : I3) : Prop := Bt n p.1 ∧ Bt n p.2.1 ∧ Bt n p.2.2
theorem B3.le {n m : Nat} {t : I3} (h : B3 n t) (l : n ≤ m) : B3 m t := ⟨h.1.le l, h.2.1.le l, h.2.2.le l⟩
def meas (f : I3) : Int := f.2.1 * f.2.1 - 4 * f.1 * f.2.2
def val (f : I3) (p : I2) : Int := f.1 * p.1 * p.1 + f.2.1 * p.1 * p.2 + f.2.2 * p.2 * p.2
def mid (f : I3) (l r : I2) : Int := 2 * f.1 * l.1 * r.1 + f.2.1 * (l.1 * r.2 + r.1 * l.2) + 2 * f.2.2 * l.2 * r.2
def mov (f : I3) (t : I4) : I3 := (val f (t.1, t.2.2.1), mid f (t.1, t.2.2.1) (t.2.1, t.2.2.2), val f (t.2.1, t.2.2.2))
theorem val_led {f : I3} {t : I4} {p : I2} : val (mov f t) p = val f (ledV t p) := by
  obtain ⟨a, b, c⟩ := f; obtain ⟨e, g, h, i⟩ := t; obtain ⟨x, y⟩ := p
  simp only [val, mov, mid, ledV]; grind
theorem meas_mov {f : I3} {t : I4} (h : det t = 1) : meas (mov f t) = meas f := by
  obtain ⟨a, b, c⟩ := f; obtain ⟨e, g, i, j⟩ := t
  simp only [det] at h
  have e1 : meas (mov (a, b, c) (e, g, i, j)) = (e * j - g * i) * (e * j - g * i) * meas (a, b, c) := by simp only [meas, mov, val, mid]; grind
  rw [e1, h]; simp
theorem mov_then {f : I3} {t u : I4} : mov (mov f t) u = mov f (thenV t u) := by
  obtain ⟨a, b, c⟩ := f; obtain ⟨e, g, i, j⟩ := t; obtain ⟨k, l, m, n⟩ := u
  simp only [mov, val, mid, thenV, Prod.mk.injEq]
  refine ⟨?_, ?_, ?_⟩ <;> grind
theorem mov_same {f : I3} : mov f (1, 0, 0, 1) = f := by
  obtain ⟨a, b, c⟩ := f
  simp only [mov, val, mid, Prod.mk.injEq]
  refine ⟨?_, ?_, ?_⟩ <;> grind
theorem B3.mov {f : I3} {t : I4} {n m : Nat} (hf : B3 n f) (ht : B4 m t) : B3 (n + m + m + 5) (mov f t) := by
  obtain ⟨a, b, c⟩ := f; obtain ⟨e, g, i, j⟩ := t
  obtain ⟨ha, hb, hc⟩ := hf
  obtain ⟨he, hg, hi, hj⟩ := ht
  have h2 : Bt 2 2 := Bt.of_abs (by decide)
  refine ⟨?_, ?_, ?_⟩
  · exact ((((ha.mul he).mul he).add ((hb.mul he).mul hi)).add ((hc.mul hi).mul hi)).le (by omega)
  · exact (((((h2.mul ha).mul he).mul hg).add (hb.mul ((he.mul hj).add (hg.mul hi)))).add (((h2.mul hc).mul hi).mul hj)).le (by omega)
  · exact ((((ha.mul hg).mul hg).add ((hb.mul hg).mul hj)).add ((hc.mul hj).mul hj)).le (by omega)
def Sq (n r : Int) : Prop := 0 ≤ r ∧ r * r ≤ n ∧ n < (r + 1) * (r + 1)
theorem Sq.uniq {n r s : Int} (a : Sq n r) (b : Sq n s) : r = s := by
  obtain ⟨a0, a1, a2⟩ := a
  obtain ⟨b0, b1, b2⟩ := b
  rcases Int.lt_trichotomy r s with h | h | h
  · have := Int.mul_le_mul (show r + 1 ≤ s by omega) (show r + 1 ≤ s by omega) (by omega) b0
    omega
  · exact h
  · have := Int.mul_le_mul (show s + 1 ≤ r by omega) (show s + 1 ≤ r by omega) (by omega) a0
    omega
theorem newton_up {n g : Int} (hn : 0 ≤ n) (hg : 0 < g) : n < ((g + n / g) / 2 + 1) * ((g + n / g) / 2 + 1) := by
  have h1 : n < g * (n / g) + g := Int.lt_mul_ediv_self_add hg
  have h0 : 0 ≤ n / g := Int.ediv_nonneg hn (by omega)
  generalize n / g = q at *
  have hb : g + q ≤ 2 * ((g + q) / 2) + 1 := by omega
  have hb0 : 0 ≤ (g + q) / 2 := by omega
  generalize (g + q) / 2 = b at *
  have z1 : 0 ≤ (g - q - 1) * (g - q - 1) := by
    rcases Int.le_total 0 (g - q - 1) with h | h
    · exact Int.mul_nonneg h h
    · exact Int.mul_nonneg_of_nonpos_of_nonpos h h
  have z2 : (g + q + 1) * (g + q + 1) = (g - q - 1) * (g - q - 1) + 4 * (g * q + g) := by grind
  have z3 : (g + q + 1) * (g + q + 1) ≤ (2 * (b + 1)) * (2 * (b + 1)) := Int.mul_le_mul (by omega) (by omega) (by omega) (by omega)
  have z4 : (2 * (b + 1)) * (2 * (b + 1)) = 4 * ((b + 1) * (b + 1)) := by grind
  omega
theorem newton_end {n g : Int} (hg : 0 < g) (h : g ≤ (g + n / g) / 2) : g * g ≤ n := by
  have h1 : g * (n / g) ≤ n := Int.mul_ediv_self_le (by omega)
  have h2 : g ≤ n / g := by omega
  have := Int.mul_le_mul_of_nonneg_left h2 (show 0 ≤ g by omega)
  omega
theorem newton_down {n g : Int} (hg : 0 < g) (h : n < g * g) : (g + n / g) / 2 < g := by
  have h2 : n / g < g := Int.ediv_lt_of_lt_mul hg (by rw [Int.mul_comm] at h; exact h)
  omega
theorem newton_pos {n g : Int} (hn : 1 ≤ n) (hg : 0 < g) : 0 < (g + n / g) / 2 := by
  have h0 : 0 ≤ n / g := Int.ediv_nonneg (by omega) (by omega)
  rcases Int.lt_or_le g 2 with h | h
  · have : g = 1 := by omega
    subst this
    rw [Int.ediv_one]; omega
  · omega
theorem start_up {n : Int} (hn : 0 ≤ n) : n < (1 * 2 ^ ((((Builtin.Int.intBits n : Nat) : Int) + 1).fdiv 2).toNat + 1) * (1 * 2 ^ ((((Builtin.Int.intBits n : Nat) : Int) + 1).fdiv 2).toNat + 1) := by
  have h1 : n.natAbs < 2 ^ Builtin.Int.intBits n := intBits_le_iff.mp (Nat.le_refl _)
  generalize Builtin.Int.intBits n = b at *
  have e : ((((b : Nat) : Int) + 1).fdiv 2).toNat = (b + 1) / 2 := by
    rw [Int.fdiv_eq_ediv_of_nonneg _ (by decide)]; omega
  rw [e]
  generalize hk : (b + 1) / 2 = k
  have h2 : 2 ^ b ≤ 2 ^ k * 2 ^ k := by rw [← Nat.pow_add]; exact Nat.pow_le_pow_right (by decide) (by omega)
  have h3 : n < ((2 ^ k * 2 ^ k : Nat) : Int) := by omega
  have h4 : ((2 ^ k * 2 ^ k : Nat) : Int) = (2 ^ k : Int) * 2 ^ k := by push_cast; rfl
  rw [h4] at h3
  have h5 : (0 : Int) ≤ 2 ^ k := Int.pow_nonneg (by decide)
  generalize (2 ^ k : Int) = z at *
  have : (1 * z + 1) * (1 * z + 1) = z * z + 2 * z + 1 := by grind
  omega
theorem start_small {n : Int} (h : Bt 4000 n) : CPow 1 ((((Builtin.Int.intBits n : Nat) : Int) + 1).fdiv 2) ∧ Bt 2001 (1 * 2 ^ ((((Builtin.Int.intBits n : Nat) : Int) + 1).fdiv 2).toNat) ∧ 0 < (1 * 2 ^ ((((Builtin.Int.intBits n : Nat) : Int) + 1).fdiv 2).toNat : Int) := by
  have hb : Builtin.Int.intBits n ≤ 4000 := intBits_le_iff.mpr h
  generalize Builtin.Int.intBits n = b at *
  rw [Int.fdiv_eq_ediv_of_nonneg _ (by decide)]
  refine ⟨⟨by omega, by omega, by decide⟩, ?_, ?_⟩
  · have e : (((b : Int) + 1) / 2).toNat ≤ 2000 := by omega
    generalize (((b : Int) + 1) / 2).toNat = k at *
    unfold Bt
    rw [Int.one_mul, Int.natAbs_pow]
    exact Nat.pow_lt_pow_right (by decide) (by omega)
  · rw [Int.one_mul]
    exact Int.pow_pos (by decide)
theorem near_eq {n g : Int} (hg : 0 < g) : (g + n.fdiv g).fdiv 2 = (g + n / g) / 2 := by
  rw [Int.fdiv_eq_ediv_of_nonneg _ (by decide), Int.fdiv_eq_ediv_of_nonneg _ (by omega)]
def isSq (n : Int) : Prop := ∃ r : Int, r * r = n
theorem isSq_iff {n r : Int} (h : Sq n r) : isSq n ↔ r * r = n := by
  refine ⟨fun ⟨s, e⟩ => ?_, fun e => ⟨r, e⟩⟩
  have hs : Sq n (s.natAbs : Int) := by
    have e2 : (s.natAbs : Int) * (s.natAbs : Int) = n := (Int.natAbs_mul_self' s).trans e
    refine ⟨by omega, by omega, ?_⟩
    have : ((s.natAbs : Int) + 1) * ((s.natAbs : Int) + 1) = (s.natAbs : Int) * (s.natAbs : Int) + 2 * (s.natAbs : Int) + 1 := by grind
    omega
  rw [h.uniq hs]
  exact (Int.natAbs_mul_self' s).trans e
theorem isSq_neg {n : Int} (h : n < 0) : ¬ isSq n := fun ⟨r, e⟩ => by
  have : 0 ≤ r * r := by
    rcases Int.le_total 0 r with h | h
    · exact Int.mul_nonneg h h
    · exact Int.mul_nonneg_of_nonpos_of_nonpos h h
  omega
abbrev sp_root : DSp := spec (fun n : Int => [.int n]) (fun n => 0 ≤ n ∧ Bt 4000 n) fun n d => ∃ r, d = .int r ∧ Sq n r ∧ Bt 2001 r
abbrev sp_is_square : DSp := spec (fun n : Int => [.int n]) (fun n => Bt 4000 n) fun n d => ∃ b : Bool, d = .bl b ∧ (b = true ↔ isSq n)
theorem fmod_fdiv (a b : Int) : a.fmod b = a - b * a.fdiv b := Int.fmod_def a b
theorem fmod_lt {a b : Int} (h : b ≠ 0) : (a.fmod b).natAbs < b.natAbs := by
  rcases Int.lt_or_lt_of_ne h with h | h
  · have e : a.fmod b = -((-a).fmod (-b)) := by rw [fmod_fdiv, fmod_fdiv, Int.neg_fdiv_neg]; grind
    have h1 := Int.fmod_nonneg_of_pos (-a) (show 0 < -b by omega)
    have h2 := Int.fmod_lt_of_pos (-a) (show 0 < -b by omega)
    omega
  · have h1 := Int.fmod_nonneg_of_pos a h
    have h2 := Int.fmod_lt_of_pos a h
    omega
theorem gcd_fmod (a b : Int) : Int.gcd b (a.fmod b) = Int.gcd a b := by
  rw [fmod_fdiv]
  have : a - b * a.fdiv b = a + b * (-(a.fdiv b)) := by grind
  rw [this, Int.gcd_comm]
  first
    | rw [Int.gcd_add_mul_left_left]
    | simp
def g3 (f : I3) : Nat := Int.gcd ((Int.gcd f.1 f.2.1 : Nat) : Int) f.2.2
theorem g3_zero {f : I3} (h : g3 f = 0) : f = (0, 0, 0) := by
  obtain ⟨a, b, c⟩ := f
  have h1 := Int.gcd_eq_zero_iff.mp h
  have h2 := Int.gcd_eq_zero_iff.mp (show Int.gcd a b = 0 by have := h1.1; simp only at this; omega)
  have h3 : c = 0 := h1.2
  rw [h2.1, h2.2, h3]
theorem g3_dvd (f : I3) : (g3 f : Int) ∣ f.1 ∧ (g3 f : Int) ∣ f.2.1 ∧ (g3 f : Int) ∣ f.2.2 := by
  have h1 : (g3 f : Int) ∣ ((Int.gcd f.1 f.2.1 : Nat) : Int) := Int.gcd_dvd_left _ _
  exact ⟨Int.dvd_trans h1 (Int.gcd_dvd_left _ _), Int.dvd_trans h1 (Int.gcd_dvd_right _ _), Int.gcd_dvd_right _ _⟩
theorem g3_one {f : I3} (h : g3 f ≠ 0) : Int.gcd ((Int.gcd (f.1 / (g3 f : Int)) (f.2.1 / (g3 f : Int)) : Nat) : Int) (f.2.2 / (g3 f : Int)) = 1 := by
  obtain ⟨⟨x, hx⟩, ⟨y, hy⟩, ⟨z, hz⟩⟩ := g3_dvd f
  have hG : (g3 f : Int) ≠ 0 := by omega
  have ex : f.1 / (g3 f : Int) = x := by rw [hx, Int.mul_ediv_cancel_left _ hG]
  have ey : f.2.1 / (g3 f : Int) = y := by rw [hy, Int.mul_ediv_cancel_left _ hG]
  have ez : f.2.2 / (g3 f : Int) = z := by rw [hz, Int.mul_ediv_cancel_left _ hG]
  rw [ex, ey, ez]
  have e : g3 f = g3 f * Int.gcd ((Int.gcd x y : Nat) : Int) z := by
    have e1 : Int.gcd f.1 f.2.1 = g3 f * Int.gcd x y := by rw [hx, hy, Int.gcd_mul_left]; simp
    have e2 : g3 f = Int.gcd ((Int.gcd f.1 f.2.1 : Nat) : Int) f.2.2 := rfl
    rw [e1, hz] at e2
    rw [show ((g3 f * Int.gcd x y : Nat) : Int) = (g3 f : Int) * ((Int.gcd x y : Nat) : Int) by push_cast; rfl, Int.gcd_mul_left] at e2
    simpa using e2
  have hp : 0 < g3 f := by omega
  have e' : g3 f * Int.gcd ((Int.gcd x y : Nat) : Int) z = g3 f * 1 := by rw [← e, Nat.mul_one]
  exact Nat.eq_of_mul_eq_mul_left hp e'
inductive Word (f : I3) : Dt → Prop
  | flat : isSq (meas f) → Word f (.str "flat")
  | saddle : ¬ isSq (meas f) → 0 < meas f → Word f (.str "saddle")
  | bowl : ¬ isSq (meas f) → ¬ 0 < meas f → 0 < f.1 → Word f (.str "bowl")
  | dome : ¬ isSq (meas f) → ¬ 0 < meas f → ¬ 0 < f.1 → Word f (.str "dome")
theorem sq_pos {x : Int} (h : x ≠ 0) : 1 ≤ x * x := by
  rcases Int.lt_or_lt_of_ne h with h | h
  · have := Int.mul_le_mul_of_nonneg_left (show 1 ≤ -x by omega) (show 0 ≤ -x by omega)
    have e : (-x) * (-x) = x * x := by grind
    omega
  · have := Int.mul_le_mul_of_nonneg_left (show 1 ≤ x by omega) (show 0 ≤ x by omega)
    omega
theorem val_ax {a b c x : Int} : val (a, b, c) (x, 0) = a * (x * x) := by simp only [val]; grind
theorem val_ay {a b c y : Int} : val (a, b, c) (0, y) = c * (y * y) := by simp only [val]; grind
theorem mov_back {f : I3} {t : I4} (h : det t = 1) : mov (mov f t) (backV t) = f := by rw [mov_then, then_back h, mov_same]
theorem cut_ints (ns : List Int) (lo hi : Option Int) : ∃ cs : List Int, cutD (ns.map Dt.int) lo hi = cs.map Dt.int ∧ cs.length ≤ ns.length := by
  refine ⟨(ns.drop (HT.sIx (ns.map Dt.int).length 0 lo)).take (HT.sIx (ns.map Dt.int).length (ns.map Dt.int).length hi - HT.sIx (ns.map Dt.int).length 0 lo), by unfold cutD; rw [List.map_take, List.map_drop], ?_⟩
  rw [List.length_take, List.length_drop]; omega
theorem ix_any {ds : List Dt} {k : Int} (h0 : 0 ≤ k) (h1 : k < ds.length) : ∃ d, ixD k (.lst ds) = some d ∧ ixL k ds = some d ∧ ds[k.toNat]? = some d := by
  obtain ⟨j, rfl⟩ := Int.eq_ofNat_of_zero_le h0
  have hj : j < ds.length := by omega
  have e : ds[j]? = some ds[j] := by simp [hj]
  exact ⟨_, e, e, e⟩
theorem fm_range (x : Int) {m : Int} (h : 0 < m) : 0 ≤ x.fmod m ∧ x.fmod m < m := ⟨Int.fmod_nonneg_of_pos x h, Int.fmod_lt_of_pos x h⟩
theorem ix_pick {zs : List Int} {k : Int} {P : Int → Prop} (h0 : 0 ≤ k) (h1 : k < zs.length) (hP : ∀ z ∈ zs, P z) : ∃ z, ixD k (.lst (zs.map Dt.int)) = some (.int z) ∧ P z := by
  refine ⟨_, ix_ints h0 h1, hP _ ?_⟩
  have : k.toNat < zs.length := by omega
  simp [this]
theorem sq_nonneg (x : Int) : 0 ≤ x * x := by
  rcases Int.le_total 0 x with h | h
  · exact Int.mul_nonneg h h
  · exact Int.mul_nonneg_of_nonpos_of_nonpos h h
end My

namespace My
open PySem L2
def stands (f : I3) : Bool := decide (-f.1 ≤ f.2.1 ∧ f.2.1 ≤ f.1 ∧ f.1 ≤ f.2.2) && (decide (0 ≤ f.2.1) || (decide (f.2.1 ≠ -f.1) && decide (f.1 ≠ f.2.2)))
end My

namespace My
open PySem L2
structure Sad (f : I3) : Prop where
  no : ¬ isSq (meas f)
  pos : 0 < meas f
  most : meas f ≤ 4000
def Level (f : I3) (far : Int) : Prop := (0 < f.2.1 ∧ f.2.1 ≤ far) ∧ far - f.2.1 < 2 * (if f.1 < 0 then -f.1 else f.1) ∧ 2 * (if f.1 < 0 then -f.1 else f.1) ≤ far + f.2.1
instance {f : I3} {far : Int} : Decidable (Level f far) := by unfold Level; infer_instance
theorem Sad.mov {f : I3} {t : I4} (h : Sad f) (d : det t = 1) : Sad (mov f t) := by
  have e := meas_mov (f := f) d
  exact ⟨by rw [e]; exact h.no, by rw [e]; exact h.pos, by rw [e]; exact h.most⟩
theorem mul_sign {s x : Int} (h : s = 1 ∨ s = -1) : s * s = 1 := by rcases h with h | h <;> subst h <;> rfl
theorem saddle_meas {o s m b k : Int} (hs : s * s = 1) (hm : 0 < m) :
    meas (o * s * m, o * b, o * s * ((b * b - ((b * b).fmod (4 * m) + 4 * m * k)).fdiv (4 * m))) = o * o * ((b * b).fmod (4 * m) + 4 * m * k) := by
  have h4 : (0 : Int) < 4 * m := by omega
  have e := Int.fmod_def (b * b) (4 * m)
  have e1 : b * b - ((b * b).fmod (4 * m) + 4 * m * k) = 4 * m * ((b * b).fdiv (4 * m) - k) := by rw [e]; grind
  rw [e1, Int.mul_fdiv_cancel_left _ (by omega)]
  generalize (b * b).fdiv (4 * m) = q at *
  rw [e]
  simp only [meas]
  grind
theorem fdiv_le {x m : Int} (h : 0 < m) : m * x.fdiv m ≤ x := by
  rw [Int.fdiv_eq_ediv_of_nonneg _ (by omega)]
  exact Int.mul_ediv_self_le (by omega)
theorem fdiv_pos {x m : Int} (hx : 0 ≤ x) (h : 0 < m) : 0 ≤ x.fdiv m := by
  rw [Int.fdiv_eq_ediv_of_nonneg _ (by omega)]
  exact Int.ediv_nonneg hx (by omega)
theorem lt_fdiv {x m : Int} (h : 0 < m) : x < m * x.fdiv m + m := by
  rw [Int.fdiv_eq_ediv_of_nonneg _ (by omega)]
  exact Int.lt_mul_ediv_self_add h
theorem saddle_most {r m most x : Int} (hm : 0 < m) (hr : 0 ≤ r) (hrm : r ≤ most) : 1 ≤ 1 + (most - r).fdiv (4 * m) ∧ 0 ≤ r + 4 * m * x.fmod (1 + (most - r).fdiv (4 * m)) ∧ r + 4 * m * x.fmod (1 + (most - r).fdiv (4 * m)) ≤ most := by
  have h4 : (0 : Int) < 4 * m := by omega
  have h1 := fdiv_pos (x := most - r) (by omega) h4
  have h2 := fdiv_le (x := most - r) h4
  have ⟨h3, h5⟩ := fm_range x (m := 1 + (most - r).fdiv (4 * m)) (by omega)
  generalize (most - r).fdiv (4 * m) = q at *
  generalize x.fmod (1 + q) = y at *
  have h6 := Int.mul_le_mul_of_nonneg_left (show y ≤ q by omega) (show 0 ≤ 4 * m by omega)
  have h7 := Int.mul_nonneg (show 0 ≤ 4 * m by omega) h3
  exact ⟨by omega, by omega, by omega⟩
theorem bt_small {n : Nat} {x : Int} {k : Int} (h0 : 0 ≤ x) (h1 : x ≤ k) (hk : k < 2 ^ n) : Bt n x := Bt.of (by have : (0 : Int) < 2 ^ n := Int.pow_pos (by decide); omega) (by omega)
theorem saddle_all {o s m y z : Int} (o1 : 1 ≤ o) (o6 : o ≤ 6) (m1 : 1 ≤ m) (m4 : m ≤ 400) (hmo : o = 1 ∨ m ≤ 12) (hs : s = 1 ∨ s = -1) :
    ∃ b r most k : Int, b = y.fmod (2 * m) ∧ r = (b * b).fmod (4 * m) ∧ most = Int.fdiv 4000 (o * o) ∧ k = z.fmod (1 + (most - r).fdiv (4 * m)) ∧
      (0 ≤ b ∧ b ≤ 800) ∧ (0 ≤ r ∧ r < 1600) ∧ (0 ≤ k ∧ k ≤ 4000) ∧ 1 + (most - r).fdiv (4 * m) ≠ 0 ∧ Bt 22 ((b * b - (r + 4 * m * k)).fdiv (4 * m)) ∧ Bt 22 (b * b - (r + 4 * m * k)) ∧ Bt 13 (most - r) ∧
      0 ≤ meas (o * s * m, o * b, o * s * ((b * b - (r + 4 * m * k)).fdiv (4 * m))) ∧ meas (o * s * m, o * b, o * s * ((b * b - (r + 4 * m * k)).fdiv (4 * m))) ≤ 4000 ∧ o * s * m ≠ 0 := by
  refine ⟨_, _, _, _, rfl, rfl, rfl, rfl, ?_⟩
  have hb := fm_range y (m := 2 * m) (by omega)
  generalize y.fmod (2 * m) = b at *
  have hr := fm_range (b * b) (m := 4 * m) (by omega)
  have hoo : 1 ≤ o * o := sq_pos (by omega)
  have ho1 := fdiv_le (x := 4000) (m := o * o) (by omega)
  have ho2 := lt_fdiv (x := 4000) (m := o * o) (by omega)
  have ho36 : o * o ≤ 36 := Int.mul_le_mul o6 o6 (by omega) (by omega)
  have hmost : 111 ≤ Int.fdiv 4000 (o * o) := by
    rcases Int.lt_or_le (Int.fdiv 4000 (o * o)) 111 with h | h
    · exfalso
      have := Int.mul_le_mul_of_nonneg_left (show Int.fdiv 4000 (o * o) ≤ 110 by omega) (show 0 ≤ o * o by omega)
      omega
    · exact h
  have hmost4 : Int.fdiv 4000 (o * o) ≤ 4000 := by
    have := Int.mul_le_mul_of_nonneg_right hoo (show 0 ≤ Int.fdiv 4000 (o * o) by omega)
    omega
  have hrm : (b * b).fmod (4 * m) ≤ Int.fdiv 4000 (o * o) := by
    rcases hmo with h | h
    · subst h
      have : Int.fdiv 4000 (1 * 1) = 4000 := rfl
      omega
    · omega
  have ⟨s1, s2, s3⟩ := saddle_most (x := z) (m := m) (by omega) hr.1 hrm
  have hss := mul_sign (x := 0) hs
  have hme := saddle_meas (o := o) (s := s) (m := m) (b := b) (k := z.fmod (1 + (Int.fdiv 4000 (o * o) - (b * b).fmod (4 * m)).fdiv (4 * m))) hss (by omega)
  have hk := fm_range z (m := 1 + (Int.fdiv 4000 (o * o) - (b * b).fmod (4 * m)).fdiv (4 * m)) (by omega)
  have hb2 : b * b ≤ 800 * 800 := Int.mul_le_mul (by omega) (by omega) hb.1 (by omega)
  have hb0 : 0 ≤ b * b := sq_nonneg b
  rw [hme]
  generalize (b * b).fmod (4 * m) = r at *
  generalize Int.fdiv 4000 (o * o) = most at *
  generalize z.fmod (1 + (most - r).fdiv (4 * m)) = k at *
  have hk2 : k ≤ 4000 := by
    have := Int.mul_le_mul_of_nonneg_right (show 1 ≤ 4 * m by omega) hk.1
    omega
  have hmul : o * o * (r + 4 * m * k) ≤ o * o * most := Int.mul_le_mul_of_nonneg_left s3 (by omega)
  have hbar : Bt 22 (b * b - (r + 4 * m * k)) := Bt.of (by omega) (by omega)
  have hdiv : Bt 22 ((b * b - (r + 4 * m * k)).fdiv (4 * m)) := by
    have d1 := fdiv_le (x := b * b - (r + 4 * m * k)) (m := 4 * m) (by omega)
    have d2 := lt_fdiv (x := b * b - (r + 4 * m * k)) (m := 4 * m) (by omega)
    generalize (b * b - (r + 4 * m * k)).fdiv (4 * m) = w at *
    rcases Int.le_total 0 w with hw | hw
    · have := Int.mul_le_mul_of_nonneg_right (show 1 ≤ 4 * m by omega) hw
      exact Bt.of (by omega) (by omega)
    · have := Int.mul_le_mul_of_nonneg_right (show 1 ≤ 4 * m by omega) (show 0 ≤ -w by omega)
      have e : 4 * m * -w = -(4 * m * w) := by grind
      exact Bt.of (by omega) (by omega)
  refine ⟨⟨hb.1, by omega⟩, ⟨hr.1, by omega⟩, ⟨hk.1, hk2⟩, by omega, hdiv, hbar, Bt.of (by omega) (by omega), Int.mul_nonneg (by omega) s2, by omega, ?_⟩
  intro h0
  have : (o * s * m) * (o * s * m) = 0 := by rw [h0]; rfl
  have e : (o * s * m) * (o * s * m) = (o * o) * ((s * s) * (m * m)) := by grind
  rw [e, hss, Int.one_mul] at this
  have := Int.mul_le_mul hoo (sq_pos (x := m) (by omega)) (by decide) (by omega)
  omega
end My

namespace My
open PySem L2
abbrev ab (x : Int) : Int := if x < 0 then -x else x
theorem ab_cases (x : Int) : (0 ≤ x ∧ ab x = x) ∨ (x < 0 ∧ ab x = -x) := by
  rcases Int.lt_or_le x 0 with h | h
  · exact .inr ⟨h, if_pos h⟩
  · exact .inl ⟨h, if_neg (by omega)⟩
theorem ab_nonneg (x : Int) : 0 ≤ ab x := by rcases ab_cases x with ⟨h, e⟩ | ⟨h, e⟩ <;> omega
theorem ab_bt {n : Nat} {x : Int} (h : Bt n x) : Bt n (ab x) := by
  rcases ab_cases x with ⟨_, e⟩ | ⟨_, e⟩ <;> rw [e]
  · exact h
  · exact h.neg
theorem bt_ab {n : Nat} {x y : Int} (h : Bt n y) (l : ab x ≤ ab y) : Bt n x := by
  unfold Bt at *
  rcases ab_cases x with ⟨_, e⟩ | ⟨_, e⟩ <;> rcases ab_cases y with ⟨_, e'⟩ | ⟨_, e'⟩ <;> omega
theorem bt_le {n : Nat} {x k : Int} (l : ab x ≤ k) (hk : k < 2 ^ n) : Bt n x := by
  rcases ab_cases x with ⟨_, e⟩ | ⟨_, e⟩ <;> exact Bt.of (by omega) (by omega)
def dB (f : I3) (top : Int) : Int := top - (top + f.2.1).fmod (2 * ab f.2.2)
def kB (f : I3) (top : Int) : Int := (f.2.1 + dB f top).fdiv (2 * f.2.2)
def behT (f : I3) (top : Int) : I4 := (0, -1, 1, kB f top)
theorem beh_det {f : I3} {top : Int} : det (behT f top) = 1 := by simp [det, behT]
theorem dB_range {f : I3} {top : Int} (h : f.2.2 ≠ 0) : top - 2 * ab f.2.2 < dB f top ∧ dB f top ≤ top := by
  have hc : 0 < 2 * ab f.2.2 := by rcases ab_cases f.2.2 with ⟨_, e⟩ | ⟨_, e⟩ <;> omega
  have := fm_range (top + f.2.1) hc
  unfold dB
  omega
theorem kB_mul {f : I3} {top : Int} (h : f.2.2 ≠ 0) : 2 * f.2.2 * kB f top = f.2.1 + dB f top := by
  unfold kB dB
  have e := Int.fmod_def (top + f.2.1) (2 * ab f.2.2)
  generalize (top + f.2.1).fdiv (2 * ab f.2.2) = q at *
  have e1 : f.2.1 + (top - (top + f.2.1).fmod (2 * ab f.2.2)) = 2 * ab f.2.2 * q := by omega
  rw [e1]
  rcases ab_cases f.2.2 with ⟨_, e2⟩ | ⟨_, e2⟩
  · rw [e2, Int.mul_fdiv_cancel_left _ (by omega)]
  · have e3 : 2 * ab f.2.2 * q = 2 * f.2.2 * (-q) := by rw [e2]; grind
    rw [e3, Int.mul_fdiv_cancel_left _ (by omega)]
theorem mov_beh {f : I3} {top : Int} (h : f.2.2 ≠ 0) : ∃ e, mov f (behT f top) = (f.2.2, dB f top, e) := by
  have hk := kB_mul (top := top) h
  obtain ⟨a, b, c⟩ := f
  refine ⟨(mov (a, b, c) (behT (a, b, c) top)).2.2, ?_⟩
  have e1 : (mov (a, b, c) (behT (a, b, c) top)).1 = c := by simp only [mov, val, behT]; grind
  have e2 : (mov (a, b, c) (behT (a, b, c) top)).2.1 = dB (a, b, c) top := by
    simp only [mov, mid, behT]
    simp only at hk
    generalize kB (a, b, c) top = k at *
    have : 2 * a * 0 * -1 + b * (0 * k + -1 * 1) + 2 * c * 1 * k = 2 * c * k - b := by grind
    omega
  ext1
  · exact e1
  · ext1
    · exact e2
    · rfl
theorem far_lt {D far : Int} (r : Sq D far) (n : ¬ isSq D) : far * far < D := by
  rcases Int.lt_or_le (far * far) D with h | h
  · exact h
  · exact absurd ⟨far, by have := r.2.1; omega⟩ n
theorem far_63 {D far : Int} (r : Sq D far) (m : D ≤ 4000) : far ≤ 63 := by
  rcases Int.lt_or_le far 64 with h | h
  · omega
  · have := Int.mul_le_mul h h (by decide) r.1
    have := r.2.1
    omega
theorem sad_c {f : I3} (S : Sad f) : f.2.2 ≠ 0 := fun h => S.no ⟨f.2.1, by
  obtain ⟨a, b, c⟩ := f
  simp only at h
  subst h
  simp only [meas]
  omega⟩
theorem sad_a {f : I3} (S : Sad f) : f.1 ≠ 0 := fun h => S.no ⟨f.2.1, by
  obtain ⟨a, b, c⟩ := f
  simp only at h
  subst h
  simp only [meas]
  omega⟩
theorem ab_mul (x y : Int) : ab x * ab y = ab (x * y) := by
  rcases ab_cases x with ⟨h1, e1⟩ | ⟨h1, e1⟩ <;> rcases ab_cases y with ⟨h2, e2⟩ | ⟨h2, e2⟩ <;> rw [e1, e2]
  · have := Int.mul_nonneg h1 h2
    exact (if_neg (by omega)).symm
  · have := Int.mul_nonneg h1 (show 0 ≤ -y by omega)
    have e : x * -y = -(x * y) := by grind
    by_cases h : x * y < 0
    · rw [ab, if_pos h, e]
    · rw [ab, if_neg h]; omega
  · have := Int.mul_nonneg (show 0 ≤ -x by omega) h2
    have e : -x * y = -(x * y) := by grind
    by_cases h : x * y < 0
    · rw [ab, if_pos h, e]
    · rw [ab, if_neg h]; omega
  · have := Int.mul_nonneg (show 0 ≤ -x by omega) (show 0 ≤ -y by omega)
    have e : -x * -y = x * y := by grind
    rw [ab, if_neg (by omega), e]
theorem sq_le_of_ab {x k : Int} (h : ab x ≤ k) : x * x ≤ k * k := by
  have e : x * x = ab x * ab x := by
    rcases ab_cases x with ⟨_, e⟩ | ⟨_, e⟩ <;> rw [e]
    grind
  rw [e]
  have := ab_nonneg x
  exact Int.mul_le_mul h h this (by omega)
theorem last_eq {c d e D : Int} (h : meas (c, d, e) = D) : 4 * (ab c * ab e) = ab (d * d - D) := by
  have : d * d - D = 4 * (c * e) := by rw [← h]; simp only [meas]; grind
  rw [this, ab_mul]
  rcases ab_cases (c * e) with ⟨h1, e1⟩ | ⟨h1, e1⟩
  · rw [e1, ab, if_neg (by omega)]
  · rw [e1, ab, if_pos (by omega)]; omega
theorem beh_far {c d e D far : Int} (r : Sq D far) (D0 : 0 < D) (h : meas (c, d, e) = D) (hc : far < ab c) (h1 : -ab c < d) (h2 : d ≤ ab c) : 4 * ab e ≤ ab c := by
  have k := last_eq h
  have hd : d * d ≤ ab c * ab c := by
    refine sq_le_of_ab ?_
    rcases ab_cases d with ⟨_, e1⟩ | ⟨_, e1⟩ <;> omega
  have hD : D ≤ ab c * ab c := by
    have := Int.mul_le_mul (show far + 1 ≤ ab c by omega) (show far + 1 ≤ ab c by omega) (by have := r.1; omega) (ab_nonneg c)
    have := r.2.2
    omega
  have h0 := sq_nonneg d
  have : ab (d * d - D) ≤ ab c * ab c := by
    rcases ab_cases (d * d - D) with ⟨_, e1⟩ | ⟨_, e1⟩ <;> omega
  have hc0 : 0 < ab c := by have := r.1; omega
  rcases Int.lt_or_le (ab c) (4 * ab e) with z | z
  · exfalso
    have := Int.mul_lt_mul_of_pos_left z hc0
    have e2 : ab c * (4 * ab e) = 4 * (ab c * ab e) := by grind
    omega
  · exact z
theorem beh_near {c d e D far : Int} (r : Sq D far) (n : ¬ isSq D) (h : meas (c, d, e) = D) (hc : ab c ≤ far) (hc2 : far < 2 * ab c) (h1 : far - 2 * ab c < d) (h2 : d ≤ far) : 2 * ab e ≤ far := by
  have k := last_eq h
  have hf := far_lt r n
  have hd : d * d ≤ far * far := by
    refine sq_le_of_ab ?_
    rcases ab_cases d with ⟨_, e1⟩ | ⟨_, e1⟩ <;> omega
  have h0 := sq_nonneg d
  have hD := r.2.2
  have : ab (d * d - D) < (far + 1) * (far + 1) := by
    rcases ab_cases (d * d - D) with ⟨_, e1⟩ | ⟨_, e1⟩ <;> omega
  rcases Int.lt_or_le far (2 * ab e) with z | z
  · exfalso
    have := Int.mul_le_mul (show far + 1 ≤ 2 * ab c by omega) (show far + 1 ≤ 2 * ab e by omega) (by have := r.1; omega) (by have := ab_nonneg c; omega)
    have e2 : 2 * ab c * (2 * ab e) = 4 * (ab c * ab e) := by grind
    omega
  · exact z
theorem beh_end {c d e far : Int} (hc : 2 * ab c ≤ far) (h1 : far - 2 * ab c < d) (h2 : d ≤ far) : Level (c, d, e) far := by
  refine ⟨⟨?_, h2⟩, ?_, ?_⟩
  · show 0 < d; omega
  · show far - d < 2 * ab c; omega
  · show 2 * ab c ≤ far + d; omega
theorem small_last {c d e D far : Int} (r : Sq D far) (hm : D ≤ 4000) (D0 : 0 < D) (h : meas (c, d, e) = D) (c0 : c ≠ 0) (hd : ab d ≤ far) : ab e ≤ 1000 := by
  have k := last_eq h
  have h2 : d * d ≤ far * far := sq_le_of_ab hd
  have h0 := sq_nonneg d
  have h3 := r.2.1
  have : ab (d * d - D) ≤ 4000 := by
    rcases ab_cases (d * d - D) with ⟨_, e1⟩ | ⟨_, e1⟩ <;> omega
  have hc : 1 ≤ ab c := by rcases ab_cases c with ⟨_, e1⟩ | ⟨_, e1⟩ <;> omega
  have := Int.mul_le_mul_of_nonneg_right hc (ab_nonneg e)
  omega
theorem level_c {f : I3} {far : Int} (r : Sq (meas f) far) (n : ¬ isSq (meas f)) (L : Level f far) : far - f.2.1 < 2 * ab f.2.2 ∧ 2 * ab f.2.2 ≤ far + f.2.1 := by
  obtain ⟨a, b, c⟩ := f
  obtain ⟨⟨l1, l2⟩, l3, l4⟩ := L
  have l1 : 0 < b := l1
  have l2 : b ≤ far := l2
  have l3 : far - b < 2 * ab a := l3
  have l4 : 2 * ab a ≤ far + b := l4
  show far - b < 2 * ab c ∧ 2 * ab c ≤ far + b
  have hf := far_lt r n
  have hD := r.2.2
  have k : 4 * (ab a * ab c) = ab (b * b - meas (a, b, c)) := last_eq (c := a) (d := b) (e := c) rfl
  generalize meas (a, b, c) = D at *
  have hb : b * b ≤ far * far := Int.mul_le_mul l2 l2 (by omega) (by omega)
  have k2 : (2 * ab a) * (2 * ab c) = D - b * b := by
    have e1 : (2 * ab a) * (2 * ab c) = 4 * (ab a * ab c) := by grind
    rcases ab_cases (b * b - D) with ⟨_, e⟩ | ⟨_, e⟩ <;> omega
  generalize 2 * ab a = A at *
  have hC0 : 0 ≤ 2 * ab c := by have := ab_nonneg c; omega
  generalize 2 * ab c = C at *
  constructor
  · rcases Int.lt_or_le (far - b) C with z | z
    · exact z
    · exfalso
      have z1 : A * C ≤ (far + b) * (far - b) := Int.mul_le_mul l4 z hC0 (by omega)
      have e1 : (far + b) * (far - b) = far * far - b * b := by grind
      omega
  · rcases Int.lt_or_le (far + b) C with z | z
    · exfalso
      have z1 : (far - b + 1) * (far + b + 1) ≤ A * C := Int.mul_le_mul (by omega) (by omega) (by omega) (by omega)
      have e1 : (far - b + 1) * (far + b + 1) = (far + 1) * (far + 1) - b * b := by grind
      omega
    · exact z
theorem level_next {f : I3} {far : Int} (S : Sad f) (r : Sq (meas f) far) (L : Level f far) : Level (mov f (behT f far)) far := by
  have hc := sad_c S
  obtain ⟨e, he⟩ := mov_beh (top := far) hc
  rw [he]
  have ⟨d1, d2⟩ := dB_range (top := far) hc
  have ⟨c1, c2⟩ := level_c r S.no L
  obtain ⟨⟨l1, l2⟩, _, _⟩ := L
  have hk := kB_mul (top := far) hc
  have d3 : far - 2 * ab f.2.2 < dB f far := d1
  by_cases hC : 2 * ab f.2.2 ≤ far
  · exact beh_end hC d1 d2
  · -- then d is 2 |c| - b
    have hd : dB f far = 2 * ab f.2.2 - f.2.1 := by
      have e1 : f.2.1 + dB f far = 2 * (f.2.2 * kB f far) := by rw [← hk]; grind
      have hx : ab (f.2.2 * kB f far) = ab f.2.2 * ab (kB f far) := (ab_mul _ _).symm
      have hpos : 0 < f.2.2 * kB f far := by omega
      have hx2 : f.2.2 * kB f far = ab f.2.2 * ab (kB f far) := by rw [← hx, ab, if_neg (by omega)]
      have hk0 : 0 < ab (kB f far) := by
        rcases Int.lt_or_le 0 (ab (kB f far)) with z | z
        · exact z
        · have : ab (kB f far) = 0 := by have := ab_nonneg (kB f far); omega
          rw [this] at hx2
          omega
      have hk1 : ab (kB f far) = 1 := by
        rcases Int.lt_or_le (ab (kB f far)) 2 with z | z
        · omega
        · exfalso
          have := Int.mul_le_mul_of_nonneg_left z (ab_nonneg f.2.2)
          omega
      rw [hk1] at hx2
      omega
    refine ⟨⟨?_, d2⟩, ?_, ?_⟩
    · show 0 < dB f far; omega
    · show far - dB f far < 2 * ab f.2.2; omega
    · show 2 * ab f.2.2 ≤ far + dB f far; omega
theorem level_bt {f : I3} {far : Int} (S : Sad f) (r : Sq (meas f) far) (L : Level f far) : B3 7 f := by
  have ⟨c1, c2⟩ := level_c r S.no L
  have h6 := far_63 r S.most
  obtain ⟨⟨l1, l2⟩, l3, l4⟩ := L
  have l4 : 2 * ab f.1 ≤ far + f.2.1 := l4
  exact ⟨bt_le (k := 63) (by omega) (by decide), Bt.of (by omega) (by omega), bt_le (k := 63) (by omega) (by decide)⟩
end My

namespace My
open PySem L2
abbrev bl (x : Int) : Nat := Builtin.Int.intBits x
theorem bl_bt {x : Int} : Bt (bl x) x := intBits_le_iff.mp (Nat.le_refl _)
theorem bl_le {n : Nat} {x : Int} (h : Bt n x) : bl x ≤ n := intBits_le_iff.mpr h
theorem bl_pos {x : Int} (h : x ≠ 0) : 1 ≤ bl x := by
  rcases Nat.lt_or_ge 0 (bl x) with z | z
  · exact z
  · have := bl_bt (x := x)
    unfold Bt at this
    rw [show bl x = 0 by omega] at this
    omega
theorem bl_low {x : Int} (h : x ≠ 0) : 2 ^ (bl x - 1) ≤ x.natAbs := by
  rcases Nat.lt_or_ge x.natAbs (2 ^ (bl x - 1)) with z | z
  · have := bl_le (n := bl x - 1) z
    have := bl_pos h
    omega
  · exact z
theorem bl_fourth {x y : Int} (h : 4 * ab x ≤ ab y) (hy : y ≠ 0) : bl x + 2 ≤ bl y ∨ x = 0 := by
  by_cases hx : x = 0
  · exact .inr hx
  · refine .inl ?_
    have h1 := bl_low hx
    have h2 := bl_bt (x := y)
    unfold Bt at h2
    have p := bl_pos hx
    rcases Nat.lt_or_ge (bl y) (bl x + 2) with z | z
    · exfalso
      have h3 : 2 ^ bl y ≤ 2 ^ (bl x - 1 + 2) := Nat.pow_le_pow_right (by decide) (by omega)
      rw [Nat.pow_add] at h3
      have h4 : 4 * x.natAbs ≤ y.natAbs := by
        rcases ab_cases x with ⟨_, e⟩ | ⟨_, e⟩ <;> rcases ab_cases y with ⟨_, e'⟩ | ⟨_, e'⟩ <;> omega
      omega
    · exact z
theorem often_bt {b c d k : Int} {x : Nat} (hc : c ≠ 0) (hb : Bt x b) (hx : bl c ≤ x) (hd : ab d ≤ ab c) (hk : 2 * c * k = b + d) : Bt (x + 1 - bl c) k := by
  have h1 := bl_low hc
  have h2 := bl_bt (x := c)
  have hp := bl_pos hc
  unfold Bt at *
  have e1 : 2 * (c.natAbs * k.natAbs) = (b + d).natAbs := by
    rw [← hk, Int.mul_assoc, Int.natAbs_mul, Int.natAbs_mul]; rfl
  have e2 : (b + d).natAbs < 2 ^ x + 2 ^ bl c := by
    rcases ab_cases d with ⟨_, e⟩ | ⟨_, e⟩ <;> rcases ab_cases c with ⟨_, e'⟩ | ⟨_, e'⟩ <;> omega
  have e3 : 2 ^ bl c ≤ 2 ^ x := Nat.pow_le_pow_right (by decide) hx
  rcases Nat.lt_or_ge k.natAbs (2 ^ (x + 1 - bl c)) with z | z
  · exact z
  · exfalso
    have := Nat.mul_le_mul h1 z
    rw [← Nat.pow_add, show bl c - 1 + (x + 1 - bl c) = x by omega] at this
    omega
theorem beh_b4 {f : I3} {top : Int} {m : Nat} (h : Bt m (kB f top)) (hm : 1 ≤ m) : B4 m (behT f top) := ⟨Bt.zero.le (by omega), (Bt.one.le hm).neg, Bt.one.le hm, h⟩
def EInv (n : Nat) (far : Int) (f0 : I3) (t : I4) : Prop :=
  det t = 1 ∧ B3 n (mov f0 t) ∧
  (if far < ab (mov f0 t).2.2 then ∃ β x, B4 β t ∧ Bt x (mov f0 t).2.1 ∧ bl (mov f0 t).2.2 ≤ x ∧ β + x + bl (mov f0 t).2.2 ≤ 2 * n + 1
   else if Level (mov f0 t) far then B4 (5 * n + 30) t else if far < 2 * ab (mov f0 t).2.2 then B4 (3 * n + 10) t else B4 (4 * n + 20) t)
def eM (far : Int) (f : I3) : Nat := if far < ab f.2.2 then (ab f.2.2).toNat + 3 else if Level f far then 0 else if far < 2 * ab f.2.2 then 2 else 1
theorem EInv.b4 {n : Nat} {far : Int} {f0 : I3} {t : I4} (h : EInv n far f0 t) : B4 (5 * n + 30) t := by
  obtain ⟨_, _, h⟩ := h
  split at h
  · obtain ⟨β, x, hb, _, _, _⟩ := h
    exact hb.le (by omega)
  · split at h
    · exact h
    · split at h
      · exact h.le (by omega)
      · exact h.le (by omega)
theorem EInv.start {n : Nat} {far : Int} {f : I3} (hn : 1 ≤ n) (hf : B3 n f) : EInv n far f (1, 0, 0, 1) := by
  have one : B4 1 (1, 0, 0, 1) := ⟨Bt.one, Bt.zero.le (by omega), Bt.zero.le (by omega), Bt.one⟩
  unfold EInv
  rw [mov_same]
  refine ⟨rfl, hf, ?_⟩
  split
  · exact ⟨1, n, one, hf.2.1, bl_le hf.2.2, by have := bl_le hf.2.2; omega⟩
  · split
    · exact one.le (by omega)
    · split
      · exact one.le (by omega)
      · exact one.le (by omega)
theorem ease_step {n : Nat} {far : Int} {f0 : I3} {t : I4} (hn : 12 ≤ n) (S : Sad f0) (r : Sq (meas f0) far) (I : EInv n far f0 t) (nl : ¬ Level (mov f0 t) far) :
    EInv n far f0 (thenV t (behT (mov f0 t) (if far > ab (mov f0 t).2.2 then far else ab (mov f0 t).2.2))) ∧
    eM far (mov f0 (thenV t (behT (mov f0 t) (if far > ab (mov f0 t).2.2 then far else ab (mov f0 t).2.2)))) < eM far (mov f0 t) ∧
    B4 (n + 3) (behT (mov f0 t) (if far > ab (mov f0 t).2.2 then far else ab (mov f0 t).2.2)) := by
  have hb4 := I.b4
  obtain ⟨hd, hb, hI⟩ := I
  have Sf := S.mov hd
  have hm := meas_mov (f := f0) hd
  have rf : Sq (meas (mov f0 t)) far := by rw [hm]; exact r
  have f63 := far_63 rf Sf.most
  have far0 := r.1
  simp only [EInv, ← mov_then]
  rw [det_then, hd, beh_det]
  generalize hf : mov f0 t = f at *
  have hc := sad_c Sf
  have c1 : 1 ≤ ab f.2.2 := by rcases ab_cases f.2.2 with ⟨_, e1⟩ | ⟨_, e1⟩ <;> omega
  by_cases h1 : far < ab f.2.2
  · -- far from level
    rw [if_pos h1] at hI
    obtain ⟨β, x, hβ, hx, hlx, hsum⟩ := hI
    rw [if_neg (show ¬ far > ab f.2.2 by omega)]
    have ⟨d1, d2⟩ := dB_range (top := ab f.2.2) hc
    have hk := kB_mul (top := ab f.2.2) hc
    obtain ⟨e, he⟩ := mov_beh (top := ab f.2.2) hc
    have hme : meas (f.2.2, dB f (ab f.2.2), e) = meas f := by rw [← he, meas_mov beh_det]
    have hdc : ab (dB f (ab f.2.2)) ≤ ab f.2.2 := by rcases ab_cases (dB f (ab f.2.2)) with ⟨_, e1⟩ | ⟨_, e1⟩ <;> omega
    have h4 := beh_far rf Sf.pos hme h1 (by omega) d2
    have kbt := often_bt hc hx hlx hdc hk
    have k1 : 1 ≤ x + 1 - bl f.2.2 := by omega
    have hbeh := beh_b4 kbt k1
    have hxn : bl f.2.2 ≤ n := bl_le hb.2.2
    have hS' := Sf.mov (t := behT f (ab f.2.2)) beh_det
    rw [he] at hS'
    have he0 : e ≠ 0 := sad_c hS'
    have hfour := (bl_fourth h4 hc).resolve_right he0
    have hβ' := B4.then hβ hbeh
    rw [he]
    refine ⟨⟨rfl, ⟨hb.2.2, bt_ab hb.2.2 hdc, bt_ab hb.2.2 (show ab e ≤ ab f.2.2 by have := ab_nonneg e; omega)⟩, ?_⟩, ?_, ?_⟩
    · show if far < ab e then _ else _
      split
      · refine ⟨_, bl f.2.2, hβ', ?_, ?_, ?_⟩
        · exact bt_ab bl_bt hdc
        · show bl e ≤ bl f.2.2; omega
        · show _ + bl f.2.2 + bl e ≤ _; omega
      · split
        · exact hβ'.le (by omega)
        · split
          · exact hβ'.le (by omega)
          · exact hβ'.le (by omega)
    · unfold eM
      rw [if_pos h1]
      show (if far < ab e then (ab e).toNat + 3 else _) < _
      split
      · have := ab_nonneg e; omega
      · split
        · omega
        · split <;> omega
    · -- how often, in the first step too
      have : Bt (n + 1 - bl f.2.2) (kB f (ab f.2.2)) := often_bt hc hb.2.1 hxn hdc hk
      exact (beh_b4 this (by omega)).le (by omega)
  · rw [if_neg h1, if_neg nl] at hI
    have etop : (if far > ab f.2.2 then far else ab f.2.2) = far := by split <;> omega
    rw [etop]
    have ⟨d1, d2⟩ := dB_range (top := far) hc
    have hk := kB_mul (top := far) hc
    obtain ⟨e, he⟩ := mov_beh (top := far) hc
    have hme : meas (f.2.2, dB f far, e) = meas f := by rw [← he, meas_mov beh_det]
    have hdf : ab (dB f far) ≤ far := by rcases ab_cases (dB f far) with ⟨_, e1⟩ | ⟨_, e1⟩ <;> omega
    have hel := small_last rf Sf.most Sf.pos hme hc hdf
    have kb : Bt (n + 2) (kB f far) := by
      have e1 : 2 * (ab f.2.2 * ab (kB f far)) = ab (f.2.1 + dB f far) := by
        rw [← hk, ab_mul]
        have : 2 * f.2.2 * kB f far = 2 * (f.2.2 * kB f far) := by grind
        rw [this]
        rcases ab_cases (f.2.2 * kB f far) with ⟨h1, e1⟩ | ⟨h1, e1⟩
        · rw [e1, ab, if_neg (by omega)]
        · rw [e1, ab, if_pos (by omega)]; omega
      have e2 := Int.mul_le_mul_of_nonneg_right c1 (ab_nonneg (kB f far))
      have e3 : Bt (n + 1) (f.2.1 + dB f far) := by
        have := (hb.2.1).add (show Bt 7 (dB f far) from bt_le (k := 63) (by omega) (by decide))
        exact this.le (by omega)
      refine Bt.le (n := n + 1) (bt_ab e3 ?_) (by omega)
      have := ab_nonneg (kB f far)
      omega
    have hbeh := beh_b4 kb (by omega)
    rw [he]
    have hB : B3 n (f.2.2, dB f far, e) := ⟨hb.2.2, Bt.le (n := 7) (bt_le (k := 63) (show ab (dB f far) ≤ 63 by omega) (by decide)) (by omega), Bt.le (n := 12) (bt_le (x := e) hel (by decide)) (by omega)⟩
    by_cases h2 : far < 2 * ab f.2.2
    · rw [if_pos h2] at hI
      have hβ' := B4.then hI hbeh
      have hh := beh_near rf Sf.no hme (by omega) h2 (by omega) d2
      have h3 : ¬ far < ab e := by have := ab_nonneg e; omega
      refine ⟨⟨rfl, hB, ?_⟩, ?_, hbeh.le (by omega)⟩
      · show if far < ab e then _ else _
        rw [if_neg h3]
        split
        · exact hβ'.le (by omega)
        · rw [if_neg (show ¬ far < 2 * ab (f.2.2, dB f far, e).2.2 by show ¬ far < 2 * ab e; omega)]
          exact hβ'.le (by omega)
      · unfold eM
        rw [if_neg h1, if_neg nl, if_pos h2]
        show (if far < ab e then _ else _) < 2
        rw [if_neg h3]
        split
        · omega
        · rw [if_neg (show ¬ far < 2 * ab (f.2.2, dB f far, e).2.2 by show ¬ far < 2 * ab e; omega)]
          omega
    · rw [if_neg h2] at hI
      have hβ' := B4.then hI hbeh
      have hL : Level (f.2.2, dB f far, e) far := beh_end (by omega) d1 d2
      have h3 : ¬ far < ab e := by
        have := (level_c (f := (f.2.2, dB f far, e)) (by rw [hme]; exact rf) (by rw [hme]; exact Sf.no) hL).2
        simp only at this
        omega
      refine ⟨⟨rfl, hB, ?_⟩, ?_, hbeh.le (by omega)⟩
      · show if far < ab e then _ else _
        rw [if_neg h3, if_pos hL]
        exact hβ'.le (by omega)
      · unfold eM
        rw [if_neg h1, if_neg nl, if_neg h2]
        show (if far < ab e then _ else _) < 1
        rw [if_neg h3, if_pos hL]
        omega
end My

namespace My
open PySem L2
def Riv (f : I3) : Prop := (0 < f.1 ∧ f.2.2 < 0) ∧ ¬ isSq (meas f)
abbrev tR : I4 := (1, 1, 0, 1)
abbrev tL : I4 := (1, 0, 1, 1)
def sm (f : I3) : Int := f.1 + f.2.1 + f.2.2
theorem mov_R {a b c : Int} : mov (a, b, c) tR = (a, b + 2 * a, a + b + c) := by
  simp only [mov, val, mid, Prod.mk.injEq]
  refine ⟨?_, ?_, ?_⟩ <;> grind
theorem mov_L {a b c : Int} : mov (a, b, c) tL = (a + b + c, b + 2 * c, c) := by
  simp only [mov, val, mid, Prod.mk.injEq]
  refine ⟨?_, ?_, ?_⟩ <;> grind
theorem sm_ne {f : I3} (n : ¬ isSq (meas f)) : sm f ≠ 0 := fun h => n ⟨f.1 - f.2.2, by
  obtain ⟨a, b, c⟩ := f
  simp only [sm, meas] at *
  have : b = -(a + c) := by omega
  subst this
  grind⟩
def stT (f : I3) : I4 := if sm f < 0 then tR else tL
def nx (f : I3) : I3 := mov f (stT f)
theorem st_det {f : I3} : det (stT f) = 1 := by unfold stT; split <;> rfl
theorem Riv.next {f : I3} (h : Riv f) : Riv (nx f) := by
  have hm := meas_mov (f := f) (st_det (f := f))
  refine ⟨?_, by unfold nx; rw [hm]; exact h.2⟩
  have hs := sm_ne h.2
  obtain ⟨a, b, c⟩ := f
  obtain ⟨⟨h1, h2⟩, _⟩ := h
  by_cases h : sm (a, b, c) < 0
  · have e : nx (a, b, c) = (a, b + 2 * a, a + b + c) := by unfold nx; rw [show stT (a, b, c) = tR from if_pos h]; exact mov_R
    rw [e]; exact ⟨h1, h⟩
  · have e : nx (a, b, c) = (a + b + c, b + 2 * c, c) := by unfold nx; rw [show stT (a, b, c) = tL from if_neg h]; exact mov_L
    rw [e]
    refine ⟨?_, h2⟩
    simp only [sm] at h hs ⊢
    omega
structure NN (t : I4) : Prop where
  p : 1 ≤ t.1
  q : 0 ≤ t.2.1
  r : 0 ≤ t.2.2.1
  s : 1 ≤ t.2.2.2
  d : det t = 1
def sz (t : I4) : Nat := (t.1 + t.2.1 + t.2.2.1 + t.2.2.2).toNat
theorem NN.split {t : I4} (h : NN t) : t = (1, 0, 0, 1) ∨ (∃ u, NN u ∧ t = thenV tR u ∧ sz u < sz t) ∨ (∃ u, NN u ∧ t = thenV tL u ∧ sz u < sz t) := by
  obtain ⟨p, q, r, s⟩ := t
  obtain ⟨hp, hq, hr, hs, hd⟩ := h
  simp only [det] at *
  by_cases c1 : r ≤ p ∧ s ≤ q
  · refine .inr (.inl ⟨(p - r, q - s, r, s), ⟨?_, by simp only; omega, hr, hs, ?_⟩, ?_, ?_⟩)
    · show 1 ≤ p - r
      have e : (p - r) * s - (q - s) * r = 1 := by grind
      have z := Int.mul_nonneg (show 0 ≤ q - s by omega) hr
      rcases Int.lt_or_le (p - r) 1 with w | w
      · have : (p - r) * s ≤ 0 * s := Int.mul_le_mul_of_nonneg_right (by omega) (by omega)
        omega
      · exact w
    · show (p - r) * s - (q - s) * r = 1
      grind
    · simp only [thenV, Prod.mk.injEq]
      refine ⟨?_, ?_, ?_, ?_⟩ <;> omega
    · simp only [sz]; omega
  · by_cases c2 : p ≤ r ∧ q ≤ s
    · refine .inr (.inr ⟨(p, q, r - p, s - q), ⟨hp, hq, by simp only; omega, ?_, ?_⟩, ?_, ?_⟩)
      · show 1 ≤ s - q
        have e : p * (s - q) - q * (r - p) = 1 := by grind
        have z := Int.mul_nonneg hq (show 0 ≤ r - p by omega)
        rcases Int.lt_or_le (s - q) 1 with w | w
        · have : p * (s - q) ≤ p * 0 := Int.mul_le_mul_of_nonneg_left (by omega) (by omega)
          omega
        · exact w
      · show p * (s - q) - q * (r - p) = 1
        grind
      · simp only [thenV, Prod.mk.injEq]
        refine ⟨?_, ?_, ?_, ?_⟩ <;> omega
      · simp only [sz]; omega
    · rcases Int.lt_or_le r p with w | w
      · -- then q < s
        have w2 : q < s := by omega
        have z := Int.mul_le_mul (show r + 1 ≤ p by omega) (show q + 1 ≤ s by omega) (by omega) (by omega)
        have e : (r + 1) * (q + 1) = r * q + r + q + 1 := by grind
        have e2 : r * q = q * r := Int.mul_comm r q
        have r0 : r = 0 := by omega
        have q0 : q = 0 := by omega
        subst r0 q0
        left
        have hps : p * s = 1 := by omega
        have p1 : p = 1 := by
          rcases Int.lt_or_le p 2 with v | v
          · omega
          · have := Int.mul_le_mul v hs (by decide) (by omega)
            omega
        subst p1
        have : s = 1 := by omega
        rw [this]
      · -- p ≤ r, so s < q
        have w2 : s < q := by omega
        have w3 : p < r := by
          rcases Int.lt_or_le p r with v | v
          · exact v
          · have : p = r := by omega
            subst this
            exfalso
            have e : p * s - q * p = p * (s - q) := by grind
            have := Int.mul_le_mul_of_nonneg_left (show s - q ≤ -1 by omega) (show 0 ≤ p by omega)
            omega
        exfalso
        have z := Int.mul_le_mul (show p ≤ r - 1 by omega) (show s ≤ q - 1 by omega) (by omega) (by omega)
        have e : (r - 1) * (q - 1) = q * r - r - q + 1 := by grind
        omega
def wd : Nat → I3 → I4
  | 0, _ => (1, 0, 0, 1)
  | n + 1, f => thenV (stT f) (wd n (nx f))
def nxs : Nat → I3 → I3
  | 0, f => f
  | n + 1, f => nxs n (nx f)
theorem same_then {t : I4} : thenV (1, 0, 0, 1) t = t := by
  obtain ⟨p, q, r, s⟩ := t
  simp only [thenV, Prod.mk.injEq]
  refine ⟨?_, ?_, ?_, ?_⟩ <;> omega
theorem then_same {t : I4} : thenV t (1, 0, 0, 1) = t := by
  obtain ⟨p, q, r, s⟩ := t
  simp only [thenV, Prod.mk.injEq]
  refine ⟨?_, ?_, ?_, ?_⟩ <;> omega
theorem then_assoc {t u v : I4} : thenV (thenV t u) v = thenV t (thenV u v) := by
  obtain ⟨a, b, c, d⟩ := t; obtain ⟨e, f, g, h⟩ := u; obtain ⟨i, j, k, l⟩ := v
  simp only [thenV, Prod.mk.injEq]
  refine ⟨?_, ?_, ?_, ?_⟩ <;> grind
theorem wd_mov : ∀ (n : Nat) (f : I3), mov f (wd n f) = nxs n f
  | 0, f => mov_same
  | n + 1, f => by rw [wd, ← mov_then]; exact wd_mov n (nx f)
theorem pos_val {a b c x y : Int} (ha : 0 < a) (hb : 0 < b) (hc : 0 < c) (hx : 0 ≤ x) (hy : 0 ≤ y) : 0 ≤ val (a, b, c) (x, y) := by
  have e : val (a, b, c) (x, y) = a * (x * x) + b * (x * y) + c * (y * y) := by simp only [val]; grind
  have h1 := Int.mul_nonneg (show 0 ≤ a by omega) (Int.mul_nonneg hx hx)
  have h2 := Int.mul_nonneg (show 0 ≤ b by omega) (Int.mul_nonneg hx hy)
  have h3 := Int.mul_nonneg (show 0 ≤ c by omega) (Int.mul_nonneg hy hy)
  omega
theorem neg_val {a b c x y : Int} (ha : a < 0) (hb : b < 0) (hc : c < 0) (hx : 0 ≤ x) (hy : 0 ≤ y) : val (a, b, c) (x, y) ≤ 0 := by
  have := pos_val (a := -a) (b := -b) (c := -c) (by omega) (by omega) (by omega) hx hy
  have e : val (-a, -b, -c) (x, y) = -val (a, b, c) (x, y) := by simp only [val]; grind
  omega
theorem along : ∀ (m : Nat) (f : I3) (t : I4), sz t ≤ m → Riv f → NN t → Riv (mov f t) → ∃ n, t = wd n f := by
  intro m
  induction m with
  | zero =>
    intro f t hs _ hN _
    exfalso
    have := hN.p; have := hN.q; have := hN.r; have := hN.s
    unfold sz at hs
    omega
  | succ m ih =>
    intro f t hs hf hN hg
    rcases hN.split with e | ⟨u, hu, e, hl⟩ | ⟨u, hu, e, hl⟩
    · exact ⟨0, e⟩
    · have hsm : sm f < 0 := by
        have hne := sm_ne hf.2
        rcases Int.lt_or_le (sm f) 0 with z | z
        · exact z
        · exfalso
          rw [e, ← mov_then] at hg
          obtain ⟨a, b, c⟩ := f
          obtain ⟨p, q, r, s⟩ := u
          rw [mov_R] at hg
          have h1 : (mov (a, b + 2 * a, a + b + c) (p, q, r, s)).2.2 < 0 := hg.1.2
          have h2 : 0 < a := hf.1.1
          have h3 : c < 0 := hf.1.2
          simp only [sm] at hne z
          have h4 : 0 ≤ val (a, b + 2 * a, a + b + c) (q, s) := pos_val h2 (by omega) (by omega) hu.q (by have := hu.s; simp only at this; omega)
          have h5 : (mov (a, b + 2 * a, a + b + c) (p, q, r, s)).2.2 = val (a, b + 2 * a, a + b + c) (q, s) := rfl
          omega
      have hst : stT f = tR := by unfold stT; rw [if_pos hsm]
      have hnx : nx f = mov f tR := by unfold nx; rw [hst]
      have hr := hf.next
      obtain ⟨n, en⟩ := ih (nx f) u (by omega) hr hu (by rw [hnx, mov_then, ← e]; exact hg)
      exact ⟨n + 1, by rw [wd, hst, ← en]; exact e⟩
    · have hsm : ¬ sm f < 0 := by
        intro z
        rw [e, ← mov_then] at hg
        obtain ⟨a, b, c⟩ := f
        obtain ⟨p, q, r, s⟩ := u
        rw [mov_L] at hg
        have h1 : 0 < (mov (a + b + c, b + 2 * c, c) (p, q, r, s)).1 := hg.1.1
        have h2 : 0 < a := hf.1.1
        have h3 : c < 0 := hf.1.2
        simp only [sm] at z
        have h4 : val (a + b + c, b + 2 * c, c) (p, r) ≤ 0 := neg_val (by omega) (by omega) h3 (by have := hu.p; simp only at this; omega) hu.r
        have h5 : (mov (a + b + c, b + 2 * c, c) (p, q, r, s)).1 = val (a + b + c, b + 2 * c, c) (p, r) := rfl
        omega
      have hst : stT f = tL := by unfold stT; rw [if_neg hsm]
      have hnx : nx f = mov f tL := by unfold nx; rw [hst]
      have hr := hf.next
      obtain ⟨n, en⟩ := ih (nx f) u (by omega) hr hu (by rw [hnx, mov_then, ← e]; exact hg)
      exact ⟨n + 1, by rw [wd, hst, ← en]; exact e⟩
def negT (t : I4) : I4 := (-t.1, -t.2.1, -t.2.2.1, -t.2.2.2)
theorem mov_neg {f : I3} {t : I4} : mov f (negT t) = mov f t := by
  obtain ⟨a, b, c⟩ := f; obtain ⟨p, q, r, s⟩ := t
  simp only [mov, val, mid, negT, Prod.mk.injEq]
  refine ⟨?_, ?_, ?_⟩ <;> grind
theorem neg_neg {t : I4} : negT (negT t) = t := by
  obtain ⟨p, q, r, s⟩ := t
  simp only [negT, Prod.mk.injEq]
  refine ⟨?_, ?_, ?_, ?_⟩ <;> omega
theorem det_neg {t : I4} : det (negT t) = det t := by
  obtain ⟨p, q, r, s⟩ := t
  simp only [det, negT]; grind
theorem back_neg {t : I4} : backV (negT t) = negT (backV t) := by
  obtain ⟨p, q, r, s⟩ := t
  simp only [backV, negT]
theorem signs {f : I3} {t : I4} (hf : Riv f) (hd : det t = 1) (hg : Riv (mov f t)) (hp : 0 ≤ t.1) : NN t ∨ NN (backV t) := by
  obtain ⟨a, b, c⟩ := f
  obtain ⟨p, q, r, s⟩ := t
  have ha : 0 < a := hf.1.1
  have hc : c < 0 := hf.1.2
  have hu : 0 < val (a, b, c) (p, r) := hg.1.1
  have hv : val (a, b, c) (q, s) < 0 := hg.1.2
  have hp : 0 ≤ p := hp
  have p0 : p ≠ 0 := fun e => by
    subst e
    rw [val_ay] at hu
    have := Int.mul_nonneg (show 0 ≤ -c by omega) (sq_nonneg r)
    have e : -c * (r * r) = -(c * (r * r)) := by grind
    omega
  have s0 : s ≠ 0 := fun e => by
    subst e
    rw [val_ax] at hv
    have := Int.mul_nonneg (show 0 ≤ a by omega) (sq_nonneg q)
    omega
  have hd' : p * s - q * r = 1 := hd
  have key : val (a, b, c) (p, r) * (q * s) - val (a, b, c) (q, s) * (p * r) = (p * s - q * r) * (a * (p * q) - c * (r * s)) := by simp only [val]; grind
  have hs : 0 < s := by
    rcases Int.lt_or_le 0 s with z | z
    · exact z
    · exfalso
      have z : s ≤ -1 := by omega
      have h1 : p * s ≤ 1 * -1 := by
        have := Int.mul_le_mul_of_nonneg_left z (show 0 ≤ p by omega)
        omega
      have hqr : q * r ≤ -2 := by omega
      rw [hd', Int.one_mul] at key
      rcases Int.lt_or_le q 0 with hq | hq
      · have hr : 0 < r := by
          rcases Int.lt_or_le 0 r with w | w
          · exact w
          · have := Int.mul_nonneg_of_nonpos_of_nonpos (show q ≤ 0 by omega) w
            omega
        -- q s > 0, p r > 0: left above nought; right below
        have k1 := Int.mul_pos hu (Int.mul_pos_of_neg_of_neg hq (show s < 0 by omega))
        have k2 := Int.mul_neg_of_neg_of_pos hv (Int.mul_pos (show 0 < p by omega) hr)
        have k3 := Int.mul_neg_of_pos_of_neg ha (Int.mul_neg_of_pos_of_neg (show 0 < p by omega) hq)
        have k4 := Int.mul_pos_of_neg_of_neg hc (Int.mul_neg_of_pos_of_neg hr (show s < 0 by omega))
        omega
      · have hq' : 0 < q := by
          rcases Int.lt_or_le 0 q with w | w
          · exact w
          · have : q = 0 := by omega
            subst this
            omega
        have hr : r < 0 := by
          rcases Int.lt_or_le r 0 with w | w
          · exact w
          · have := Int.mul_nonneg hq w
            omega
        have k1 := Int.mul_neg_of_pos_of_neg hu (Int.mul_neg_of_pos_of_neg hq' (show s < 0 by omega))
        have k2 := Int.mul_pos_of_neg_of_neg hv (Int.mul_neg_of_pos_of_neg (show 0 < p by omega) hr)
        have k3 := Int.mul_pos ha (Int.mul_pos (show 0 < p by omega) hq')
        have k4 := Int.mul_neg_of_neg_of_pos hc (Int.mul_pos_of_neg_of_neg hr (show s < 0 by omega))
        omega
  have hps := Int.mul_le_mul (show 1 ≤ p by omega) (show 1 ≤ s by omega) (by decide) (by omega)
  by_cases hq : 0 ≤ q ∧ 0 ≤ r
  · exact .inl ⟨by simp only; omega, hq.1, hq.2, by simp only; omega, hd⟩
  · right
    have hqr : q ≤ 0 ∧ r ≤ 0 := by
      rcases Int.lt_trichotomy q 0 with w | w | w
      · refine ⟨by omega, ?_⟩
        rcases Int.lt_or_le 0 r with v | v
        · have := Int.mul_neg_of_neg_of_pos w v; omega
        · exact v
      · omega
      · exfalso
        have : r < 0 := by omega
        have := Int.mul_neg_of_pos_of_neg w this
        omega
    exact ⟨by simp only [backV]; omega, by simp only [backV]; omega, by simp only [backV]; omega, by simp only [backV]; omega, det_back.trans hd⟩
theorem river {f : I3} {t : I4} (hf : Riv f) (hd : det t = 1) (hg : Riv (mov f t)) :
    (∃ n, t = wd n f ∨ t = negT (wd n f)) ∨ (∃ n, backV t = wd n (mov f t) ∨ backV t = negT (wd n (mov f t))) := by
  have core : ∀ t : I4, det t = 1 → Riv (mov f t) → 0 ≤ t.1 → (∃ n, t = wd n f) ∨ (∃ n, backV t = wd n (mov f t)) := fun t hd hg hp => by
    rcases signs hf hd hg hp with h | h
    · exact .inl (along _ f t (Nat.le_refl _) hf h hg)
    · exact .inr (along _ (mov f t) (backV t) (Nat.le_refl _) hg h (by rw [mov_back hd]; exact hf))
  rcases Int.le_total 0 t.1 with hp | hp
  · rcases core t hd hg hp with ⟨n, h⟩ | ⟨n, h⟩
    · exact .inl ⟨n, .inl h⟩
    · exact .inr ⟨n, .inl h⟩
  · rcases core (negT t) (det_neg.trans hd) (by rw [mov_neg]; exact hg) (by show 0 ≤ -t.1; omega) with ⟨n, h⟩ | ⟨n, h⟩
    · exact .inl ⟨n, .inr (by rw [← h, neg_neg])⟩
    · rw [mov_neg, back_neg] at h
      exact .inr ⟨n, .inr (by rw [← h, neg_neg])⟩
end My

namespace My
open PySem L2
structure Lv (far : Int) (f : I3) : Prop where
  S : Sad f
  r : Sq (meas f) far
  L : Level f far
abbrev aft (far : Int) (f : I3) : I3 := mov f (behT f far)
theorem Lv.next {far : Int} {f : I3} (h : Lv far f) : Lv far (aft far f) :=
  ⟨h.S.mov beh_det, by rw [meas_mov beh_det]; exact h.r, level_next h.S h.r h.L⟩
theorem Lv.ac {far : Int} {f : I3} (h : Lv far f) : f.1 * f.2.2 < 0 := by
  have hf := far_lt h.r h.S.no
  obtain ⟨⟨l1, l2⟩, _, _⟩ := h.L
  obtain ⟨a, b, c⟩ := f
  have l1 : 0 < b := l1
  have l2 : b ≤ far := l2
  have hb : b * b ≤ far * far := Int.mul_le_mul l2 l2 (by omega) (by omega)
  have e : meas (a, b, c) = b * b - 4 * (a * c) := by simp only [meas]; grind
  show a * c < 0
  omega
theorem Lv.neg {far : Int} {f : I3} (h : Lv far f) (ha : 0 < f.1) : f.2.2 < 0 := by
  rcases Int.lt_or_le f.2.2 0 with z | z
  · exact z
  · have := h.ac
    have := Int.mul_nonneg (show 0 ≤ f.1 by omega) z
    omega
theorem Lv.pos {far : Int} {f : I3} (h : Lv far f) (ha : f.1 < 0) : 0 < f.2.2 := by
  rcases Int.lt_or_le 0 f.2.2 with z | z
  · exact z
  · have := h.ac
    have := Int.mul_nonneg_of_nonpos_of_nonpos (show f.1 ≤ 0 by omega) z
    omega
theorem aft_fst {far : Int} {f : I3} (h : Lv far f) : (aft far f).1 = f.2.2 ∧ (aft far f).2.1 = dB f far ∧ (aft far f).2.2 = f.1 - f.2.1 * kB f far + f.2.2 * (kB f far * kB f far) := by
  obtain ⟨e, he⟩ := mov_beh (top := far) (sad_c h.S)
  refine ⟨by show (mov f (behT f far)).1 = _; rw [he], by show (mov f (behT f far)).2.1 = _; rw [he], ?_⟩
  show val f (-1, kB f far) = _
  simp only [val]; grind
theorem Lv.riv {far : Int} {f : I3} (h : Lv far f) (ha : 0 < f.1) : Riv f := ⟨⟨ha, h.neg ha⟩, h.S.no⟩
theorem aft_inj {far : Int} {f g : I3} (hf : Lv far f) (hg : Lv far g) (hm : meas f = meas g) (h : aft far f = aft far g) : f = g := by
  have ⟨f1, f2, _⟩ := aft_fst hf
  have ⟨g1, g2, _⟩ := aft_fst hg
  have hc : f.2.2 = g.2.2 := by rw [← f1, h, g1]
  have hd : dB f far = dB g far := by rw [← f2, h, g2]
  have kf := kB_mul (top := far) (sad_c hf.S)
  have kg := kB_mul (top := far) (sad_c hg.S)
  have cf := (level_c hf.r hf.S.no hf.L).1
  have cg := (level_c hg.r hg.S.no hg.L).1
  have lf := hf.L.1.2
  have lg := hg.L.1.2
  have c0 := sad_c hf.S
  obtain ⟨a, b, c⟩ := f
  obtain ⟨a', b', c'⟩ := g
  simp only at hc hd kf kg cf cg lf lg c0
  subst hc
  rw [← hd] at kg
  have hb : b = b' := by
    have e : b - b' = 2 * (c * (kB (a, b, c) far - kB (a', b', c) far)) := by
      have : 2 * (c * (kB (a, b, c) far - kB (a', b', c) far)) = 2 * c * kB (a, b, c) far - 2 * c * kB (a', b', c) far := by grind
      omega
    generalize kB (a, b, c) far - kB (a', b', c) far = k at *
    have hx : ab (c * k) = ab c * ab k := (ab_mul c k).symm
    have hk : ab k = 0 := by
      rcases Int.lt_or_le (ab k) 1 with z | z
      · have := ab_nonneg k; omega
      · exfalso
        have := Int.mul_le_mul_of_nonneg_left z (ab_nonneg c)
        rcases ab_cases (c * k) with ⟨_, e1⟩ | ⟨_, e1⟩ <;> omega
    rw [hk] at hx
    have : c * k = 0 := by rcases ab_cases (c * k) with ⟨_, e1⟩ | ⟨_, e1⟩ <;> omega
    omega
  subst hb
  have e1 : 4 * c * a = 4 * c * a' := by
    simp only [meas] at hm
    have x1 : 4 * a * c = 4 * c * a := by grind
    have x2 : 4 * a' * c = 4 * c * a' := by grind
    omega
  have : a = a' := Int.eq_of_mul_eq_mul_left (show 4 * c ≠ 0 by omega) e1
  rw [this]
theorem wd_L : ∀ (k : Nat) (a b c : Int), (∀ j : Nat, 1 ≤ j → j ≤ k → 0 < a + b * j + c * (j * j)) → wd k (a, b, c) = (1, 0, (k : Int), 1)
  | 0, _, _, _, _ => rfl
  | k + 1, a, b, c, h => by
    have h1 := h 1 (by omega) (by omega)
    have hs : ¬ sm (a, b, c) < 0 := by simp only [sm]; simp at h1; omega
    have e : nx (a, b, c) = (a + b + c, b + 2 * c, c) := by unfold nx; rw [show stT (a, b, c) = tL from if_neg hs]; exact mov_L
    rw [wd, e, show stT (a, b, c) = tL from if_neg hs, wd_L k _ _ _ fun j j1 jk => ?_]
    · simp only [thenV, Prod.mk.injEq]
      refine ⟨by omega, by omega, by push_cast; omega, by omega⟩
    · have := h (j + 1) (by omega) (by omega)
      have e2 : a + b + c + (b + 2 * c) * (j : Int) + c * ((j : Int) * j) = a + b * ((j + 1 : Nat) : Int) + c * (((j + 1 : Nat) : Int) * ((j + 1 : Nat) : Int)) := by push_cast; grind
      rw [e2]; exact this
theorem wd_R : ∀ (k : Nat) (a b c : Int), (∀ j : Nat, 1 ≤ j → j ≤ k → a * (j * j) + b * j + c < 0) → wd k (a, b, c) = (1, (k : Int), 0, 1)
  | 0, _, _, _, _ => rfl
  | k + 1, a, b, c, h => by
    have h1 := h 1 (by omega) (by omega)
    have hs : sm (a, b, c) < 0 := by simp only [sm]; simp at h1; omega
    have e : nx (a, b, c) = (a, b + 2 * a, a + b + c) := by unfold nx; rw [show stT (a, b, c) = tR from if_pos hs]; exact mov_R
    rw [wd, e, show stT (a, b, c) = tR from if_pos hs, wd_R k _ _ _ fun j j1 jk => ?_]
    · simp only [thenV, Prod.mk.injEq]
      refine ⟨by omega, by push_cast; omega, by omega, by omega⟩
    · have := h (j + 1) (by omega) (by omega)
      have e2 : a * ((j : Int) * j) + (b + 2 * a) * (j : Int) + (a + b + c) = a * (((j + 1 : Nat) : Int) * ((j + 1 : Nat) : Int)) + b * ((j + 1 : Nat) : Int) + c := by push_cast; grind
      rw [e2]; exact this
theorem wd_add : ∀ (m n : Nat) (f : I3), wd (m + n) f = thenV (wd m f) (wd n (nxs m f))
  | 0, n, f => by rw [Nat.zero_add]; exact same_then.symm
  | m + 1, n, f => by
    rw [show m + 1 + n = (m + n) + 1 by omega, wd, wd_add m n (nx f), wd, then_assoc]; rfl
theorem nxs_add : ∀ (m n : Nat) (f : I3), nxs (m + n) f = nxs n (nxs m f)
  | 0, n, f => by rw [Nat.zero_add]; rfl
  | m + 1, n, f => by rw [show m + 1 + n = (m + n) + 1 by omega]; exact nxs_add m n (nx f)
theorem bend {a b c k j : Int} (hc : c ≤ 0) (h0 : 0 < a) (hk : 0 < a + b * k + c * (k * k)) (j0 : 0 ≤ j) (jk : j ≤ k) (k0 : 0 < k) : 0 < a + b * j + c * (j * j) := by
  have e : k * (a + b * j + c * (j * j)) = (k - j) * a + j * (a + b * k + c * (k * k)) + (-c) * (j * (k - j) * k) := by grind
  have h1 := Int.mul_nonneg (show 0 ≤ k - j by omega) (show 0 ≤ a by omega)
  have h2 := Int.mul_nonneg j0 (show 0 ≤ a + b * k + c * (k * k) by omega)
  have h3 := Int.mul_nonneg (show 0 ≤ -c by omega) (Int.mul_nonneg (Int.mul_nonneg j0 (show 0 ≤ k - j by omega)) (show 0 ≤ k by omega))
  have h4 : 0 < (k - j) * a + j * (a + b * k + c * (k * k)) := by
    by_cases z : j = k
    · subst z
      have := Int.mul_pos k0 hk
      omega
    · have := Int.mul_pos (show 0 < k - j by omega) h0
      omega
  rcases Int.lt_or_le 0 (a + b * j + c * (j * j)) with z | z
  · exact z
  · have := Int.mul_le_mul_of_nonneg_left z (show 0 ≤ k by omega)
    omega
theorem Lv.k_sign {far : Int} {f : I3} (h : Lv far f) : (0 < f.1 → kB f far < 0) ∧ (f.1 < 0 → 0 < kB f far) := by
  have hk := kB_mul (top := far) (sad_c h.S)
  have hd : 0 < dB f far := by
    have := h.next.L.1.1
    rw [(aft_fst h).2.1] at this
    exact this
  have hb := h.L.1.1
  constructor
  · intro ha
    have hc := h.neg ha
    rcases Int.lt_or_le (kB f far) 0 with z | z
    · exact z
    · have := Int.mul_nonneg (show 0 ≤ -(2 * f.2.2) by omega) z
      have e : -(2 * f.2.2) * kB f far = -(2 * f.2.2 * kB f far) := by grind
      omega
  · intro ha
    have hc := h.pos ha
    rcases Int.lt_or_le 0 (kB f far) with z | z
    · exact z
    · have := Int.mul_nonneg (show 0 ≤ 2 * f.2.2 by omega) (show 0 ≤ -kB f far by omega)
      have e : 2 * f.2.2 * -kB f far = -(2 * f.2.2 * kB f far) := by grind
      omega
theorem two_steps {far : Int} {f : I3} (h : Lv far f) (ha : 0 < f.1) :
    ∃ N : Nat, 2 ≤ N ∧ nxs N f = aft far (aft far f) ∧ wd N f = negT (thenV (behT f far) (behT (aft far f) far)) ∧ ∀ j, 0 < j → j < N → ¬ Lv far (nxs j f) := by
  have h' := h.next
  have h'' := h'.next
  have hc := h.neg ha
  have ⟨g1, g2, g3⟩ := aft_fst h
  have a' : (aft far f).1 < 0 := by rw [g1]; exact hc
  have he := h'.pos a'
  have ⟨q1, q2, q3⟩ := aft_fst h'
  have a'' : 0 < (aft far (aft far f)).1 := by rw [q1]; exact he
  have he'' := h''.neg a''
  have kn := h.k_sign.1 ha
  have kp := h'.k_sign.2 a'
  have hk1 := kB_mul (top := far) (sad_c h.S)
  have hk2 := kB_mul (top := far) (sad_c h'.S)
  have lb := h.L.1.2
  have ld' := h''.L.1.2
  rw [q2] at ld'
  rw [g2] at hk2
  rw [q3, g1, g2] at he''
  rw [g3] at he
  have hbeh1 : behT f far = (0, -1, 1, kB f far) := rfl
  have hbeh2 : behT (aft far f) far = (0, -1, 1, kB (aft far f) far) := rfl
  rw [hbeh1, hbeh2]
  have e22 : (aft far f).2.2 = f.1 - f.2.1 * kB f far + f.2.2 * (kB f far * kB f far) := g3
  generalize hF : aft far (aft far f) = F at *
  generalize hd' : dB (aft far f) far = d' at *
  generalize hk2' : kB (aft far f) far = k2 at *
  have hform : nxs 0 f = f := rfl
  generalize hg : aft far f = g at *
  generalize hd : dB f far = d at *
  generalize hk1' : kB f far = k1 at *
  obtain ⟨a, b, c⟩ := f
  have ha : 0 < a := ha
  have hc : c < 0 := hc
  have lb : b ≤ far := lb
  have he : 0 < a - b * k1 + c * (k1 * k1) := he
  have hk1 : 2 * c * k1 = b + d := hk1
  have he'' : c - d * k2 + g.2.2 * (k2 * k2) < 0 := he''
  have e22 : g.2.2 = a - b * k1 + c * (k1 * k1) := e22
  rw [e22] at he'' hk2
  -- the first block
  obtain ⟨n1, hn1⟩ : ∃ n : Nat, -k1 = n := ⟨(-k1).toNat, by omega⟩
  obtain ⟨n2, hn2⟩ : ∃ n : Nat, k2 = n := ⟨k2.toNat, by omega⟩
  have hk1n : k1 = -(n1 : Int) := by omega
  have hw1 : ∀ i : Nat, i ≤ n1 → wd i (a, b, c) = (1, 0, (i : Int), 1) := fun i hi => wd_L i a b c fun j j1 ji => by
    refine bend (k := n1) (by omega) ha ?_ (by omega) (by omega) (by omega)
    have : a + b * (n1 : Int) + c * ((n1 : Int) * n1) = a - b * k1 + c * (k1 * k1) := by rw [hk1n]; grind
    omega
  have hF1 : nxs n1 (a, b, c) = (a - b * k1 + c * (k1 * k1), -d, c) := by
    rw [← wd_mov, hw1 n1 (Nat.le_refl _)]
    have e1 : -d = b + 2 * c * n1 := by
      have : 2 * c * (n1 : Int) = -(2 * c * k1) := by rw [hk1n]; grind
      omega
    rw [e1, hk1n]
    simp only [mov, val, mid, Prod.mk.injEq]
    refine ⟨?_, ?_, ?_⟩ <;> grind
  generalize hee : a - b * k1 + c * (k1 * k1) = e at *
  have hw2 : ∀ i : Nat, i ≤ n2 → wd i (e, -d, c) = (1, (i : Int), 0, 1) := fun i hi => wd_R i e (-d) c fun j j1 ji => by
    have := bend (a := -c) (b := d) (c := -e) (k := n2) (j := j) (by omega) (by omega) (by
      have : -c + d * (n2 : Int) + -e * ((n2 : Int) * n2) = -(c - d * k2 + e * (k2 * k2)) := by rw [hn2]; grind
      omega) (by omega) (by omega) (by omega)
    have e1 : e * ((j : Int) * j) + -d * j + c = -(-c + d * (j : Int) + -e * ((j : Int) * j)) := by grind
    omega
  have hF2 : ∀ i : Nat, i ≤ n2 → nxs (n1 + i) (a, b, c) = (e, -d + 2 * e * i, e * ((i : Int) * i) - d * i + c) := fun i hi => by
    rw [nxs_add, hF1, ← wd_mov, hw2 i hi]
    simp only [mov, val, mid, Prod.mk.injEq]
    refine ⟨?_, ?_, ?_⟩ <;> grind
  have hwd : wd (n1 + n2) (a, b, c) = negT (thenV (0, -1, 1, k1) (0, -1, 1, k2)) := by
    rw [wd_add, hF1, hw1 n1 (Nat.le_refl _), hw2 n2 (Nat.le_refl _), hk1n, hn2]
    simp only [thenV, negT, Prod.mk.injEq]
    refine ⟨?_, ?_, ?_, ?_⟩ <;> grind
  refine ⟨n1 + n2, by omega, ?_, hwd, ?_⟩
  · rw [← wd_mov, hwd, mov_neg, ← mov_then, ← hF, ← hg]
    show mov (mov (a, b, c) (0, -1, 1, k1)) (0, -1, 1, k2) = _
    rw [← hk1', ← hk2', ← hg]; rfl
  · intro j j0 jn hL
    rcases Nat.lt_or_ge n1 j with z | z
    · obtain ⟨i, rfl⟩ : ∃ i, j = n1 + i := ⟨j - n1, by omega⟩
      rw [hF2 i (by omega)] at hL
      have l1 := hL.L.2.1
      have l1 : far - (-d + 2 * e * i) < 2 * ab e := l1
      rw [show ab e = e from if_neg (by omega)] at l1
      have hi : (i : Int) ≤ n2 - 1 := by omega
      have := Int.mul_le_mul_of_nonneg_left hi (show 0 ≤ 2 * e by omega)
      have e1 : 2 * e * ((n2 : Int) - 1) = 2 * e * k2 - 2 * e := by rw [hn2]; grind
      omega
    · have hj : nxs j (a, b, c) = (a + b * j + c * ((j : Int) * j), b + 2 * c * j, c) := by
        rw [← wd_mov, hw1 j z]
        simp only [mov, val, mid, Prod.mk.injEq]
        refine ⟨?_, ?_, ?_⟩ <;> grind
      rw [hj] at hL
      have l1 := (level_c hL.r hL.S.no hL.L).1
      have l1 : far - (b + 2 * c * j) < 2 * ab c := l1
      rw [show ab c = -c from if_pos hc] at l1
      have := Int.mul_le_mul_of_nonneg_left (show (1 : Int) ≤ j by omega) (show 0 ≤ -(2 * c) by omega)
      have e1 : -(2 * c) * (j : Int) = -(2 * c * j) := by grind
      omega
end My

namespace My
open PySem L2
def Sg (t u : I4) : Prop := t = u ∨ t = negT u
theorem neg_then {t u : I4} : thenV (negT t) u = negT (thenV t u) := by
  obtain ⟨a, b, c, d⟩ := t; obtain ⟨e, f, g, h⟩ := u
  simp only [thenV, negT, Prod.mk.injEq]
  refine ⟨?_, ?_, ?_, ?_⟩ <;> grind
theorem then_neg {t u : I4} : thenV t (negT u) = negT (thenV t u) := by
  obtain ⟨a, b, c, d⟩ := t; obtain ⟨e, f, g, h⟩ := u
  simp only [thenV, negT, Prod.mk.injEq]
  refine ⟨?_, ?_, ?_, ?_⟩ <;> grind
theorem back_back {t : I4} : backV (backV t) = t := by
  obtain ⟨a, b, c, d⟩ := t
  simp only [backV, Prod.mk.injEq]
  refine ⟨trivial, ?_, ?_, trivial⟩ <;> omega
theorem back_then' {t u : I4} : backV (thenV t u) = thenV (backV u) (backV t) := by
  obtain ⟨a, b, c, d⟩ := t; obtain ⟨e, f, g, h⟩ := u
  simp only [thenV, backV, Prod.mk.injEq]
  refine ⟨?_, ?_, ?_, ?_⟩ <;> grind
theorem Sg.refl {t : I4} : Sg t t := .inl rfl
theorem Sg.trans {t u v : I4} (h : Sg t u) (k : Sg u v) : Sg t v := by
  rcases h with rfl | rfl <;> rcases k with rfl | rfl
  · exact .inl rfl
  · exact .inr rfl
  · exact .inr rfl
  · exact .inl neg_neg
theorem Sg.then {t u t' u' : I4} (h : Sg t t') (k : Sg u u') : Sg (thenV t u) (thenV t' u') := by
  rcases h with rfl | rfl <;> rcases k with rfl | rfl
  · exact .inl rfl
  · exact .inr then_neg
  · exact .inr neg_then
  · exact .inl (by rw [neg_then, then_neg, neg_neg])
theorem Sg.back {t u : I4} (h : Sg t u) : Sg (backV t) (backV u) := by
  rcases h with rfl | rfl
  · exact .inl rfl
  · exact .inr back_neg
theorem Sg.mov {f : I3} {t u : I4} (h : Sg t u) : mov f t = mov f u := by
  rcases h with rfl | rfl
  · rfl
  · exact mov_neg
def rF (far : Int) : Nat → I3 → I3
  | 0, f => f
  | n + 1, f => rF far n (aft far f)
def rT (far : Int) : Nat → I3 → I4
  | 0, _ => (1, 0, 0, 1)
  | n + 1, f => thenV (behT f far) (rT far n (aft far f))
theorem rT_mov {far : Int} : ∀ (n : Nat) (f : I3), mov f (rT far n f) = rF far n f
  | 0, _ => mov_same
  | n + 1, f => by rw [rT, ← mov_then]; exact rT_mov n (aft far f)
theorem rT_det {far : Int} : ∀ (n : Nat) (f : I3), det (rT far n f) = 1
  | 0, _ => rfl
  | n + 1, f => by rw [rT, det_then, beh_det, rT_det n (aft far f)]; rfl
theorem rF_add {far : Int} : ∀ (m n : Nat) (f : I3), rF far (m + n) f = rF far n (rF far m f)
  | 0, n, f => by rw [Nat.zero_add]; rfl
  | m + 1, n, f => by rw [show m + 1 + n = (m + n) + 1 by omega]; exact rF_add m n (aft far f)
theorem rT_add {far : Int} : ∀ (m n : Nat) (f : I3), rT far (m + n) f = thenV (rT far m f) (rT far n (rF far m f))
  | 0, n, f => by rw [Nat.zero_add]; exact same_then.symm
  | m + 1, n, f => by rw [show m + 1 + n = (m + n) + 1 by omega, rT, rT_add m n (aft far f), rT, then_assoc]; rfl
theorem rF_last {far : Int} {n : Nat} {f : I3} : rF far (n + 1) f = aft far (rF far n f) := by rw [rF_add]; rfl
theorem rT_last {far : Int} {n : Nat} {f : I3} : rT far (n + 1) f = thenV (rT far n f) (behT (rF far n f) far) := by
  rw [rT_add]
  show thenV _ (thenV _ (1, 0, 0, 1)) = _
  rw [then_same]
theorem Lv.rF {far : Int} : ∀ (n : Nat) {f : I3}, Lv far f → Lv far (rF far n f)
  | 0, _, h => h
  | n + 1, _, h => Lv.rF n h.next
theorem meas_rF {far : Int} (n : Nat) (f : I3) : meas (rF far n f) = meas f := by rw [← rT_mov, meas_mov (rT_det n f)]
theorem lev_way {far : Int} : ∀ (n : Nat) (f : I3), Lv far f → 0 < f.1 → Lv far (nxs n f) → ∃ m, Sg (wd n f) (rT far m f) := by
  intro n
  induction n using Nat.strongRecOn with
  | ind n ih =>
    intro f hf ha hg
    by_cases h0 : n = 0
    · subst h0
      exact ⟨0, Sg.refl⟩
    · obtain ⟨N, hN, e1, e2, e3⟩ := two_steps hf ha
      have hn : N ≤ n := by
        rcases Nat.lt_or_ge n N with z | z
        · exact absurd hg (e3 n (by omega) z)
        · exact z
      obtain ⟨k, rfl⟩ : ∃ k, n = N + k := ⟨n - N, by omega⟩
      have a2 : 0 < (aft far (aft far f)).1 := by
        rw [(aft_fst hf.next).1]
        exact hf.next.pos (by rw [(aft_fst hf).1]; exact hf.neg ha)
      rw [nxs_add, e1] at hg
      obtain ⟨m, hm⟩ := ih k (by omega) (aft far (aft far f)) hf.next.next a2 hg
      refine ⟨m + 2, ?_⟩
      rw [wd_add, e1, e2]
      show Sg _ (thenV (behT f far) (thenV (behT (aft far f) far) (rT far m (aft far (aft far f)))))
      rw [← then_assoc]
      exact Sg.then (.inr rfl) hm
def Ring (far : Int) (f g : I3) (t : I4) : Prop := (∃ m, Sg t (rT far m f)) ∨ (∃ m, Sg (backV t) (rT far m g))
theorem Ring.swap {far : Int} {f g : I3} {t : I4} (h : Ring far f g t) : Ring far g f (backV t) := by
  rcases h with ⟨m, h⟩ | ⟨m, h⟩
  · exact .inr ⟨m, by rw [back_back]; exact h⟩
  · exact .inl ⟨m, h⟩
theorem ring_pp {far : Int} {f g : I3} {t : I4} (hf : Lv far f) (hg : Lv far g) (hd : det t = 1) (e : mov f t = g) (fa : 0 < f.1) (ga : 0 < g.1) : Ring far f g t := by
  have hr : Riv (mov f t) := by rw [e]; exact hg.riv ga
  rcases river (hf.riv fa) hd hr with ⟨n, h⟩ | ⟨n, h⟩
  · have hs : Sg t (wd n f) := h
    have hn : Lv far (nxs n f) := by rw [← wd_mov, ← hs.mov, e]; exact hg
    obtain ⟨m, hm⟩ := lev_way n f hf fa hn
    exact .inl ⟨m, hs.trans hm⟩
  · rw [e] at h
    have hs : Sg (backV t) (wd n g) := h
    have hn : Lv far (nxs n g) := by rw [← wd_mov, ← hs.mov, ← e, mov_back hd]; exact hf
    obtain ⟨m, hm⟩ := lev_way n g hg ga hn
    exact .inr ⟨m, hs.trans hm⟩
theorem off_end {far : Int} {f g : I3} {t : I4} {m : Nat} (hf : Lv far f) (hg : Lv far g) (hm : meas f = meas g) (h : Sg (thenV t (behT g far)) (rT far m f)) (e : rF far m f = aft far g) : (∃ k, Sg t (rT far k f)) ∨ Sg t (backV (behT g far)) := by
  have cancel : ∀ {u : I4}, Sg (thenV t (behT g far)) (thenV u (behT g far)) → Sg t u := fun {u} h => by
    have := Sg.then h (Sg.refl (t := backV (behT g far)))
    rw [then_assoc, then_assoc, then_back beh_det, then_same, then_same] at this
    exact this
  match m, h, e with
  | 0, h, e =>
    right
    refine cancel (h.trans ?_)
    rw [back_then beh_det]
    exact Sg.refl
  | m + 1, h, e =>
    left
    rw [rF_last] at e
    have e' := aft_inj (Lv.rF m hf) hg (by rw [meas_rF]; exact hm) e
    rw [rT_last, e'] at h
    exact ⟨m, cancel h⟩
theorem ring_pn {far : Int} {f g : I3} {t : I4} (hf : Lv far f) (hg : Lv far g) (hd : det t = 1) (e : mov f t = g) (fa : 0 < f.1) (ga : g.1 < 0) : Ring far f g t := by
  have hm : meas f = meas g := by rw [← e, meas_mov hd]
  have hd' : det (thenV t (behT g far)) = 1 := by rw [det_then, hd, beh_det]; rfl
  have e' : mov f (thenV t (behT g far)) = aft far g := by rw [← mov_then, e]
  have ga' : 0 < (aft far g).1 := by rw [(aft_fst hg).1]; exact hg.pos ga
  rcases ring_pp hf hg.next hd' e' fa ga' with ⟨m, h⟩ | ⟨m, h⟩
  · have er : rF far m f = aft far g := by rw [← rT_mov, ← h.mov, e']
    rcases off_end hf hg hm h er with h | h
    · exact .inl h
    · refine .inr ⟨1, ?_⟩
      have := h.back
      rw [back_back] at this
      show Sg _ (thenV (behT g far) (1, 0, 0, 1))
      rw [then_same]
      exact this
  · refine .inr ⟨m + 1, ?_⟩
    have h2 := Sg.then (Sg.refl (t := behT g far)) h
    rw [back_then', ← then_assoc, then_back beh_det, same_then] at h2
    exact h2
theorem one_ring {far : Int} {f g : I3} {t : I4} (hf : Lv far f) (hg : Lv far g) (hd : det t = 1) (e : mov f t = g) : Ring far f g t := by
  have fa := sad_a hf.S
  have ga := sad_a hg.S
  have eb : mov g (backV t) = f := by rw [← e, mov_back hd]
  have hdb : det (backV t) = 1 := det_back.trans hd
  rcases Int.lt_or_lt_of_ne fa with fa | fa
  · rcases Int.lt_or_lt_of_ne ga with ga | ga
    · -- both below nought
      have fa' : 0 < (aft far f).1 := by rw [(aft_fst hf).1]; exact hf.pos fa
      have hd' : det (thenV (backV (behT f far)) t) = 1 := by rw [det_then, det_back, beh_det, hd]; rfl
      have e' : mov (aft far f) (thenV (backV (behT f far)) t) = g := by
        rw [← mov_then, mov_back beh_det, e]
      have hm : meas g = meas f := by rw [← e, meas_mov hd]
      rcases ring_pn hf.next hg hd' e' fa' ga with ⟨m, h⟩ | ⟨m, h⟩
      · refine .inl ⟨m + 1, ?_⟩
        have h2 := Sg.then (Sg.refl (t := behT f far)) h
        rw [← then_assoc, then_back beh_det, same_then] at h2
        exact h2
      · rw [back_then', back_back] at h
        have er : rF far m g = aft far f := by rw [← rT_mov, ← h.mov, ← mov_then, eb]
        rcases off_end hg hf hm h er with h | h
        · exact .inr h
        · refine .inl ⟨1, ?_⟩
          have := h.back
          rw [back_back, back_back] at this
          show Sg _ (thenV (behT f far) (1, 0, 0, 1))
          rw [then_same]
          exact this
    · have := (ring_pn hg hf hdb eb ga fa).swap
      rw [back_back] at this
      exact this
  · rcases Int.lt_or_lt_of_ne ga with ga | ga
    · exact ring_pn hf hg hd e fa ga
    · exact ring_pp hf hg hd e fa ga
theorem pigeon : ∀ (M : Nat) (x : Nat → Nat), (∀ i, i ≤ M → x i < M) → ∃ i j, i < j ∧ j ≤ M ∧ x i = x j := by
  intro M
  induction M with
  | zero => intro x h; exact absurd (h 0 (Nat.le_refl _)) (by omega)
  | succ M ih =>
    intro x h
    by_cases hex : ∃ i j, i < j ∧ j ≤ M + 1 ∧ x i = x j
    · exact hex
    · have ne : ∀ i j, i < j → j ≤ M + 1 → x i ≠ x j := fun i j h1 h2 h3 => hex ⟨i, j, h1, h2, h3⟩
      obtain ⟨i, j, h1, h2, h3⟩ := ih (fun i => if x i = M then x (M + 1) else x i) (fun i hi => by
        have h1 := h i (by omega)
        have h2 := h (M + 1) (Nat.le_refl _)
        have h3 := ne i (M + 1) (by omega) (Nat.le_refl _)
        show (if x i = M then x (M + 1) else x i) < M
        split <;> omega)
      exfalso
      have n1 := ne i j h1 (by omega)
      have n2 := ne i (M + 1) (by omega) (Nat.le_refl _)
      have n3 := ne j (M + 1) (by omega) (Nat.le_refl _)
      have h3 : (if x i = M then x (M + 1) else x i) = (if x j = M then x (M + 1) else x j) := h3
      split at h3 <;> split at h3 <;> omega
theorem rF_cancel {far : Int} : ∀ (i : Nat) {f g : I3}, Lv far f → Lv far g → meas f = meas g → rF far i f = rF far i g → f = g
  | 0, _, _, _, _, _, h => h
  | i + 1, f, g, hf, hg, hm, h => aft_inj hf hg hm (rF_cancel i hf.next hg.next (by rw [meas_mov beh_det, meas_mov beh_det]; exact hm) h)
def codeF (f : I3) : Nat := ((f.1 + 63) * 64 + f.2.1).toNat
theorem Lv.range {far : Int} {f : I3} (h : Lv far f) : (-63 ≤ f.1 ∧ f.1 ≤ 63) ∧ (0 < f.2.1 ∧ f.2.1 ≤ 63) := by
  have h6 := far_63 h.r h.S.most
  obtain ⟨⟨l1, l2⟩, _, l4⟩ := h.L
  have l4 : 2 * ab f.1 ≤ far + f.2.1 := l4
  rcases ab_cases f.1 with ⟨_, e⟩ | ⟨_, e⟩ <;> omega
theorem code_inj {far : Int} {f g : I3} (hf : Lv far f) (hg : Lv far g) (hm : meas f = meas g) (h : codeF f = codeF g) : f = g := by
  have rf := hf.range
  have rg := hg.range
  have ha := sad_a hf.S
  obtain ⟨a, b, c⟩ := f
  obtain ⟨a', b', c'⟩ := g
  simp only [codeF] at h rf rg ha
  have e1 : a = a' := by omega
  have e2 : b = b' := by omega
  subst e1 e2
  have e3 : 4 * a * c = 4 * a * c' := by simp only [meas] at hm; omega
  have : c = c' := Int.eq_of_mul_eq_mul_left (show 4 * a ≠ 0 by omega) e3
  rw [this]
theorem ring_closes {far : Int} {f : I3} (h : Lv far f) : ∃ N, 0 < N ∧ N ≤ 8128 ∧ rF far N f = f ∧ ∀ j, 0 < j → j < N → rF far j f ≠ f := by
  have ex : ∃ N, 0 < N ∧ N ≤ 8128 ∧ rF far N f = f := by
    obtain ⟨i, j, hij, hj, e⟩ := pigeon 8128 (fun i => codeF (rF far i f)) (fun i _ => by
      have := (Lv.rF i h).range
      unfold codeF
      omega)
    have e' := code_inj (Lv.rF i h) (Lv.rF j h) (by rw [meas_rF, meas_rF]) e
    obtain ⟨k, rfl⟩ : ∃ k, j = k + i := ⟨j - i, by omega⟩
    rw [rF_add k i f] at e'
    have := rF_cancel i h (Lv.rF k h) (by rw [meas_rF]) e'
    exact ⟨k, by omega, by omega, this.symm⟩
  have least : ∀ M, (∃ N, 0 < N ∧ N ≤ M ∧ rF far N f = f) → ∃ N, 0 < N ∧ N ≤ M ∧ rF far N f = f ∧ ∀ j, 0 < j → j < N → rF far j f ≠ f := by
    intro M
    induction M with
    | zero => intro ⟨N, h1, h2, _⟩; omega
    | succ M ih =>
      intro hN
      by_cases hM : ∃ N, 0 < N ∧ N ≤ M ∧ rF far N f = f
      · obtain ⟨N, h1, h2, h3, h4⟩ := ih hM
        exact ⟨N, h1, by omega, h3, h4⟩
      · obtain ⟨N, h1, h2, h3⟩ := hN
        exact ⟨N, h1, h2, h3, fun j j0 jN e => hM ⟨j, j0, by omega, e⟩⟩
  exact least 8128 ex
theorem level_k {f : I3} {far : Int} (h : Lv far f) : Bt 9 (kB f far) := by
  have hc := sad_c h.S
  have hk := kB_mul (top := far) hc
  have ⟨d1, d2⟩ := dB_range (top := far) hc
  have h6 := far_63 h.r h.S.most
  have ⟨c1, c2⟩ := level_c h.r h.S.no h.L
  obtain ⟨⟨l1, l2⟩, _, _⟩ := h.L
  have e1 : 2 * (ab f.2.2 * ab (kB f far)) = ab (f.2.1 + dB f far) := by
    rw [← hk, ab_mul]
    have : 2 * f.2.2 * kB f far = 2 * (f.2.2 * kB f far) := by grind
    rw [this]
    rcases ab_cases (f.2.2 * kB f far) with ⟨h1, e1⟩ | ⟨h1, e1⟩
    · rw [e1, ab, if_neg (by omega)]
    · rw [e1, ab, if_pos (by omega)]; omega
  have c0 : 1 ≤ ab f.2.2 := by rcases ab_cases f.2.2 with ⟨_, e1⟩ | ⟨_, e1⟩ <;> omega
  have e2 := Int.mul_le_mul_of_nonneg_right c0 (ab_nonneg (kB f far))
  have e3 : ab (f.2.1 + dB f far) ≤ 252 := by rcases ab_cases (f.2.1 + dB f far) with ⟨_, e1⟩ | ⟨_, e1⟩ <;> omega
  have := ab_nonneg (kB f far)
  exact bt_le (k := 252) (by omega) (by decide)
theorem rT_bt {far : Int} : ∀ (n : Nat) {f : I3}, Lv far f → B4 (10 * n + 1) (rT far n f)
  | 0, _, _ => ⟨Bt.one, Bt.zero.le (by omega), Bt.zero.le (by omega), Bt.one⟩
  | n + 1, f, h => by
    have h1 := beh_b4 (level_k h) (by decide)
    exact (B4.then h1 (rT_bt n h.next)).le (by omega)
end My

namespace My
open PySem L2
def tr (t : I4) : Int := t.1 + t.2.2.2
theorem tr_conj {t x : I4} (h : det x = 1) : tr (thenV (thenV x t) (backV x)) = tr t := by
  obtain ⟨p, q, r, s⟩ := t; obtain ⟨a, b, c, d⟩ := x
  simp only [det] at h
  have : tr (thenV (thenV (a, b, c, d) (p, q, r, s)) (backV (a, b, c, d))) = (a * d - b * c) * (p + s) := by simp only [tr, thenV, backV]; grind
  rw [this, h, Int.one_mul]; rfl
theorem tr_conj' {t x : I4} (h : det x = 1) : tr (thenV (thenV (backV x) t) x) = tr t := by
  have := tr_conj (t := t) (x := backV x) (det_back.trans h)
  rw [back_back] at this
  exact this
theorem own_eqs {f : I3} {t : I4} (hd : det t = 1) (e : mov f t = f) : f.1 * t.2.1 = -(f.2.2 * t.2.2.1) ∧ f.1 * (t.2.2.2 - t.1) = f.2.1 * t.2.2.1 := by
  obtain ⟨a, b, c⟩ := f; obtain ⟨p, q, r, s⟩ := t
  simp only [det] at hd
  simp only [mov, val, mid, Prod.mk.injEq] at e
  obtain ⟨e1, e2, _⟩ := e
  have k1 : 2 * q * (a * p * p + b * p * r + c * r * r) - p * (2 * a * p * q + b * (p * s + q * r) + 2 * c * r * s) = -(b * p + 2 * c * r) * (p * s - q * r) := by grind
  have k2 : 2 * s * (a * p * p + b * p * r + c * r * r) - r * (2 * a * p * q + b * (p * s + q * r) + 2 * c * r * s) = (2 * a * p + b * r) * (p * s - q * r) := by grind
  rw [e1, e2, hd] at k1 k2
  simp only
  constructor
  · have x1 : 2 * q * a - p * b = 2 * (a * q) - b * p := by grind
    have x2 : -(b * p + 2 * c * r) * 1 = -(b * p) - 2 * (c * r) := by grind
    omega
  · have x1 : 2 * s * a - r * b = 2 * (a * s) - b * r := by grind
    have x2 : (2 * a * p + b * r) * 1 = 2 * (a * p) + b * r := by grind
    have x3 : a * (s - p) = a * s - a * p := by grind
    omega
theorem g3_pos {f : I3} (h : f.1 ≠ 0) : 0 < g3 f := by
  rcases Nat.lt_or_ge 0 (g3 f) with z | z
  · exact z
  · have := g3_zero (show g3 f = 0 by omega)
    rw [this] at h
    exact absurd rfl h
theorem dvd_g3 {f : I3} {d : Int} (h1 : d ∣ f.1) (h2 : d ∣ f.2.1) (h3 : d ∣ f.2.2) : d ∣ (g3 f : Int) := Int.dvd_coe_gcd (Int.dvd_coe_gcd h1 h2) h3
theorem g3_dvd_mov {f : I3} {t : I4} : (g3 f : Int) ∣ (g3 (mov f t) : Int) := by
  obtain ⟨⟨x, hx⟩, ⟨y, hy⟩, ⟨z, hz⟩⟩ := g3_dvd f
  refine dvd_g3 ⟨val (x, y, z) (t.1, t.2.2.1), ?_⟩ ⟨mid (x, y, z) (t.1, t.2.2.1) (t.2.1, t.2.2.2), ?_⟩ ⟨val (x, y, z) (t.2.1, t.2.2.2), ?_⟩
  · show val f (t.1, t.2.2.1) = _
    simp only [val]; rw [hx, hy, hz]; grind
  · show mid f (t.1, t.2.2.1) (t.2.1, t.2.2.2) = _
    simp only [mid]; rw [hx, hy, hz]; grind
  · show val f (t.2.1, t.2.2.2) = _
    simp only [val]; rw [hx, hy, hz]; grind
theorem g3_mov {f : I3} {t : I4} (h : det t = 1) : g3 (mov f t) = g3 f := by
  have h1 : (g3 f : Int) ∣ (g3 (mov f t) : Int) := g3_dvd_mov
  have h2 : (g3 (mov f t) : Int) ∣ (g3 f : Int) := by
    have := g3_dvd_mov (f := mov f t) (t := backV t)
    rw [mov_back h] at this
    exact this
  exact Nat.dvd_antisymm (Int.ofNat_dvd.mp h2) (Int.ofNat_dvd.mp h1)
def pl (f : I3) : I3 := (f.1 / (g3 f : Int), f.2.1 / (g3 f : Int), f.2.2 / (g3 f : Int))
theorem pl_eqs (f : I3) : f.1 = (g3 f : Int) * (pl f).1 ∧ f.2.1 = (g3 f : Int) * (pl f).2.1 ∧ f.2.2 = (g3 f : Int) * (pl f).2.2 := by
  obtain ⟨h1, h2, h3⟩ := g3_dvd f
  exact ⟨(Int.mul_ediv_cancel' h1).symm, (Int.mul_ediv_cancel' h2).symm, (Int.mul_ediv_cancel' h3).symm⟩
theorem pl_one {f : I3} (h : f.1 ≠ 0) : g3 (pl f) = 1 := g3_one (by have := g3_pos h; omega)
theorem pl_meas (f : I3) : meas f = (g3 f : Int) * (g3 f : Int) * meas (pl f) := by
  have ⟨h1, h2, h3⟩ := pl_eqs f
  generalize (g3 f : Int) = m at *
  generalize pl f = p at *
  obtain ⟨a, b, c⟩ := f
  obtain ⟨x, y, z⟩ := p
  simp only at h1 h2 h3
  subst h1 h2 h3
  simp only [meas]
  grind
theorem cop_dvd {x y z r : Int} (h : g3 (x, y, z) = 1) (h2 : x ∣ y * r) (h3 : x ∣ z * r) : x ∣ r := by
  -- x divides the divisor of x r, y r, z r, which is r
  have d1 : x ∣ ((Int.gcd (x * r) (y * r) : Nat) : Int) := Int.dvd_coe_gcd (Int.dvd_mul_right x r) h2
  have d2 : x ∣ ((Int.gcd ((Int.gcd (x * r) (y * r) : Nat) : Int) (z * r) : Nat) : Int) := Int.dvd_coe_gcd d1 h3
  have e : Int.gcd ((Int.gcd (x * r) (y * r) : Nat) : Int) (z * r) = r.natAbs := by
    rw [Int.gcd_mul_right]
    have : ((Int.gcd x y * r.natAbs : Nat) : Int) = ((Int.gcd x y : Nat) : Int) * ((r.natAbs : Nat) : Int) := by push_cast; rfl
    rw [this]
    have e2 : Int.gcd (((Int.gcd x y : Nat) : Int) * ((r.natAbs : Nat) : Int)) (z * r) = Int.gcd (((Int.gcd x y : Nat) : Int) * r) (z * r) := by
      rcases ab_cases r with ⟨hr, _⟩ | ⟨hr, _⟩
      · rw [show ((r.natAbs : Nat) : Int) = r by omega]
      · rw [show ((r.natAbs : Nat) : Int) = -r by omega, Int.mul_neg, Int.neg_gcd]
    rw [e2, Int.gcd_mul_right]
    have : Int.gcd ((Int.gcd x y : Nat) : Int) z = 1 := h
    rw [this, Nat.one_mul]
  rw [e] at d2
  exact Int.dvd_natAbs.mp d2
theorem own_form {f : I3} {t : I4} (ha : f.1 ≠ 0) (hd : det t = 1) (e : mov f t = f) : ∃ v : Int, t.2.2.1 = (pl f).1 * v ∧ t.2.1 = -((pl f).2.2 * v) ∧ t.2.2.2 - t.1 = (pl f).2.1 * v ∧ tr t * tr t - meas (pl f) * (v * v) = 4 := by
  have ⟨h1, h2⟩ := own_eqs hd e
  have ⟨e1, e2, e3⟩ := pl_eqs f
  have hp := pl_one ha
  have hm : (g3 f : Int) ≠ 0 := by have := g3_pos ha; omega
  generalize pl f = p at *
  obtain ⟨x, y, z⟩ := p
  obtain ⟨p', q, r, s⟩ := t
  simp only at *
  rw [e1, e2] at h2
  rw [e1, e3] at h1
  generalize (g3 f : Int) = m at *
  have k1 : x * q = -(z * r) := by
    have : m * (x * q) = m * (-(z * r)) := by grind
    exact Int.eq_of_mul_eq_mul_left hm this
  have k2 : x * (s - p') = y * r := by
    have : m * (x * (s - p')) = m * (y * r) := by grind
    exact Int.eq_of_mul_eq_mul_left hm this
  have x0 : x ≠ 0 := fun h => by rw [h] at e1; exact ha (by rw [e1]; simp)
  obtain ⟨v, hv⟩ := cop_dvd hp ⟨s - p', k2.symm⟩ ⟨-q, by rw [Int.mul_neg, k1]; omega⟩
  subst hv
  have k3 : q = -(z * v) := by
    have : x * q = x * (-(z * v)) := by rw [k1]; grind
    exact Int.eq_of_mul_eq_mul_left x0 this
  have k4 : s - p' = y * v := by
    have : x * (s - p') = x * (y * v) := by rw [k2]; grind
    exact Int.eq_of_mul_eq_mul_left x0 this
  refine ⟨v, rfl, k3, k4, ?_⟩
  simp only [tr, meas, det] at *
  have hs : s = p' + y * v := by omega
  subst hs k3
  grind
theorem sq_uniq {n u v : Int} (hn : 0 < n) (h : n * (u * u) = n * (v * v)) : ab u = ab v := by
  have e : u * u = v * v := Int.eq_of_mul_eq_mul_left (show n ≠ 0 by omega) h
  have e1 : ab u * ab u = ab v * ab v := by
    have a1 : ab u * ab u = u * u := by rcases ab_cases u with ⟨_, x⟩ | ⟨_, x⟩ <;> rw [x]; grind
    have a2 : ab v * ab v = v * v := by rcases ab_cases v with ⟨_, x⟩ | ⟨_, x⟩ <;> rw [x]; grind
    omega
  have hu := ab_nonneg u
  have hv := ab_nonneg v
  rcases Int.lt_trichotomy (ab u) (ab v) with z | z | z
  · have := Int.mul_lt_mul_of_pos_right z (show 0 < ab v by omega)
    have := Int.mul_le_mul_of_nonneg_left (show ab u ≤ ab v by omega) hu
    omega
  · exact z
  · have := Int.mul_lt_mul_of_pos_right z (show 0 < ab u by omega)
    have := Int.mul_le_mul_of_nonneg_left (show ab v ≤ ab u by omega) hv
    omega
theorem once_own {far : Int} {f : I3} {N : Nat} (e : rF far N f = f) : mov f (rT far N f) = f := by rw [rT_mov, e]
theorem once_tr {far : Int} {f : I3} {N m : Nat} (e : rF far N f = f) : tr (rT far N (rF far m f)) = tr (rT far N f) := by
  have h1 := rT_add (far := far) m N f
  have h2 := rT_add (far := far) N m f
  rw [e, Nat.add_comm N m] at h2
  have hd := rT_det (far := far) m f
  have : rT far N (rF far m f) = thenV (thenV (backV (rT far m f)) (rT far N f)) (rT far m f) := by
    rw [then_assoc, ← h2, h1, ← then_assoc, back_then hd, same_then]
  rw [this, tr_conj' hd]
theorem once_len {far : Int} {f : I3} {N M m : Nat} (h : Lv far f) (e : rF far N f = f) (min : ∀ j, 0 < j → j < N → rF far j f ≠ f) (e' : rF far M (rF far m f) = rF far m f) (min' : ∀ j, 0 < j → j < M → rF far j (rF far m f) ≠ rF far m f) (hN : 0 < N) (hM : 0 < M) : N = M := by
  have a1 : rF far M f = f := by
    rw [← rF_add, Nat.add_comm, rF_add] at e'
    exact rF_cancel m (Lv.rF M h) h (by rw [meas_rF]) e'
  have a2 : rF far N (rF far m f) = rF far m f := by rw [← rF_add, Nat.add_comm, rF_add, e]
  rcases Nat.lt_trichotomy N M with z | z | z
  · exact absurd a2 (min' N hN z)
  · exact z
  · exact absurd a1 (min M hM z)
theorem once_same {far : Int} {f g : I3} {t : I4} {N M : Nat} (hf : Lv far f) (hg : Lv far g) (hd : det t = 1) (e : mov f t = g) (eN : rF far N f = f) (minN : ∀ j, 0 < j → j < N → rF far j f ≠ f) (eM : rF far M g = g) (minM : ∀ j, 0 < j → j < M → rF far j g ≠ g) (hN : 0 < N) (hM : 0 < M) : N = M ∧ tr (rT far M g) = tr (rT far N f) := by
  rcases one_ring hf hg hd e with ⟨m, h⟩ | ⟨m, h⟩
  · have eg : rF far m f = g := by rw [← rT_mov, ← h.mov, e]
    subst eg
    have := once_len hf eN minN eM minM hN hM
    subst this
    exact ⟨rfl, once_tr eN⟩
  · have ef : rF far m g = f := by rw [← rT_mov, ← h.mov, ← e, mov_back hd]
    subst ef
    have := once_len hg eM minM eN minN hM hN
    subst this
    exact ⟨rfl, (once_tr eM).symm⟩
theorem q_ne {far : Int} {f : I3} (h : Lv far f) : ∀ n : Nat, (rT far (n + 1) f).2.1 ≠ 0 ∧ 0 ≤ -(kB (rF far (n + 1) f) far * ((rT far (n + 1) f).2.1 * (rT far (n + 1) f).1)) := by
  intro n
  induction n with
  | zero =>
    have e : rT far 1 f = behT f far := by show thenV _ (1, 0, 0, 1) = _; exact then_same
    rw [e]
    simp [behT]
  | succ n ih =>
    obtain ⟨h1, h2⟩ := ih
    have hL := Lv.rF (n + 1) h
    rw [rT_last (n := n + 1)]
    have er : rF far (n + 1 + 1) f = aft far (rF far (n + 1) f) := rF_last
    rw [er]
    generalize rT far (n + 1) f = t at *
    generalize rF far (n + 1) f = g at *
    obtain ⟨p, q, r, s⟩ := t
    have e1 : (thenV (p, q, r, s) (behT g far)).2.1 = kB g far * q - p := by simp only [thenV, behT]; grind
    have e2 : (thenV (p, q, r, s) (behT g far)).1 = q := by simp only [thenV, behT]; grind
    rw [e1, e2]
    simp only at h1 h2
    have ks := hL.k_sign
    have ks' := hL.next.k_sign
    have ha := sad_a hL.S
    have fst := (aft_fst hL).1
    -- q and k q - p
    have key : 0 < (kB g far * q - p) * (kB g far * q) := by
      have k0 : kB g far ≠ 0 := by
        rcases Int.lt_or_lt_of_ne ha with z | z
        · have := ks.2 z; omega
        · have := ks.1 z; omega
      have kq : kB g far * q ≠ 0 := Int.mul_ne_zero k0 h1
      have x1 := sq_pos kq
      have x2 : (kB g far * q - p) * (kB g far * q) = (kB g far * q) * (kB g far * q) + -(kB g far * (q * p)) := by grind
      omega
    refine ⟨fun z => by rw [z] at key; simp at key, ?_⟩
    -- signs: k and k' are unlike
    have hu : kB g far * kB (aft far g) far < 0 := by
      rcases Int.lt_or_lt_of_ne ha with z | z
      · have a1 := ks.2 z
        have a2 := ks'.1 (by rw [fst]; exact hL.pos z)
        exact Int.mul_neg_of_pos_of_neg a1 a2
      · have a1 := ks.1 z
        have a2 := ks'.2 (by rw [fst]; exact hL.neg z)
        exact Int.mul_neg_of_neg_of_pos a1 a2
    generalize kB g far = k at *
    generalize kB (aft far g) far = k' at *
    generalize k * q - p = w at *
    -- w (k q) > 0 and k k' < 0, so k' w q has the sign of -(...)
    rcases Int.lt_or_le 0 (k' * (w * q)) with z | z
    · exfalso
      have x := Int.mul_pos key z
      have e3 : w * (k * q) * (k' * (w * q)) = (k * k') * ((w * q) * (w * q)) := by grind
      have y := Int.mul_nonneg (show 0 ≤ -(k * k') by omega) (sq_nonneg (w * q))
      have e4 : -(k * k') * ((w * q) * (w * q)) = -((k * k') * ((w * q) * (w * q))) := by grind
      omega
    · omega
end My

namespace My
open PySem L2
end My

namespace My
open PySem L2
theorem bt_of_le {m : Nat} {x : Int} (h0 : 0 ≤ x) (h : x ≤ 2 ^ m) : Bt (m + 1) x := by
  unfold Bt
  obtain ⟨X, rfl⟩ := Int.eq_ofNat_of_zero_le h0
  have e : ((2 : Int) ^ m) = ((2 ^ m : Nat) : Int) := by push_cast; rfl
  rw [e] at h
  rw [Int.natAbs_natCast, Nat.pow_succ]
  have : 0 < 2 ^ m := Nat.pow_pos (by decide)
  omega
def above (n x1 y1 x2 y2 : Int) : Prop := (x1 * y2 + x2 * y1) * (x1 * y2 + x2 * y1) < n * (2 * y1 * y2) * (2 * y1 * y2)
theorem sq_lt {a b : Int} (ha : 0 ≤ a) (h : a < b) : a * a < b * b := by
  have h1 := Int.mul_le_mul_of_nonneg_left (Int.le_of_lt h) ha
  have h2 := Int.mul_lt_mul_of_pos_right h (show 0 < b by omega)
  omega
end My

namespace My
open PySem L2
end My

namespace My
open PySem L2
def slv (n f : Nat) : Nat → Nat → Nat → Nat → Nat → Nat → Nat → Nat → Bool
  | 0, _, _, _, _, _, _, _ => false
  | k + 1, p, q, a, x', y', x, y =>
    (fun p' => (fun q' => (fun a' => if Nat.beq q' 1 then (Nat.beq (x * x) (n * (y * y) + 1) || Nat.beq (x * x + 1) (n * (y * y))) && (Nat.ble 1 y && (Nat.ble 1 x && (Nat.ble x (2 ^ 240) && Nat.ble y (2 ^ 240)))) else slv n f k p' q' a' x y (a' * x + x') (a' * y + y'))
      ((f + p') / q')) ((n - p' * p') / q)) (a * q - p)
def slvD (f : Nat) : Nat → Bool
  | 0 => true
  | d + 1 => slv (f * f + (d + 1)) f 140 0 1 f 1 0 f 1 && slvD f d
def slvF : Nat → Bool
  | 0 => true
  | f + 1 => slvD (f + 1) (2 * (f + 1)) && slvF f
theorem slv_all : slvF 63 = true := by decide +kernel
theorem slvD_at {f : Nat} : ∀ {d k : Nat}, slvD f d = true → 1 ≤ k → k ≤ d → slv (f * f + k) f 140 0 1 f 1 0 f 1 = true
  | 0, k, _, h1, h2 => by omega
  | d + 1, k, h, h1, h2 => by
    unfold slvD at h
    rw [Bool.and_eq_true] at h
    rcases Nat.lt_or_ge k (d + 1) with z | z
    · exact slvD_at h.2 h1 (by omega)
    · have : k = d + 1 := by omega
      subst this
      exact h.1
theorem slvF_at : ∀ {F f : Nat}, slvF F = true → 1 ≤ f → f ≤ F → slvD f (2 * f) = true
  | 0, f, _, h1, h2 => by omega
  | F + 1, f, h, h1, h2 => by
    unfold slvF at h
    rw [Bool.and_eq_true] at h
    rcases Nat.lt_or_ge f (F + 1) with z | z
    · exact slvF_at h.2 h1 (by omega)
    · have : f = F + 1 := by omega
      subst this
      exact h.1
theorem slv_ok {n f : Nat} : ∀ (k p q a x' y' x y : Nat), slv n f k p q a x' y' x y = true → ∃ X Y : Nat, X * X = n * (Y * Y) + 1 ∧ 1 ≤ X ∧ 1 ≤ Y ∧ Y ≤ 2 ^ 481
  | 0, p, q, a, x', y', x, y, h => by cases h
  | k + 1, p, q, a, x', y', x, y, h => by
    unfold slv at h
    dsimp only at h
    split at h
    · simp only [Bool.and_eq_true, Bool.or_eq_true, Nat.ble_eq, Nat.beq_eq] at h
      obtain ⟨h1, h2, h3, h4, h5⟩ := h
      rcases h1 with h1 | h1
      · exact ⟨x, y, h1, h3, h2, Nat.le_trans h5 (Nat.pow_le_pow_right (by decide) (by decide))⟩
      · refine ⟨x * x + n * (y * y), 2 * (x * y), ?_, ?_, ?_, ?_⟩
        · have e1 : n * (2 * (x * y) * (2 * (x * y))) = 4 * ((x * x) * (n * (y * y))) := by grind
          rw [e1, ← h1]
          generalize x * x = z
          grind
        · have := Nat.mul_le_mul h3 h3
          omega
        · have := Nat.mul_le_mul h3 h2
          omega
        · have := Nat.mul_le_mul h4 h5
          have e : (2 : Nat) ^ 481 = 2 * (2 ^ 240 * 2 ^ 240) := by rw [← Nat.pow_add, ← Nat.pow_succ']
          rw [e]
          omega
    · exact slv_ok k _ _ _ _ _ _ _ h
theorem solved {n f : Int} (h : Sq n f) (h1 : 1 ≤ n) (hm : n ≤ 4000) (hs : f * f ≠ n) : ∃ X Y : Int, X * X - n * (Y * Y) = 1 ∧ 1 ≤ X ∧ 1 ≤ Y ∧ Y ≤ 2 ^ 481 := by
  obtain ⟨h0, h2, h3⟩ := h
  have f1 : 1 ≤ f := by
    rcases Int.lt_or_le f 1 with z | z
    · have : f = 0 := by omega
      subst this
      omega
    · exact z
  have f63 : f ≤ 63 := by
    rcases Int.lt_or_le 63 f with z | z
    · have := Int.mul_le_mul (show 64 ≤ f by omega) (show 64 ≤ f by omega) (by decide) (by omega)
      omega
    · exact z
  obtain ⟨F, rfl⟩ := Int.eq_ofNat_of_zero_le h0
  have e1 : ((F : Int) + 1) * ((F : Int) + 1) = F * F + 2 * F + 1 := by grind
  obtain ⟨d, hd⟩ := Int.eq_ofNat_of_zero_le (show 0 ≤ n - (F : Int) * F by omega)
  have en : n = ((F * F + d : Nat) : Int) := by
    have := Int.natCast_mul F F
    omega
  subst en
  obtain ⟨X, Y, x1, x2, x3, x4⟩ := slv_ok 140 _ _ _ _ _ _ _ (slvD_at (slvF_at slv_all (f := F) (by omega) (by omega)) (k := d) (by omega) (by omega))
  refine ⟨(X : Int), (Y : Int), ?_, by omega, by omega, ?_⟩
  · have c1 := Int.natCast_mul X X
    have c2 := Int.natCast_mul Y Y
    have c3 := Int.natCast_mul (F * F + d) (Y * Y)
    rw [← c1, ← c2, ← c3]
    omega
  · have e : ((2 : Int) ^ 481) = ((2 ^ 481 : Nat) : Int) := by push_cast; rfl
    rw [e]
    omega
end My

namespace My
open PySem L2
theorem ab_le_of_sq {x y : Int} (h : x * x ≤ y * y) : ab x ≤ ab y := by
  rcases Int.lt_or_le (ab y) (ab x) with z | z
  · exfalso
    have a := sq_lt (ab_nonneg y) z
    have e : ∀ x : Int, ab x * ab x = x * x := fun x => by rcases ab_cases x with ⟨_, e⟩ | ⟨_, e⟩ <;> rw [e] <;> grind
    rw [e, e] at a
    omega
  · exact z
theorem q_step {far : Int} {f : I3} (h : Lv far f) (n : Nat) : ab (rT far (n + 1) f).2.1 ≤ ab (rT far (n + 1 + 1) f).2.1 := by
  obtain ⟨h1, h2⟩ := q_ne h n
  have hv := Lv.rF (n + 1) h
  have ks := hv.k_sign
  have ha := sad_a hv.S
  have k0 : kB (rF far (n + 1) f) far ≠ 0 := by
    rcases Int.lt_or_le 0 (rF far (n + 1) f).1 with z | z
    · have := ks.1 z; omega
    · have := ks.2 (by omega); omega
  have e : (rT far (n + 1 + 1) f).2.1 = -(rT far (n + 1) f).1 + (rT far (n + 1) f).2.1 * kB (rF far (n + 1) f) far := by
    rw [rT_last]
    show (rT far (n + 1) f).1 * (-1) + (rT far (n + 1) f).2.1 * kB (rF far (n + 1) f) far = _
    omega
  rw [e]
  apply ab_le_of_sq
  generalize kB (rF far (n + 1) f) far = k at *
  generalize (rT far (n + 1) f).1 = p at *
  generalize (rT far (n + 1) f).2.1 = q at *
  have a1 : (-p + q * k) * (-p + q * k) = p * p + 2 * -(k * (q * p)) + k * k * (q * q) := by grind
  have a2 := sq_pos k0
  have a3 := Int.mul_le_mul_of_nonneg_right a2 (sq_nonneg q)
  have a4 := sq_nonneg p
  omega
theorem q_mono {far : Int} {f : I3} (h : Lv far f) (n : Nat) : ∀ d, ab (rT far (n + 1) f).2.1 ≤ ab (rT far (n + 1 + d) f).2.1
  | 0 => Int.le_refl _
  | d + 1 => by
    have a := q_mono h n d
    have b := q_step h (n + d)
    rw [show n + d + 1 = n + 1 + d by omega] at b
    exact Int.le_trans a b
theorem own_turn {f : I3} {t w : Int} (ha : f.1 ≠ 0) (h : t * t - meas (pl f) * (w * w) = 4) : ∃ T : I4, det T = 1 ∧ mov f T = f ∧ T.2.1 = -((pl f).2.2 * w) := by
  obtain ⟨e1, e2, e3⟩ := pl_eqs f
  generalize pl f = Z at *
  obtain ⟨a, b, c⟩ := Z
  dsimp only at *
  have hm : meas (a, b, c) = b * b - 4 * a * c := rfl
  rw [hm] at h
  obtain ⟨P', hP⟩ : ∃ P' : Int, t = 2 * P' + b * w := by
    have h1 : (t - b * w) % 2 = 0 := by
      have e : (t - b * w) * (t - b * w) = 4 + 2 * (-(2 * a * c * (w * w)) - b * w * (t - b * w)) := by grind
      have h2 : ((t - b * w) * (t - b * w)) % 2 = 0 := by omega
      rcases (show (t - b * w) % 2 = 0 ∨ (t - b * w) % 2 = 1 by omega) with z | z
      · exact z
      · rw [Int.mul_emod, z] at h2
        cases h2
    exact ⟨(t - b * w) / 2, by omega⟩
  subst hP
  have key : P' * P' + b * P' * w + a * c * (w * w) = 1 := by grind
  refine ⟨(P', -(c * w), a * w, P' + b * w), ?_, ?_, rfl⟩
  · show P' * (P' + b * w) - -(c * w) * (a * w) = 1
    grind
  · have e : f = ((g3 f : Int) * a, (g3 f : Int) * b, (g3 f : Int) * c) := Prod.ext e1 (Prod.ext e2 e3)
    generalize (g3 f : Int) = g at *
    subst e
    simp only [mov, val, mid]
    refine Prod.ext ?_ (Prod.ext ?_ ?_) <;> dsimp only
    · have : g * a * P' * P' + g * b * P' * (a * w) + g * c * (a * w) * (a * w) = g * a * (P' * P' + b * P' * w + a * c * (w * w)) := by grind
      rw [this, key, Int.mul_one]
    · have : 2 * (g * a) * P' * -(c * w) + g * b * (P' * (P' + b * w) + -(c * w) * (a * w)) + 2 * (g * c) * (a * w) * (P' + b * w) = g * b * (P' * P' + b * P' * w + a * c * (w * w)) := by grind
      rw [this, key, Int.mul_one]
    · have : g * a * -(c * w) * -(c * w) + g * b * -(c * w) * (P' + b * w) + g * c * (P' + b * w) * (P' + b * w) = g * c * (P' * P' + b * P' * w + a * c * (w * w)) := by grind
      rw [this, key, Int.mul_one]
theorem least_u {far : Int} {g : I3} {N : Nat} {v t w : Int} (h : Lv far g) (hN : 0 < N) (min : ∀ j, 0 < j → j < N → rF far j g ≠ g) (hv : (rT far N g).2.1 = -((pl g).2.2 * v)) (hw : w ≠ 0) (e : t * t - meas (pl g) * (w * w) = 4) : ab v ≤ ab w := by
  have ha := sad_a h.S
  have hc := sad_c h.S
  have hc' : (pl g).2.2 ≠ 0 := fun z => hc (by rw [(pl_eqs g).2.2, z]; simp)
  obtain ⟨T, d, m, q⟩ := own_turn ha e
  have key : ∃ k, ab (rT far k g).2.1 = ab ((pl g).2.2 * w) ∧ rF far k g = g := by
    have an : ∀ x : Int, ab (-x) = ab x := fun x => by rcases ab_cases x with ⟨_, e⟩ | ⟨_, e⟩ <;> rcases ab_cases (-x) with ⟨_, e'⟩ | ⟨_, e'⟩ <;> omega
    rcases one_ring h h d m with ⟨k, s⟩ | ⟨k, s⟩
    · refine ⟨k, ?_, by rw [← rT_mov, ← s.mov, m]⟩
      rcases s with s | s
      · rw [← s, q, an]
      · have : T.2.1 = -(rT far k g).2.1 := by rw [s]; rfl
        rw [← an, ← this, q, an]
    · have mb : mov g (backV T) = g := by
        have := mov_back (f := g) d
        rw [m] at this
        exact this
      refine ⟨k, ?_, by rw [← rT_mov, ← s.mov, mb]⟩
      have bq : (backV T).2.1 = -T.2.1 := rfl
      rcases s with s | s
      · rw [← s, bq, an, q, an]
      · have : (backV T).2.1 = -(rT far k g).2.1 := by rw [s]; rfl
        rw [← an, ← this, bq, an, q, an]
  obtain ⟨k, k1, k2⟩ := key
  have k0 : k ≠ 0 := fun z => by
    subst z
    have e0 : (rT far 0 g).2.1 = 0 := rfl
    rw [e0, ← ab_mul] at k1
    have h1 : 1 ≤ ab (pl g).2.2 := by rcases ab_cases (pl g).2.2 with ⟨_, e⟩ | ⟨_, e⟩ <;> omega
    have h2 : 1 ≤ ab w := by rcases ab_cases w with ⟨_, e⟩ | ⟨_, e⟩ <;> omega
    have h3 := Int.mul_le_mul h1 h2 (by decide) (by omega)
    have h4 : ab (0 : Int) = 0 := rfl
    omega
  have kN : N ≤ k := by
    rcases Nat.lt_or_ge k N with z | z
    · exact absurd k2 (min k (by omega) z)
    · exact z
  have gr := q_mono h (N - 1) (k - N)
  rw [show N - 1 + 1 = N by omega, show N + (k - N) = k by omega, k1, hv] at gr
  have an : ab (-((pl g).2.2 * v)) = ab ((pl g).2.2 * v) := by rcases ab_cases ((pl g).2.2 * v) with ⟨_, e⟩ | ⟨_, e⟩ <;> rcases ab_cases (-((pl g).2.2 * v)) with ⟨_, e'⟩ | ⟨_, e'⟩ <;> omega
  rw [an, ← ab_mul, ← ab_mul] at gr
  have h1 : 1 ≤ ab (pl g).2.2 := by rcases ab_cases (pl g).2.2 with ⟨_, e⟩ | ⟨_, e⟩ <;> omega
  exact Int.le_of_mul_le_mul_left gr (by omega)
theorem small_u {far : Int} {g : I3} {N : Nat} {v : Int} (h : Lv far g) (hN : 0 < N) (min : ∀ j, 0 < j → j < N → rF far j g ≠ g) (hv : (rT far N g).2.1 = -((pl g).2.2 * v)) (hm1 : 1 ≤ meas (pl g)) (hm : meas (pl g) ≤ 4000) (hs : ¬ isSq (meas (pl g))) {r : Int} (hr : Sq (meas (pl g)) r) : Bt 490 v := by
  obtain ⟨X, Y, e, x1, y1, ym⟩ := solved hr hm1 hm fun z => hs ⟨r, z⟩
  have := least_u (t := 2 * X) (w := 2 * Y) h hN min hv (by omega) (by
    have : 2 * X * (2 * X) - meas (pl g) * (2 * Y * (2 * Y)) = 4 * (X * X - meas (pl g) * (Y * Y)) := by grind
    rw [this, e]
    rfl)
  have e2 : ab (2 * Y) = 2 * Y := by rcases ab_cases (2 * Y) with ⟨_, e⟩ | ⟨_, e⟩ <;> omega
  have h3 : Bt 490 (2 * Y) := by
    have : Bt 483 (2 * Y) := bt_of_le (by omega) (by
      have e4 : (2 : Int) ^ 482 = 2 * 2 ^ 481 := by rw [Int.pow_succ, Int.mul_comm]
      omega)
    exact this.le (by decide)
  exact bt_ab h3 (by omega)
end My

namespace My
open PySem L2
def pw (s : I4) : Nat → I4
  | 0 => (1, 0, 0, 1)
  | n + 1 => thenV (pw s n) s
theorem pw_one {s : I4} : pw s 1 = s := same_then
theorem pw_add {s : I4} (m : Nat) : ∀ n, pw s (m + n) = thenV (pw s m) (pw s n)
  | 0 => then_same.symm
  | n + 1 => by
    show thenV (pw s (m + n)) s = thenV (pw s m) (thenV (pw s n) s)
    rw [pw_add m n, then_assoc]
theorem pw_det {s : I4} (h : det s = 1) : ∀ n, det (pw s n) = 1
  | 0 => rfl
  | n + 1 => by
    show det (thenV (pw s n) s) = 1
    rw [det_then, pw_det h n, h]; rfl
theorem pw_own {f : I3} {s : I4} (h : mov f s = f) : ∀ n, mov f (pw s n) = f
  | 0 => mov_same
  | n + 1 => by
    show mov f (thenV (pw s n) s) = f
    rw [← mov_then, pw_own h n, h]
theorem pw_bt {s : I4} {n : Nat} (h : B4 n s) : ∀ k, B4 (k * (n + 1) + 1) (pw s k)
  | 0 => ⟨Bt.one.le (by omega), Bt.zero.le (by omega), Bt.zero.le (by omega), Bt.one.le (by omega)⟩
  | k + 1 => (B4.then (pw_bt h k) h).le (by rw [Nat.succ_mul]; omega)
def vn (t : Int) : Nat → Int
  | 0 => 0
  | 1 => 1
  | n + 2 => t * vn t (n + 1) - vn t n
theorem pw_third {s : I4} (h : det s = 1) : ∀ n, (pw s n).2.2.1 = s.2.2.1 * vn (tr s) n
  | 0 => by show (0 : Int) = s.2.2.1 * 0; omega
  | 1 => by rw [pw_one]; show s.2.2.1 = s.2.2.1 * 1; omega
  | n + 2 => by
    have h1 := pw_third h (n + 1)
    have h0 := pw_third h n
    have e1 : pw s (n + 1) = thenV (pw s n) s := rfl
    have e2 : pw s (n + 2) = thenV (thenV (pw s n) s) s := rfl
    rw [e2]
    rw [e1] at h1
    generalize pw s n = M at *
    obtain ⟨a, b, c, d⟩ := M
    obtain ⟨p, q, r, u⟩ := s
    show (thenV (thenV (a, b, c, d) (p, q, r, u)) (p, q, r, u)).2.2.1 = r * (tr (p, q, r, u) * vn (tr (p, q, r, u)) (n + 1) - vn (tr (p, q, r, u)) n)
    have hd : p * u - q * r = 1 := h
    simp only [thenV] at h1 h0 ⊢
    have e : r * (tr (p, q, r, u) * vn (tr (p, q, r, u)) (n + 1) - vn (tr (p, q, r, u)) n) = (p + u) * (c * p + d * r) - c := by
      have : tr (p, q, r, u) = p + u := rfl
      rw [this] at h1 h0 ⊢
      rw [h1, h0]
      generalize vn (p + u) (n + 1) = x
      generalize vn (p + u) n = y
      grind
    rw [e]
    have : c * (p * u) = c * (1 + q * r) := by rw [show p * u = 1 + q * r by omega]
    grind
theorem vn_up {t : Int} (h : 3 ≤ t) : ∀ n, 0 ≤ vn t n ∧ vn t n < vn t (n + 1)
  | 0 => ⟨by show (0 : Int) ≤ 0; omega, by show (0 : Int) < 1; omega⟩
  | n + 1 => by
    obtain ⟨a, b⟩ := vn_up h n
    refine ⟨by omega, ?_⟩
    show vn t (n + 1) < t * vn t (n + 1) - vn t n
    have := Int.mul_le_mul_of_nonneg_right h (show 0 ≤ vn t (n + 1) by omega)
    omega
theorem vn_lt {t : Int} (h : 3 ≤ t) (m : Nat) : ∀ d, vn t m < vn t (m + d + 1)
  | 0 => (vn_up h m).2
  | d + 1 => Int.lt_trans (vn_lt h m d) (vn_up h (m + d + 1)).2
theorem vn_lt' {t : Int} (h : 3 ≤ t) {m n : Nat} (l : m < n) : vn t m < vn t n := by
  have := vn_lt h m (n - m - 1)
  rw [show m + (n - m - 1) + 1 = n by omega] at this
  exact this
theorem vn_le {t : Int} (h : 3 ≤ t) {m n : Nat} : vn t m ≤ vn t n ↔ m ≤ n := by
  constructor
  · intro z
    rcases Nat.lt_or_ge n m with w | w
    · have := vn_lt' h w
      omega
    · exact w
  · intro z
    rcases Nat.lt_or_ge m n with w | w
    · have := vn_lt' h w
      omega
    · have : m = n := by omega
      subst this
      omega
theorem third_le {s : I4} (hd : det s = 1) (ht : 3 ≤ tr s) (hc : s.2.2.1 ≠ 0) {m n : Nat} : ab (pw s m).2.2.1 ≤ ab (pw s n).2.2.1 ↔ m ≤ n := by
  rw [pw_third hd, pw_third hd, ← ab_mul, ← ab_mul, ← vn_le ht]
  have h1 : 1 ≤ ab s.2.2.1 := by rcases ab_cases s.2.2.1 with ⟨_, e⟩ | ⟨_, e⟩ <;> omega
  have e1 : ab (vn (tr s) m) = vn (tr s) m := if_neg (by have := (vn_up ht m).1; omega)
  have e2 : ab (vn (tr s) n) = vn (tr s) n := if_neg (by have := (vn_up ht n).1; omega)
  rw [e1, e2]
  generalize ab s.2.2.1 = k at *
  constructor
  · intro z
    rcases Int.lt_or_le (vn (tr s) n) (vn (tr s) m) with w | w
    · have := Int.mul_lt_mul_of_pos_left w (show 0 < k by omega)
      omega
    · exact w
  · exact fun z => Int.mul_le_mul_of_nonneg_left z (by omega)
theorem pw_tr {s : I4} (h : det s = 1) (ht : 3 ≤ tr s) : ∀ n, 0 < tr (pw s n) ∧ tr (pw s n) ≤ tr (pw s (n + 1))
  | 0 => ⟨by show (0 : Int) < 1 + 1; omega, by rw [pw_one]; show (1 : Int) + 1 ≤ tr s; omega⟩
  | n + 1 => by
    obtain ⟨w1, w2⟩ := pw_tr h ht n
    refine ⟨by omega, ?_⟩
    have e1 : pw s (n + 1) = thenV (pw s n) s := rfl
    have e2 : pw s (n + 1 + 1) = thenV (thenV (pw s n) s) s := rfl
    have key : tr (pw s (n + 1 + 1)) = tr s * tr (pw s (n + 1)) - tr (pw s n) := by
      rw [e2, e1]
      generalize pw s n = M at *
      obtain ⟨a, b, c, d⟩ := M
      obtain ⟨p, q, r, u⟩ := s
      have hd : p * u - q * r = 1 := h
      simp only [thenV, tr]
      have h1 : a * (p * u) = a * (1 + q * r) := by rw [show p * u = 1 + q * r by omega]
      have h2 : d * (p * u) = d * (1 + q * r) := by rw [show p * u = 1 + q * r by omega]
      grind
    rw [key]
    have := Int.mul_le_mul_of_nonneg_right ht (show 0 ≤ tr (pw s (n + 1)) by omega)
    omega
theorem tr_back {s : I4} : tr (backV s) = tr s := by show s.2.2.2 + s.1 = s.1 + s.2.2.2; omega
def tw (z : Int) (s : I4) (n : Nat) : I4 := thenV (z, 0, 0, z) (pw s n)
theorem tw_eq {z : Int} {s : I4} {n : Nat} : tw z s n = (z * (pw s n).1, z * (pw s n).2.1, z * (pw s n).2.2.1, z * (pw s n).2.2.2) := by
  unfold tw thenV
  simp only [Int.zero_mul, Int.add_zero, Int.zero_add]
theorem tw_succ {z : Int} {s : I4} {n : Nat} : tw z s (n + 1) = thenV (tw z s n) s := by
  unfold tw
  show thenV _ (thenV (pw s n) s) = _
  rw [then_assoc]
theorem tw_det {z : Int} {s : I4} {n : Nat} (hz : z = 1 ∨ z = -1) (h : det s = 1) : det (tw z s n) = 1 := by
  unfold tw
  rw [det_then, pw_det h]
  rcases hz with rfl | rfl <;> rfl
theorem tw_own {z : Int} {f : I3} {s : I4} {n : Nat} (hz : z = 1 ∨ z = -1) (h : mov f s = f) : mov f (tw z s n) = f := by
  unfold tw
  have e : mov f (z, 0, 0, z) = f := by
    rcases hz with rfl | rfl
    · exact mov_same
    · obtain ⟨a, b, c⟩ := f
      simp only [mov, val, mid]
      refine Prod.ext ?_ (Prod.ext ?_ ?_) <;> dsimp only <;> grind
  rw [← mov_then, e, pw_own h]
end My




namespace My
open PySem L2
/-! the reading of a body over data, by computation -/
local macro_rules | `(tactic| walk_at "rd1") => `(tactic| dsimp only [dRet, dRetN, dSeq, dNext, dIf, dNever, dDrop, dAsg, dgName, dgTup, dgLst, dSetC, dgNil, dgCons, dPar2, dPar3, dAugI, dIn, dOp, dUn, dVar, dC, dIx, ixt0, ixt1, ixt2, ixt3, ixl0, ixl1, ixl2, ixl3, dAdd, dSub, dMul, dMod, dDiv, dPow, dShl, dShr, dI, dI0, dB0, dLt, dLe, dGt, dGe, dEq, dNe, dIs, dNot, dAnd, dOr, dNeg, dTst, dTNot, dTAnd, dTOr, dIfE, dNil, dCons, dTup, dLst, dCall, dCB, dLen, dAbs, dMax, dMin, dInt1, dIsi, dSlice, dNoPart, dPart, dChain, dChain3, dTrue, inner, diSeq, diTup, diRng1, diRng2, diRng3, dBits, dOf, dLstF, dSliceF, dCatF, dCallV, dQuiet, dNextX, dSeqX, dIfX, dDropX, dRetX, dAsgX, dCallX, dRaise, dTry, xcatch, dIsx, dIsxs, dIsv, dXfld, dCalm, dOwn, dIxO, dSetO, dAppO, dFrz, dLenO, ownAt, dCatT, dFresh, dLendT, dCopyO, dConsX, dCallA, 
  List.length_cons, List.length_nil, List.getElem?_cons_zero, List.getElem?_cons_succ, List.set_cons_zero, List.set_cons_succ, Nat.reduceAdd, List.map_cons, List.map_nil, Option.join_some])
local macro_rules | `(tactic| walk_at "rd2") => `(tactic| simp only [isB_t, isB_f, isB_i, isB_n, isB_tu, isB_l, isN_n, isN_i, isN_b, isN_t, isN_l, nf_i, nf_b, nf_n, nf_t, nf_l, nf_s, isT_tt, isT_ll, isT_ii, isT_bi, isT_ib, isT_bb, isT_tn, isT_in, isT_it, isT_bt, eq_ii, eq_bb, eq_ss, eq_nn, eq_ni, eq_nt, eq_tn, eq_tt, eq_ll, eqs_nn, eqs_cc, eqs_nc, eqs_cn, flat_i, flat_b, flat_n, flat_t8, flat_l8, flat_t7, flat_l7, flat_t6, flats_n, flats_c, if_true, if_false, Bool.and_true, Bool.true_and, Bool.false_and, Bool.and_false, Bool.not_true, Bool.not_false, Bool.false_eq_true, true_and, and_true, ite_true, ite_false, List.length_map])
local macro_rules | `(tactic| walk_at "rd") => `(tactic| ((try walk_at "rd1"); (try walk_at "rd2")))
local macro_rules | `(tactic| walk_at "go") => `(tactic| ((try simp only [dstart_c, dstart_n, dstart_e]); walk_at "rd"))
/-! sizes -/
local macro_rules | `(tactic| walk_at "bts") => `(tactic| first | assumption | (with_reducible apply Bt.mul <;> walk_at "bts") | (with_reducible apply Bt.add <;> walk_at "bts") | (with_reducible apply Bt.sub <;> walk_at "bts") | (with_reducible apply Bt.neg <;> walk_at "bts") | exact Bt.of_abs (n := 1) (by decide) | exact Bt.of_abs (n := 8) (by decide) | exact Bt.of_abs (n := 400) (by decide))
local macro_rules | `(tactic| walk_at "bt") => `(tactic| exact Bt.le (by walk_at "bts") (by decide))
local macro_rules | `(tactic| walk_at "mul") => `(tactic| exact Bt.mulOk (by walk_at "bts") (by walk_at "bts") (by decide) (by decide))
local macro_rules | `(tactic| walk_at "muls") => `(tactic| repeat (refine ⟨by first | walk_at "mul" | exact size_ok (by decide) | decide | exact ⟨by decide, by decide⟩, ?_⟩))

def top (i : Nat) : Stmt := PySem.Challenge.pw_formcycle_k28_so_many_steps.main.body.getD i (.Pass ⟨0, 0, 0, 0⟩)
abbrev s_divisor : Stmt := top 14
theorem sc_divisor : FnScope ["one", "other", "rest"] ["one", "other"] (defScope s_divisor) := ⟨rfl, rfl, rfl, by decide +kernel, rfl, by decide +kernel, by decide +kernel⟩
abbrev s_root : Stmt := top 15
theorem sc_root : FnScope ["number", "guess", "better"] ["number"] (defScope s_root) := ⟨rfl, rfl, rfl, by decide +kernel, rfl, by decide +kernel, by decide +kernel⟩
abbrev s_is_square : Stmt := top 16
theorem sc_is_square : FnScope ["number", "side"] ["number"] (defScope s_is_square) := ⟨rfl, rfl, rfl, by decide +kernel, rfl, by decide +kernel, by decide +kernel⟩
abbrev s_check_at_most : Stmt := top 17
theorem sc_check_at_most : FnScope ["number", "most"] ["number", "most"] (defScope s_check_at_most) := ⟨rfl, rfl, rfl, by decide +kernel, rfl, by decide +kernel, by decide +kernel⟩
abbrev s_is_turn : Stmt := top 20
theorem sc_is_turn : FnScope ["turn"] ["turn"] (defScope s_is_turn) := ⟨rfl, rfl, rfl, by decide +kernel, rfl, by decide +kernel, by decide +kernel⟩
abbrev s_check_turn : Stmt := top 21
theorem sc_check_turn : FnScope ["turn"] ["turn"] (defScope s_check_turn) := ⟨rfl, rfl, rfl, by decide +kernel, rfl, by decide +kernel, by decide +kernel⟩
abbrev s_put_behind : Stmt := top 22
theorem sc_put_behind : FnScope ["one", "other"] ["one", "other"] (defScope s_put_behind) := ⟨rfl, rfl, rfl, by decide +kernel, rfl, by decide +kernel, by decide +kernel⟩
abbrev s_back : Stmt := top 23
theorem sc_back : FnScope ["turn"] ["turn"] (defScope s_back) := ⟨rfl, rfl, rfl, by decide +kernel, rfl, by decide +kernel, by decide +kernel⟩
abbrev s_measure : Stmt := top 25
theorem sc_measure : FnScope ["form"] ["form"] (defScope s_measure) := ⟨rfl, rfl, rfl, by decide +kernel, rfl, by decide +kernel, by decide +kernel⟩
abbrev s_value : Stmt := top 26
theorem sc_value : FnScope ["form", "point", "x", "y"] ["form", "point"] (defScope s_value) := ⟨rfl, rfl, rfl, by decide +kernel, rfl, by decide +kernel, by decide +kernel⟩
abbrev s_content : Stmt := top 27
theorem sc_content : FnScope ["form"] ["form"] (defScope s_content) := ⟨rfl, rfl, rfl, by decide +kernel, rfl, by decide +kernel, by decide +kernel⟩
abbrev s_moved : Stmt := top 28
theorem sc_moved : FnScope ["form", "turn", "left", "right"] ["form", "turn"] (defScope s_moved) := ⟨rfl, rfl, rfl, by decide +kernel, rfl, by decide +kernel, by decide +kernel⟩
abbrev s_middle : Stmt := top 29
theorem sc_middle : FnScope ["form", "left", "right", "crossed"] ["form", "left", "right"] (defScope s_middle) := ⟨rfl, rfl, rfl, by decide +kernel, rfl, by decide +kernel, by decide +kernel⟩
abbrev s_shape : Stmt := top 30
theorem sc_shape : FnScope ["form", "number"] ["form"] (defScope s_shape) := ⟨rfl, rfl, rfl, by decide +kernel, rfl, by decide +kernel, by decide +kernel⟩
abbrev s_check_saddle : Stmt := top 33
theorem sc_check_saddle : FnScope ["form"] ["form"] (defScope s_check_saddle) := ⟨rfl, rfl, rfl, by decide +kernel, rfl, by decide +kernel, by decide +kernel⟩
abbrev s_stands_level : Stmt := top 34
theorem sc_stands_level : FnScope ["form", "far", "b"] ["form", "far"] (defScope s_stands_level) := ⟨rfl, rfl, rfl, by decide +kernel, rfl, by decide +kernel, by decide +kernel⟩
abbrev s_turn_behind : Stmt := top 35
theorem sc_turn_behind : FnScope ["form", "top", "b", "c", "d"] ["form", "top"] (defScope s_turn_behind) := ⟨rfl, rfl, rfl, by decide +kernel, rfl, by decide +kernel, by decide +kernel⟩
abbrev s_stop_behind : Stmt := top 36
theorem sc_stop_behind : FnScope ["stop", "top", "turn"] ["stop", "top"] (defScope s_stop_behind) := ⟨rfl, rfl, rfl, by decide +kernel, rfl, by decide +kernel, by decide +kernel⟩
abbrev s_eased : Stmt := top 37
theorem sc_eased : FnScope ["form", "far", "stop"] ["form"] (defScope s_eased) := ⟨rfl, rfl, rfl, by decide +kernel, rfl, by decide +kernel, by decide +kernel⟩
abbrev s_stops_round : Stmt := top 38
theorem sc_stops_round : FnScope ["form", "far", "first", "stops", "stop"] ["form"] (defScope s_stops_round) := ⟨rfl, rfl, rfl, by decide +kernel, rfl, by decide +kernel, by decide +kernel⟩
abbrev s_step_of : Stmt := top 39
theorem sc_step_of : FnScope ["form", "common", "plain", "pair", "t", "u"] ["form"] (defScope s_step_of) := ⟨rfl, rfl, rfl, by decide +kernel, rfl, by decide +kernel, by decide +kernel⟩
abbrev s_step_pair : Stmt := top 40
theorem sc_step_pair : FnScope ["form", "plain_first", "stops", "once"] ["form", "plain_first"] (defScope s_step_pair) := ⟨rfl, rfl, rfl, by decide +kernel, rfl, by decide +kernel, by decide +kernel⟩
abbrev s_power_of : Stmt := top 41
theorem sc_power_of : FnScope ["form", "turn", "sign", "count"] ["form", "turn"] (defScope s_power_of) := ⟨rfl, rfl, rfl, by decide +kernel, rfl, by decide +kernel, by decide +kernel⟩
abbrev s_count_without_sign : Stmt := top 42
theorem sc_count_without_sign : FnScope ["step", "third", "doubled", "count", "came", "place", "further"] ["step", "third"] (defScope s_count_without_sign) := ⟨rfl, rfl, rfl, by decide +kernel, rfl, by decide +kernel, by decide +kernel⟩
abbrev s__law_cell : Stmt := top 44
theorem sc__law_cell : FnScope ["_law_script", "_law_k"] ["_law_script", "_law_k"] (defScope s__law_cell) := ⟨rfl, rfl, rfl, by decide +kernel, rfl, by decide +kernel, by decide +kernel⟩
abbrev s__law_whole : Stmt := top 45
theorem sc__law_whole : FnScope ["_law_found"] ["_law_found"] (defScope s__law_whole) := ⟨rfl, rfl, rfl, by decide +kernel, rfl, by decide +kernel, by decide +kernel⟩
abbrev s__law_wholes : Stmt := top 46
theorem sc__law_wholes : FnScope ["_law_found", "_law_many"] ["_law_found", "_law_many"] (defScope s__law_wholes) := ⟨rfl, rfl, rfl, by decide +kernel, rfl, by decide +kernel, by decide +kernel⟩
abbrev s__law_bar : Stmt := top 47
theorem sc__law_bar : FnScope ["_law_form"] ["_law_form"] (defScope s__law_bar) := ⟨rfl, rfl, rfl, by decide +kernel, rfl, by decide +kernel, by decide +kernel⟩
abbrev s__law_root : Stmt := top 48
theorem sc__law_root : FnScope ["_law_number", "_law_near"] ["_law_number"] (defScope s__law_root) := ⟨rfl, rfl, rfl, by decide +kernel, rfl, by decide +kernel, by decide +kernel⟩
abbrev s__law_flat : Stmt := top 49
theorem sc__law_flat : FnScope ["_law_form", "_law_bar_here", "_law_far"] ["_law_form"] (defScope s__law_flat) := ⟨rfl, rfl, rfl, by decide +kernel, rfl, by decide +kernel, by decide +kernel⟩
abbrev s__law_turn : Stmt := top 50
theorem sc__law_turn : FnScope ["_law_first", "_law_cells", "_law_p", "_law_q", "_law_r", "_law_s", "_law_cell_here", "_law_k"] ["_law_first", "_law_cells"] (defScope s__law_turn) := ⟨rfl, rfl, rfl, by decide +kernel, rfl, by decide +kernel, by decide +kernel⟩
abbrev s__law_value : Stmt := top 51
theorem sc__law_value : FnScope ["_law_form", "_law_x", "_law_y"] ["_law_form", "_law_x", "_law_y"] (defScope s__law_value) := ⟨rfl, rfl, rfl, by decide +kernel, rfl, by decide +kernel, by decide +kernel⟩
abbrev s__law_moved : Stmt := top 52
theorem sc__law_moved : FnScope ["_law_form", "_law_turn_here", "_law_p", "_law_q", "_law_r", "_law_s", "_law_middle"] ["_law_form", "_law_turn_here"] (defScope s__law_moved) := ⟨rfl, rfl, rfl, by decide +kernel, rfl, by decide +kernel, by decide +kernel⟩
abbrev s__law_saddle : Stmt := top 53
theorem sc__law_saddle : FnScope ["_law_one", "_law_two", "_law_three", "_law_often", "_law_size", "_law_m", "_law_b", "_law_rest", "_law_most", "_law_bar_here", "_law_sign"] ["_law_one", "_law_two", "_law_three"] (defScope s__law_saddle) := ⟨rfl, rfl, rfl, by decide +kernel, rfl, by decide +kernel, by decide +kernel⟩
abbrev s__law_put : Stmt := top 54
theorem sc__law_put : FnScope ["_law_one", "_law_other", "_law_p", "_law_q", "_law_r", "_law_s", "_law_t", "_law_u", "_law_v", "_law_w"] ["_law_one", "_law_other"] (defScope s__law_put) := ⟨rfl, rfl, rfl, by decide +kernel, rfl, by decide +kernel, by decide +kernel⟩
abbrev s__law_told : Stmt := top 55
theorem sc__law_told : FnScope ["_law_form", "_law_turn_here", "_law_told_here", "e"] ["_law_form", "_law_turn_here"] (defScope s__law_told) := ⟨rfl, rfl, rfl, by decide +kernel, rfl, by decide +kernel, by decide +kernel⟩
abbrev s__law_refused : Stmt := top 56
theorem sc__law_refused : FnScope ["_law_form", "_law_turn_here", "_law_own", "_law_told_here"] ["_law_form", "_law_turn_here", "_law_own"] (defScope s__law_refused) := ⟨rfl, rfl, rfl, by decide +kernel, rfl, by decide +kernel, by decide +kernel⟩
abbrev s_law : Stmt := top 57
theorem sc_law : FnScope ["_law_script", "_law_form", "_law_first", "_law_sign", "_law_step", "_law_count", "_law_turn_here", "_law_k", "_law_found", "_law_far", "_law_four"] ["_law_script"] (defScope s_law) := ⟨rfl, rfl, rfl, by decide +kernel, rfl, by decide +kernel, by decide +kernel⟩
abbrev si_NoTurn : Stmt := inClass (top 2) 0
theorem sci_NoTurn : FnScope ["self", "turn"] ["self", "turn"] (defScope si_NoTurn) := ⟨rfl, rfl, rfl, by decide +kernel, rfl, by decide +kernel, by decide +kernel⟩
abbrev si_NotOwn : Stmt := inClass (top 7) 0
theorem sci_NotOwn : FnScope ["self", "turn"] ["self", "turn"] (defScope si_NotOwn) := ⟨rfl, rfl, rfl, by decide +kernel, rfl, by decide +kernel, by decide +kernel⟩
structure Txt (K : PySem.W.Frag) (mg : Str → Option Value) : Prop where
  x_NoTurn : ∃ C U fI fd, XRT K mg "NoTurn" ["turn"] "NoTurn.__init__" si_NoTurn C U fI fd ["self", "turn"]
  un_NoTurn_FormError : Under K mg "NoTurn" "FormError"
  nf_NoTurn_turn : NoAt K "NoTurn" "turn"
  x_NotOwn : ∃ C U fI fd, XRT K mg "NotOwn" ["turn"] "NotOwn.__init__" si_NotOwn C U fI fd ["self", "turn"]
  un_NotOwn_FormError : Under K mg "NotOwn" "FormError"
  nf_NotOwn_turn : NoAt K "NotOwn" "turn"
  u_FormError : ∃ U, XU K mg "FormError" U
  c_Apart : ∃ A, mg "Apart" = some (.ref A) ∧ SubX K "NoTurn" A false ∧ SubX K "NotOwn" A false
  c_NoAnswer : ∃ A, mg "NoAnswer" = some (.ref A) ∧ SubX K "NoTurn" A false ∧ SubX K "NotOwn" A false
  c_NoMeasure : ∃ A, mg "NoMeasure" = some (.ref A) ∧ SubX K "NoTurn" A false ∧ SubX K "NotOwn" A false
  c_NoRoot : ∃ A, mg "NoRoot" = some (.ref A) ∧ SubX K "NoTurn" A false ∧ SubX K "NotOwn" A false
  c_NoShape : ∃ A, mg "NoShape" = some (.ref A) ∧ SubX K "NoTurn" A false ∧ SubX K "NotOwn" A false
  c_NotLevel : ∃ A, mg "NotLevel" = some (.ref A) ∧ SubX K "NoTurn" A false ∧ SubX K "NotOwn" A false
  c_NotPlain : ∃ A, mg "NotPlain" = some (.ref A) ∧ SubX K "NoTurn" A false ∧ SubX K "NotOwn" A false
  c_Nought : ∃ A, mg "Nought" = some (.ref A) ∧ SubX K "NoTurn" A false ∧ SubX K "NotOwn" A false
  c_TooGreat : ∃ A, mg "TooGreat" = some (.ref A) ∧ SubX K "NoTurn" A false ∧ SubX K "NotOwn" A false
  c_NotOwn : ∃ A, mg "NotOwn" = some (.ref A) ∧ SubX K "NoTurn" A false ∧ SubX K "NotOwn" A true
  c_NoTurn : ∃ A, mg "NoTurn" = some (.ref A) ∧ SubX K "NoTurn" A true ∧ SubX K "NotOwn" A false
  z_ValueError : mg "ValueError" = none
  t_divisor : ∃ f fd, FnT K mg "divisor" s_divisor ["one", "other"] f fd
  t_root : ∃ f fd, FnT K mg "root" s_root ["number"] f fd
  t_is_square : ∃ f fd, FnT K mg "is_square" s_is_square ["number"] f fd
  t_check_at_most : ∃ f fd, FnT K mg "check_at_most" s_check_at_most ["number", "most"] f fd
  t_is_turn : ∃ f fd, FnT K mg "is_turn" s_is_turn ["turn"] f fd
  t_check_turn : ∃ f fd, FnT K mg "check_turn" s_check_turn ["turn"] f fd
  t_put_behind : ∃ f fd, FnT K mg "put_behind" s_put_behind ["one", "other"] f fd
  t_back : ∃ f fd, FnT K mg "back" s_back ["turn"] f fd
  t_measure : ∃ f fd, FnT K mg "measure" s_measure ["form"] f fd
  t_value : ∃ f fd, FnT K mg "value" s_value ["form", "point"] f fd
  t_content : ∃ f fd, FnT K mg "content" s_content ["form"] f fd
  t_moved : ∃ f fd, FnT K mg "moved" s_moved ["form", "turn"] f fd
  t_middle : ∃ f fd, FnT K mg "middle" s_middle ["form", "left", "right"] f fd
  t_shape : ∃ f fd, FnT K mg "shape" s_shape ["form"] f fd
  t_check_saddle : ∃ f fd, FnT K mg "check_saddle" s_check_saddle ["form"] f fd
  t_stands_level : ∃ f fd, FnT K mg "stands_level" s_stands_level ["form", "far"] f fd
  t_turn_behind : ∃ f fd, FnT K mg "turn_behind" s_turn_behind ["form", "top"] f fd
  t_stop_behind : ∃ f fd, FnT K mg "stop_behind" s_stop_behind ["stop", "top"] f fd
  t_eased : ∃ f fd, FnT K mg "eased" s_eased ["form"] f fd
  t_stops_round : ∃ f fd, FnT K mg "stops_round" s_stops_round ["form"] f fd
  t_step_of : ∃ f fd, FnT K mg "step_of" s_step_of ["form"] f fd
  t_step_pair : ∃ f fd, FnT K mg "step_pair" s_step_pair ["form", "plain_first"] f fd
  t_power_of : ∃ f fd, FnT K mg "power_of" s_power_of ["form", "turn"] f fd
  t_count_without_sign : ∃ f fd, FnT K mg "count_without_sign" s_count_without_sign ["step", "third"] f fd
  t__law_cell : ∃ f fd, FnT K mg "_law_cell" s__law_cell ["_law_script", "_law_k"] f fd
  t__law_whole : ∃ f fd, FnT K mg "_law_whole" s__law_whole ["_law_found"] f fd
  t__law_wholes : ∃ f fd, FnT K mg "_law_wholes" s__law_wholes ["_law_found", "_law_many"] f fd
  t__law_bar : ∃ f fd, FnT K mg "_law_bar" s__law_bar ["_law_form"] f fd
  t__law_root : ∃ f fd, FnT K mg "_law_root" s__law_root ["_law_number"] f fd
  t__law_flat : ∃ f fd, FnT K mg "_law_flat" s__law_flat ["_law_form"] f fd
  t__law_turn : ∃ f fd, FnT K mg "_law_turn" s__law_turn ["_law_first", "_law_cells"] f fd
  t__law_value : ∃ f fd, FnT K mg "_law_value" s__law_value ["_law_form", "_law_x", "_law_y"] f fd
  t__law_moved : ∃ f fd, FnT K mg "_law_moved" s__law_moved ["_law_form", "_law_turn_here"] f fd
  t__law_saddle : ∃ f fd, FnT K mg "_law_saddle" s__law_saddle ["_law_one", "_law_two", "_law_three"] f fd
  t__law_put : ∃ f fd, FnT K mg "_law_put" s__law_put ["_law_one", "_law_other"] f fd
  t__law_told : ∃ f fd, FnT K mg "_law_told" s__law_told ["_law_form", "_law_turn_here"] f fd
  t__law_refused : ∃ f fd, FnT K mg "_law_refused" s__law_refused ["_law_form", "_law_turn_here", "_law_own"] f fd
  t_law : ∃ f fd, FnT K mg "law" s_law ["_law_script"] f fd
  m_MOST_MEASURE : ∃ t, mg "MOST_MEASURE" = some (.int (4000) t)
  z_abs : mg "abs" = none
  z_bool : mg "bool" = none
  z_int : mg "int" = none
  z_isinstance : mg "isinstance" = none
  z_len : mg "len" = none
  z_max : mg "max" = none
  z_range : mg "range" = none
  z_tuple : mg "tuple" = none
  k_SAME : ∃ a, mg "SAME" = some (.ref a) ∧ ∀ H, Rp K H (.tup [.int (1), .int (0), .int (0), .int (1)]) (.ref a)
theorem r_NoTurn {P : Program} {w : World} {K : PySem.W.Frag} {mg : Str → Option Value} {base : Heap} (T : Txt K mg) : ∃ C U fI fd, XR P w K mg base 1 "NoTurn" ["turn"] C U fI fd ["self", "turn"] := by
  obtain ⟨C, U, fI, fd, R⟩ := T.x_NoTurn
  refine ⟨C, U, fI, fd, XRT.mk1 R (R.fn.ok sci_NoTurn (fun vs H Q E ⟨a, ys, e, l, _⟩ => by rw [e]; simpa using l) fun cdv A outer s H vs Q E hr ⟨a, ys, e, l, ha, q⟩ => ?_)⟩
  subst e
  obtain ⟨y, rfl⟩ : ∃ y, ys = [y] := List.length_eq_one_iff.mp l
  exact ⟨_, pss_one (ps_x1 R.xc (R.tk _ (by simp)) (pv 0) (pv 1)), y, rfl, .ref a, rfl, a, rfl, ha, fun dx h1 h2 => q dx h1 h2⟩
theorem r_NotOwn {P : Program} {w : World} {K : PySem.W.Frag} {mg : Str → Option Value} {base : Heap} (T : Txt K mg) : ∃ C U fI fd, XR P w K mg base 1 "NotOwn" ["turn"] C U fI fd ["self", "turn"] := by
  obtain ⟨C, U, fI, fd, R⟩ := T.x_NotOwn
  refine ⟨C, U, fI, fd, XRT.mk1 R (R.fn.ok sci_NotOwn (fun vs H Q E ⟨a, ys, e, l, _⟩ => by rw [e]; simpa using l) fun cdv A outer s H vs Q E hr ⟨a, ys, e, l, ha, q⟩ => ?_)⟩
  subst e
  obtain ⟨y, rfl⟩ : ∃ y, ys = [y] := List.length_eq_one_iff.mp l
  exact ⟨_, pss_one (ps_x1 R.xc (R.tk _ (by simp)) (pv 0) (pv 1)), y, rfl, .ref a, rfl, a, rfl, ha, fun dx h1 h2 => q dx h1 h2⟩
abbrev sp_is_turn : DSp := specF (fun t : I4 => [t4 t]) (B4 300000) fun t => .bl (decide (det t = 1))
abbrev sp_check_turn : DSp := specF (fun t : I4 => [t4 t]) (fun t => B4 300000 t ∧ det t = 1) fun _ => .non
abbrev sp_led : DSp := specF (fun p : I4 × I2 => [t4 p.1, t2 p.2]) (fun p => B4 300000 p.1 ∧ det p.1 = 1 ∧ B2 300000 p.2) fun p => t2 (ledV p.1 p.2)
abbrev sp_put_behind : DSp := specF (fun p : I4 × I4 => [t4 p.1, t4 p.2]) (fun p => B4 400000 p.1 ∧ B4 400000 p.2) fun p => t4 (thenV p.1 p.2)
abbrev sp_then : DSp := specF (fun p : I4 × I4 => [t4 p.1, t4 p.2]) (fun p => B4 300000 p.1 ∧ B4 300000 p.2 ∧ det p.1 = 1 ∧ det p.2 = 1) fun p => t4 (thenV p.1 p.2)
abbrev sp_back : DSp := specF (fun t : I4 => [t4 t]) (fun t => B4 300000 t ∧ det t = 1) fun t => t4 (backV t)
theorem ok_is_turn {P : Program} {w : World} {K : PySem.W.Frag} {mg : Str → Option Value} {base : Heap} (T : Txt K mg)
    : Pm P w K mg base 1 "is_turn" s_is_turn ["turn"] sp_is_turn := by
  obtain ⟨f, fd, F⟩ := T.t_is_turn
  refine ⟨f, fd, F, F.fn.okD sc_is_turn (fun ds Q ⟨p, e, _⟩ => by rw [e]; rfl) fun cdv A outer s H E hr => ⟨_, (dss_one (ds_ret (de_eq hr.units (de_sub (de_mul (de_sub_ix (dv 0) de_int) (de_sub_ix (dv 0) de_int)) (de_mul (de_sub_ix (dv 0) de_int) (de_sub_ix (dv 0) de_int))) de_int))), fun ds Q h => ?_⟩⟩
  obtain ⟨⟨a, b, c, d⟩, rfl, ⟨ha, hb, hc, hd⟩, q⟩ := h
  walk_at "go"
  exact ⟨by walk_at "mul", by walk_at "mul", q _ rfl⟩
abbrev xTurn (t : I4) : Dt := .exc "NoTurn" ["turn"] [t4 t]
abbrev spx_check_turn : DSpX := specX (fun t : I4 => [t4 t]) (B4 300000) (fun t => det t = 1) (fun _ d => d = .non) xTurn
theorem okx_check_turn {P : Program} {w : World} {K : PySem.W.Frag} {mg : Str → Option Value} {base : Heap} (T : Txt K mg)
    (G_is_turn : Pm P w K mg base 1 "is_turn" s_is_turn ["turn"] sp_is_turn)
    : PmX P w K mg base 3 "check_turn" s_check_turn ["turn"] spx_check_turn := by
  obtain ⟨f, fd, F⟩ := T.t_check_turn
  obtain ⟨C_NoTurn, U_NoTurn, fI_NoTurn, fd_NoTurn, R_NoTurn⟩ := r_NoTurn (P := P) (w := w) (base := base) T
  refine ⟨f, fd, F, F.fn.okX sc_check_turn (fun ds Q E ⟨p, e, _⟩ => by rw [e]; rfl) fun cdv A outer s H E hr => ⟨_, (dssx_one (dsx_if (dt_not (dt_val (de_callP spec_mono G_is_turn (hr.mono (by decide)) rfl (da_cons (dv 0) da_nil)))) (dssx_one (dsx_raise R_NoTurn (hr.mono (by decide)) rfl rfl (da_cons (dv 0) da_nil))) dssx_nil)), fun ds Q Ex h => ?_⟩⟩
  obtain ⟨t, rfl, hb, q, x⟩ := h
  walk_at "go"
  refine specF_of t hb ?_
  walk_at "rd"
  by_cases hd : det t = 1
  · exact ifn (decide_eq_true hd) (q hd _ rfl)
  · exact ifnf (decide_eq_false hd) ⟨by decide, x hd⟩
theorem ok_check_turn {P : Program} {w : World} {K : PySem.W.Frag} {mg : Str → Option Value} {base : Heap} (G : PmX P w K mg base 3 "check_turn" s_check_turn ["turn"] spx_check_turn)
    : Pm P w K mg base 3 "check_turn" s_check_turn ["turn"] sp_check_turn := by
  refine G.pm specX_mono fun ds Q h => ?_
  obtain ⟨t, e, ⟨hb, hd⟩, q⟩ := h
  exact ⟨t, e, hb, fun _ d z => q d z, fun z => absurd hd z⟩
theorem ok_put_behind {P : Program} {w : World} {K : PySem.W.Frag} {mg : Str → Option Value} {base : Heap} (T : Txt K mg)
    : Pm P w K mg base 1 "put_behind" s_put_behind ["one", "other"] sp_put_behind := by
  obtain ⟨f, fd, F⟩ := T.t_put_behind
  refine ⟨f, fd, F, F.fn.okD sc_put_behind (fun ds Q ⟨p, e, _⟩ => by rw [e]; rfl) fun cdv A outer s H E hr => ⟨_, (dss_one (ds_ret (de_tup (da_cons (de_add (de_mul (de_sub_ix (dv 0) de_int) (de_sub_ix (dv 1) de_int)) (de_mul (de_sub_ix (dv 0) de_int) (de_sub_ix (dv 1) de_int))) (da_cons (de_add (de_mul (de_sub_ix (dv 0) de_int) (de_sub_ix (dv 1) de_int)) (de_mul (de_sub_ix (dv 0) de_int) (de_sub_ix (dv 1) de_int))) (da_cons (de_add (de_mul (de_sub_ix (dv 0) de_int) (de_sub_ix (dv 1) de_int)) (de_mul (de_sub_ix (dv 0) de_int) (de_sub_ix (dv 1) de_int))) (da_cons (de_add (de_mul (de_sub_ix (dv 0) de_int) (de_sub_ix (dv 1) de_int)) (de_mul (de_sub_ix (dv 0) de_int) (de_sub_ix (dv 1) de_int))) da_nil))))))), fun ds Q h => ?_⟩⟩
  obtain ⟨⟨⟨a, b, c, d⟩, e, f, g, i⟩, rfl, ⟨⟨ha, hb, hc, hd⟩, he, hf, hg, hi⟩, q⟩ := h
  walk_at "go"
  exact ⟨by walk_at "mul", by walk_at "mul", by walk_at "mul", by walk_at "mul", by walk_at "mul", by walk_at "mul", by walk_at "mul", by walk_at "mul", size_ok (by decide), q _ rfl⟩
theorem ok_back {P : Program} {w : World} {K : PySem.W.Frag} {mg : Str → Option Value} {base : Heap} (T : Txt K mg)
    (G_check_turn : Pm P w K mg base 3 "check_turn" s_check_turn ["turn"] sp_check_turn)
    : Pm P w K mg base 4 "back" s_back ["turn"] sp_back := by
  obtain ⟨f, fd, F⟩ := T.t_back
  refine ⟨f, fd, F, F.fn.okD sc_back (fun ds Q ⟨p, e, _⟩ => by rw [e]; rfl) fun cdv A outer s H E hr => ⟨_, (dss_cons (ds_expr (de_callP spec_mono G_check_turn (hr.mono (by decide)) rfl (da_cons (dv 0) da_nil))) (dss_one (ds_ret (de_tup (da_cons (de_sub_ix (dv 0) de_int) (da_cons (de_neg (de_sub_ix (dv 0) de_int)) (da_cons (de_neg (de_sub_ix (dv 0) de_int)) (da_cons (de_sub_ix (dv 0) de_int) da_nil)))))))), fun ds Q h => ?_⟩⟩
  obtain ⟨⟨a, b, c, d⟩, rfl, ⟨hb, hd⟩, q⟩ := h
  walk_at "go"
  refine specF_of (a, b, c, d) ⟨hb, hd⟩ ?_
  exact ⟨size_ok (by decide), q _ rfl⟩

theorem ok_root {P : Program} {w : World} {K : PySem.W.Frag} {mg : Str → Option Value} {base : Heap} (T : Txt K mg)
    : Pm P w K mg base 1 "root" s_root ["number"] sp_root := by
  obtain ⟨f, fd, F⟩ := T.t_root
  refine ⟨f, fd, F, F.fn.okD sc_root (fun ds Q ⟨p, e, _⟩ => by rw [e]; rfl) fun cdv A outer s H E hr => ⟨_, (dss_cons (ds_if (dt_lt (dv 0) de_int) (dss_one ds_never) dss_nil) (dss_cons (ds_if (dt_eq hr.units (dv 0) de_int) (dss_one (ds_ret de_int)) dss_nil) (dss_cons (ds_set 1 sc_root.nd (de_shl de_int (de_div (de_add (de_bits (dv 0)) de_int) de_int))) (dss_cons (ds_set 2 sc_root.nd (de_div (de_add (dv 1) (de_div (dv 0) (dv 1))) de_int)) (dss_cons (ds_while PassesOwn.never (dt_lt (dv 2) (dv 1)) (dss_cons (ds_set 1 sc_root.nd (dv 2)) (dss_one (ds_set 2 sc_root.nd (de_div (de_add (dv 1) (de_div (dv 0) (dv 1))) de_int))))) (dss_one (ds_ret (dv 1)))))))), fun ds Q h => ?_⟩⟩
  obtain ⟨n, rfl, ⟨h0, hb⟩, q⟩ := h
  walk_at "go"
  refine iff' (decide_eq_false (by omega)) ?_
  by_cases hz : n = 0
  · subst hz
    exact ift rfl (q _ ⟨0, rfl, ⟨by omega, by omega, by omega⟩, Bt.zero.le (by decide)⟩)
  refine iff' (decide_eq_false hz) ?_
  obtain ⟨c1, c2, c3⟩ := start_small hb
  have hu := start_up h0
  refine ⟨⟨by decide, by decide⟩, c1, ?_⟩
  generalize (1 * 2 ^ ((((Builtin.Int.intBits n : Nat) : Int) + 1).fdiv 2).toNat : Int) = g at *
  refine ⟨Bt.divOk c2 (by omega), ⟨by decide, by decide⟩, ?_⟩
  rw [near_eq c3]
  refine while_of (fun m ρ => ∃ g : Int, ρ = [some (.is (.int n)), some (.is (.int g)), some (.is (.int ((g + n / g) / 2)))] ∧ 0 < g ∧ Bt 2001 g ∧ n < (g + 1) * (g + 1) ∧ m = g.toNat) _ ⟨g, rfl, c3, c2, hu, rfl⟩ ?_
  rintro m _ ⟨g, rfl, hg, hgb, hgu, rfl⟩
  walk_at "rd"
  refine ite2 (fun hw => ?_) (fun hw => ?_)
  · have hw := of_decide_eq_true hw
    have hp := newton_pos (show 1 ≤ n by omega) hg
    have hu' := newton_up h0 hg
    have hbb : Bt 2001 ((g + n / g) / 2) := by unfold Bt at *; omega
    generalize (g + n / g) / 2 = b at *
    refine ⟨Bt.divOk hbb (by omega), ⟨by decide, by decide⟩, ?_⟩
    rw [near_eq hp]
    exact ⟨_, by omega, b, rfl, hp, hbb, hu', rfl⟩
  · have hw : ¬ (g + n / g) / 2 < g := fun z => hw (decide_eq_true z)
    exact q _ ⟨g, rfl, ⟨by omega, newton_end hg (by omega), hgu⟩, hgb⟩
theorem ok_is_square {P : Program} {w : World} {K : PySem.W.Frag} {mg : Str → Option Value} {base : Heap} (T : Txt K mg)
    (G_root : Pm P w K mg base 1 "root" s_root ["number"] sp_root)
    : Pm P w K mg base 2 "is_square" s_is_square ["number"] sp_is_square := by
  obtain ⟨f, fd, F⟩ := T.t_is_square
  refine ⟨f, fd, F, F.fn.okD sc_is_square (fun ds Q ⟨p, e, _⟩ => by rw [e]; rfl) fun cdv A outer s H E hr => ⟨_, (dss_cons (ds_if (dt_lt (dv 0) de_int) (dss_one (ds_ret de_bl)) dss_nil) (dss_cons (ds_set 1 sc_is_square.nd (de_callP spec_mono G_root (hr.mono (by decide)) rfl (da_cons (dv 0) da_nil))) (dss_one (ds_ret (de_eq hr.units (de_mul (dv 1) (dv 1)) (dv 0)))))), fun ds Q h => ?_⟩⟩
  obtain ⟨n, rfl, hb, q⟩ := h
  walk_at "go"
  refine ite2 (fun hw => ?_) (fun hw => ?_)
  · have hw := of_decide_eq_true hw
    exact q _ ⟨false, rfl, by simp [isSq_neg hw]⟩
  · have hw : ¬ n < 0 := fun z => hw (decide_eq_true z)
    refine spec_of n ⟨by omega, hb⟩ ?_
    rintro _ ⟨r, rfl, hs, hr'⟩
    walk_at "rd"
    refine ⟨by walk_at "mul", q _ ⟨_, rfl, ?_⟩⟩
    rw [isSq_iff hs]; simp

abbrev sp_measure : DSp := specF (fun f : I3 => [t3 f]) (B3 20000) fun f => .int (meas f)
abbrev sp_value : DSp := specF (fun p : I3 × I2 => [t3 p.1, t2 p.2]) (fun p => B3 20000 p.1 ∧ B2 300000 p.2) fun p => .int (val p.1 p.2)
abbrev sp_middle : DSp := specF (fun p : I3 × I2 × I2 => [t3 p.1, t2 p.2.1, t2 p.2.2]) (fun p => B3 20000 p.1 ∧ B2 300000 p.2.1 ∧ B2 300000 p.2.2) fun p => .int (mid p.1 p.2.1 p.2.2)
abbrev sp_moved : DSp := specF (fun p : I3 × I4 => [t3 p.1, t4 p.2]) (fun p => B3 20000 p.1 ∧ B4 300000 p.2 ∧ det p.2 = 1) fun p => t3 (mov p.1 p.2)
theorem ok_measure {P : Program} {w : World} {K : PySem.W.Frag} {mg : Str → Option Value} {base : Heap} (T : Txt K mg)
    : Pm P w K mg base 1 "measure" s_measure ["form"] sp_measure := by
  obtain ⟨f, fd, F⟩ := T.t_measure
  refine ⟨f, fd, F, F.fn.okD sc_measure (fun ds Q ⟨p, e, _⟩ => by rw [e]; rfl) fun cdv A outer s H E hr => ⟨_, (dss_one (ds_ret (de_sub (de_mul (de_sub_ix (dv 0) de_int) (de_sub_ix (dv 0) de_int)) (de_mul (de_mul de_int (de_sub_ix (dv 0) de_int)) (de_sub_ix (dv 0) de_int))))), fun ds Q h => ?_⟩⟩
  obtain ⟨⟨a, b, c⟩, rfl, ⟨ha, hb, hc⟩, q⟩ := h
  walk_at "go"
  have h2 : Bt 3 4 := Bt.of_abs (by decide)
  exact ⟨by walk_at "mul", by walk_at "mul", by walk_at "mul", q _ rfl⟩
theorem ok_value {P : Program} {w : World} {K : PySem.W.Frag} {mg : Str → Option Value} {base : Heap} (T : Txt K mg)
    : Pm P w K mg base 1 "value" s_value ["form", "point"] sp_value := by
  obtain ⟨f, fd, F⟩ := T.t_value
  refine ⟨f, fd, F, F.fn.okD sc_value (fun ds Q ⟨p, e, _⟩ => by rw [e]; rfl) fun cdv A outer s H E hr => ⟨_, (dss_cons (ds_set 2 sc_value.nd (de_sub_ix (dv 1) de_int)) (dss_cons (ds_set 3 sc_value.nd (de_sub_ix (dv 1) de_int)) (dss_one (ds_ret (de_add (de_add (de_mul (de_mul (de_sub_ix (dv 0) de_int) (dv 2)) (dv 2)) (de_mul (de_mul (de_sub_ix (dv 0) de_int) (dv 2)) (dv 3))) (de_mul (de_mul (de_sub_ix (dv 0) de_int) (dv 3)) (dv 3))))))), fun ds Q h => ?_⟩⟩
  obtain ⟨⟨⟨a, b, c⟩, x, y⟩, rfl, ⟨⟨ha, hb, hc⟩, hx, hy⟩, q⟩ := h
  walk_at "go"
  exact ⟨by walk_at "mul", by walk_at "mul", by walk_at "mul", by walk_at "mul", by walk_at "mul", by walk_at "mul", q _ rfl⟩
theorem ok_middle {P : Program} {w : World} {K : PySem.W.Frag} {mg : Str → Option Value} {base : Heap} (T : Txt K mg)
    : Pm P w K mg base 1 "middle" s_middle ["form", "left", "right"] sp_middle := by
  obtain ⟨f, fd, F⟩ := T.t_middle
  refine ⟨f, fd, F, F.fn.okD sc_middle (fun ds Q ⟨p, e, _⟩ => by rw [e]; rfl) fun cdv A outer s H E hr => ⟨_, (dss_cons (ds_set 3 sc_middle.nd (de_add (de_mul (de_sub_ix (dv 1) de_int) (de_sub_ix (dv 2) de_int)) (de_mul (de_sub_ix (dv 2) de_int) (de_sub_ix (dv 1) de_int)))) (dss_one (ds_ret (de_add (de_add (de_mul (de_mul (de_mul de_int (de_sub_ix (dv 0) de_int)) (de_sub_ix (dv 1) de_int)) (de_sub_ix (dv 2) de_int)) (de_mul (de_sub_ix (dv 0) de_int) (dv 3))) (de_mul (de_mul (de_mul de_int (de_sub_ix (dv 0) de_int)) (de_sub_ix (dv 1) de_int)) (de_sub_ix (dv 2) de_int)))))), fun ds Q h => ?_⟩⟩
  obtain ⟨⟨⟨a, b, c⟩, ⟨x, y⟩, u, v⟩, rfl, ⟨⟨ha, hb, hc⟩, ⟨hx, hy⟩, hu, hv⟩, q⟩ := h
  walk_at "go"
  have h2 : Bt 2 2 := Bt.of_abs (by decide)
  walk_at "muls"
  exact q _ rfl
theorem ok_moved {P : Program} {w : World} {K : PySem.W.Frag} {mg : Str → Option Value} {base : Heap} (T : Txt K mg)
    (G_check_turn : Pm P w K mg base 3 "check_turn" s_check_turn ["turn"] sp_check_turn)
    (G_value : Pm P w K mg base 1 "value" s_value ["form", "point"] sp_value)
    (G_middle : Pm P w K mg base 1 "middle" s_middle ["form", "left", "right"] sp_middle)
    : Pm P w K mg base 4 "moved" s_moved ["form", "turn"] sp_moved := by
  obtain ⟨f, fd, F⟩ := T.t_moved
  refine ⟨f, fd, F, F.fn.okD sc_moved (fun ds Q ⟨p, e, _⟩ => by rw [e]; rfl) fun cdv A outer s H E hr => ⟨_, (dss_cons (ds_expr (de_callP spec_mono G_check_turn (hr.mono (by decide)) rfl (da_cons (dv 1) da_nil))) (dss_cons (ds_set 2 sc_moved.nd (de_tup (da_cons (de_sub_ix (dv 1) de_int) (da_cons (de_sub_ix (dv 1) de_int) da_nil)))) (dss_cons (ds_set 3 sc_moved.nd (de_tup (da_cons (de_sub_ix (dv 1) de_int) (da_cons (de_sub_ix (dv 1) de_int) da_nil)))) (dss_one (ds_ret (de_tup (da_cons (de_callP spec_mono G_value (hr.mono (by decide)) rfl (da_cons (dv 0) (da_cons (dv 2) da_nil))) (da_cons (de_callP spec_mono G_middle (hr.mono (by decide)) rfl (da_cons (dv 0) (da_cons (dv 2) (da_cons (dv 3) da_nil)))) (da_cons (de_callP spec_mono G_value (hr.mono (by decide)) rfl (da_cons (dv 0) (da_cons (dv 3) da_nil))) da_nil))))))))), fun ds Q h => ?_⟩⟩
  obtain ⟨⟨f, t⟩, rfl, ⟨hf, ht, hd⟩, q⟩ := h
  walk_at "go"
  have hl : B2 300000 (t.1, t.2.2.1) := ⟨ht.1.le (by decide), ht.2.2.1.le (by decide)⟩
  have hr' : B2 300000 (t.2.1, t.2.2.2) := ⟨ht.2.1.le (by decide), ht.2.2.2.le (by decide)⟩
  refine specF_of t ⟨ht, hd⟩ ⟨size_ok (by decide), size_ok (by decide), ?_⟩
  refine specF_of (f, (t.1, t.2.2.1)) ⟨hf, hl⟩ ?_
  refine specF_of (f, (t.1, t.2.2.1), (t.2.1, t.2.2.2)) ⟨hf, hl, hr'⟩ ?_
  refine specF_of (f, (t.2.1, t.2.2.2)) ⟨hf, hr'⟩ ⟨size_ok (by decide), ?_⟩
  exact q _ rfl

abbrev sp_shape : DSp := spec (fun f : I3 => [t3 f]) (fun f => B3 1500 f) Word
theorem ok_shape {P : Program} {w : World} {K : PySem.W.Frag} {mg : Str → Option Value} {base : Heap} (T : Txt K mg)
    (G_measure : Pm P w K mg base 1 "measure" s_measure ["form"] sp_measure)
    (G_is_square : Pm P w K mg base 2 "is_square" s_is_square ["number"] sp_is_square)
    : Pm P w K mg base 3 "shape" s_shape ["form"] sp_shape := by
  obtain ⟨f, fd, F⟩ := T.t_shape
  refine ⟨f, fd, F, F.fn.okD sc_shape (fun ds Q ⟨p, e, _⟩ => by rw [e]; rfl) fun cdv A outer s H E hr => ⟨_, (dss_cons (ds_set 1 sc_shape.nd (de_callP spec_mono G_measure (hr.mono (by decide)) rfl (da_cons (dv 0) da_nil))) (dss_cons (ds_if (dt_val (de_callP spec_mono G_is_square (hr.mono (by decide)) rfl (da_cons (dv 1) da_nil))) (dss_one (ds_ret de_str)) dss_nil) (dss_cons (ds_if (dt_gt (dv 1) de_int) (dss_one (ds_ret de_str)) dss_nil) (dss_cons (ds_if (dt_gt (de_sub_ix (dv 0) de_int) de_int) (dss_one (ds_ret de_str)) dss_nil) (dss_one (ds_ret de_str)))))), fun ds Q h => ?_⟩⟩
  obtain ⟨f, rfl, hf, q⟩ := h
  walk_at "go"
  refine specF_of f (hf.le (by decide)) ?_
  have hm : Bt 4000 (meas f) := by
    obtain ⟨h1, h2, h3⟩ := hf
    have h4 : Bt 3 4 := Bt.of_abs (by decide)
    exact ((h2.mul h2).sub ((h4.mul h1).mul h3)).le (by decide)
  refine spec_of (meas f) hm ?_
  rintro _ ⟨b, rfl, hb⟩
  walk_at "rd"
  refine ite2 (fun h => q _ (.flat (hb.mp h))) (fun h => ?_)
  have hn : ¬ isSq (meas f) := fun z => h (hb.mpr z)
  refine ite2 (fun h => q _ (.saddle hn (of_decide_eq_true h))) (fun h => ?_)
  have hp : ¬ 0 < meas f := fun z => h (decide_eq_true z)
  refine ite2 (fun h => q _ (.bowl hn hp (of_decide_eq_true h))) (fun h => q _ (.dome hn hp fun z => h (decide_eq_true z)))

abbrev sp_check_at_most : DSp := specF (fun p : I2 => [.int p.1, .int p.2]) (fun p => p.1 ≤ p.2) fun _ => .non
theorem ok_check_at_most {P : Program} {w : World} {K : PySem.W.Frag} {mg : Str → Option Value} {base : Heap} (T : Txt K mg)
    : Pm P w K mg base 1 "check_at_most" s_check_at_most ["number", "most"] sp_check_at_most := by
  obtain ⟨f, fd, F⟩ := T.t_check_at_most
  refine ⟨f, fd, F, F.fn.okD sc_check_at_most (fun ds Q ⟨p, e, _⟩ => by rw [e]; rfl) fun cdv A outer s H E hr => ⟨_, (dss_one (ds_if (dt_gt (dv 0) (dv 1)) (dss_one ds_never) dss_nil)), fun ds Q h => ?_⟩⟩
  obtain ⟨⟨n, m⟩, rfl, h0, q⟩ := h
  have h0 : n ≤ m := h0
  walk_at "go"
  exact iff' (decide_eq_false (by omega)) (q _ rfl)

abbrev sp_check_saddle : DSp := specF (fun f : I3 => [t3 f]) (fun f => B3 1500 f ∧ Sad f) fun _ => .non
abbrev sp_stands_level : DSp := specF (fun p : I3 × Int => [t3 p.1, .int p.2]) (fun p => B3 20000 p.1) fun p => .bl (decide (Level p.1 p.2))
theorem ok_check_saddle {P : Program} {w : World} {K : PySem.W.Frag} {mg : Str → Option Value} {base : Heap} (T : Txt K mg)
    (G_check_at_most : Pm P w K mg base 1 "check_at_most" s_check_at_most ["number", "most"] sp_check_at_most)
    (G_shape : Pm P w K mg base 3 "shape" s_shape ["form"] sp_shape)
    (G_measure : Pm P w K mg base 1 "measure" s_measure ["form"] sp_measure)
    : Pm P w K mg base 4 "check_saddle" s_check_saddle ["form"] sp_check_saddle := by
  obtain ⟨f, fd, F⟩ := T.t_check_saddle
  obtain ⟨t_MOST_MEASURE, m_MOST_MEASURE⟩ := T.m_MOST_MEASURE
  refine ⟨f, fd, F, F.fn.okD sc_check_saddle (fun ds Q ⟨p, e, _⟩ => by rw [e]; rfl) fun cdv A outer s H E hr => ⟨_, (dss_cons (ds_if (dt_ne hr.units (de_callP spec_mono G_shape (hr.mono (by decide)) rfl (da_cons (dv 0) da_nil)) de_str) (dss_one ds_never) dss_nil) (dss_one (ds_expr (de_callP spec_mono G_check_at_most (hr.mono (by decide)) rfl (da_cons (de_callP spec_mono G_measure (hr.mono (by decide)) rfl (da_cons (dv 0) da_nil)) (da_cons (de_glob (v := .int (4000)) (d := .int (4000)) rfl m_MOST_MEASURE ⟨_, rfl⟩ (fun _ => rp_int.mpr rfl)) da_nil)))))), fun ds Q h => ?_⟩⟩
  obtain ⟨f, rfl, ⟨hb, hs⟩, q⟩ := h
  have hs : Sad f := hs
  have nb : Dt.flat 8 (.str "saddle") = true := by rw [flat_s]; decide +kernel
  walk_at "go"
  refine spec_of f hb ?_
  rintro _ hw
  have h0 := hs.pos
  cases hw with
  | flat z => exact absurd z hs.no
  | bowl _ z _ => exact absurd h0 z
  | dome _ z _ => exact absurd h0 z
  | saddle _ _ =>
    refine ⟨⟨nb, nb⟩, ifn (by rw [eq_ss]; rfl) (specF_of f (hb.le (by decide)) (specF_of (meas f, 4000) hs.most (q _ rfl)))⟩
theorem ok_stands_level {P : Program} {w : World} {K : PySem.W.Frag} {mg : Str → Option Value} {base : Heap} (T : Txt K mg)
    : Pm P w K mg base 1 "stands_level" s_stands_level ["form", "far"] sp_stands_level := by
  obtain ⟨f, fd, F⟩ := T.t_stands_level
  refine ⟨f, fd, F, F.fn.okD sc_stands_level (fun ds Q ⟨p, e, _⟩ => by rw [e]; rfl) fun cdv A outer s H E hr => ⟨_, (dss_cons (ds_set 2 sc_stands_level.nd (de_sub_ix (dv 0) de_int)) (dss_one (ds_ret (de_and (de_chain op_lt op_le sem_B0 sem_B0 de_int (dv 2) (dv 1)) (de_one (de_chain op_lt op_le sem_B0 sem_B0 (de_sub (dv 1) (dv 2)) (de_mul de_int (de_abs T.z_abs (da_cons (de_sub_ix (dv 0) de_int) da_nil))) (de_add (dv 1) (dv 2)))))))), fun ds Q h => ?_⟩⟩
  obtain ⟨⟨⟨a, b, c⟩, far⟩, rfl, hb, q⟩ := h
  have q' := q _ rfl
  obtain ⟨ha, _, _⟩ := (show B3 20000 (a, b, c) from hb)
  have ha : Bt 20000 a := ha
  have two : Bt 2 2 := Bt.of_abs (by decide)
  have ha' : Bt 20000 (if a < 0 then -a else a) := by split <;> first | exact ha.neg | exact ha
  have q' : Q (.bl (decide (Level (a, b, c) far))) := q'
  walk_at "go"
  have hL : Level (a, b, c) far ↔ (0 < b ∧ b ≤ far) ∧ far - b < 2 * (if a < 0 then -a else a) ∧ 2 * (if a < 0 then -a else a) ≤ far + b := Iff.rfl
  generalize (if a < 0 then -a else a) = A at *
  by_cases h1 : 0 < b
  · refine ift (decide_eq_true h1) ?_
    by_cases h2 : b ≤ far
    · refine ift (decide_eq_true h2) ⟨two.mulOk ha', ?_⟩
      by_cases h3 : far - b < 2 * A
      · refine ift (decide_eq_true h3) ?_
        have e : decide (Level (a, b, c) far) = decide (2 * A ≤ far + b) := decide_eq_decide.mpr (hL.trans ⟨fun z => z.2.2, fun z => ⟨⟨h1, h2⟩, h3, z⟩⟩)
        rw [e] at q'
        exact q'
      · refine iff' (decide_eq_false h3) ?_
        rw [decide_eq_false fun z => h3 (hL.mp z).2.1] at q'
        exact q'
    · refine iff' (decide_eq_false h2) ?_
      rw [decide_eq_false fun z => h2 (hL.mp z).1.2] at q'
      exact q'
  · refine iff' (decide_eq_false h1) ?_
    rw [decide_eq_false fun z => h1 (hL.mp z).1.1] at q'
    exact q'

abbrev sp_turn_behind : DSp := specF (fun p : I3 × Int => [t3 p.1, .int p.2]) (fun p => B3 8000 p.1 ∧ p.1.2.2 ≠ 0) fun p => t4 (behT p.1 p.2)
theorem ok_turn_behind {P : Program} {w : World} {K : PySem.W.Frag} {mg : Str → Option Value} {base : Heap} (T : Txt K mg)
    : Pm P w K mg base 1 "turn_behind" s_turn_behind ["form", "top"] sp_turn_behind := by
  obtain ⟨f, fd, F⟩ := T.t_turn_behind
  refine ⟨f, fd, F, F.fn.okD sc_turn_behind (fun ds Q ⟨p, e, _⟩ => by rw [e]; rfl) fun cdv A outer s H E hr => ⟨_, (dss_cons (ds_set 2 sc_turn_behind.nd (de_sub_ix (dv 0) de_int)) (dss_cons (ds_set 3 sc_turn_behind.nd (de_sub_ix (dv 0) de_int)) (dss_cons (ds_set 4 sc_turn_behind.nd (de_sub (dv 1) (de_mod (de_add (dv 1) (dv 2)) (de_mul de_int (de_abs T.z_abs (da_cons (dv 3) da_nil)))))) (dss_one (ds_ret (de_tup (da_cons de_int (da_cons (de_neg de_int) (da_cons de_int (da_cons (de_div (de_add (dv 2) (dv 4)) (de_mul de_int (dv 3))) da_nil)))))))))), fun ds Q h => ?_⟩⟩
  obtain ⟨⟨⟨a, b, c⟩, top⟩, rfl, ⟨⟨_, _, hc⟩, h0⟩, q⟩ := h
  have hc : Bt 8000 c := hc
  have h0 : c ≠ 0 := h0
  have two : Bt 2 2 := Bt.of_abs (by decide)
  have hac : 2 * ab c ≠ 0 := by rcases ab_cases c with ⟨_, e⟩ | ⟨_, e⟩ <;> omega
  walk_at "go"
  exact ⟨two.mulOk (ab_bt hc), hac, two.mulOk hc, Bt.divOk (two.mul hc) (by omega), size_ok (by decide), q _ rfl⟩
abbrev stopD (f : I3) (t : I4) : Dt := .tup [t3 f, t4 t]
abbrev sp_stop_behind : DSp := specF (fun p : I3 × I4 × Int => [stopD p.1 p.2.1, .int p.2.2]) (fun p => B3 8000 p.1 ∧ p.1.2.2 ≠ 0 ∧ B4 300000 p.2.1 ∧ B4 5000 (behT p.1 p.2.2)) fun p => stopD (mov p.1 (behT p.1 p.2.2)) (thenV p.2.1 (behT p.1 p.2.2))
theorem ok_stop_behind {P : Program} {w : World} {K : PySem.W.Frag} {mg : Str → Option Value} {base : Heap} (T : Txt K mg)
    (G_turn_behind : Pm P w K mg base 1 "turn_behind" s_turn_behind ["form", "top"] sp_turn_behind)
    (G_moved : Pm P w K mg base 4 "moved" s_moved ["form", "turn"] sp_moved)
    (G_put_behind : Pm P w K mg base 1 "put_behind" s_put_behind ["one", "other"] sp_put_behind)
    : Pm P w K mg base 5 "stop_behind" s_stop_behind ["stop", "top"] sp_stop_behind := by
  obtain ⟨f, fd, F⟩ := T.t_stop_behind
  refine ⟨f, fd, F, F.fn.okD sc_stop_behind (fun ds Q ⟨p, e, _⟩ => by rw [e]; rfl) fun cdv A outer s H E hr => ⟨_, (dss_cons (ds_set 2 sc_stop_behind.nd (de_callP spec_mono G_turn_behind (hr.mono (by decide)) rfl (da_cons (de_sub_ix (dv 0) de_int) (da_cons (dv 1) da_nil)))) (dss_one (ds_ret (de_tup (da_cons (de_callP spec_mono G_moved (hr.mono (by decide)) rfl (da_cons (de_sub_ix (dv 0) de_int) (da_cons (dv 2) da_nil))) (da_cons (de_callP spec_mono G_put_behind (hr.mono (by decide)) rfl (da_cons (de_sub_ix (dv 0) de_int) (da_cons (dv 2) da_nil))) da_nil)))))), fun ds Q h => ?_⟩⟩
  obtain ⟨⟨f, t, top⟩, rfl, ⟨hf, h0, ht, hb⟩, q⟩ := h
  walk_at "go"
  exact specF_of (f, top) ⟨hf, h0⟩ (specF_of (f, behT f top) ⟨B3.le hf (by decide), B4.le hb (by decide), beh_det⟩ (specF_of (t, behT f top) ⟨B4.le ht (by decide), B4.le hb (by decide)⟩ ⟨size_ok (by decide), q _ rfl⟩))
def Eased (f : I3) (d : Dt) : Prop := ∃ (t : I4) (far : Int), d = stopD (mov f t) t ∧ det t = 1 ∧ Sq (meas f) far ∧ Level (mov f t) far ∧ B4 7600 t
abbrev sp_eased : DSp := spec (fun f : I3 => [t3 f]) (fun f => B3 1500 f ∧ Sad f) Eased
theorem sad_root {f : I3} (S : Sad f) : 0 ≤ meas f ∧ Bt 4000 (meas f) := by
  have := S.pos
  have := S.most
  exact ⟨by omega, Bt.le (n := 13) (Bt.of (by omega) (by omega)) (by decide)⟩
theorem ok_eased {P : Program} {w : World} {K : PySem.W.Frag} {mg : Str → Option Value} {base : Heap} (T : Txt K mg)
    (G_check_saddle : Pm P w K mg base 4 "check_saddle" s_check_saddle ["form"] sp_check_saddle)
    (G_root : Pm P w K mg base 1 "root" s_root ["number"] sp_root)
    (G_measure : Pm P w K mg base 1 "measure" s_measure ["form"] sp_measure)
    (G_stands_level : Pm P w K mg base 1 "stands_level" s_stands_level ["form", "far"] sp_stands_level)
    (G_stop_behind : Pm P w K mg base 5 "stop_behind" s_stop_behind ["stop", "top"] sp_stop_behind)
    : Pm P w K mg base 6 "eased" s_eased ["form"] sp_eased := by
  obtain ⟨f, fd, F⟩ := T.t_eased
  obtain ⟨a_SAME, m_SAME, q_SAME⟩ := T.k_SAME
  refine ⟨f, fd, F, F.fn.okD sc_eased (fun ds Q ⟨p, e, _⟩ => by rw [e]; rfl) fun cdv A outer s H E hr => ⟨_, (dss_cons (ds_expr (de_callP spec_mono G_check_saddle (hr.mono (by decide)) rfl (da_cons (dv 0) da_nil))) (dss_cons (ds_set 1 sc_eased.nd (de_callP spec_mono G_root (hr.mono (by decide)) rfl (da_cons (de_callP spec_mono G_measure (hr.mono (by decide)) rfl (da_cons (dv 0) da_nil)) da_nil))) (dss_cons (ds_set 2 sc_eased.nd (de_tup (da_cons (dv 0) (da_cons (de_glob (v := .ref a_SAME) rfl m_SAME rfl q_SAME) da_nil)))) (dss_cons (ds_while PassesOwn.never (dt_not (dt_val (de_callP spec_mono G_stands_level (hr.mono (by decide)) rfl (da_cons (de_sub_ix (dv 2) de_int) (da_cons (dv 1) da_nil))))) (dss_one (ds_set 2 sc_eased.nd (de_callP spec_mono G_stop_behind (hr.mono (by decide)) rfl (da_cons (dv 2) (da_cons (de_max T.z_max (da_cons (de_abs T.z_abs (da_cons (de_sub_ix (de_sub_ix (dv 2) de_int) de_int) da_nil)) (da_cons (dv 1) da_nil))) da_nil)))))) (dss_one (ds_ret (dv 2))))))), fun ds Q h => ?_⟩⟩
  obtain ⟨f, rfl, ⟨hb, hS⟩, q⟩ := h
  have hS : Sad f := hS
  have hb : B3 1500 f := hb
  walk_at "go"
  refine specF_of f ⟨hb, hS⟩ (specF_of f (hb.le (by decide)) (spec_of (meas f) (sad_root hS) ?_))
  rintro _ ⟨far, rfl, hr', hfb⟩
  walk_at "rd"
  refine ⟨size_ok (by decide), ?_⟩
  refine while_of (fun m ρ => ∃ t, ρ = [some (.is (t3 f)), some (.is (.int far)), some (.is (stopD (mov f t) t))] ∧ EInv 1500 far f t ∧ m = eM far (mov f t)) _ ⟨(1, 0, 0, 1), by rw [mov_same], EInv.start (by decide) hb, rfl⟩ ?_
  rintro m _ ⟨t, rfl, hI, rfl⟩
  have hd := hI.1
  have hg := hI.2.1
  have ht := hI.b4
  walk_at "rd"
  refine specF_of (mov f t, far) (hg.le (by decide)) ?_
  walk_at "rd"
  by_cases hL : Level (mov f t) far
  · exact iff' (by rw [decide_eq_true hL]; rfl) (q _ ⟨t, far, rfl, hd, hr', hL, ht.le (by decide)⟩)
  · refine ift (by rw [decide_eq_false hL]; rfl) ?_
    have hst := ease_step (by decide) hS hr' hI hL
    refine specF_of (mov f t, t, _) ⟨hg.le (by decide), sad_c (hS.mov hd), ht.le (by decide), hst.2.2.le (by decide)⟩ ?_
    dsimp only
    rw [mov_then]
    exact ⟨_, hst.2.1, _, rfl, hst.1, rfl⟩

abbrev sp_divisor : DSp := specF (fun p : I2 => [.int p.1, .int p.2]) (fun _ => True) fun p => .int ((Int.gcd p.1 p.2 : Nat) : Int)
theorem ok_divisor {P : Program} {w : World} {K : PySem.W.Frag} {mg : Str → Option Value} {base : Heap} (T : Txt K mg)
    : Pm P w K mg base 1 "divisor" s_divisor ["one", "other"] sp_divisor := by
  obtain ⟨f, fd, F⟩ := T.t_divisor
  refine ⟨f, fd, F, F.fn.okD sc_divisor (fun ds Q ⟨p, e, _⟩ => by rw [e]; rfl) fun cdv A outer s H E hr => ⟨_, (dss_cons (ds_while PassesOwn.never (dt_ne hr.units (dv 1) de_int) (dss_cons (ds_set 2 sc_divisor.nd (de_mod (dv 0) (dv 1))) (dss_cons (ds_set 0 sc_divisor.nd (dv 1)) (dss_one (ds_set 1 sc_divisor.nd (dv 2)))))) (dss_one (ds_ret (de_abs T.z_abs (da_cons (dv 0) da_nil))))), fun ds Q h => ?_⟩⟩
  obtain ⟨⟨a, b⟩, rfl, _, q⟩ := h
  simp only [dstart_c, dstart_n, dstart_e]
  refine while_of (fun m ρ => ∃ x y z, ρ = [some (.is (.int x)), some (.is (.int y)), z] ∧ Int.gcd x y = Int.gcd a b ∧ m = y.natAbs) _ ⟨a, b, none, rfl, rfl, rfl⟩ ?_
  rintro m _ ⟨x, y, z, rfl, hg, rfl⟩
  walk_at "rd"
  by_cases hy : y = 0
  · subst hy
    simp only [decide_true, Bool.not_true]
    walk_at "rd"
    have q' := q _ rfl
    have e : (if x < 0 then -x else x) = ((Int.gcd a b : Nat) : Int) := by rw [← hg, Int.gcd_zero_right]; split <;> omega
    rw [e]
    exact q'
  · simp only [decide_eq_false hy, Bool.not_false, if_true]
    exact ⟨hy, _, fmod_lt hy, y, x.fmod y, _, rfl, (gcd_fmod x y).trans hg, rfl⟩
abbrev sp_content : DSp := specF (fun f : I3 => [t3 f]) (fun _ => True) fun f => .int (g3 f)
theorem ok_content {P : Program} {w : World} {K : PySem.W.Frag} {mg : Str → Option Value} {base : Heap} (T : Txt K mg)
    (G_divisor : Pm P w K mg base 1 "divisor" s_divisor ["one", "other"] sp_divisor)
    : Pm P w K mg base 2 "content" s_content ["form"] sp_content := by
  obtain ⟨f, fd, F⟩ := T.t_content
  refine ⟨f, fd, F, F.fn.okD sc_content (fun ds Q ⟨p, e, _⟩ => by rw [e]; rfl) fun cdv A outer s H E hr => ⟨_, (dss_one (ds_ret (de_callP spec_mono G_divisor (hr.mono (by decide)) rfl (da_cons (de_callP spec_mono G_divisor (hr.mono (by decide)) rfl (da_cons (de_sub_ix (dv 0) de_int) (da_cons (de_sub_ix (dv 0) de_int) da_nil))) (da_cons (de_sub_ix (dv 0) de_int) da_nil))))), fun ds Q h => ?_⟩⟩
  obtain ⟨f, rfl, _, q⟩ := h
  walk_at "go"
  exact specF_of (f.1, f.2.1) trivial (specF_of (_, f.2.2) trivial (q _ rfl))

/-- a saddle, the turn to a level form, and the count of steps once round from there -/
structure RingOf (f : I3) (t0 : I4) (far : Int) (N : Nat) : Prop where
  d : det t0 = 1
  r : Sq (meas f) far
  v : Lv far (mov f t0)
  b : B4 7600 t0
  n : 0 < N
  m : N ≤ 8128
  e : rF far N (mov f t0) = mov f t0
  l : ∀ j, 0 < j → j < N → rF far j (mov f t0) ≠ mov f t0
abbrev stopsD (f : I3) (t0 : I4) (far : Int) (i : Nat) : Dt := stopD (rF far i (mov f t0)) (thenV t0 (rT far i (mov f t0)))
theorem RingOf.bt {f : I3} {t0 : I4} {far : Int} {N : Nat} (R : RingOf f t0 far N) (i : Nat) (h : i ≤ N) : B4 90000 (thenV t0 (rT far i (mov f t0))) := by
  have := R.m
  exact (B4.then R.b (rT_bt i R.v)).le (by omega)
abbrev sp_stops_round : DSp := spec (fun f : I3 => [t3 f]) (fun f => B3 1500 f ∧ Sad f) fun f d => ∃ t0 far N, RingOf f t0 far N ∧ d = .lst ((List.range (N + 1)).map (stopsD f t0 far))
theorem size_8k {n : Nat} (h : n ≤ 9000) : n < PySem.sizeLine := by unfold PySem.sizeLine; omega
theorem ok_stops_round {P : Program} {w : World} {K : PySem.W.Frag} {mg : Str → Option Value} {base : Heap} (T : Txt K mg)
    (G_root : Pm P w K mg base 1 "root" s_root ["number"] sp_root)
    (G_eased : Pm P w K mg base 6 "eased" s_eased ["form"] sp_eased)
    (G_stop_behind : Pm P w K mg base 5 "stop_behind" s_stop_behind ["stop", "top"] sp_stop_behind)
    (G_measure : Pm P w K mg base 1 "measure" s_measure ["form"] sp_measure)
    : Pm P w K mg base 7 "stops_round" s_stops_round ["form"] sp_stops_round := by
  obtain ⟨f, fd, F⟩ := T.t_stops_round
  refine ⟨f, fd, F, F.fn.okD sc_stops_round (fun ds Q ⟨p, e, _⟩ => by rw [e]; rfl) fun cdv A outer s H E hr => ⟨_, (dss_cons (ds_set 1 sc_stops_round.nd (de_callP spec_mono G_root (hr.mono (by decide)) rfl (da_cons (de_callP spec_mono G_measure (hr.mono (by decide)) rfl (da_cons (dv 0) da_nil)) da_nil))) (dss_cons (ds_set 2 sc_stops_round.nd (de_callP spec_mono G_eased (hr.mono (by decide)) rfl (da_cons (dv 0) da_nil))) (dss_cons (ds_own 3 sc_stops_round.nd (da_cons (dv 2) da_nil)) (dss_cons (ds_set 4 sc_stops_round.nd (de_callP spec_mono G_stop_behind (hr.mono (by decide)) rfl (da_cons (dv 2) (da_cons (dv 1) da_nil)))) (dss_cons (ds_while PassesOwn.never (dt_ne hr.units (de_sub_ix (dv 4) de_int) (de_sub_ix (dv 2) de_int)) (dss_cons (ds_app 3 (dv 4)) (dss_one (ds_set 4 sc_stops_round.nd (de_callP spec_mono G_stop_behind (hr.mono (by decide)) rfl (da_cons (dv 4) (da_cons (dv 1) da_nil))))))) (dss_cons (ds_app 3 (dv 4)) (dss_one (ds_frz 3 (ds_ret (dv 3)))))))))), fun ds Q h => ?_⟩⟩
  obtain ⟨f, rfl, ⟨hb, hS⟩, q⟩ := h
  have hS : Sad f := hS
  have hb : B3 1500 f := hb
  walk_at "go"
  refine specF_of f (hb.le (by decide)) (spec_of (meas f) (sad_root hS) ?_)
  rintro _ ⟨far, rfl, hr', hfb⟩
  refine spec_of f ⟨hb, hS⟩ ?_
  rintro _ ⟨t0, far', rfl, dt, hs, hL, bt⟩
  obtain rfl := hs.uniq hr'
  have hv : Lv far' (mov f t0) := ⟨hS.mov dt, by rw [meas_mov dt]; exact hs, hL⟩
  obtain ⟨N, n0, nm, ne, nl⟩ := ring_closes hv
  have R : RingOf f t0 far' N := ⟨dt, hs, hv, bt, n0, nm, ne, nl⟩
  walk_at "rd"
  refine ⟨size_ok (by decide), ?_⟩
  have stp : ∀ {Q : Dt → Prop} (i : Nat), i ≤ N → Q (stopsD f t0 far' (i + 1)) → sp_stop_behind [stopsD f t0 far' i, .int far'] Q := fun {Q} i hi h => by
    have hi' := Lv.rF i hv
    refine specF_of (rF far' i (mov f t0), thenV t0 (rT far' i (mov f t0)), far') ⟨(level_bt hi'.S hi'.r hi'.L).le (by decide), sad_c hi'.S, (R.bt i hi).le (by decide), (beh_b4 (level_k hi') (by decide)).le (by decide)⟩ ?_
    have h : Q (stopD (rF far' (i + 1) (mov f t0)) (thenV t0 (rT far' (i + 1) (mov f t0)))) := h
    rw [rF_last, rT_last, ← then_assoc] at h
    exact h
  have e0 : stopD (mov f t0) t0 = stopsD f t0 far' 0 := by
    show stopD (mov f t0) t0 = stopD (mov f t0) (thenV t0 (1, 0, 0, 1))
    rw [then_same]
  rw [e0]
  refine stp 0 (by omega) ?_
  have last : (List.range (N + 1)).map (stopsD f t0 far') = (List.range N).map (stopsD f t0 far') ++ [stopsD f t0 far' N] := by rw [List.range_succ, List.map_append]; rfl
  refine while_of (fun m ρ => ∃ i : Nat, 1 ≤ i ∧ i ≤ N ∧ ρ = [some (.is (t3 f)), some (.is (.int far')), some (.is (stopsD f t0 far' 0)), some (.own ((List.range i).map (stopsD f t0 far'))), some (.is (stopsD f t0 far' i))] ∧ m = N - i) _ ⟨1, by omega, by omega, rfl, rfl⟩ ?_
  rintro m _ ⟨i, i1, iN, rfl, rfl⟩
  walk_at "rd"
  have hl : (List.range i).length < sizeLine := by rw [List.length_range]; exact size_8k (by omega)
  refine ite2 (fun hw => ?_) (fun hw => ?_)
  · have hi : i < N := by
      rcases Nat.lt_or_ge i N with z | z
      · exact z
      · exfalso
        have : i = N := by omega
        subst this
        rw [ne] at hw
        simp [rF] at hw
    refine ⟨hl, stp i iN ⟨N - (i + 1), by omega, i + 1, by omega, by omega, ?_, rfl⟩⟩
    rw [List.range_succ, List.map_append]; rfl
  · have hi : i = N := by
      rcases Nat.lt_or_ge i N with z | z
      · exfalso
        refine nl i (by omega) z ?_
        have hw : rF far' i (mov f t0) = rF far' 0 (mov f t0) := by
          generalize rF far' i (mov f t0) = g at *
          generalize rF far' 0 (mov f t0) = g' at *
          obtain ⟨a, b, c⟩ := g
          obtain ⟨a', b', c'⟩ := g'
          simp at hw
          obtain ⟨h1, h2, h3⟩ := hw
          rw [h1, h2, h3]
        exact hw
      · omega
    subst hi
    refine ⟨hl, q _ ⟨t0, far', i, R, ?_⟩⟩
    rw [last]
abbrev sp_step_pair : DSp := spec (fun f : I3 => [t3 f, .int (pl f).1]) (fun f => B3 1500 f ∧ Sad f) fun f d => ∃ t0 far N v, RingOf f t0 far N ∧ d = T2 (ab (tr (rT far N (mov f t0)))) (ab v) ∧ tr (rT far N (mov f t0)) * tr (rT far N (mov f t0)) - meas (pl f) * (v * v) = 4 ∧ Bt 100000 v ∧ Bt 100000 (tr (rT far N (mov f t0)))
theorem ok_step_pair {P : Program} {w : World} {K : PySem.W.Frag} {mg : Str → Option Value} {base : Heap} (T : Txt K mg)
    (G_stops_round : Pm P w K mg base 7 "stops_round" s_stops_round ["form"] sp_stops_round)
    (G_put_behind : Pm P w K mg base 1 "put_behind" s_put_behind ["one", "other"] sp_put_behind)
    (G_back : Pm P w K mg base 4 "back" s_back ["turn"] sp_back)
    : Pm P w K mg base 8 "step_pair" s_step_pair ["form", "plain_first"] sp_step_pair := by
  obtain ⟨f, fd, F⟩ := T.t_step_pair
  refine ⟨f, fd, F, F.fn.okD sc_step_pair (fun ds Q ⟨p, e, _⟩ => by rw [e]; rfl) fun cdv A outer s H E hr => ⟨_, (dss_cons (ds_set 2 sc_step_pair.nd (de_callP spec_mono G_stops_round (hr.mono (by decide)) rfl (da_cons (dv 0) da_nil))) (dss_cons (ds_set 3 sc_step_pair.nd (de_callP spec_mono G_put_behind (hr.mono (by decide)) rfl (da_cons (de_sub_ix (de_sub_ix (dv 2) (de_neg de_int)) de_int) (da_cons (de_callP spec_mono G_back (hr.mono (by decide)) rfl (da_cons (de_sub_ix (de_sub_ix (dv 2) de_int) de_int) da_nil)) da_nil)))) (dss_one (ds_ret (de_tup (da_cons (de_abs T.z_abs (da_cons (de_add (de_sub_ix (dv 3) de_int) (de_sub_ix (dv 3) de_int)) da_nil)) (da_cons (de_abs T.z_abs (da_cons (de_div (de_sub_ix (dv 3) de_int) (dv 1)) da_nil)) da_nil))))))), fun ds Q h => ?_⟩⟩
  obtain ⟨f, rfl, ⟨hb, hS⟩, q⟩ := h
  have hS : Sad f := hS
  have hb : B3 1500 f := hb
  walk_at "go"
  refine spec_of f ⟨hb, hS⟩ ?_
  rintro _ ⟨t0, far, N, R, rfl⟩
  have h0 : ixD 0 (.lst ((List.range (N + 1)).map (stopsD f t0 far))) = some (stopsD f t0 far 0) := by
    show ((List.range (N + 1)).map (stopsD f t0 far))[0]? = _
    simp
  have h1 : ixD (-1) (.lst ((List.range (N + 1)).map (stopsD f t0 far))) = some (stopsD f t0 far N) := by
    show (if 0 < ((List.range (N + 1)).map (stopsD f t0 far)).length then ((List.range (N + 1)).map (stopsD f t0 far))[((List.range (N + 1)).map (stopsD f t0 far)).length - 1 - 0]? else none) = _
    simp
  walk_at "rd"
  rw [h0, h1]
  walk_at "rd"
  have ez : thenV t0 (rT far 0 (mov f t0)) = t0 := then_same
  rw [ez]
  refine specF_of t0 ⟨R.b.le (by decide), R.d⟩ ?_
  have hN := R.bt N (Nat.le_refl _)
  refine specF_of (thenV t0 (rT far N (mov f t0)), backV t0) ⟨hN.le (by decide), R.b.back.le (by decide)⟩ ?_
  have hO : B4 99000 (thenV (thenV t0 (rT far N (mov f t0))) (backV t0)) := (B4.then hN R.b.back).le (by decide)
  have hd : det (thenV (thenV t0 (rT far N (mov f t0))) (backV t0)) = 1 := by rw [det_then, det_then, det_back, R.d, rT_det]; rfl
  have ho : mov f (thenV (thenV t0 (rT far N (mov f t0))) (backV t0)) = f := by rw [← mov_then, ← mov_then, rT_mov, R.e, mov_back R.d]
  have ht := tr_conj (t := rT far N (mov f t0)) R.d
  have ha := sad_a hS
  obtain ⟨v, v1, v2, v3, v4⟩ := own_form ha hd ho
  rw [ht] at v4
  have x0 : (pl f).1 ≠ 0 := fun z => ha (by rw [(pl_eqs f).1, z]; simp)
  have bv : Bt 100000 v := by
    have := hO.2.2.1
    rw [v1] at this
    refine Bt.le (n := 99000) (bt_ab this ?_) (by decide)
    rw [← ab_mul]
    have h1 : 1 ≤ ab (pl f).1 := by rcases ab_cases (pl f).1 with ⟨_, e⟩ | ⟨_, e⟩ <;> omega
    have := Int.mul_le_mul_of_nonneg_right h1 (ab_nonneg v)
    omega
  have bt : Bt 100000 (tr (rT far N (mov f t0))) := by
    rw [← ht]
    exact (hO.1.add hO.2.2.2).le (by decide)
  have bx : Bt 8000 (pl f).1 := by
    refine Bt.le (n := 1500) (bt_ab hb.1 ?_) (by decide)
    rw [(pl_eqs f).1, ← ab_mul]
    have h1 : 1 ≤ ab (g3 f : Int) := by have := g3_pos ha; rcases ab_cases (g3 f : Int) with ⟨_, e⟩ | ⟨_, e⟩ <;> omega
    have := Int.mul_le_mul_of_nonneg_right h1 (ab_nonneg (pl f).1)
    omega
  generalize hG : thenV (thenV t0 (rT far N (mov f t0))) (backV t0) = G at *
  walk_at "rd"
  refine ⟨Bt.divOk bx x0, size_ok (by decide), q _ ⟨t0, far, N, v, R, ?_, v4, bv, bt⟩⟩
  rw [v1, Int.mul_fdiv_cancel_left _ x0]
  have : tr G = G.1 + G.2.2.2 := rfl
  rw [← this, ht]
def stepD (f : I3) (T U : Int) : Dt := T4 ((T - (pl f).2.1 * U).fdiv 2) (-(pl f).2.2 * U) ((pl f).1 * U) ((T + (pl f).2.1 * U).fdiv 2)
abbrev sp_step_of : DSp := spec (fun f : I3 => [t3 f]) (fun f => B3 1500 f ∧ Sad f) fun f d => ∃ t0 far N v, RingOf f t0 far N ∧ d = stepD f (ab (tr (rT far N (mov f t0)))) (ab v) ∧ tr (rT far N (mov f t0)) * tr (rT far N (mov f t0)) - meas (pl f) * (v * v) = 4 ∧ Bt 100000 v ∧ Bt 100000 (tr (rT far N (mov f t0)))
theorem pl_bt {f : I3} {n : Nat} (ha : f.1 ≠ 0) (hb : B3 n f) : B3 n (pl f) := by
  have ⟨e1, e2, e3⟩ := pl_eqs f
  have h1 : 1 ≤ ab (g3 f : Int) := by have := g3_pos ha; rcases ab_cases (g3 f : Int) with ⟨_, e⟩ | ⟨_, e⟩ <;> omega
  have k : ∀ {x y : Int}, x = (g3 f : Int) * y → ab y ≤ ab x := fun {x y} e => by
    rw [e, ← ab_mul]
    have := Int.mul_le_mul_of_nonneg_right h1 (ab_nonneg y)
    omega
  exact ⟨bt_ab hb.1 (k e1), bt_ab hb.2.1 (k e2), bt_ab hb.2.2 (k e3)⟩
theorem g3_bt {f : I3} {n : Nat} (ha : f.1 ≠ 0) (hb : B3 n f) : Bt n (g3 f : Int) := by
  have ⟨e1, _, _⟩ := pl_eqs f
  refine bt_ab hb.1 ?_
  have x0 : (pl f).1 ≠ 0 := fun z => ha (by rw [e1, z]; simp)
  have h1 : 1 ≤ ab (pl f).1 := by rcases ab_cases (pl f).1 with ⟨_, e⟩ | ⟨_, e⟩ <;> omega
  have e : ab f.1 = ab (g3 f : Int) * ab (pl f).1 := by rw [ab_mul, ← e1]
  rw [e]
  have := Int.mul_le_mul_of_nonneg_left h1 (ab_nonneg (g3 f : Int))
  omega
theorem ok_step_of {P : Program} {w : World} {K : PySem.W.Frag} {mg : Str → Option Value} {base : Heap} (T : Txt K mg)
    (G_check_saddle : Pm P w K mg base 4 "check_saddle" s_check_saddle ["form"] sp_check_saddle)
    (G_content : Pm P w K mg base 2 "content" s_content ["form"] sp_content)
    (G_step_pair : Pm P w K mg base 8 "step_pair" s_step_pair ["form", "plain_first"] sp_step_pair)
    : Pm P w K mg base 9 "step_of" s_step_of ["form"] sp_step_of := by
  obtain ⟨f, fd, F⟩ := T.t_step_of
  refine ⟨f, fd, F, F.fn.okD sc_step_of (fun ds Q ⟨p, e, _⟩ => by rw [e]; rfl) fun cdv A outer s H E hr => ⟨_, (dss_cons (ds_expr (de_callP spec_mono G_check_saddle (hr.mono (by decide)) rfl (da_cons (dv 0) da_nil))) (dss_cons (ds_set 1 sc_step_of.nd (de_callP spec_mono G_content (hr.mono (by decide)) rfl (da_cons (dv 0) da_nil))) (dss_cons (ds_set 2 sc_step_of.nd (de_tup (da_cons (de_div (de_sub_ix (dv 0) de_int) (dv 1)) (da_cons (de_div (de_sub_ix (dv 0) de_int) (dv 1)) (da_cons (de_div (de_sub_ix (dv 0) de_int) (dv 1)) da_nil))))) (dss_cons (ds_set 3 sc_step_of.nd (de_callP spec_mono G_step_pair (hr.mono (by decide)) rfl (da_cons (dv 0) (da_cons (de_sub_ix (dv 2) de_int) da_nil)))) (dss_cons (ds_set 4 sc_step_of.nd (de_sub_ix (dv 3) de_int)) (dss_cons (ds_set 5 sc_step_of.nd (de_sub_ix (dv 3) de_int)) (dss_one (ds_ret (de_tup (da_cons (de_div (de_sub (dv 4) (de_mul (de_sub_ix (dv 2) de_int) (dv 5))) de_int) (da_cons (de_mul (de_neg (de_sub_ix (dv 2) de_int)) (dv 5)) (da_cons (de_mul (de_sub_ix (dv 2) de_int) (dv 5)) (da_cons (de_div (de_add (dv 4) (de_mul (de_sub_ix (dv 2) de_int) (dv 5))) de_int) da_nil))))))))))))), fun ds Q h => ?_⟩⟩
  obtain ⟨f, rfl, ⟨hb, hS⟩, q⟩ := h
  have hS : Sad f := hS
  have hb : B3 1500 f := hb
  have ha := sad_a hS
  have hg := g3_pos ha
  have gb := (g3_bt ha hb).le (m := 8000) (by decide)
  have pb := pl_bt ha hb
  have e1 : f.1.fdiv (g3 f : Int) = (pl f).1 := Int.fdiv_eq_ediv_of_nonneg _ (by omega)
  have e2 : f.2.1.fdiv (g3 f : Int) = (pl f).2.1 := Int.fdiv_eq_ediv_of_nonneg _ (by omega)
  have e3 : f.2.2.fdiv (g3 f : Int) = (pl f).2.2 := Int.fdiv_eq_ediv_of_nonneg _ (by omega)
  walk_at "go"
  refine specF_of f ⟨hb, hS⟩ (specF_of f trivial ⟨Bt.divOk gb (by omega), Bt.divOk gb (by omega), Bt.divOk gb (by omega), size_ok (by decide), ?_⟩)
  rw [e1, e2, e3]
  refine spec_of f ⟨hb, hS⟩ ?_
  rintro _ ⟨t0, far, N, v, R, rfl, hv, bv, bt⟩
  walk_at "rd"
  have bu := ab_bt bv
  obtain ⟨p1, p2, p3⟩ := pb
  exact ⟨p2.mulOk bu, ⟨by decide, by decide⟩, p3.neg.mulOk bu, p1.mulOk bu, p2.mulOk bu, ⟨by decide, by decide⟩, size_ok (by decide), q _ ⟨t0, far, N, v, R, rfl, hv, bv, bt⟩⟩

/-- two rings of forms that turns move to one another -/
theorem RingOf.same {f h : I3} {t0 t1 x : I4} {far far' : Int} {N M : Nat} (A : RingOf f t0 far N) (B : RingOf h t1 far' M) (dx : det x = 1) (e : mov f x = h) : far = far' ∧ N = M ∧ tr (rT far' M (mov h t1)) = tr (rT far N (mov f t0)) := by
  have ef : far = far' := A.r.uniq (by have := B.r; rw [← e, meas_mov dx] at this; exact this)
  subst ef
  have e1 : mov (mov f t0) (thenV (backV t0) (thenV x t1)) = mov h t1 := by rw [← mov_then, mov_back A.d, ← mov_then, e]
  have d1 : det (thenV (backV t0) (thenV x t1)) = 1 := by rw [det_then, det_then, det_back, A.d, dx, B.d]; rfl
  exact ⟨rfl, once_same A.v B.v d1 e1 A.e A.l B.e B.l A.n B.n⟩

theorem pl_meas_mov {f : I3} {x : I4} (hd : det x = 1) (ha : f.1 ≠ 0) : meas (pl (mov f x)) = meas (pl f) := by
  have h1 := pl_meas f
  have h2 := pl_meas (mov f x)
  rw [g3_mov hd, meas_mov hd, h1] at h2
  have hg := g3_pos ha
  have : (g3 f : Int) * (g3 f : Int) ≠ 0 := by
    have := sq_pos (show (g3 f : Int) ≠ 0 by omega)
    omega
  exact (Int.eq_of_mul_eq_mul_left this h2).symm
theorem pl_pos {f : I3} (h : 0 < meas f) : 0 < meas (pl f) := by
  have h1 := pl_meas f
  rcases Int.lt_or_le 0 (meas (pl f)) with z | z
  · exact z
  · have := Int.mul_nonneg (sq_nonneg (g3 f : Int)) (show 0 ≤ -meas (pl f) by omega)
    have e : (g3 f : Int) * (g3 f : Int) * -meas (pl f) = -((g3 f : Int) * (g3 f : Int) * meas (pl f)) := by grind
    omega
/-- the step's numbers: u is above nought, small, and the least one -/
theorem step_least {f : I3} {t0 : I4} {far v : Int} {N : Nat} (hS : Sad f) (R : RingOf f t0 far N) (e : tr (rT far N (mov f t0)) * tr (rT far N (mov f t0)) - meas (pl f) * (v * v) = 4) : 1 ≤ ab v ∧ Bt 490 (ab v) ∧ ∀ t w : Int, 1 ≤ w → t * t - meas (pl f) * (w * w) = 4 → ab v ≤ w := by
  have hv := R.v
  have ha := sad_a hS
  have ga := sad_a hv.S
  obtain ⟨v', v1, v2, v3, v4⟩ := own_form ga (rT_det N (mov f t0)) (once_own R.e)
  have em : meas (pl (mov f t0)) = meas (pl f) := pl_meas_mov R.d ha
  have hp : 0 < meas (pl f) := pl_pos hS.pos
  have ev : ab v = ab v' := sq_uniq hp (by rw [em] at v4; omega)
  have hm := pl_meas f
  have hg := g3_pos ha
  have hm4 : meas (pl f) ≤ 4000 := by
    have := hS.most
    have a1 := sq_pos (show (g3 f : Int) ≠ 0 by omega)
    have a2 := Int.mul_le_mul_of_nonneg_right a1 (show 0 ≤ meas (pl f) by omega)
    omega
  have hns : ¬ isSq (meas (pl f)) := fun ⟨r, er⟩ => hS.no ⟨(g3 f : Int) * r, by rw [hm, ← er]; grind⟩
  obtain ⟨r, hr⟩ : ∃ r, Sq (meas (pl f)) r := by
    have key : ∀ k : Nat, meas (pl f) < ((k : Int) + 1) * ((k : Int) + 1) → ∃ r : Int, Sq (meas (pl f)) r := fun k => by
      induction k with
      | zero => intro z; exact ⟨0, by omega, by omega, by omega⟩
      | succ k ih =>
        intro z
        rcases Int.lt_or_le (meas (pl f)) (((k : Int) + 1) * ((k : Int) + 1)) with w | w
        · exact ih w
        · exact ⟨(k : Int) + 1, by omega, w, z⟩
    exact key 63 (by show meas (pl f) < ((63 : Int) + 1) * ((63 : Int) + 1); omega)
  have n0 := R.n
  have q0 := (q_ne hv (N - 1)).1
  rw [show N - 1 + 1 = N by omega] at q0
  refine ⟨?_, ?_, fun t w hw et => ?_⟩
  · have : v' ≠ 0 := fun z => q0 (by rw [v2, z]; simp)
    rw [ev]
    rcases ab_cases v' with ⟨_, e⟩ | ⟨_, e⟩ <;> omega
  · rw [ev]
    exact ab_bt (small_u hv n0 R.l v2 (by rw [em]; omega) (by rw [em]; exact hm4) (by rw [em]; exact hns) (by rw [em]; exact hr))
  · have := least_u (t := t) (w := w) hv n0 R.l v2 (by omega) (by rw [em]; exact et)
    rw [ev]
    have e2 : ab w = w := by rcases ab_cases w with ⟨_, e⟩ | ⟨_, e⟩ <;> omega
    omega
/-- the turn of t and u, as it is told -/
theorem step_turn {f : I3} {t u : Int} (h : t * t - meas (pl f) * (u * u) = 4) : ∃ p : Int, t = 2 * p + (pl f).2.1 * u ∧ (t - (pl f).2.1 * u).fdiv 2 = p ∧ (t + (pl f).2.1 * u).fdiv 2 = p + (pl f).2.1 * u ∧ det (p, -(pl f).2.2 * u, (pl f).1 * u, p + (pl f).2.1 * u) = 1 ∧ mov f (p, -(pl f).2.2 * u, (pl f).1 * u, p + (pl f).2.1 * u) = f := by
  obtain ⟨e1, e2, e3⟩ := pl_eqs f
  generalize pl f = Z at *
  obtain ⟨a, b, c⟩ := Z
  dsimp only at *
  have hm : meas (a, b, c) = b * b - 4 * a * c := rfl
  rw [hm] at h
  obtain ⟨P', hP⟩ : ∃ P' : Int, t = 2 * P' + b * u := by
    have h1 : (t - b * u) % 2 = 0 := by
      have e : (t - b * u) * (t - b * u) = 4 + 2 * (-(2 * a * c * (u * u)) - b * u * (t - b * u)) := by grind
      have h2 : ((t - b * u) * (t - b * u)) % 2 = 0 := by omega
      rcases (show (t - b * u) % 2 = 0 ∨ (t - b * u) % 2 = 1 by omega) with z | z
      · exact z
      · rw [Int.mul_emod, z] at h2
        cases h2
    exact ⟨(t - b * u) / 2, by omega⟩
  subst hP
  have key : P' * P' + b * P' * u + a * c * (u * u) = 1 := by grind
  refine ⟨P', rfl, ?_, ?_, ?_, ?_⟩
  · rw [Int.fdiv_eq_ediv_of_nonneg _ (by decide)]; omega
  · rw [Int.fdiv_eq_ediv_of_nonneg _ (by decide)]; omega
  · show P' * (P' + b * u) - -c * u * (a * u) = 1
    grind
  · have e : f = ((g3 f : Int) * a, (g3 f : Int) * b, (g3 f : Int) * c) := Prod.ext e1 (Prod.ext e2 e3)
    generalize (g3 f : Int) = g at *
    subst e
    simp only [mov, val, mid]
    refine Prod.ext ?_ (Prod.ext ?_ ?_) <;> dsimp only
    · have : g * a * P' * P' + g * b * P' * (a * u) + g * c * (a * u) * (a * u) = g * a * (P' * P' + b * P' * u + a * c * (u * u)) := by grind
      rw [this, key, Int.mul_one]
    · have : 2 * (g * a) * P' * (-c * u) + g * b * (P' * (P' + b * u) + -c * u * (a * u)) + 2 * (g * c) * (a * u) * (P' + b * u) = g * b * (P' * P' + b * P' * u + a * c * (u * u)) := by grind
      rw [this, key, Int.mul_one]
    · have : g * a * (-c * u) * (-c * u) + g * b * (-c * u) * (P' + b * u) + g * c * (P' + b * u) * (P' + b * u) = g * c * (P' * P' + b * P' * u + a * c * (u * u)) := by grind
      rw [this, key, Int.mul_one]

theorem p2_six {i N : Nat} (h : 2 ^ i < N) (hN : N ≤ 60) : i ≤ 5 := by
  rcases Nat.lt_or_ge 5 i with z | z
  · have := Nat.pow_le_pow_right (show 0 < 2 by decide) (show 6 ≤ i by omega)
    omega
  · exact z
theorem cpow_small {j : Nat} (h : j ≤ 6) : CPow 1 ((j : Nat) : Int) := by
  match j, h with
  | 0, _ => exact ⟨by decide, by decide, by decide⟩
  | 1, _ => exact ⟨by decide, by decide, by decide⟩
  | 2, _ => exact ⟨by decide, by decide, by decide⟩
  | 3, _ => exact ⟨by decide, by decide, by decide⟩
  | 4, _ => exact ⟨by decide, by decide, by decide⟩
  | 5, _ => exact ⟨by decide, by decide, by decide⟩
  | 6, _ => exact ⟨by decide, by decide, by decide⟩
abbrev dbl (s : I4) (j : Nat) : Dt := t4 (pw s (2 ^ j))
abbrev sp_count_without_sign : DSp := specF (fun p : I4 × Nat => [t4 p.1, .int (ab (pw p.1 p.2).2.2.1)]) (fun p => B4 2100 p.1 ∧ det p.1 = 1 ∧ 3 ≤ tr p.1 ∧ p.1.2.2.1 ≠ 0 ∧ p.2 ≤ 60) fun p => .int p.2
theorem ok_count_without_sign {P : Program} {w : World} {K : PySem.W.Frag} {mg : Str → Option Value} {base : Heap} (T : Txt K mg)
    (G_put_behind : Pm P w K mg base 1 "put_behind" s_put_behind ["one", "other"] sp_put_behind)
    : Pm P w K mg base 2 "count_without_sign" s_count_without_sign ["step", "third"] sp_count_without_sign := by
  obtain ⟨f, fd, F⟩ := T.t_count_without_sign
  obtain ⟨a_SAME, m_SAME, q_SAME⟩ := T.k_SAME
  refine ⟨f, fd, F, F.fn.okD sc_count_without_sign (fun ds Q ⟨p, e, _⟩ => by rw [e]; rfl) fun cdv A outer s H E hr => ⟨_, (dss_cons (ds_own 2 sc_count_without_sign.nd (da_cons (dv 0) da_nil)) (dss_cons (ds_while PassesOwn.never (dt_lt (de_abs T.z_abs (da_cons (de_sub_ix (de_ixo 2 (de_neg de_int)) de_int) da_nil)) (dv 1)) (dss_one (ds_app 2 (de_callP spec_mono G_put_behind (hr.mono (by decide)) rfl (da_cons (de_ixo 2 (de_neg de_int)) (da_cons (de_ixo 2 (de_neg de_int)) da_nil)))))) (dss_cons (ds_set 3 sc_count_without_sign.nd de_int) (dss_cons (ds_set 4 sc_count_without_sign.nd (de_glob (v := .ref a_SAME) rfl m_SAME rfl q_SAME)) (dss_cons (ds_for PassesOwn.never rfl (di_rng3 rfl T.z_range (da_cons (de_sub (de_leno 2 T.z_len) de_int) (da_cons (de_neg de_int) (da_cons (de_neg de_int) da_nil)))) (dg_name 5 sc_count_without_sign.nd) (dss_cons (ds_set 6 sc_count_without_sign.nd (de_callP spec_mono G_put_behind (hr.mono (by decide)) rfl (da_cons (dv 4) (da_cons (de_ixo 2 (dv 5)) da_nil)))) (dss_one (ds_if (dt_le (de_abs T.z_abs (da_cons (de_sub_ix (dv 6) de_int) da_nil)) (dv 1)) (dss_cons (ds_set 4 sc_count_without_sign.nd (dv 6)) (dss_one (ds_augI 3 sc_count_without_sign.nd (de_shl de_int (dv 5))))) dss_nil)))) (dss_one (ds_ret (dv 3)))))))), fun ds Q h => ?_⟩⟩
  obtain ⟨⟨s, N⟩, rfl, ⟨hs, hd, ht, hc, hN⟩, q⟩ := h
  have hs : B4 2100 s := hs
  have hd : det s = 1 := hd
  have ht : 3 ≤ tr s := ht
  have hc : s.2.2.1 ≠ 0 := hc
  have hN : N ≤ 60 := hN
  have q' : Q (.int N) := q _ rfl
  have bt : ∀ k, k ≤ 130 → B4 300000 (pw s k) := fun k hk => (pw_bt hs k).le (by omega)
  have las : ∀ i : Nat, ixL (-1) ((List.range (i + 1)).map (dbl s)) = some (dbl s i) := fun i => by
    show (if 0 < ((List.range (i + 1)).map (dbl s)).length then ((List.range (i + 1)).map (dbl s))[((List.range (i + 1)).map (dbl s)).length - 1 - 0]? else none) = _
    simp
  walk_at "go"
  refine ⟨size_ok (by decide), ?_⟩
  have e1 : t4 s = dbl s 0 := by show t4 s = t4 (pw s 1); rw [pw_one]
  refine while_of (fun m ρ => ∃ i : Nat, i ≤ 6 ∧ ρ = [some (.is (t4 s)), some (.is (.int (ab (pw s N).2.2.1))), some (.own ((List.range (i + 1)).map (dbl s))), none, none, none, none] ∧ m = 7 - i) _ ⟨0, by omega, by rw [e1]; rfl, rfl⟩ ?_
  rintro m _ ⟨i, hi, rfl, rfl⟩
  walk_at "rd"
  rw [las i]
  walk_at "rd"
  have le : ∀ k, ab (pw s k).2.2.1 ≤ ab (pw s N).2.2.1 ↔ k ≤ N := fun k => third_le hd ht hc
  have le' : ∀ k, ab (pw s N).2.2.1 ≤ ab (pw s k).2.2.1 ↔ N ≤ k := fun k => third_le hd ht hc
  have p2 : 2 ^ i ≤ 64 := Nat.pow_le_pow_right (show 0 < 2 by decide) hi
  refine ite2 (fun hw => ?_) (fun hw => ?_)
  · have hw := of_decide_eq_true hw
    have h1 : 2 ^ i < N := by
      rcases Nat.lt_or_ge (2 ^ i) N with z | z
      · exact z
      · have := (le' (2 ^ i)).mpr z
        exact absurd hw (by show ¬ ab (pw s (2 ^ i)).2.2.1 < _; omega)
    have h5 := p2_six h1 hN
    have ed : thenV (pw s (2 ^ i)) (pw s (2 ^ i)) = pw s (2 ^ (i + 1)) := by rw [← pw_add]; congr 1; rw [Nat.pow_succ]; omega
    refine specF_of (pw s (2 ^ i), pw s (2 ^ i)) ⟨(bt _ (by omega)).le (by decide), (bt _ (by omega)).le (by decide)⟩ ⟨by rw [List.length_range]; exact size_8k (by omega), 7 - (i + 1), by omega, i + 1, by omega, ?_, rfl⟩
    dsimp only
    rw [ed, List.range_succ (n := i + 1), List.map_append]
    rfl
  · have h1 : N ≤ 2 ^ i := by
      rcases Nat.lt_or_ge (2 ^ i) N with z | z
      · refine absurd (decide_eq_true ?_) hw
        show ab (pw s (2 ^ i)).2.2.1 < _
        have h2 := (le (2 ^ i)).mpr (by omega)
        have h3 : ¬ ab (pw s N).2.2.1 ≤ ab (pw s (2 ^ i)).2.2.1 := fun w => by have := (le' (2 ^ i)).mp w; omega
        omega
      · exact z
    refine dFor_of (downs (i : Int) (i + 1)) (fun R h => ?_) (fun k ρ => ∃ n x y, n ≤ N ∧ N < n + 2 ^ (i + 1 - k) ∧ ρ = [some (.is (t4 s)), some (.is (.int (ab (pw s N).2.2.1))), some (.own ((List.range (i + 1)).map (dbl s))), some (.is (.int ((n : Nat) : Int))), some (.is (t4 (pw s n))), x, y]) ⟨0, none, none, by omega, ?_, rfl⟩ ?_ ?_
    · walk_at "rd"
      rw [List.length_range, show ((i + 1 : Nat) : Int) - 1 = (i : Int) by omega, show ((i : Int) - -1).toNat = i + 1 by omega]
      exact ⟨by omega, h⟩
    · have := Nat.two_pow_pos i
      rw [Nat.sub_zero, Nat.pow_succ]
      omega
    · rintro k d _ hk ⟨n, x, y, n1, n2, rfl⟩
      obtain ⟨hk, rfl⟩ := downs_get hk
      have ej : (i : Int) - (k : Int) = ((i - k : Nat) : Int) := by omega
      have pj : 2 ^ (i - k) ≤ 64 := Nat.pow_le_pow_right (show 0 < 2 by decide) (show i - k ≤ 6 by omega)
      have eo : ixL ((i - k : Nat) : Int) ((List.range (i + 1)).map (dbl s)) = some (dbl s (i - k)) := by
        obtain ⟨d, e1, e2, e3⟩ := ix_any (ds := (List.range (i + 1)).map (dbl s)) (k := ((i - k : Nat) : Int)) (by omega) (by rw [List.length_map, List.length_range]; omega)
        have : ixL ((i - k : Nat) : Int) ((List.range (i + 1)).map (dbl s)) = some d := e1
        rw [this, ← e3, List.getElem?_map, Int.toNat_natCast, List.getElem?_range (by omega)]
        rfl
      rw [ej]
      walk_at "rd"
      rw [eo]
      refine specF_of (pw s n, pw s (2 ^ (i - k))) ⟨(bt _ (by omega)).le (by decide), (bt _ (by omega)).le (by decide)⟩ ?_
      dsimp only
      rw [← pw_add]
      walk_at "rd"
      have lk := le (n + 2 ^ (i - k))
      have e2k : 2 ^ (i + 1 - k) = 2 * 2 ^ (i - k) := by rw [show i + 1 - k = (i - k) + 1 by omega, Nat.pow_succ]; omega
      have e2k' : i + 1 - (k + 1) = i - k := by omega
      refine ite2 (fun hw2 => ?_) (fun hw2 => ?_)
      · have hw2 := lk.mp (of_decide_eq_true hw2)
        have en : ((n : Int) + 1 * 2 ^ ((i - k : Nat) : Int).toNat : Int) = ((n + 2 ^ (i - k) : Nat) : Int) := by rw [Int.toNat_natCast, Int.natCast_add, Int.natCast_pow]; simp
        rw [en]
        exact ⟨cpow_small (by omega), n + 2 ^ (i - k), _, _, hw2, by rw [e2k']; omega, rfl⟩
      · have hw2 : ¬ n + 2 ^ (i - k) ≤ N := fun z => hw2 (decide_eq_true (lk.mpr z))
        exact ⟨n, _, _, n1, by rw [e2k']; omega, rfl⟩
    · rintro _ ⟨n, x, y, n1, n2, rfl⟩
      rw [downs_len, Nat.sub_self] at n2
      have : n = N := by omega
      subst this
      exact q'
/-- the step of a form -/
def StepOf (f : I3) (s : I4) : Prop := ∃ t0 far N v, RingOf f t0 far N ∧ t4 s = stepD f (ab (tr (rT far N (mov f t0)))) (ab v) ∧ tr (rT far N (mov f t0)) * tr (rT far N (mov f t0)) - meas (pl f) * (v * v) = 4
structure StepT (f : I3) (s : I4) : Prop where
  b : B4 2100 s
  d : det s = 1
  o : mov f s = f
  t : 3 ≤ tr s
  c : ∃ u, 1 ≤ u ∧ s.2.2.1 = (pl f).1 * u
theorem ab_sq (x : Int) : ab x * ab x = x * x := by rcases ab_cases x with ⟨_, e⟩ | ⟨_, e⟩ <;> rw [e] <;> grind
theorem stepT_of {f : I3} {t0 : I4} {far v : Int} {N : Nat} (hS : Sad f) (hf : B3 1500 f) (R : RingOf f t0 far N) (hv : tr (rT far N (mov f t0)) * tr (rT far N (mov f t0)) - meas (pl f) * (v * v) = 4) : ∃ s : I4, stepD f (ab (tr (rT far N (mov f t0)))) (ab v) = t4 s ∧ StepT f s := by
  obtain ⟨u1, ub, least⟩ := step_least hS R hv
  have hv' : ab (tr (rT far N (mov f t0))) * ab (tr (rT far N (mov f t0))) - meas (pl f) * (ab v * ab v) = 4 := by
    rw [ab_sq, ab_sq]
    exact hv
  have tp := ab_nonneg (tr (rT far N (mov f t0)))
  generalize ab (tr (rT far N (mov f t0))) = T' at *
  generalize ab v = U at *
  obtain ⟨p, ep, e1, e2, pd, pm⟩ := step_turn hv'
  have ha := sad_a hS
  have hg := g3_pos ha
  have pb := pl_bt ha hf
  have hp : 0 < meas (pl f) := pl_pos hS.pos
  have hmm := pl_meas f
  have a0 : meas (pl f) ≤ 4000 := by
    have := hS.most
    have a1 := sq_pos (show (g3 f : Int) ≠ 0 by omega)
    have a2 := Int.mul_le_mul_of_nonneg_right a1 (show 0 ≤ meas (pl f) by omega)
    omega
  have bU : Bt 490 U := ub
  have tb : Bt 520 T' := by
    have h1 : T' * T' ≤ (64 * U + 2) * (64 * U + 2) := by
      have a1 := Int.mul_le_mul_of_nonneg_right a0 (sq_nonneg U)
      have a2 : (64 * U + 2) * (64 * U + 2) = 4096 * (U * U) + 256 * U + 4 := by grind
      have a3 := sq_nonneg U
      omega
    have h2 : T' ≤ 64 * U + 2 := by
      rcases Int.lt_or_le (64 * U + 2) T' with z | z
      · have := sq_lt (show 0 ≤ 64 * U + 2 by omega) z
        omega
      · exact z
    have h3 : Bt 500 (64 * U + 2) := (((Bt.of_abs (by decide) : Bt 8 64).mul bU).add (Bt.of_abs (by decide) : Bt 2 2)).le (by decide)
    unfold Bt at *
    omega
  have T3' : 3 ≤ T' := by
    rcases Int.lt_or_le T' 3 with z | z
    · exfalso
      have h1 : T' * T' ≤ 2 * 2 := Int.mul_le_mul (by omega) (by omega) tp (by decide)
      have h2 := Int.mul_le_mul (show 1 ≤ meas (pl f) by omega) (sq_pos (show U ≠ 0 by omega)) (by decide) (by omega)
      omega
    · exact z
  have bu2 : Bt 2000 ((pl f).2.1 * U) := (pb.2.1.mul bU).le (by decide)
  have bp : Bt 2050 p := by
    have : Bt 2040 (2 * p) := by
      have e : 2 * p = T' - (pl f).2.1 * U := by omega
      rw [e]
      exact ((tb.le (m := 2000) (by decide)).sub bu2).le (by decide)
    unfold Bt at *
    have h2 : (2 : Nat) ^ 2050 = 1024 * 2 ^ 2040 := by rw [show 2050 = 10 + 2040 from rfl, Nat.pow_add]
    omega
  refine ⟨(p, -(pl f).2.2 * U, (pl f).1 * U, p + (pl f).2.1 * U), ?_, ?_, pd, pm, ?_, U, u1, rfl⟩
  · unfold stepD
    rw [e1, e2]
  · exact ⟨bp.le (by decide), (pb.2.2.neg.mul bU).le (by decide), (pb.1.mul bU).le (by decide), (bp.add (bu2.le (m := 2050) (by decide))).le (by decide)⟩
  · show 3 ≤ p + (p + (pl f).2.1 * U)
    omega
theorem StepOf.uniq {f : I3} {s : I4} (hS : Sad f) (h : StepOf f s) {t0 : I4} {far v : Int} {N : Nat} (R : RingOf f t0 far N) (hv : tr (rT far N (mov f t0)) * tr (rT far N (mov f t0)) - meas (pl f) * (v * v) = 4) : stepD f (ab (tr (rT far N (mov f t0)))) (ab v) = t4 s := by
  obtain ⟨t1, far1, N1, v1, R1, e1, hv1⟩ := h
  obtain ⟨rfl, rfl, et⟩ := R1.same R (x := (1, 0, 0, 1)) rfl mov_same
  rw [e1, et]
  rw [et] at hv
  have hp : 0 < meas (pl f) := pl_pos hS.pos
  rw [sq_uniq hp (show meas (pl f) * (v * v) = meas (pl f) * (v1 * v1) by omega)]
abbrev xOwn (t : I4) : Dt := .exc "NotOwn" ["turn"] [t4 t]
/-- t is the sign z before N steps, forward or back -/
structure PwOf (f : I3) (t s : I4) (z : Int) (N : Nat) (neg : Bool) : Prop where
  st : StepOf f s
  n : N ≤ 60
  zz : z = 1 ∨ z = -1
  e : t = tw z (if neg = true then backV s else s) N
  p : neg = true → 1 ≤ N
theorem vn_pos {t : Int} (h : 3 ≤ t) {n : Nat} (l : 1 ≤ n) : 1 ≤ vn t n := by
  have := vn_lt' h (show 0 < n by omega)
  have : vn t 0 = 0 := rfl
  omega
theorem PwOf.facts {f : I3} {t s : I4} {z : Int} {N : Nat} {neg : Bool} (h : PwOf f t s z N neg) (S : StepT f s) (ha : f.1 ≠ 0) :
    (0 < t.1 + t.2.2.2 ↔ z = 1) ∧ ab t.2.2.1 = ab (pw s N).2.2.1 ∧ (z * t.2.2.1 * f.1 < 0 ↔ neg = true) := by
  obtain ⟨_, hn, hz, e, hp⟩ := h
  have hg := g3_pos ha
  obtain ⟨q1, _, _⟩ := pl_eqs f
  obtain ⟨u, u1, cu⟩ := S.c
  have x0 : (pl f).1 ≠ 0 := fun w => ha (by rw [q1, w]; simp)
  have xx := sq_pos x0
  -- the turn that is put behind itself
  obtain ⟨s', es, d', t', c'⟩ : ∃ s' : I4, (if neg = true then backV s else s) = s' ∧ det s' = 1 ∧ tr s' = tr s ∧ s'.2.2.1 = if neg = true then -s.2.2.1 else s.2.2.1 := by
    cases neg with
    | true => exact ⟨backV s, rfl, by rw [det_back, S.d], tr_back, rfl⟩
    | false => exact ⟨s, rfl, S.d, rfl, rfl⟩
  rw [es] at e
  have hT := (pw_tr d' (by rw [t']; exact S.t) N).1
  have h3 := pw_third d' N
  have h3s := pw_third S.d N
  have v0 := (vn_up S.t N).1
  rw [t'] at h3
  rw [e, tw_eq]
  refine ⟨?_, ?_, ?_⟩
  · show 0 < z * (pw s' N).1 + z * (pw s' N).2.2.2 ↔ _
    have e2 : z * (pw s' N).1 + z * (pw s' N).2.2.2 = z * tr (pw s' N) := by unfold tr; grind
    rw [e2]
    rcases hz with rfl | rfl
    · simp; omega
    · simp; omega
  · show ab (z * (pw s' N).2.2.1) = _
    have ez : ab z = 1 := by rcases hz with rfl | rfl <;> rfl
    rw [← ab_mul, ez, Int.one_mul, h3, h3s, ← ab_mul, ← ab_mul, c']
    cases neg with
    | true =>
      have : ab (-s.2.2.1) = ab s.2.2.1 := by rcases ab_cases s.2.2.1 with ⟨_, e⟩ | ⟨_, e⟩ <;> rcases ab_cases (-s.2.2.1) with ⟨_, e'⟩ | ⟨_, e'⟩ <;> omega
      rw [if_pos rfl, this]
    | false => rfl
  · show z * (z * (pw s' N).2.2.1) * f.1 < 0 ↔ _
    have ez : z * (z * (pw s' N).2.2.1) * f.1 = (pw s' N).2.2.1 * f.1 := by rcases hz with rfl | rfl <;> grind
    rw [ez, h3, c', q1, cu]
    have key : (pl f).1 * u * vn (tr s) N * ((g3 f : Int) * (pl f).1) = (g3 f : Int) * u * ((pl f).1 * (pl f).1) * vn (tr s) N := by grind
    have p1 : 1 ≤ (g3 f : Int) * u * ((pl f).1 * (pl f).1) := by
      have a := Int.mul_le_mul (show (1 : Int) ≤ (g3 f : Int) by omega) u1 (by decide) (by omega)
      have b := Int.mul_le_mul a xx (by decide) (by omega)
      omega
    cases neg with
    | true =>
      rw [if_pos rfl]
      have e3 : -((pl f).1 * u) * vn (tr s) N * ((g3 f : Int) * (pl f).1) = -((g3 f : Int) * u * ((pl f).1 * (pl f).1) * vn (tr s) N) := by rw [← key]; grind
      rw [e3]
      have v1 := vn_pos S.t (hp rfl)
      have := Int.mul_le_mul p1 v1 (by decide) (by omega)
      simp
      omega
    | false =>
      rw [if_neg (by simp), key]
      have := Int.mul_nonneg (show 0 ≤ (g3 f : Int) * u * ((pl f).1 * (pl f).1) by omega) v0
      simp
      omega
abbrev PT := I3 × I4 × I4 × Int × Nat × Bool
def cntI (N : Nat) (neg : Bool) : Int := if neg = true then -(N : Int) else N
abbrev spx_power_of : DSpX := specX (fun p : PT => [t3 p.1, t4 p.2.1]) (fun p => B3 1500 p.1 ∧ Sad p.1 ∧ B4 300000 p.2.1 ∧ (det p.2.1 = 1 → mov p.1 p.2.1 = p.1 → PwOf p.1 p.2.1 p.2.2.1 p.2.2.2.1 p.2.2.2.2.1 p.2.2.2.2.2))
  (fun p => det p.2.1 = 1 ∧ mov p.1 p.2.1 = p.1) (fun p d => d = T2 p.2.2.2.1 (cntI p.2.2.2.2.1 p.2.2.2.2.2)) fun p => if det p.2.1 = 1 then xOwn p.2.1 else xTurn p.2.1
theorem okx_power_of {P : Program} {w : World} {K : PySem.W.Frag} {mg : Str → Option Value} {base : Heap} (T : Txt K mg)
    (G_check_saddle : Pm P w K mg base 4 "check_saddle" s_check_saddle ["form"] sp_check_saddle)
    (GX_check_turn : PmX P w K mg base 3 "check_turn" s_check_turn ["turn"] spx_check_turn)
    (G_count_without_sign : Pm P w K mg base 2 "count_without_sign" s_count_without_sign ["step", "third"] sp_count_without_sign)
    (G_moved : Pm P w K mg base 4 "moved" s_moved ["form", "turn"] sp_moved)
    (G_step_of : Pm P w K mg base 9 "step_of" s_step_of ["form"] sp_step_of)
    : PmX P w K mg base 10 "power_of" s_power_of ["form", "turn"] spx_power_of := by
  obtain ⟨f, fd, F⟩ := T.t_power_of
  obtain ⟨C_NotOwn, U_NotOwn, fI_NotOwn, fd_NotOwn, R_NotOwn⟩ := r_NotOwn (P := P) (w := w) (base := base) T
  refine ⟨f, fd, F, F.fn.okX sc_power_of (fun ds Q E ⟨p, e, _⟩ => by rw [e]; rfl) fun cdv A outer s H E hr => ⟨_, (dssx_cons (dsx_of (ds_expr (de_callP spec_mono G_check_saddle (hr.mono (by decide)) rfl (da_cons (dv 0) da_nil)))) (dssx_cons (dsx_expr (dex_call specX_mono GX_check_turn (hr.mono (by decide)) rfl (da_cons (dv 1) da_nil))) (dssx_cons (dsx_if (dt_ne hr.units (de_callP spec_mono G_moved (hr.mono (by decide)) rfl (da_cons (dv 0) (da_cons (dv 1) da_nil))) (dv 0)) (dssx_one (dsx_raise R_NotOwn (hr.mono (by decide)) rfl rfl (da_cons (dv 1) da_nil))) dssx_nil) (dssx_cons (dsx_of (ds_set 2 sc_power_of.nd (de_ifE (dt_gt (de_add (de_sub_ix (dv 1) de_int) (de_sub_ix (dv 1) de_int)) de_int) de_int (de_neg de_int)))) (dssx_cons (dsx_of (ds_set 3 sc_power_of.nd (de_callP spec_mono G_count_without_sign (hr.mono (by decide)) rfl (da_cons (de_callP spec_mono G_step_of (hr.mono (by decide)) rfl (da_cons (dv 0) da_nil)) (da_cons (de_abs T.z_abs (da_cons (de_sub_ix (dv 1) de_int) da_nil)) da_nil))))) (dssx_cons (dsx_of (ds_if (dt_lt (de_mul (de_mul (dv 2) (de_sub_ix (dv 1) de_int)) (de_sub_ix (dv 0) de_int)) de_int) (dss_one (ds_set 3 sc_power_of.nd (de_neg (dv 3)))) dss_nil)) (dssx_one (dsx_of (ds_ret (de_tup (da_cons (dv 2) (da_cons (dv 3) da_nil)))))))))))), fun ds Q Ex h => ?_⟩⟩
  obtain ⟨⟨f, t, s, z, N, neg⟩, rfl, ⟨hf, hS, hb, hP⟩, q, x⟩ := h
  have hf : B3 1500 f := hf
  have hS : Sad f := hS
  have hb : B4 300000 t := hb
  have hP : det t = 1 → mov f t = f → PwOf f t s z N neg := hP
  have q : det t = 1 ∧ mov f t = f → ∀ d, d = T2 z (cntI N neg) → Q d := q
  have x : ¬ (det t = 1 ∧ mov f t = f) → Ex (if det t = 1 then xOwn t else xTurn t) := x
  walk_at "go"
  refine specF_of f ⟨hf, hS⟩ (specX_of t hb (fun hd d _ => ?_) fun hd => ?_)
  case' refine_2 =>
    have := x fun w => hd w.1
    rw [if_neg hd] at this
    exact this
  have hd : det t = 1 := hd
  walk_at "rd"
  refine specF_of (f, t) ⟨hf.le (by decide), hb, hd⟩ ?_
  walk_at "rd"
  by_cases ho : mov f t = f
  case' neg =>
    refine ift ?_ ⟨by decide, ?_⟩
    · rw [Bool.not_eq_true', Bool.eq_false_iff]
      intro w
      simp only [Bool.and_eq_true, decide_eq_true_eq] at w
      exact ho (Prod.ext w.1 (Prod.ext w.2.1 w.2.2))
    · have := x fun w => ho w.2
      rw [if_pos hd] at this
      exact this
  refine iff' (by rw [ho]; simp) ?_
  have H := hP hd ho
  have ha := sad_a hS
  have q := q ⟨hd, ho⟩ _ rfl
  obtain ⟨t1, far1, N1, v1, R1, e1, hv1⟩ := id H.st
  obtain ⟨s', es, S'⟩ := stepT_of hS hf R1 hv1
  have S : StepT f s := by
    have : s = s' := by
      have h4 : t4 s = t4 s' := e1.trans es
      have := eq_t4 (s := s) (t := s')
      rw [h4] at this
      have h5 := eq_t4 (s := s') (t := s')
      rw [decide_eq_true rfl] at h5
      rw [h5] at this
      exact of_decide_eq_true this.symm
    rw [this]; exact S'
  obtain ⟨f1, f2, f3⟩ := H.facts S ha
  have c0 : s.2.2.1 ≠ 0 := by
    obtain ⟨u, u1, cu⟩ := S.c
    rw [cu]
    have x0 : (pl f).1 ≠ 0 := fun w => ha (by rw [(pl_eqs f).1, w]; simp)
    exact Int.mul_ne_zero x0 (by omega)
  have f2' : (if t.2.2.1 < 0 then -t.2.2.1 else t.2.2.1) = ab (pw s N).2.2.1 := f2
  have bf : Bt 1500 f.1 := hf.1
  have m1 : Bt 2 z := by rcases H.zz with e | e <;> rw [e] <;> exact Bt.of_abs (by decide)
  refine ite2 (fun hw => ?_) (fun hw => ?_)
  case' refine_1 =>
    have ez : z = 1 := f1.mp (of_decide_eq_true hw)
    subst ez
  case' refine_2 =>
    have ez : z = -1 := H.zz.resolve_left fun e => hw (decide_eq_true (f1.mpr e))
    subst ez
  all_goals
    refine spec_of f ⟨hf, hS⟩ ?_
    rintro _ ⟨t2, far2, N2, v2, R2, rfl, hv2, _, _⟩
    rw [H.st.uniq hS R2 hv2, f2']
    refine specF_of (s, N) ⟨S.b, S.d, S.t, c0, H.n⟩ ⟨m1.mulOk hb.2.2.1, (m1.mul hb.2.2.1).mulOk bf, ?_⟩
    cases neg with
    | true => exact ift (decide_eq_true (f3.mpr rfl)) ⟨size_ok (by decide), q⟩
    | false => exact iff' (decide_eq_false fun w => by cases f3.mp w) ⟨size_ok (by decide), q⟩
abbrev sp_power_of : DSp := specF (fun p : PT => [t3 p.1, t4 p.2.1]) (fun p => B3 1500 p.1 ∧ Sad p.1 ∧ B4 300000 p.2.1 ∧ PwOf p.1 p.2.1 p.2.2.1 p.2.2.2.1 p.2.2.2.2.1 p.2.2.2.2.2 ∧ det p.2.1 = 1 ∧ mov p.1 p.2.1 = p.1) fun p => T2 p.2.2.2.1 (cntI p.2.2.2.2.1 p.2.2.2.2.2)
theorem ok_power_of {P : Program} {w : World} {K : PySem.W.Frag} {mg : Str → Option Value} {base : Heap} (G : PmX P w K mg base 10 "power_of" s_power_of ["form", "turn"] spx_power_of)
    : Pm P w K mg base 10 "power_of" s_power_of ["form", "turn"] sp_power_of := by
  refine G.pm specX_mono fun ds Q h => ?_
  obtain ⟨p, e, ⟨h1, h2, h3, h4, h5, h6⟩, q⟩ := h
  exact ⟨p, e, ⟨h1, h2, h3, fun _ _ => h4⟩, fun _ d z => q d z, fun z => absurd ⟨h5, h6⟩ z⟩
abbrev sp__law_cell : DSp := specF (fun p : List Int × Int => [.lst (p.1.map Dt.int), .int p.2]) (fun p => 0 ≤ p.2) fun p => .int (p.1.getD p.2.toNat 0)
theorem cell_of {Q : Dt → Prop} (ns : List Int) (k : Int) (h : 0 ≤ k) (q : Q (.int (ns.getD k.toNat 0))) : sp__law_cell [.lst (ns.map Dt.int), .int k] Q := specF_of (ns, k) h q
theorem ok__law_cell {P : Program} {w : World} {K : PySem.W.Frag} {mg : Str → Option Value} {base : Heap} (T : Txt K mg)
    : Pm P w K mg base 1 "_law_cell" s__law_cell ["_law_script", "_law_k"] sp__law_cell := by
  obtain ⟨f, fd, F⟩ := T.t__law_cell
  refine ⟨f, fd, F, F.fn.okD sc__law_cell (fun ds Q ⟨p, e, _⟩ => by rw [e]; rfl) fun cdv A outer s H E hr => ⟨_, (dss_cons (ds_if (dt_lt (dv 1) (de_len T.z_len (da_cons (dv 0) da_nil))) (dss_one (ds_ret (de_sub_ix (dv 0) (dv 1)))) dss_nil) (dss_one (ds_ret de_int))), fun ds Q h => ?_⟩⟩
  obtain ⟨⟨ns, k⟩, rfl, h0, q⟩ := h
  walk_at "go"
  by_cases hk : k < ns.length
  · simp only [decide_eq_true hk, ix_ints h0 hk, if_true]
    exact q _ rfl
  · simp only [decide_eq_false hk]
    have e : ns.getD k.toNat 0 = 0 := by
      have : ns.length ≤ k.toNat := by have h0' : 0 ≤ k := h0; omega
      simp [this]
    have q' := q _ rfl
    dsimp only at q'
    rw [e] at q'
    exact q'

def isI : Dt → Bool
  | .int _ => true
  | _ => false
abbrev sp__law_whole : DSp := specF (fun d : Dt => [d]) (fun d => noFn d = true) fun d => .bl (isI d)
abbrev sp__law_wholes : DSp := specF (fun p : List Int × Int => [.tup (p.1.map Dt.int), .int p.2]) (fun p => p.1.length ≤ 1000) fun p => .bl (decide ((p.1.length : Int) = p.2))
theorem wholes_of {Q : Dt → Prop} (ns : List Int) (k : Int) (h : (ns.length : Int) = k) (hl : ns.length ≤ 1000) (q : Q (.bl true)) : sp__law_wholes [.tup (ns.map Dt.int), .int k] Q :=
  specF_of (ns, k) hl (by dsimp only; rw [decide_eq_true h]; exact q)
theorem wholes2 {Q : Dt → Prop} (p : I2) (q : Q (.bl true)) : sp__law_wholes [t2 p, .int 2] Q := wholes_of [p.1, p.2] 2 rfl (by show 2 ≤ 1000; decide) q
theorem wholes4 {Q : Dt → Prop} (p : I4) (q : Q (.bl true)) : sp__law_wholes [t4 p, .int 4] Q := wholes_of [p.1, p.2.1, p.2.2.1, p.2.2.2] 4 rfl (by show 4 ≤ 1000; decide) q
theorem wholes3 {Q : Dt → Prop} (a b c : Int) (q : Q (.bl true)) : sp__law_wholes [T3 a b c, .int 3] Q := wholes_of [a, b, c] 3 rfl (by show 3 ≤ 1000; decide) q
theorem whole_int {Q : Dt → Prop} (n : Int) (q : Q (.bl true)) : sp__law_whole [.int n] Q := specF_of (Dt.int n) rfl q
theorem ok__law_whole {P : Program} {w : World} {K : PySem.W.Frag} {mg : Str → Option Value} {base : Heap} (T : Txt K mg)
    : Pm P w K mg base 1 "_law_whole" s__law_whole ["_law_found"] sp__law_whole := by
  obtain ⟨f, fd, F⟩ := T.t__law_whole
  refine ⟨f, fd, F, F.fn.okD sc__law_whole (fun ds Q ⟨p, e, _⟩ => by rw [e]; rfl) fun cdv A outer s H E hr => ⟨_, (dss_one (ds_ret (de_and (de_isi T.z_isinstance T.z_int isi_int (dv 0)) (de_one (de_not (de_isi T.z_isinstance T.z_bool isi_bool (dv 0))))))), fun ds Q h => ?_⟩⟩
  obtain ⟨d, rfl, h0, q⟩ := h
  walk_at "go"
  have q' := q _ rfl
  cases d <;> first | exact ⟨rfl, q'⟩ | exact ⟨rfl, rfl, q'⟩ | cases h0
theorem ok__law_wholes {P : Program} {w : World} {K : PySem.W.Frag} {mg : Str → Option Value} {base : Heap} (T : Txt K mg)
    (G__law_whole : Pm P w K mg base 1 "_law_whole" s__law_whole ["_law_found"] sp__law_whole)
    : Pm P w K mg base 2 "_law_wholes" s__law_wholes ["_law_found", "_law_many"] sp__law_wholes := by
  obtain ⟨f, fd, F⟩ := T.t__law_wholes
  refine ⟨f, fd, F, F.fn.okD sc__law_wholes (fun ds Q ⟨p, e, _⟩ => by rw [e]; rfl) fun cdv A outer s H E hr => ⟨_, (dss_cons (ds_if (DW.dt (dw_or (dt_not (dt_val (de_isi T.z_isinstance T.z_tuple isi_tuple (dv 0)))) (dw_or1 (dt_ne hr.units (de_len T.z_len (da_cons (dv 0) da_nil)) (dv 1))))) (dss_one (ds_ret de_bl)) dss_nil) (dss_one (ds_ret (de_eq hr.units (de_len T.z_len (da_cons (de_compI (comp_side (sc := defScope s__law_wholes) (NN := ["_law_found", "_law_many"]) (x := "_law_one") (N := []) (sl := []) rfl rfl (by decide +kernel)) rfl (di_tup (dv 0)) (fun cl C s0 H0 ex => (dt_val (de_callP spec_mono G__law_whole (hr.mono (by decide)) rfl (da_cons (dv 0) da_nil)))) (fun cl C s0 H0 ex => (dv 0))) da_nil)) (dv 1))))), fun ds Q h => ?_⟩⟩
  obtain ⟨⟨ns, k⟩, rfl, h0, q⟩ := h
  walk_at "go"
  have q' := q _ rfl
  dsimp only at q'
  by_cases hk : (ns.length : Int) = k
  · rw [decide_eq_true hk] at q'
    simp only [decide_eq_true hk]
    walk_at "rd"
    refine dComp_filter (ns.map Dt.int) isI id (fun R h => h) (by rw [List.length_map]; exact size_ok h0) caught_nil (fun d hd R hR => ?_) (fun d hd hp R hR => hR) ?_
    · unfold inner
      walk_at "rd"
      obtain ⟨n, _, rfl⟩ := List.mem_map.mp hd
      exact specF_of (Dt.int n) rfl hR
    · have e : (List.filter isI (ns.map Dt.int)).map id = ns.map Dt.int := by
        rw [List.map_id, List.filter_eq_self]
        intro d hd
        obtain ⟨n, _, rfl⟩ := List.mem_map.mp hd
        rfl
      rw [e]
      walk_at "rd"
      rw [decide_eq_true hk]
      exact q'
  · rw [decide_eq_false hk] at q'
    simp only [decide_eq_false hk]
    exact q'

abbrev sp__law_turn : DSp := spec (fun p : Int × List Int => [.int p.1, .lst (p.2.map Dt.int)]) (fun p => Bt 100 p.1 ∧ p.2.length ≤ 63) fun _ d => ∃ t : I4, d = t4 t ∧ det t = 1 ∧ B4 500 t
theorem ok__law_turn {P : Program} {w : World} {K : PySem.W.Frag} {mg : Str → Option Value} {base : Heap} (T : Txt K mg)
    : Pm P w K mg base 1 "_law_turn" s__law_turn ["_law_first", "_law_cells"] sp__law_turn := by
  obtain ⟨f, fd, F⟩ := T.t__law_turn
  refine ⟨f, fd, F, F.fn.okD sc__law_turn (fun ds Q ⟨p, e, _⟩ => by rw [e]; rfl) fun cdv A outer s H E hr => ⟨_, (dss_cons (ds_asg (de_tup (da_cons de_int (da_cons (dv 0) (da_cons de_int (da_cons de_int da_nil))))) (dg_tup (n := 4) rfl (dgs_cons (dg_name 2 sc__law_turn.nd) (dgs_cons (dg_name 3 sc__law_turn.nd) (dgs_cons (dg_name 4 sc__law_turn.nd) (dgs_cons (dg_name 5 sc__law_turn.nd) dgs_nil)))))) (dss_cons (ds_for PassesOwn.never rfl (di_lst (dv 1)) (dg_name 6 sc__law_turn.nd) (dss_cons (ds_set 7 sc__law_turn.nd (de_sub (de_mod (dv 6) de_int) de_int)) (dss_one (ds_asg (de_tup (da_cons (dv 3) (da_cons (de_sub (de_mul (dv 7) (dv 3)) (dv 2)) (da_cons (dv 5) (da_cons (de_sub (de_mul (dv 7) (dv 5)) (dv 4)) da_nil))))) (dg_tup (n := 4) rfl (dgs_cons (dg_name 2 sc__law_turn.nd) (dgs_cons (dg_name 3 sc__law_turn.nd) (dgs_cons (dg_name 4 sc__law_turn.nd) (dgs_cons (dg_name 5 sc__law_turn.nd) dgs_nil))))))))) (dss_one (ds_ret (de_tup (da_cons (dv 2) (da_cons (dv 3) (da_cons (dv 4) (da_cons (dv 5) da_nil))))))))), fun ds Q h => ?_⟩⟩
  obtain ⟨⟨f, cs⟩, rfl, ⟨hf, hl⟩, q⟩ := h
  walk_at "go"
  refine ⟨size_ok (by decide), ?_⟩
  refine dFor_of (cs.map Dt.int) (fun R h => h) (fun i ρ => ∃ p q r s x y, ρ = [some (.is (.int f)), some (.is (.lst (cs.map Dt.int))), some (.is (.int p)), some (.is (.int q)), some (.is (.int r)), some (.is (.int s)), x, y] ∧ p * s - q * r = 1 ∧ B4 (101 + 5 * i) (p, q, r, s)) ?_ ?_ ?_
  · exact ⟨1, f, 0, 1, none, none, rfl, by omega, Bt.one.le (by decide), hf.le (by decide), Bt.zero.le (by decide), Bt.one.le (by decide)⟩
  · rintro i d _ hi ⟨p, q, r, s, x, y, rfl, hd, hp, hq, hr, hs⟩
    obtain ⟨n, hn, rfl⟩ := ints_get hi
    have hk : Bt 4 (n.fmod 19 - 9) := by
      have h1 : n.fmod 19 = n % 19 := Int.fmod_eq_emod_of_nonneg n (by decide)
      rw [h1]
      exact Bt.of (by omega) (by omega)
    have hi6 : i < 63 := by
      have := (List.getElem?_eq_some_iff.mp hn).1
      have hl' : cs.length ≤ 63 := hl
      omega
    have hq' : Bt 500 q := hq.le (by omega)
    have hs' : Bt 500 s := hs.le (by omega)
    walk_at "rd"
    refine ⟨by decide, by walk_at "mul", by walk_at "mul", size_ok (by decide), ?_⟩
    refine ⟨q, (n.fmod 19 - 9) * q - p, s, (n.fmod 19 - 9) * s - r, _, _, rfl, by grind, ?_, ?_, ?_, ?_⟩
    · exact hq.le (by omega)
    · exact ((hk.mul hq).sub hp).le (by omega)
    · exact hs.le (by omega)
    · exact ((hk.mul hs).sub hr).le (by omega)
  · rintro _ ⟨p, q', r, s, x, y, rfl, hd, hb⟩
    walk_at "rd"
    refine ⟨size_ok (by decide), q _ ⟨(p, q', r, s), rfl, hd, hb.le ?_⟩⟩
    rw [List.length_map]
    have hl' : cs.length ≤ 63 := hl
    omega

abbrev sp__law_value : DSp := specF (fun p : I3 × I2 => [t3 p.1, .int p.2.1, .int p.2.2]) (fun p => B3 20000 p.1 ∧ B2 20000 p.2) fun p => .int (val p.1 p.2)
theorem ok__law_value {P : Program} {w : World} {K : PySem.W.Frag} {mg : Str → Option Value} {base : Heap} (T : Txt K mg)
    : Pm P w K mg base 1 "_law_value" s__law_value ["_law_form", "_law_x", "_law_y"] sp__law_value := by
  obtain ⟨f, fd, F⟩ := T.t__law_value
  refine ⟨f, fd, F, F.fn.okD sc__law_value (fun ds Q ⟨p, e, _⟩ => by rw [e]; rfl) fun cdv A outer s H E hr => ⟨_, (dss_one (ds_ret (de_add (de_add (de_mul (de_mul (de_sub_ix (dv 0) de_int) (dv 1)) (dv 1)) (de_mul (de_mul (de_sub_ix (dv 0) de_int) (dv 1)) (dv 2))) (de_mul (de_mul (de_sub_ix (dv 0) de_int) (dv 2)) (dv 2))))), fun ds Q h => ?_⟩⟩
  obtain ⟨⟨⟨a, b, c⟩, x, y⟩, rfl, ⟨⟨ha, hb, hc⟩, hx, hy⟩, q⟩ := h
  walk_at "go"
  walk_at "muls"
  exact q _ rfl
abbrev sp__law_moved : DSp := specF (fun p : I3 × I4 => [t3 p.1, t4 p.2]) (fun p => B3 20000 p.1 ∧ B4 15000 p.2) fun p => t3 (mov p.1 p.2)
theorem ok__law_moved {P : Program} {w : World} {K : PySem.W.Frag} {mg : Str → Option Value} {base : Heap} (T : Txt K mg)
    (G__law_value : Pm P w K mg base 1 "_law_value" s__law_value ["_law_form", "_law_x", "_law_y"] sp__law_value)
    : Pm P w K mg base 2 "_law_moved" s__law_moved ["_law_form", "_law_turn_here"] sp__law_moved := by
  obtain ⟨f, fd, F⟩ := T.t__law_moved
  refine ⟨f, fd, F, F.fn.okD sc__law_moved (fun ds Q ⟨p, e, _⟩ => by rw [e]; rfl) fun cdv A outer s H E hr => ⟨_, (dss_cons (ds_asg (dv 1) (dg_tup (n := 4) rfl (dgs_cons (dg_name 2 sc__law_moved.nd) (dgs_cons (dg_name 3 sc__law_moved.nd) (dgs_cons (dg_name 4 sc__law_moved.nd) (dgs_cons (dg_name 5 sc__law_moved.nd) dgs_nil)))))) (dss_cons (ds_set 6 sc__law_moved.nd (de_sub (de_sub (de_callP spec_mono G__law_value (hr.mono (by decide)) rfl (da_cons (dv 0) (da_cons (de_add (dv 2) (dv 3)) (da_cons (de_add (dv 4) (dv 5)) da_nil)))) (de_callP spec_mono G__law_value (hr.mono (by decide)) rfl (da_cons (dv 0) (da_cons (dv 2) (da_cons (dv 4) da_nil))))) (de_callP spec_mono G__law_value (hr.mono (by decide)) rfl (da_cons (dv 0) (da_cons (dv 3) (da_cons (dv 5) da_nil)))))) (dss_one (ds_ret (de_tup (da_cons (de_callP spec_mono G__law_value (hr.mono (by decide)) rfl (da_cons (dv 0) (da_cons (dv 2) (da_cons (dv 4) da_nil)))) (da_cons (dv 6) (da_cons (de_callP spec_mono G__law_value (hr.mono (by decide)) rfl (da_cons (dv 0) (da_cons (dv 3) (da_cons (dv 5) da_nil)))) da_nil)))))))), fun ds Q h => ?_⟩⟩
  obtain ⟨⟨f, e, g, i, j⟩, rfl, ⟨hf, he, hg, hi, hj⟩, q⟩ := h
  walk_at "go"
  have h1 : B2 20000 (e + g, i + j) := ⟨(he.add hg).le (by decide), (hi.add hj).le (by decide)⟩
  have h2 : B2 20000 (e, i) := ⟨he.le (by decide), hi.le (by decide)⟩
  have h3 : B2 20000 (g, j) := ⟨hg.le (by decide), hj.le (by decide)⟩
  refine specF_of (f, (e + g, i + j)) ⟨hf, h1⟩ (specF_of (f, (e, i)) ⟨hf, h2⟩ ?_)
  walk_at "rd"
  refine specF_of (f, (g, j)) ⟨hf, h3⟩ ?_
  walk_at "rd"
  refine specF_of (f, (e, i)) ⟨hf, h2⟩ (specF_of (f, (g, j)) ⟨hf, h3⟩ ⟨size_ok (by decide), ?_⟩)
  have q' := q _ rfl
  dsimp only [mov] at q'
  have em : val f (e + g, i + j) - val f (e, i) - val f (g, j) = mid f (e, i) (g, j) := by
    obtain ⟨a, b, c⟩ := f
    simp only [val, mid]; grind
  rw [em]
  exact q'

abbrev sp__law_bar : DSp := specF (fun f : I3 => [t3 f]) (B3 20000) fun f => .int (meas f)
theorem ok__law_bar {P : Program} {w : World} {K : PySem.W.Frag} {mg : Str → Option Value} {base : Heap} (T : Txt K mg)
    : Pm P w K mg base 1 "_law_bar" s__law_bar ["_law_form"] sp__law_bar := by
  obtain ⟨f, fd, F⟩ := T.t__law_bar
  refine ⟨f, fd, F, F.fn.okD sc__law_bar (fun ds Q ⟨p, e, _⟩ => by rw [e]; rfl) fun cdv A outer s H E hr => ⟨_, (dss_one (ds_ret (de_sub (de_mul (de_sub_ix (dv 0) de_int) (de_sub_ix (dv 0) de_int)) (de_mul (de_mul de_int (de_sub_ix (dv 0) de_int)) (de_sub_ix (dv 0) de_int))))), fun ds Q h => ?_⟩⟩
  obtain ⟨⟨a, b, c⟩, rfl, ⟨ha, hb, hc⟩, q⟩ := h
  walk_at "go"
  have h2 : Bt 3 4 := Bt.of_abs (by decide)
  exact ⟨by walk_at "mul", by walk_at "mul", by walk_at "mul", q _ rfl⟩
abbrev sp__law_root : DSp := spec (fun n : Int => [.int n]) (fun n => 0 ≤ n ∧ Bt 4000 n) fun n d => ∃ r, d = .int r ∧ Sq n r ∧ Bt 2001 r
theorem ok__law_root {P : Program} {w : World} {K : PySem.W.Frag} {mg : Str → Option Value} {base : Heap} (T : Txt K mg)
    : Pm P w K mg base 1 "_law_root" s__law_root ["_law_number"] sp__law_root := by
  obtain ⟨f, fd, F⟩ := T.t__law_root
  refine ⟨f, fd, F, F.fn.okD sc__law_root (fun ds Q ⟨p, e, _⟩ => by rw [e]; rfl) fun cdv A outer s H E hr => ⟨_, (dss_cons (ds_set 1 sc__law_root.nd (de_shl de_int (de_div (de_add (de_bits (dv 0)) de_int) de_int))) (dss_cons (ds_while PassesOwn.never (dt_gt (de_mul (dv 1) (dv 1)) (dv 0)) (dss_one (ds_set 1 sc__law_root.nd (de_div (de_add (dv 1) (de_div (dv 0) (dv 1))) de_int)))) (dss_one (ds_ret (dv 1))))), fun ds Q h => ?_⟩⟩
  obtain ⟨n, rfl, ⟨h0, hb⟩, q⟩ := h
  walk_at "go"
  obtain ⟨c1, c2, c3⟩ := start_small hb
  have hu := start_up h0
  refine ⟨⟨by decide, by decide⟩, c1, ?_⟩
  generalize (1 * 2 ^ ((((Builtin.Int.intBits n : Nat) : Int) + 1).fdiv 2).toNat : Int) = g at *
  refine while_of (fun m ρ => ∃ g : Int, ρ = [some (.is (.int n)), some (.is (.int g))] ∧ 0 ≤ g ∧ Bt 2001 g ∧ n < (g + 1) * (g + 1) ∧ m = g.toNat) _ ⟨g, rfl, by omega, c2, hu, rfl⟩ ?_
  rintro m _ ⟨g, rfl, hg, hgb, hgu, rfl⟩
  walk_at "rd"
  refine ⟨hgb.mulOk hgb, ite2 (fun hw => ?_) (fun hw => ?_)⟩
  · have hw := of_decide_eq_true hw
    have hg0 : 0 < g := by
      rcases Int.lt_or_le 0 g with z | z
      · exact z
      · have : g = 0 := by omega
        subst this
        omega
    have hd := newton_down hg0 hw
    have hu' := newton_up h0 hg0
    have hp : 0 ≤ (g + n / g) / 2 := by
      have := Int.ediv_nonneg h0 (show 0 ≤ g by omega)
      omega
    have hbb : Bt 2001 ((g + n / g) / 2) := by unfold Bt at *; omega
    refine ⟨Bt.divOk hgb (by omega), ⟨by decide, by decide⟩, ?_⟩
    rw [near_eq hg0]
    exact ⟨_, by omega, _, rfl, hp, hbb, hu', rfl⟩
  · have hw : ¬ n < g * g := fun z => hw (decide_eq_true z)
    exact q _ ⟨g, rfl, ⟨by omega, by omega, hgu⟩, hgb⟩
abbrev sp__law_flat : DSp := spec (fun f : I3 => [t3 f]) (fun f => B3 1500 f ∧ 0 ≤ meas f) fun f d => ∃ b : Bool, d = .bl b ∧ (b = true ↔ isSq (meas f))
theorem meas_bt {f : I3} (hf : B3 1500 f) : Bt 4000 (meas f) := by
  obtain ⟨h1, h2, h3⟩ := hf
  have h4 : Bt 3 4 := Bt.of_abs (by decide)
  exact ((h2.mul h2).sub ((h4.mul h1).mul h3)).le (by decide)
theorem ok__law_flat {P : Program} {w : World} {K : PySem.W.Frag} {mg : Str → Option Value} {base : Heap} (T : Txt K mg)
    (G__law_bar : Pm P w K mg base 1 "_law_bar" s__law_bar ["_law_form"] sp__law_bar)
    (G__law_root : Pm P w K mg base 1 "_law_root" s__law_root ["_law_number"] sp__law_root)
    : Pm P w K mg base 2 "_law_flat" s__law_flat ["_law_form"] sp__law_flat := by
  obtain ⟨f, fd, F⟩ := T.t__law_flat
  refine ⟨f, fd, F, F.fn.okD sc__law_flat (fun ds Q ⟨p, e, _⟩ => by rw [e]; rfl) fun cdv A outer s H E hr => ⟨_, (dss_cons (ds_set 1 sc__law_flat.nd (de_callP spec_mono G__law_bar (hr.mono (by decide)) rfl (da_cons (dv 0) da_nil))) (dss_cons (ds_set 2 sc__law_flat.nd (de_callP spec_mono G__law_root (hr.mono (by decide)) rfl (da_cons (dv 1) da_nil))) (dss_one (ds_ret (de_eq hr.units (de_mul (dv 2) (dv 2)) (dv 1)))))), fun ds Q h => ?_⟩⟩
  obtain ⟨f, rfl, ⟨hf, h0⟩, q⟩ := h
  have hf : B3 1500 f := hf
  walk_at "go"
  refine specF_of f (hf.le (by decide)) (spec_of (meas f) ⟨h0, meas_bt hf⟩ ?_)
  rintro _ ⟨r, rfl, hr, hb⟩
  walk_at "rd"
  exact ⟨hb.mulOk hb, q _ ⟨_, rfl, by rw [isSq_iff hr]; simp⟩⟩
abbrev sp__law_level : DSp := specF (fun p : I3 × Int => [t3 p.1, .int p.2]) (fun p => B3 20000 p.1) fun p => .bl (decide (Level p.1 p.2))
abbrev sp__law_saddle : DSp := spec (fun p : I3 => [.int p.1, .int p.2.1, .int p.2.2]) (fun _ => True) fun _ d => ∃ f : I3, d = t3 f ∧ B3 40 f ∧ 0 ≤ meas f ∧ meas f ≤ 4000 ∧ f.1 ≠ 0
theorem ok__law_saddle {P : Program} {w : World} {K : PySem.W.Frag} {mg : Str → Option Value} {base : Heap} (T : Txt K mg)
    : Pm P w K mg base 1 "_law_saddle" s__law_saddle ["_law_one", "_law_two", "_law_three"] sp__law_saddle := by
  obtain ⟨f, fd, F⟩ := T.t__law_saddle
  refine ⟨f, fd, F, F.fn.okD sc__law_saddle (fun ds Q ⟨p, e, _⟩ => by rw [e]; rfl) fun cdv A outer s H E hr => ⟨_, (dss_cons (ds_set 3 sc__law_saddle.nd (de_sub_ix (de_lst (da_cons de_int (da_cons de_int (da_cons de_int (da_cons (de_add de_int (de_mod (de_div (dv 0) de_int) de_int)) da_nil))))) (de_mod (de_div (dv 0) de_int) de_int))) (dss_cons (ds_set 4 sc__law_saddle.nd (de_sub_ix (de_lst (da_cons de_int (da_cons de_int da_nil))) (de_int1 T.z_int (da_cons (de_or (de_gt (dv 3) de_int) (de_one (de_eq hr.units (de_mod (de_div (dv 0) de_int) de_int) de_int))) da_nil)))) (dss_cons (ds_set 5 sc__law_saddle.nd (de_add de_int (de_mod (de_div (dv 0) de_int) (dv 4)))) (dss_cons (ds_set 6 sc__law_saddle.nd (de_mod (dv 1) (de_mul de_int (dv 5)))) (dss_cons (ds_set 7 sc__law_saddle.nd (de_mod (de_mul (dv 6) (dv 6)) (de_mul de_int (dv 5)))) (dss_cons (ds_set 8 sc__law_saddle.nd (de_div de_int (de_mul (dv 3) (dv 3)))) (dss_cons (ds_set 9 sc__law_saddle.nd (de_add (dv 7) (de_mul (de_mul de_int (dv 5)) (de_mod (dv 2) (de_add de_int (de_div (de_sub (dv 8) (dv 7)) (de_mul de_int (dv 5)))))))) (dss_cons (ds_set 10 sc__law_saddle.nd (de_mul (dv 3) (de_sub de_int (de_mul de_int (de_mod (dv 0) de_int))))) (dss_one (ds_ret (de_tup (da_cons (de_mul (dv 10) (dv 5)) (da_cons (de_mul (dv 3) (dv 6)) (da_cons (de_mul (dv 10) (de_div (de_sub (de_mul (dv 6) (dv 6)) (dv 9)) (de_mul de_int (dv 5)))) da_nil)))))))))))))), fun ds Q h => ?_⟩⟩
  obtain ⟨⟨x, y, z⟩, rfl, _, q⟩ := h
  walk_at "go"
  have r4 := fm_range (x.fdiv 2) (m := 4) (by decide)
  have r5 := fm_range (x.fdiv 8) (m := 5) (by decide)
  have r12 := fm_range (x.fdiv 80) (m := 12) (by decide)
  have r400 := fm_range (x.fdiv 80) (m := 400) (by decide)
  have rs := fm_range x (m := 2) (by decide)
  have hs : 1 - 2 * x.fmod 2 = 1 ∨ 1 - 2 * x.fmod 2 = -1 := by omega
  have hx2 : Bt 2 (x.fmod 2) := bt_small (k := 3) rs.1 (by omega) (by decide)
  obtain ⟨o, eo, ho1, ho6⟩ := ix_pick (zs := [1, 1, 1, 2 + (x.fdiv 8).fmod 5]) (P := fun z => 1 ≤ z ∧ z ≤ 6) r4.1 r4.2 (by
    simp only [List.mem_cons, List.not_mem_nil, or_false]
    rintro z (rfl | rfl | rfl | rfl) <;> omega)
  simp only [List.map_cons, List.map_nil] at eo
  rw [eo]
  walk_at "rd"
  refine ⟨⟨by decide, by decide⟩, by decide, size_ok (by decide), ⟨by decide, by decide⟩, by decide, size_ok (by decide), ?_⟩
  have leaf : ∀ m : Int, 1 ≤ m → m ≤ 400 → (o = 1 ∨ m ≤ 12) → IntMulOk 2 m ∧ 2 * m ≠ 0 ∧ IntMulOk (y.fmod (2 * m)) (y.fmod (2 * m)) ∧ IntMulOk 4 m ∧ 4 * m ≠ 0 ∧ IntMulOk o o ∧ CDv 4000 (o * o) ∧ IntMulOk 4 m ∧ IntMulOk 4 m ∧ CDv (Int.fdiv 4000 (o * o) - (y.fmod (2 * m) * y.fmod (2 * m)).fmod (4 * m)) (4 * m) ∧ 1 + (Int.fdiv 4000 (o * o) - (y.fmod (2 * m) * y.fmod (2 * m)).fmod (4 * m)).fdiv (4 * m) ≠ 0 ∧ IntMulOk (4 * m) (z.fmod (1 + (Int.fdiv 4000 (o * o) - (y.fmod (2 * m) * y.fmod (2 * m)).fmod (4 * m)).fdiv (4 * m))) ∧ (2 : Int) ≠ 0 ∧ IntMulOk 2 (x.fmod 2) ∧ IntMulOk o (1 - 2 * x.fmod 2) ∧ IntMulOk (o * (1 - 2 * x.fmod 2)) m ∧ IntMulOk o (y.fmod (2 * m)) ∧ IntMulOk (y.fmod (2 * m)) (y.fmod (2 * m)) ∧ IntMulOk 4 m ∧ CDv (y.fmod (2 * m) * y.fmod (2 * m) - ((y.fmod (2 * m) * y.fmod (2 * m)).fmod (4 * m) + 4 * m * z.fmod (1 + (Int.fdiv 4000 (o * o) - (y.fmod (2 * m) * y.fmod (2 * m)).fmod (4 * m)).fdiv (4 * m)))) (4 * m) ∧ IntMulOk (o * (1 - 2 * x.fmod 2)) ((y.fmod (2 * m) * y.fmod (2 * m) - ((y.fmod (2 * m) * y.fmod (2 * m)).fmod (4 * m) + 4 * m * z.fmod (1 + (Int.fdiv 4000 (o * o) - (y.fmod (2 * m) * y.fmod (2 * m)).fmod (4 * m)).fdiv (4 * m)))).fdiv (4 * m)) ∧ 3 ≤ sizeLine ∧ Q (T3 (o * (1 - 2 * x.fmod 2) * m) (o * y.fmod (2 * m)) (o * (1 - 2 * x.fmod 2) * ((y.fmod (2 * m) * y.fmod (2 * m) - ((y.fmod (2 * m) * y.fmod (2 * m)).fmod (4 * m) + 4 * m * z.fmod (1 + (Int.fdiv 4000 (o * o) - (y.fmod (2 * m) * y.fmod (2 * m)).fmod (4 * m)).fdiv (4 * m)))).fdiv (4 * m)))) := fun m m1 m4 hmo => by
    obtain ⟨_, _, _, _, rfl, rfl, rfl, rfl, hb, hr', hk, hne, hd, hbar, hmr, p1, p2, p3⟩ := saddle_all (y := y) (z := z) ho1 ho6 m1 m4 hmo hs
    have bm : Bt 9 m := bt_small (k := 400) (by omega) m4 (by decide)
    have bo : Bt 3 o := bt_small (k := 6) (by omega) ho6 (by decide)
    have bb : Bt 10 (y.fmod (2 * m)) := bt_small (k := 800) hb.1 hb.2 (by decide)
    have bk := bt_small (n := 12) (k := 4000) hk.1 hk.2 (by decide)
    have bs : Bt 2 (1 - 2 * x.fmod 2) := by rcases hs with e | e <;> rw [e] <;> exact Bt.of_abs (by decide)
    have two : Bt 2 2 := Bt.of_abs (by decide)
    have four : Bt 3 4 := Bt.of_abs (by decide)
    have oo : 1 ≤ o * o := sq_pos (by omega)
    have d4 := fun x => Bt.divOk (x := x) (four.mul bm) (by omega)
    exact ⟨two.mulOk bm, by omega, bb.mulOk bb, four.mulOk bm, by omega, bo.mulOk bo, Bt.divOk (bo.mul bo) (by omega), four.mulOk bm, four.mulOk bm, d4 _, hne, (four.mul bm).mulOk bk, by decide, two.mulOk hx2, bo.mulOk bs, (bo.mul bs).mulOk bm, bo.mulOk bb, bb.mulOk bb, four.mulOk bm, d4 _, (bo.mul bs).mulOk hd, size_ok (by decide), q _ ⟨(_, _, _), rfl, ⟨((bo.mul bs).mul bm).le (by decide), (bo.mul bb).le (by decide), ((bo.mul bs).mul hd).le (by decide)⟩, p1, p2, p3⟩⟩
  by_cases h1 : 1 < o
  · exact ift (decide_eq_true h1) ⟨⟨by decide, by decide⟩, by decide, leaf _ (by omega) (by omega) (.inr (by omega))⟩
  · refine iff' (decide_eq_false h1) ⟨⟨by decide, by decide⟩, by decide, ?_⟩
    by_cases h2 : (x.fdiv 40).fmod 2 = 1
    · rw [decide_eq_true h2]
      exact ⟨⟨by decide, by decide⟩, by decide, leaf _ (by omega) (by omega) (.inr (by omega))⟩
    · rw [decide_eq_false h2]
      exact ⟨⟨by decide, by decide⟩, by decide, leaf _ (by omega) (by omega) (.inl (by omega))⟩

abbrev sp__law_put : DSp := specF (fun p : I4 × I4 => [t4 p.1, t4 p.2]) (fun p => B4 400000 p.1 ∧ B4 400000 p.2) fun p => t4 (thenV p.1 p.2)
theorem ok__law_put {P : Program} {w : World} {K : PySem.W.Frag} {mg : Str → Option Value} {base : Heap} (T : Txt K mg)
    : Pm P w K mg base 1 "_law_put" s__law_put ["_law_one", "_law_other"] sp__law_put := by
  obtain ⟨f, fd, F⟩ := T.t__law_put
  refine ⟨f, fd, F, F.fn.okD sc__law_put (fun ds Q ⟨p, e, _⟩ => by rw [e]; rfl) fun cdv A outer s H E hr => ⟨_, (dss_cons (ds_asg (dv 0) (dg_tup (n := 4) rfl (dgs_cons (dg_name 2 sc__law_put.nd) (dgs_cons (dg_name 3 sc__law_put.nd) (dgs_cons (dg_name 4 sc__law_put.nd) (dgs_cons (dg_name 5 sc__law_put.nd) dgs_nil)))))) (dss_cons (ds_asg (dv 1) (dg_tup (n := 4) rfl (dgs_cons (dg_name 6 sc__law_put.nd) (dgs_cons (dg_name 7 sc__law_put.nd) (dgs_cons (dg_name 8 sc__law_put.nd) (dgs_cons (dg_name 9 sc__law_put.nd) dgs_nil)))))) (dss_one (ds_ret (de_tup (da_cons (de_add (de_mul (dv 2) (dv 6)) (de_mul (dv 3) (dv 8))) (da_cons (de_add (de_mul (dv 2) (dv 7)) (de_mul (dv 3) (dv 9))) (da_cons (de_add (de_mul (dv 4) (dv 6)) (de_mul (dv 5) (dv 8))) (da_cons (de_add (de_mul (dv 4) (dv 7)) (de_mul (dv 5) (dv 9))) da_nil))))))))), fun ds Q h => ?_⟩⟩
  obtain ⟨⟨⟨a, b, c, d⟩, e, f, g, i⟩, rfl, ⟨⟨ha, hb, hc, hd⟩, he, hf, hg, hi⟩, q⟩ := h
  walk_at "go"
  exact ⟨by walk_at "mul", by walk_at "mul", by walk_at "mul", by walk_at "mul", by walk_at "mul", by walk_at "mul", by walk_at "mul", by walk_at "mul", size_ok (by decide), q _ rfl⟩
def toldD (t : I4) : Dt := if det t = 1 then xOwn t else xTurn t
abbrev sp__law_told : DSp := specF (fun p : I3 × I4 => [t3 p.1, t4 p.2]) (fun p => B3 1500 p.1 ∧ Sad p.1 ∧ B4 300000 p.2 ∧ ¬ (det p.2 = 1 ∧ mov p.1 p.2 = p.1)) fun p => toldD p.2
theorem ok__law_told {P : Program} {w : World} {K : PySem.W.Frag} {mg : Str → Option Value} {base : Heap} (T : Txt K mg)
    (GX_power_of : PmX P w K mg base 10 "power_of" s_power_of ["form", "turn"] spx_power_of)
    : Pm P w K mg base 11 "_law_told" s__law_told ["_law_form", "_law_turn_here"] sp__law_told := by
  obtain ⟨f, fd, F⟩ := T.t__law_told
  obtain ⟨U_FormError, u_FormError⟩ := T.u_FormError
  refine ⟨f, fd, F, F.fn.okD sc__law_told (fun ds Q ⟨p, e, _⟩ => by rw [e]; rfl) fun cdv A outer s H E hr => ⟨_, (dss_cons (ds_set 2 sc__law_told.nd de_non) (dss_cons (ds_calm (dsx_try 3 u_FormError sc__law_told.nd (fun W pn => (dssx_one (dsx_expr (dex_call specX_mono GX_power_of (hr.mono (by decide)) rfl (da_cons (dv 0) (da_cons (dv 1) da_nil)))))) (fun a => (dss_one (ds_set 2 sc__law_told.nd (dv 3)))))) (dss_one (ds_ret (dv 2))))), fun ds Q h => ?_⟩⟩
  obtain ⟨⟨f, t⟩, rfl, ⟨hf, hS, hb, hn⟩, q⟩ := h
  have hn : ¬ (det t = 1 ∧ mov f t = f) := hn
  have q' : Q (toldD t) := q _ rfl
  have u1 := T.un_NoTurn_FormError
  have u2 := T.un_NotOwn_FormError
  walk_at "go"
  refine specX_of (f, t, t, 0, 0, true) ⟨hf, hS, hb, fun z w => absurd ⟨z, w⟩ hn⟩ (fun z => absurd z hn) fun _ => ?_
  unfold toldD at q'
  by_cases hd : det t = 1
  · rw [if_pos hd] at q'
    dsimp only
    rw [if_pos hd]
    exact ⟨u2, q'⟩
  · rw [if_neg hd] at q'
    dsimp only
    rw [if_neg hd]
    exact ⟨u1, q'⟩
abbrev sp__law_refused : DSp := specF (fun p : I3 × I4 × Bool => [t3 p.1, t4 p.2.1, .bl p.2.2]) (fun p => B3 1500 p.1 ∧ Sad p.1 ∧ B4 300000 p.2.1 ∧ ¬ (det p.2.1 = 1 ∧ mov p.1 p.2.1 = p.1) ∧ (p.2.2 = true ↔ det p.2.1 = 1)) fun _ => .bl true
theorem ok__law_refused {P : Program} {w : World} {K : PySem.W.Frag} {mg : Str → Option Value} {base : Heap} (T : Txt K mg)
    (G__law_told : Pm P w K mg base 11 "_law_told" s__law_told ["_law_form", "_law_turn_here"] sp__law_told)
    : Pm P w K mg base 12 "_law_refused" s__law_refused ["_law_form", "_law_turn_here", "_law_own"] sp__law_refused := by
  obtain ⟨f, fd, F⟩ := T.t__law_refused
  obtain ⟨A_Apart, m_Apart, b_NoTurn_Apart, b_NotOwn_Apart⟩ := T.c_Apart
  obtain ⟨A_NoAnswer, m_NoAnswer, b_NoTurn_NoAnswer, b_NotOwn_NoAnswer⟩ := T.c_NoAnswer
  obtain ⟨A_NoMeasure, m_NoMeasure, b_NoTurn_NoMeasure, b_NotOwn_NoMeasure⟩ := T.c_NoMeasure
  obtain ⟨A_NoRoot, m_NoRoot, b_NoTurn_NoRoot, b_NotOwn_NoRoot⟩ := T.c_NoRoot
  obtain ⟨A_NoShape, m_NoShape, b_NoTurn_NoShape, b_NotOwn_NoShape⟩ := T.c_NoShape
  obtain ⟨A_NoTurn, m_NoTurn, b_NoTurn_NoTurn, b_NotOwn_NoTurn⟩ := T.c_NoTurn
  obtain ⟨A_NotLevel, m_NotLevel, b_NoTurn_NotLevel, b_NotOwn_NotLevel⟩ := T.c_NotLevel
  obtain ⟨A_NotOwn, m_NotOwn, b_NoTurn_NotOwn, b_NotOwn_NotOwn⟩ := T.c_NotOwn
  obtain ⟨A_NotPlain, m_NotPlain, b_NoTurn_NotPlain, b_NotOwn_NotPlain⟩ := T.c_NotPlain
  obtain ⟨A_Nought, m_Nought, b_NoTurn_Nought, b_NotOwn_Nought⟩ := T.c_Nought
  obtain ⟨A_TooGreat, m_TooGreat, b_NoTurn_TooGreat, b_NotOwn_TooGreat⟩ := T.c_TooGreat
  refine ⟨f, fd, F, F.fn.okD sc__law_refused (fun ds Q ⟨p, e, _⟩ => by rw [e]; rfl) fun cdv A outer s H E hr => ⟨_, (dss_cons (ds_set 3 sc__law_refused.nd (de_callP spec_mono G__law_told (hr.mono (by decide)) rfl (da_cons (dv 0) (da_cons (dv 1) da_nil)))) (dss_cons (ds_if (DW.dt (dw_or (DW.dt (dw_and (dt_val (dv 2)) (dw_and1 (dt_not (dt_val (de_isx T.z_isinstance (da_cons (dv 3) (da_cons (de_class m_NotOwn) da_nil)))))))) (dw_or1 (DW.dt (dw_and (dt_not (dt_val (dv 2))) (dw_and1 (dt_not (dt_val (de_isx T.z_isinstance (da_cons (dv 3) (da_cons (de_class m_NoTurn) da_nil))))))))))) (dss_one (ds_ret de_bl)) dss_nil) (dss_cons (ds_if (dt_val (de_isxs T.z_isinstance (da_cons (dv 3) (da_cons (de_tup (da_cons (de_class m_Apart) (da_cons (de_class m_NoAnswer) (da_cons (de_class m_NoMeasure) (da_cons (de_class m_NoRoot) (da_cons (de_class m_NoShape) (da_cons (de_class m_NotLevel) (da_cons (de_class m_NotPlain) (da_cons (de_class m_Nought) (da_cons (de_class m_TooGreat) da_nil)))))))))) da_nil)))) (dss_one (ds_ret de_bl)) dss_nil) (dss_cons (ds_if (DW.dt (dw_or (DW.dt (dw_and (dt_val (de_isx T.z_isinstance (da_cons (dv 3) (da_cons (de_class m_NotOwn) da_nil)))) (dw_and1 (dt_val (de_isx T.z_isinstance (da_cons (dv 3) (da_cons (de_class m_NoTurn) da_nil))))))) (dw_or1 (dt_not (dt_val (de_isv T.z_isinstance T.z_ValueError (dv 3))))))) (dss_one (ds_ret de_bl)) dss_nil) (dss_one (ds_ret (de_eq hr.units (de_xfld (dv 3)) (dv 1)))))))), fun ds Q h => ?_⟩⟩
  obtain ⟨⟨f, t, own⟩, rfl, ⟨hf, hS, hb, hn, hw⟩, q⟩ := h
  have hw : own = true ↔ det t = 1 := hw
  have q' : Q (.bl true) := q _ rfl
  have n1 : NoAt K "NoTurn" "turn" := T.nf_NoTurn_turn
  have n2 : NoAt K "NotOwn" "turn" := T.nf_NotOwn_turn
  walk_at "go"
  refine specF_of (f, t) ⟨hf, hS, hb, hn⟩ ?_
  have fl : Dt.flat 8 (t4 t) = true := by simp only [flat_t8, flats_c, flats_n, flat_i, Bool.and_true]
  cases own with
  | true =>
    have hd := hw.mp rfl
    have e : toldD t = xOwn t := if_pos hd
    dsimp only
    rw [e]
    walk_at "rd"
    refine ⟨true, b_NotOwn_NotOwn, iff' rfl ⟨size_ok (by decide), [A_Apart, A_NoAnswer, A_NoMeasure, A_NoRoot, A_NoShape, A_NotLevel, A_NotPlain, A_Nought, A_TooGreat], false, rfl, ?_, iff' rfl ⟨true, b_NotOwn_NotOwn, ift rfl ⟨false, b_NotOwn_NoTurn, iff' rfl ⟨n2, t4 t, rfl, fl, ?_⟩⟩⟩⟩⟩
    · exact .cons b_NotOwn_Apart (.cons b_NotOwn_NoAnswer (.cons b_NotOwn_NoMeasure (.cons b_NotOwn_NoRoot (.cons b_NotOwn_NoShape (.cons b_NotOwn_NotLevel (.cons b_NotOwn_NotPlain (.cons b_NotOwn_Nought (.cons b_NotOwn_TooGreat .nil))))))))
    · rw [eq_t4, decide_eq_true rfl]
      exact q'
  | false =>
    have hd : ¬ det t = 1 := fun z => by cases hw.mpr z
    have e : toldD t = xTurn t := if_neg hd
    dsimp only
    rw [e]
    walk_at "rd"
    refine ⟨true, b_NoTurn_NoTurn, iff' rfl ⟨size_ok (by decide), [A_Apart, A_NoAnswer, A_NoMeasure, A_NoRoot, A_NoShape, A_NotLevel, A_NotPlain, A_Nought, A_TooGreat], false, rfl, ?_, iff' rfl ⟨false, b_NoTurn_NotOwn, iff' rfl ⟨n1, t4 t, rfl, fl, ?_⟩⟩⟩⟩
    · exact .cons b_NoTurn_Apart (.cons b_NoTurn_NoAnswer (.cons b_NoTurn_NoMeasure (.cons b_NoTurn_NoRoot (.cons b_NoTurn_NoShape (.cons b_NoTurn_NotLevel (.cons b_NoTurn_NotPlain (.cons b_NoTurn_Nought (.cons b_NoTurn_TooGreat .nil))))))))
    · rw [eq_t4, decide_eq_true rfl]
      exact q'
theorem far30 (x : Int) : Bt 100 (x.fmod (2 * 10 ^ Int.toNat 30 + 1) - 10 ^ Int.toNat 30) := by
  have h := fm_range x (m := 2 * 10 ^ Int.toNat 30 + 1) (by decide)
  have e : (10 ^ Int.toNat 30 : Int) < 2 ^ 100 := by decide
  exact Bt.of (by omega) (by omega)
theorem sad_of {f : I3} (h0 : 0 ≤ meas f) (h4 : meas f ≤ 4000) (hn : ¬ isSq (meas f)) : Sad f := ⟨hn, by
  rcases Int.lt_or_le 0 (meas f) with z | z
  · exact z
  · exact absurd ⟨0, by omega⟩ hn, h4⟩
theorem ok_law {P : Program} {w : World} {K : PySem.W.Frag} {mg : Str → Option Value} {base : Heap} (T : Txt K mg)
    (G__law_saddle : Pm P w K mg base 1 "_law_saddle" s__law_saddle ["_law_one", "_law_two", "_law_three"] sp__law_saddle)
    (G__law_flat : Pm P w K mg base 2 "_law_flat" s__law_flat ["_law_form"] sp__law_flat)
    (G__law_moved : Pm P w K mg base 2 "_law_moved" s__law_moved ["_law_form", "_law_turn_here"] sp__law_moved)
    (G_step_of : Pm P w K mg base 9 "step_of" s_step_of ["form"] sp_step_of)
    (G_power_of : Pm P w K mg base 10 "power_of" s_power_of ["form", "turn"] sp_power_of)
    (G__law_put : Pm P w K mg base 1 "_law_put" s__law_put ["_law_one", "_law_other"] sp__law_put)
    (G__law_cell : Pm P w K mg base 1 "_law_cell" s__law_cell ["_law_script", "_law_k"] sp__law_cell)
    (G__law_turn : Pm P w K mg base 1 "_law_turn" s__law_turn ["_law_first", "_law_cells"] sp__law_turn)
    (G__law_wholes : Pm P w K mg base 2 "_law_wholes" s__law_wholes ["_law_found", "_law_many"] sp__law_wholes)
    (G__law_refused : Pm P w K mg base 12 "_law_refused" s__law_refused ["_law_form", "_law_turn_here", "_law_own"] sp__law_refused)
    : Pm P w K mg base 13 "law" s_law ["_law_script"] sp_law := by
  obtain ⟨f, fd, F⟩ := T.t_law
  refine ⟨f, fd, F, F.fn.okD sc_law (fun ds Q ⟨p, e, _⟩ => by rw [e]; rfl) fun cdv A outer s H E hr => ⟨_, (dss_cons (ds_set 1 sc_law.nd (de_callP spec_mono G__law_saddle (hr.mono (by decide)) rfl (da_cons (de_callP spec_mono G__law_cell (hr.mono (by decide)) rfl (da_cons (dv 0) (da_cons de_int da_nil))) (da_cons (de_callP spec_mono G__law_cell (hr.mono (by decide)) rfl (da_cons (dv 0) (da_cons de_int da_nil))) (da_cons (de_callP spec_mono G__law_cell (hr.mono (by decide)) rfl (da_cons (dv 0) (da_cons de_int da_nil))) da_nil))))) (dss_cons (ds_if (dt_val (de_callP spec_mono G__law_flat (hr.mono (by decide)) rfl (da_cons (dv 1) da_nil))) (dss_one (ds_ret de_bl)) dss_nil) (dss_cons (ds_set 2 sc_law.nd (de_sub (de_mod (de_callP spec_mono G__law_cell (hr.mono (by decide)) rfl (da_cons (dv 0) (da_cons de_int da_nil))) (de_add (de_mul de_int (de_pow de_int de_int)) de_int)) (de_pow de_int de_int))) (dss_cons (ds_set 1 sc_law.nd (de_callP spec_mono G__law_moved (hr.mono (by decide)) rfl (da_cons (dv 1) (da_cons (de_callP spec_mono G__law_turn (hr.mono (by decide)) rfl (da_cons (dv 2) (da_cons (de_slice (dv 0) (dp_some de_int) (dp_some de_int)) da_nil))) da_nil)))) (dss_cons (ds_set 3 sc_law.nd (de_sub de_int (de_mul de_int (de_mod (de_callP spec_mono G__law_cell (hr.mono (by decide)) rfl (da_cons (dv 0) (da_cons de_int da_nil))) de_int)))) (dss_cons (ds_set 4 sc_law.nd (de_callP spec_mono G_step_of (hr.mono (by decide)) rfl (da_cons (dv 1) da_nil))) (dss_cons (ds_if (dt_not (dt_val (de_callP spec_mono G__law_wholes (hr.mono (by decide)) rfl (da_cons (dv 4) (da_cons de_int da_nil))))) (dss_one (ds_ret de_bl)) dss_nil) (dss_cons (ds_set 5 sc_law.nd (de_sub (de_mod (de_callP spec_mono G__law_cell (hr.mono (by decide)) rfl (da_cons (dv 0) (da_cons de_int da_nil))) de_int) de_int)) (dss_cons (ds_if (dt_lt (de_add (de_sub_ix (dv 4) de_int) (de_sub_ix (dv 4) de_int)) (de_pow de_int de_int)) (dss_one (ds_set 5 sc_law.nd (de_sub (de_mod (de_callP spec_mono G__law_cell (hr.mono (by decide)) rfl (da_cons (dv 0) (da_cons de_int da_nil))) de_int) de_int))) dss_nil) (dss_cons (ds_if (dt_lt (dv 5) de_int) (dss_one (ds_set 4 sc_law.nd (de_tup (da_cons (de_sub_ix (dv 4) de_int) (da_cons (de_sub de_int (de_sub_ix (dv 4) de_int)) (da_cons (de_sub de_int (de_sub_ix (dv 4) de_int)) (da_cons (de_sub_ix (dv 4) de_int) da_nil))))))) dss_nil) (dss_cons (ds_set 6 sc_law.nd (de_tup (da_cons (dv 3) (da_cons de_int (da_cons de_int (da_cons (dv 3) da_nil)))))) (dss_cons (ds_for PassesOwn.never rfl (di_rng1 rfl T.z_range (da_cons (de_abs T.z_abs (da_cons (dv 5) da_nil)) da_nil)) (dg_name 7 sc_law.nd) (dss_one (ds_set 6 sc_law.nd (de_callP spec_mono G__law_put (hr.mono (by decide)) rfl (da_cons (dv 6) (da_cons (dv 4) da_nil)))))) (dss_cons (ds_set 8 sc_law.nd (de_callP spec_mono G_power_of (hr.mono (by decide)) rfl (da_cons (dv 1) (da_cons (dv 6) da_nil)))) (dss_cons (ds_if (DW.dt (dw_or (dt_not (dt_val (de_callP spec_mono G__law_wholes (hr.mono (by decide)) rfl (da_cons (dv 8) (da_cons de_int da_nil))))) (dw_or1 (dt_ne hr.units (dv 8) (de_tup (da_cons (dv 3) (da_cons (dv 5) da_nil))))))) (dss_one (ds_ret de_bl)) dss_nil) (dss_cons (ds_set 9 sc_law.nd (de_callP spec_mono G__law_put (hr.mono (by decide)) rfl (da_cons (dv 6) (da_cons (de_tup (da_cons de_int (da_cons (de_add de_int (de_mod (de_div (de_callP spec_mono G__law_cell (hr.mono (by decide)) rfl (da_cons (dv 0) (da_cons de_int da_nil))) de_int) (de_pow de_int de_int))) (da_cons de_int (da_cons de_int da_nil))))) da_nil)))) (dss_cons (ds_if (dt_not (dt_val (de_callP spec_mono G__law_refused (hr.mono (by decide)) rfl (da_cons (dv 1) (da_cons (dv 9) (da_cons de_bl da_nil)))))) (dss_one (ds_ret de_bl)) dss_nil) (dss_cons (ds_set 10 sc_law.nd (de_tup (da_cons (de_sub_ix (dv 6) de_int) (da_cons (de_sub_ix (dv 6) de_int) (da_cons (de_add (de_sub_ix (dv 6) de_int) (de_sub_ix (dv 6) de_int)) (da_cons (de_add (de_add (de_sub_ix (dv 6) de_int) (de_sub_ix (dv 6) de_int)) (de_sub_ix (dv 6) de_int)) da_nil)))))) (dss_cons (ds_if (DW.dt (dw_and (dt_ne hr.units (de_sub_ix (dv 10) de_int) de_int) (dw_and1 (dt_not (dt_val (de_callP spec_mono G__law_refused (hr.mono (by decide)) rfl (da_cons (dv 1) (da_cons (dv 10) (da_cons de_bl da_nil))))))))) (dss_one (ds_ret de_bl)) dss_nil) (dss_one (ds_ret (de_eq hr.units (de_callP spec_mono G_power_of (hr.mono (by decide)) rfl (da_cons (dv 1) (da_cons (dv 6) da_nil))) (dv 8)))))))))))))))))))))), fun ds Q h => ?_⟩⟩
  obtain ⟨ns, rfl, hn, q⟩ := h
  have hn : ns.length ≤ 63 := hn
  have q' : Q (.bl true) := q _ rfl
  have cp : CPow 10 30 := ⟨by decide, by decide, by decide⟩
  have cp2 : CPow 10 20 := ⟨by decide, by decide, by decide⟩
  have m3 : IntMulOk 2 (10 ^ Int.toNat 30) := Bt.mulOk (n := 2) (m := 100) (by unfold Bt; decide) (by unfold Bt; decide)
  walk_at "go"
  refine cell_of ns 0 (by decide) (cell_of ns 1 (by decide) (cell_of ns 2 (by decide) (spec_of (_, _, _) trivial ?_)))
  rintro _ ⟨f0, rfl, hf0, h0, h4, _⟩
  refine spec_of f0 ⟨hf0.le (by decide), h0⟩ ?_
  rintro _ ⟨b, rfl, hb⟩
  walk_at "rd"
  refine ite2 (fun _ => q') (fun hb' => ?_)
  have hS0 := sad_of h0 h4 fun z => hb' (hb.mpr z)
  refine cell_of ns 3 (by decide) ⟨cp, m3, ?_⟩
  walk_at "rd"
  obtain ⟨cs, ec, hcs⟩ := cut_ints ns (some 6) (some 64)
  rw [ec]
  refine ⟨by decide, cp, spec_of (_, cs) ⟨far30 _, by show cs.length ≤ 63; omega⟩ ?_⟩
  rintro _ ⟨t, rfl, dt, bt'⟩
  refine specF_of (f0, t) ⟨hf0.le (by decide), bt'.le (by decide)⟩ ?_
  have hf : B3 1500 (mov f0 t) := (B3.mov hf0 bt').le (by decide)
  have hS := hS0.mov dt
  dsimp only
  generalize mov f0 t = f at *
  have ha := sad_a hS
  refine cell_of ns 5 (by decide) ?_
  walk_at "rd"
  generalize ns.getD (Int.toNat 5) 0 = c5 at *
  have r5 := fm_range c5 (m := 2) (by decide)
  have hz : 1 - 2 * c5.fmod 2 = 1 ∨ 1 - 2 * c5.fmod 2 = -1 := by omega
  have b5 : Bt 2 (c5.fmod 2) := Bt.of (by omega) (by omega)
  refine ⟨by decide, (Bt.of_abs (n := 2) (by decide) : Bt 2 2).mulOk b5, ?_⟩
  generalize 1 - 2 * c5.fmod 2 = z at *
  refine spec_of f ⟨hf, hS⟩ ?_
  rintro _ ⟨t0, far, N0, v, R, rfl, hv, _, _⟩
  obtain ⟨s, es, S⟩ := stepT_of hS hf R hv
  have SO : StepOf f s := ⟨t0, far, N0, v, R, es.symm, hv⟩
  rw [es]
  refine wholes4 s ?_
  walk_at "rd"
  have r19 := fm_range (ns.getD (Int.toNat 4) 0) (m := 19) (by decide)
  have r121 := fm_range (ns.getD (Int.toNat 4) 0) (m := 121) (by decide)
  have sz : ∀ (s' : I4), B4 2100 s' → ∀ i, i ≤ 60 → B4 200000 (tw z s' i) := fun s' hs' i hi => by
    have bz : Bt 2 z := by rcases hz with e | e <;> rw [e] <;> exact Bt.of_abs (by decide)
    have b4 : B4 2 (z, 0, 0, z) := ⟨bz, Bt.zero.le (by decide), Bt.zero.le (by decide), bz⟩
    exact (B4.then b4 (pw_bt hs' i)).le (by omega)
  refine cell_of ns 4 (by decide) ⟨by decide, cp2, ite2 (fun _ => cell_of ns 4 (by decide) ⟨by decide, ?_⟩) (fun _ => ?_)⟩
  case' refine_1 =>
    obtain ⟨c, ec', c1, c2⟩ : ∃ c : Int, (ns.getD (Int.toNat 4) 0).fmod 121 - 60 = c ∧ -60 ≤ c ∧ c ≤ 60 := ⟨_, rfl, by omega, by omega⟩
    rw [ec']
  case' refine_2 =>
    obtain ⟨c, ec', c1, c2⟩ : ∃ c : Int, (ns.getD (Int.toNat 4) 0).fmod 19 - 9 = c ∧ -60 ≤ c ∧ c ≤ 60 := ⟨_, rfl, by omega, by omega⟩
    rw [ec']
  all_goals
    refine ite2 (fun hw => ⟨size_ok (by decide), size_ok (by decide), ?_⟩) (fun hw => ⟨size_ok (by decide), ?_⟩)
    case' refine_1 =>
      have hw := of_decide_eq_true hw
      have eb : Dt.tup [.int s.2.2.2, .int (0 - s.2.1), .int (0 - s.2.2.1), .int s.1] = t4 (backV s) := by
        show Dt.tup [.int s.2.2.2, .int (0 - s.2.1), .int (0 - s.2.2.1), .int s.1] = Dt.tup [.int s.2.2.2, .int (-s.2.1), .int (-s.2.2.1), .int s.1]
        rw [Int.zero_sub, Int.zero_sub]
      rw [eb]
      obtain ⟨neg, hneg⟩ : ∃ neg : Bool, neg = true := ⟨true, rfl⟩
      obtain ⟨s', hs', d', o', b'⟩ : ∃ s', s' = (if neg = true then backV s else s) ∧ det s' = 1 ∧ mov f s' = f ∧ B4 2100 s' := ⟨_, rfl, by rw [if_pos hneg, det_back, S.d], by rw [if_pos hneg]; have := mov_back (f := f) S.d; rw [S.o] at this; exact this, by rw [if_pos hneg]; exact S.b.back⟩
      have e' : backV s = s' := by rw [hs', if_pos hneg]
      rw [e']
      obtain ⟨N, hN, hN6, hp⟩ : ∃ N : Nat, c = cntI N neg ∧ N ≤ 60 ∧ (neg = true → 1 ≤ N) := ⟨(-c).toNat, by rw [hneg]; show c = -(((-c).toNat : Nat) : Int); omega, by omega, fun _ => by omega⟩
    case' refine_2 =>
      have hw : ¬ c < 0 := fun z => hw (decide_eq_true z)
      obtain ⟨neg, hneg⟩ : ∃ neg : Bool, neg = false := ⟨false, rfl⟩
      have nn : ¬ neg = true := by rw [hneg]; decide
      obtain ⟨s', hs', d', o', b'⟩ : ∃ s', s' = (if neg = true then backV s else s) ∧ det s' = 1 ∧ mov f s' = f ∧ B4 2100 s' := ⟨_, rfl, by rw [if_neg nn]; exact S.d, by rw [if_neg nn]; exact S.o, by rw [if_neg nn]; exact S.b⟩
      have e' : s = s' := by rw [hs', if_neg nn]
      have et : t4 s = t4 s' := by rw [← e']
      rw [et]
      obtain ⟨N, hN, hN6, hp⟩ : ∃ N : Nat, c = cntI N neg ∧ N ≤ 60 ∧ (neg = true → 1 ≤ N) := ⟨c.toNat, by rw [hneg]; show c = ((c.toNat : Nat) : Int); omega, by omega, fun h => by rw [hneg] at h; cases h⟩
    all_goals
      have eab : (if c < 0 then -c else c) = (N : Int) := by
        rw [hN]
        unfold cntI
        split <;> split <;> omega
      have bts := sz s' b'
      have PW : PwOf f (tw z s' N) s z N neg := ⟨SO, hN6, hz, by rw [hs'], hp⟩
      have dX := tw_det (n := N) hz d'
      have oX := tw_own (n := N) hz o'
      have bX := bts N hN6
      refine dFor_of (ups 0 N) (fun R h => ?_) (fun i ρ => ∃ x, i ≤ N ∧ ρ = [some (.is (.lst (ns.map Dt.int))), some (.is (t3 f)), some (.is (.int ((ns.getD (Int.toNat 3) 0).fmod (2 * 10 ^ Int.toNat 30 + 1) - 10 ^ Int.toNat 30))), some (.is (.int z)), some (.is (t4 s')), some (.is (.int c)), some (.is (t4 (tw z s' i))), x, none, none, none]) ⟨none, Nat.zero_le _, ?_⟩ ?_ ?_
      · walk_at "rd"
        rw [eab, Int.toNat_natCast]
        exact ⟨⟨by omega, by omega⟩, h⟩
      · have : tw z s' 0 = (z, 0, 0, z) := then_same
        rw [this]
      · rintro i d _ hi ⟨x, hi', rfl⟩
        obtain ⟨hi, rfl⟩ := ups_get hi
        walk_at "rd"
        refine specF_of (tw z s' i, s') ⟨(bts i (by omega)).le (by decide), b'.le (by decide)⟩ ?_
        dsimp only
        rw [← tw_succ]
        exact ⟨_, by omega, rfl⟩
      · rintro _ ⟨x, _, rfl⟩
        rw [ups_len]
        walk_at "rd"
        refine specF_of (f, tw z s' N, s, z, N, neg) ⟨hf, hS, bX.le (by decide), PW, dX, oX⟩ ?_
        dsimp only
        rw [← hN]
        refine wholes2 (z, c) ?_
        walk_at "rd"
        have k20 := fm_range ((ns.getD (Int.toNat 5) 0).fdiv 2) (m := 10 ^ Int.toNat 20) (by decide)
        have e20 : (10 ^ Int.toNat 20 : Int) < 2 ^ 70 := by decide
        refine ⟨size_ok (by decide), iff' (by simp) (cell_of ns 5 (by decide) ⟨⟨by decide, by decide⟩, cp2, by decide, size_ok (by decide), ?_⟩)⟩
        generalize ((ns.getD (Int.toNat 5) 0).fdiv 2).fmod (10 ^ Int.toNat 20) = k at *
        have bk : Bt 80 (1 + k) := Bt.of (by omega) (by omega)
        have b4k : B4 80 (1, 1 + k, 0, 1) := ⟨Bt.one.le (by decide), bk, Bt.zero.le (by decide), Bt.one.le (by decide)⟩
        have bfar := B4.then bX b4k
        have dfar : det (thenV (tw z s' N) (1, 1 + k, 0, 1)) = 1 := by
          rw [det_then, dX]
          show 1 * (1 * 1 - (1 + k) * 0) = 1
          omega
        have nfar : ¬ (det (thenV (tw z s' N) (1, 1 + k, 0, 1)) = 1 ∧ mov f (thenV (tw z s' N) (1, 1 + k, 0, 1)) = f) := fun w => by
          have h1 := w.2
          rw [← mov_then, oX] at h1
          have h2 := congrArg (fun g : I3 => g.2.1) h1
          have h3 : 2 * f.1 * 1 * (1 + k) + f.2.1 * (1 * 1 + (1 + k) * 0) + 2 * f.2.2 * 0 * 1 = f.2.1 := h2
          have h4 : f.1 * (1 + k) = 0 := by grind
          rcases Int.mul_eq_zero.mp h4 with w | w
          · exact ha w
          · omega
        refine specF_of (tw z s' N, (1, 1 + k, 0, 1)) ⟨bX.le (by decide), b4k.le (by decide)⟩ (specF_of (f, thenV (tw z s' N) (1, 1 + k, 0, 1), true) ⟨hf, hS, bfar.le (by decide), nfar, by simp [dfar]⟩ (iff' rfl ⟨size_ok (by decide), ?_⟩))
        have fl : Dt.flat 8 (T2 z c) = true := by simp only [flat_t8, flats_c, flats_n, flat_i, Bool.and_true]
        have eqq : Dt.eq (T2 z c) (T2 z c) = true := by
          show Dt.eq (t2 (z, c)) (t2 (z, c)) = true
          rw [eq_t2, decide_eq_true rfl]
        refine ite2 (fun hx => ?_) (fun hx => ?_)
        · have x0 : ¬ (tw z s' N).1 = 0 := by simpa using hx
          have df : ¬ det ((tw z s' N).1, (tw z s' N).2.1, (tw z s' N).2.2.1 + (tw z s' N).1, (tw z s' N).2.2.2 + (tw z s' N).2.1 + (tw z s' N).1) = 1 := fun w => by
            have h1 : (tw z s' N).1 * ((tw z s' N).2.2.2 + (tw z s' N).2.1 + (tw z s' N).1) - (tw z s' N).2.1 * ((tw z s' N).2.2.1 + (tw z s' N).1) = 1 := w
            have h2 : (tw z s' N).1 * (tw z s' N).2.2.2 - (tw z s' N).2.1 * (tw z s' N).2.2.1 = 1 := dX
            have h3 := sq_pos x0
            generalize tw z s' N = Y at *
            have : Y.1 * (Y.2.2.2 + Y.2.1 + Y.1) - Y.2.1 * (Y.2.2.1 + Y.1) = (Y.1 * Y.2.2.2 - Y.2.1 * Y.2.2.1) + Y.1 * Y.1 := by grind
            omega
          refine specF_of (f, ((tw z s' N).1, (tw z s' N).2.1, (tw z s' N).2.2.1 + (tw z s' N).1, (tw z s' N).2.2.2 + (tw z s' N).2.1 + (tw z s' N).1), false) ⟨hf, hS, ⟨bX.1.le (by decide), bX.2.1.le (by decide), (bX.2.2.1.add bX.1).le (by decide), ((bX.2.2.2.add bX.2.1).add (bX.1.le (m := 200001) (by decide))).le (by decide)⟩, fun w => df w.1, by simp [df]⟩ (iff' rfl ?_)
          refine specF_of (f, tw z s' N, s, z, N, neg) ⟨hf, hS, bX.le (by decide), PW, dX, oX⟩ ?_
          dsimp only
          rw [← hN]
          refine ⟨fl, ?_⟩
          rw [eqq]
          exact q'
        · refine specF_of (f, tw z s' N, s, z, N, neg) ⟨hf, hS, bX.le (by decide), PW, dX, oX⟩ ?_
          dsimp only
          rw [← hN]
          refine ⟨fl, ?_⟩
          rw [eqq]
          exact q'
set_option maxHeartbeats 8000000 in
theorem all_mk {l : PySem.W.OpenLaw} {w : World} {K : PySem.W.Frag} {h : Heap} {mg : Str → Option Value} {fa : Addr} (X : K.In h) (G : h.Ns mainGlobals mg) (hfa : mg "law" = some (.ref fa))
    {f0 : Addr} {od0 an0 : Option Addr} {sl0 : Array (Option Value)} {oc0 kV0 dc0 pm0 cd0 ct0 : Value}
    (a0 : PySem.W.nsIn K mainGlobals "divisor" = some (some (.ref f0))) (l0 : K.lookup f0 = some ⟨oc0, od0, .func (PySem.W.fnOf "divisor" "divisor" (defArgs s_divisor) (defBody s_divisor) (defScope s_divisor) .none kV0 dc0 pm0 an0 cd0 ct0), sl0⟩) (c0 : PySem.W.codeIn K cd0 "divisor" = true) (k0 : PySem.W.keepIn K (.ref f0) = true)
    {f1 : Addr} {od1 an1 : Option Addr} {sl1 : Array (Option Value)} {oc1 kV1 dc1 pm1 cd1 ct1 : Value}
    (a1 : PySem.W.nsIn K mainGlobals "root" = some (some (.ref f1))) (l1 : K.lookup f1 = some ⟨oc1, od1, .func (PySem.W.fnOf "root" "root" (defArgs s_root) (defBody s_root) (defScope s_root) .none kV1 dc1 pm1 an1 cd1 ct1), sl1⟩) (c1 : PySem.W.codeIn K cd1 "root" = true) (k1 : PySem.W.keepIn K (.ref f1) = true)
    {f2 : Addr} {od2 an2 : Option Addr} {sl2 : Array (Option Value)} {oc2 kV2 dc2 pm2 cd2 ct2 : Value}
    (a2 : PySem.W.nsIn K mainGlobals "is_square" = some (some (.ref f2))) (l2 : K.lookup f2 = some ⟨oc2, od2, .func (PySem.W.fnOf "is_square" "is_square" (defArgs s_is_square) (defBody s_is_square) (defScope s_is_square) .none kV2 dc2 pm2 an2 cd2 ct2), sl2⟩) (c2 : PySem.W.codeIn K cd2 "is_square" = true) (k2 : PySem.W.keepIn K (.ref f2) = true)
    {f3 : Addr} {od3 an3 : Option Addr} {sl3 : Array (Option Value)} {oc3 kV3 dc3 pm3 cd3 ct3 : Value}
    (a3 : PySem.W.nsIn K mainGlobals "check_at_most" = some (some (.ref f3))) (l3 : K.lookup f3 = some ⟨oc3, od3, .func (PySem.W.fnOf "check_at_most" "check_at_most" (defArgs s_check_at_most) (defBody s_check_at_most) (defScope s_check_at_most) .none kV3 dc3 pm3 an3 cd3 ct3), sl3⟩) (c3 : PySem.W.codeIn K cd3 "check_at_most" = true) (k3 : PySem.W.keepIn K (.ref f3) = true)
    {f4 : Addr} {od4 an4 : Option Addr} {sl4 : Array (Option Value)} {oc4 kV4 dc4 pm4 cd4 ct4 : Value}
    (a4 : PySem.W.nsIn K mainGlobals "is_turn" = some (some (.ref f4))) (l4 : K.lookup f4 = some ⟨oc4, od4, .func (PySem.W.fnOf "is_turn" "is_turn" (defArgs s_is_turn) (defBody s_is_turn) (defScope s_is_turn) .none kV4 dc4 pm4 an4 cd4 ct4), sl4⟩) (c4 : PySem.W.codeIn K cd4 "is_turn" = true) (k4 : PySem.W.keepIn K (.ref f4) = true)
    {f5 : Addr} {od5 an5 : Option Addr} {sl5 : Array (Option Value)} {oc5 kV5 dc5 pm5 cd5 ct5 : Value}
    (a5 : PySem.W.nsIn K mainGlobals "check_turn" = some (some (.ref f5))) (l5 : K.lookup f5 = some ⟨oc5, od5, .func (PySem.W.fnOf "check_turn" "check_turn" (defArgs s_check_turn) (defBody s_check_turn) (defScope s_check_turn) .none kV5 dc5 pm5 an5 cd5 ct5), sl5⟩) (c5 : PySem.W.codeIn K cd5 "check_turn" = true) (k5 : PySem.W.keepIn K (.ref f5) = true)
    {f6 : Addr} {od6 an6 : Option Addr} {sl6 : Array (Option Value)} {oc6 kV6 dc6 pm6 cd6 ct6 : Value}
    (a6 : PySem.W.nsIn K mainGlobals "put_behind" = some (some (.ref f6))) (l6 : K.lookup f6 = some ⟨oc6, od6, .func (PySem.W.fnOf "put_behind" "put_behind" (defArgs s_put_behind) (defBody s_put_behind) (defScope s_put_behind) .none kV6 dc6 pm6 an6 cd6 ct6), sl6⟩) (c6 : PySem.W.codeIn K cd6 "put_behind" = true) (k6 : PySem.W.keepIn K (.ref f6) = true)
    {f7 : Addr} {od7 an7 : Option Addr} {sl7 : Array (Option Value)} {oc7 kV7 dc7 pm7 cd7 ct7 : Value}
    (a7 : PySem.W.nsIn K mainGlobals "back" = some (some (.ref f7))) (l7 : K.lookup f7 = some ⟨oc7, od7, .func (PySem.W.fnOf "back" "back" (defArgs s_back) (defBody s_back) (defScope s_back) .none kV7 dc7 pm7 an7 cd7 ct7), sl7⟩) (c7 : PySem.W.codeIn K cd7 "back" = true) (k7 : PySem.W.keepIn K (.ref f7) = true)
    {f8 : Addr} {od8 an8 : Option Addr} {sl8 : Array (Option Value)} {oc8 kV8 dc8 pm8 cd8 ct8 : Value}
    (a8 : PySem.W.nsIn K mainGlobals "measure" = some (some (.ref f8))) (l8 : K.lookup f8 = some ⟨oc8, od8, .func (PySem.W.fnOf "measure" "measure" (defArgs s_measure) (defBody s_measure) (defScope s_measure) .none kV8 dc8 pm8 an8 cd8 ct8), sl8⟩) (c8 : PySem.W.codeIn K cd8 "measure" = true) (k8 : PySem.W.keepIn K (.ref f8) = true)
    {f9 : Addr} {od9 an9 : Option Addr} {sl9 : Array (Option Value)} {oc9 kV9 dc9 pm9 cd9 ct9 : Value}
    (a9 : PySem.W.nsIn K mainGlobals "value" = some (some (.ref f9))) (l9 : K.lookup f9 = some ⟨oc9, od9, .func (PySem.W.fnOf "value" "value" (defArgs s_value) (defBody s_value) (defScope s_value) .none kV9 dc9 pm9 an9 cd9 ct9), sl9⟩) (c9 : PySem.W.codeIn K cd9 "value" = true) (k9 : PySem.W.keepIn K (.ref f9) = true)
    {f10 : Addr} {od10 an10 : Option Addr} {sl10 : Array (Option Value)} {oc10 kV10 dc10 pm10 cd10 ct10 : Value}
    (a10 : PySem.W.nsIn K mainGlobals "content" = some (some (.ref f10))) (l10 : K.lookup f10 = some ⟨oc10, od10, .func (PySem.W.fnOf "content" "content" (defArgs s_content) (defBody s_content) (defScope s_content) .none kV10 dc10 pm10 an10 cd10 ct10), sl10⟩) (c10 : PySem.W.codeIn K cd10 "content" = true) (k10 : PySem.W.keepIn K (.ref f10) = true)
    {f11 : Addr} {od11 an11 : Option Addr} {sl11 : Array (Option Value)} {oc11 kV11 dc11 pm11 cd11 ct11 : Value}
    (a11 : PySem.W.nsIn K mainGlobals "moved" = some (some (.ref f11))) (l11 : K.lookup f11 = some ⟨oc11, od11, .func (PySem.W.fnOf "moved" "moved" (defArgs s_moved) (defBody s_moved) (defScope s_moved) .none kV11 dc11 pm11 an11 cd11 ct11), sl11⟩) (c11 : PySem.W.codeIn K cd11 "moved" = true) (k11 : PySem.W.keepIn K (.ref f11) = true)
    {f12 : Addr} {od12 an12 : Option Addr} {sl12 : Array (Option Value)} {oc12 kV12 dc12 pm12 cd12 ct12 : Value}
    (a12 : PySem.W.nsIn K mainGlobals "middle" = some (some (.ref f12))) (l12 : K.lookup f12 = some ⟨oc12, od12, .func (PySem.W.fnOf "middle" "middle" (defArgs s_middle) (defBody s_middle) (defScope s_middle) .none kV12 dc12 pm12 an12 cd12 ct12), sl12⟩) (c12 : PySem.W.codeIn K cd12 "middle" = true) (k12 : PySem.W.keepIn K (.ref f12) = true)
    {f13 : Addr} {od13 an13 : Option Addr} {sl13 : Array (Option Value)} {oc13 kV13 dc13 pm13 cd13 ct13 : Value}
    (a13 : PySem.W.nsIn K mainGlobals "shape" = some (some (.ref f13))) (l13 : K.lookup f13 = some ⟨oc13, od13, .func (PySem.W.fnOf "shape" "shape" (defArgs s_shape) (defBody s_shape) (defScope s_shape) .none kV13 dc13 pm13 an13 cd13 ct13), sl13⟩) (c13 : PySem.W.codeIn K cd13 "shape" = true) (k13 : PySem.W.keepIn K (.ref f13) = true)
    {f14 : Addr} {od14 an14 : Option Addr} {sl14 : Array (Option Value)} {oc14 kV14 dc14 pm14 cd14 ct14 : Value}
    (a14 : PySem.W.nsIn K mainGlobals "check_saddle" = some (some (.ref f14))) (l14 : K.lookup f14 = some ⟨oc14, od14, .func (PySem.W.fnOf "check_saddle" "check_saddle" (defArgs s_check_saddle) (defBody s_check_saddle) (defScope s_check_saddle) .none kV14 dc14 pm14 an14 cd14 ct14), sl14⟩) (c14 : PySem.W.codeIn K cd14 "check_saddle" = true) (k14 : PySem.W.keepIn K (.ref f14) = true)
    {f15 : Addr} {od15 an15 : Option Addr} {sl15 : Array (Option Value)} {oc15 kV15 dc15 pm15 cd15 ct15 : Value}
    (a15 : PySem.W.nsIn K mainGlobals "stands_level" = some (some (.ref f15))) (l15 : K.lookup f15 = some ⟨oc15, od15, .func (PySem.W.fnOf "stands_level" "stands_level" (defArgs s_stands_level) (defBody s_stands_level) (defScope s_stands_level) .none kV15 dc15 pm15 an15 cd15 ct15), sl15⟩) (c15 : PySem.W.codeIn K cd15 "stands_level" = true) (k15 : PySem.W.keepIn K (.ref f15) = true)
    {f16 : Addr} {od16 an16 : Option Addr} {sl16 : Array (Option Value)} {oc16 kV16 dc16 pm16 cd16 ct16 : Value}
    (a16 : PySem.W.nsIn K mainGlobals "turn_behind" = some (some (.ref f16))) (l16 : K.lookup f16 = some ⟨oc16, od16, .func (PySem.W.fnOf "turn_behind" "turn_behind" (defArgs s_turn_behind) (defBody s_turn_behind) (defScope s_turn_behind) .none kV16 dc16 pm16 an16 cd16 ct16), sl16⟩) (c16 : PySem.W.codeIn K cd16 "turn_behind" = true) (k16 : PySem.W.keepIn K (.ref f16) = true)
    {f17 : Addr} {od17 an17 : Option Addr} {sl17 : Array (Option Value)} {oc17 kV17 dc17 pm17 cd17 ct17 : Value}
    (a17 : PySem.W.nsIn K mainGlobals "stop_behind" = some (some (.ref f17))) (l17 : K.lookup f17 = some ⟨oc17, od17, .func (PySem.W.fnOf "stop_behind" "stop_behind" (defArgs s_stop_behind) (defBody s_stop_behind) (defScope s_stop_behind) .none kV17 dc17 pm17 an17 cd17 ct17), sl17⟩) (c17 : PySem.W.codeIn K cd17 "stop_behind" = true) (k17 : PySem.W.keepIn K (.ref f17) = true)
    {f18 : Addr} {od18 an18 : Option Addr} {sl18 : Array (Option Value)} {oc18 kV18 dc18 pm18 cd18 ct18 : Value}
    (a18 : PySem.W.nsIn K mainGlobals "eased" = some (some (.ref f18))) (l18 : K.lookup f18 = some ⟨oc18, od18, .func (PySem.W.fnOf "eased" "eased" (defArgs s_eased) (defBody s_eased) (defScope s_eased) .none kV18 dc18 pm18 an18 cd18 ct18), sl18⟩) (c18 : PySem.W.codeIn K cd18 "eased" = true) (k18 : PySem.W.keepIn K (.ref f18) = true)
    {f19 : Addr} {od19 an19 : Option Addr} {sl19 : Array (Option Value)} {oc19 kV19 dc19 pm19 cd19 ct19 : Value}
    (a19 : PySem.W.nsIn K mainGlobals "stops_round" = some (some (.ref f19))) (l19 : K.lookup f19 = some ⟨oc19, od19, .func (PySem.W.fnOf "stops_round" "stops_round" (defArgs s_stops_round) (defBody s_stops_round) (defScope s_stops_round) .none kV19 dc19 pm19 an19 cd19 ct19), sl19⟩) (c19 : PySem.W.codeIn K cd19 "stops_round" = true) (k19 : PySem.W.keepIn K (.ref f19) = true)
    {f20 : Addr} {od20 an20 : Option Addr} {sl20 : Array (Option Value)} {oc20 kV20 dc20 pm20 cd20 ct20 : Value}
    (a20 : PySem.W.nsIn K mainGlobals "step_of" = some (some (.ref f20))) (l20 : K.lookup f20 = some ⟨oc20, od20, .func (PySem.W.fnOf "step_of" "step_of" (defArgs s_step_of) (defBody s_step_of) (defScope s_step_of) .none kV20 dc20 pm20 an20 cd20 ct20), sl20⟩) (c20 : PySem.W.codeIn K cd20 "step_of" = true) (k20 : PySem.W.keepIn K (.ref f20) = true)
    {f21 : Addr} {od21 an21 : Option Addr} {sl21 : Array (Option Value)} {oc21 kV21 dc21 pm21 cd21 ct21 : Value}
    (a21 : PySem.W.nsIn K mainGlobals "step_pair" = some (some (.ref f21))) (l21 : K.lookup f21 = some ⟨oc21, od21, .func (PySem.W.fnOf "step_pair" "step_pair" (defArgs s_step_pair) (defBody s_step_pair) (defScope s_step_pair) .none kV21 dc21 pm21 an21 cd21 ct21), sl21⟩) (c21 : PySem.W.codeIn K cd21 "step_pair" = true) (k21 : PySem.W.keepIn K (.ref f21) = true)
    {f22 : Addr} {od22 an22 : Option Addr} {sl22 : Array (Option Value)} {oc22 kV22 dc22 pm22 cd22 ct22 : Value}
    (a22 : PySem.W.nsIn K mainGlobals "power_of" = some (some (.ref f22))) (l22 : K.lookup f22 = some ⟨oc22, od22, .func (PySem.W.fnOf "power_of" "power_of" (defArgs s_power_of) (defBody s_power_of) (defScope s_power_of) .none kV22 dc22 pm22 an22 cd22 ct22), sl22⟩) (c22 : PySem.W.codeIn K cd22 "power_of" = true) (k22 : PySem.W.keepIn K (.ref f22) = true)
    {f23 : Addr} {od23 an23 : Option Addr} {sl23 : Array (Option Value)} {oc23 kV23 dc23 pm23 cd23 ct23 : Value}
    (a23 : PySem.W.nsIn K mainGlobals "count_without_sign" = some (some (.ref f23))) (l23 : K.lookup f23 = some ⟨oc23, od23, .func (PySem.W.fnOf "count_without_sign" "count_without_sign" (defArgs s_count_without_sign) (defBody s_count_without_sign) (defScope s_count_without_sign) .none kV23 dc23 pm23 an23 cd23 ct23), sl23⟩) (c23 : PySem.W.codeIn K cd23 "count_without_sign" = true) (k23 : PySem.W.keepIn K (.ref f23) = true)
    {f24 : Addr} {od24 an24 : Option Addr} {sl24 : Array (Option Value)} {oc24 kV24 dc24 pm24 cd24 ct24 : Value}
    (a24 : PySem.W.nsIn K mainGlobals "_law_cell" = some (some (.ref f24))) (l24 : K.lookup f24 = some ⟨oc24, od24, .func (PySem.W.fnOf "_law_cell" "_law_cell" (defArgs s__law_cell) (defBody s__law_cell) (defScope s__law_cell) .none kV24 dc24 pm24 an24 cd24 ct24), sl24⟩) (c24 : PySem.W.codeIn K cd24 "_law_cell" = true) (k24 : PySem.W.keepIn K (.ref f24) = true)
    {f25 : Addr} {od25 an25 : Option Addr} {sl25 : Array (Option Value)} {oc25 kV25 dc25 pm25 cd25 ct25 : Value}
    (a25 : PySem.W.nsIn K mainGlobals "_law_whole" = some (some (.ref f25))) (l25 : K.lookup f25 = some ⟨oc25, od25, .func (PySem.W.fnOf "_law_whole" "_law_whole" (defArgs s__law_whole) (defBody s__law_whole) (defScope s__law_whole) .none kV25 dc25 pm25 an25 cd25 ct25), sl25⟩) (c25 : PySem.W.codeIn K cd25 "_law_whole" = true) (k25 : PySem.W.keepIn K (.ref f25) = true)
    {f26 : Addr} {od26 an26 : Option Addr} {sl26 : Array (Option Value)} {oc26 kV26 dc26 pm26 cd26 ct26 : Value}
    (a26 : PySem.W.nsIn K mainGlobals "_law_wholes" = some (some (.ref f26))) (l26 : K.lookup f26 = some ⟨oc26, od26, .func (PySem.W.fnOf "_law_wholes" "_law_wholes" (defArgs s__law_wholes) (defBody s__law_wholes) (defScope s__law_wholes) .none kV26 dc26 pm26 an26 cd26 ct26), sl26⟩) (c26 : PySem.W.codeIn K cd26 "_law_wholes" = true) (k26 : PySem.W.keepIn K (.ref f26) = true)
    {f27 : Addr} {od27 an27 : Option Addr} {sl27 : Array (Option Value)} {oc27 kV27 dc27 pm27 cd27 ct27 : Value}
    (a27 : PySem.W.nsIn K mainGlobals "_law_bar" = some (some (.ref f27))) (l27 : K.lookup f27 = some ⟨oc27, od27, .func (PySem.W.fnOf "_law_bar" "_law_bar" (defArgs s__law_bar) (defBody s__law_bar) (defScope s__law_bar) .none kV27 dc27 pm27 an27 cd27 ct27), sl27⟩) (c27 : PySem.W.codeIn K cd27 "_law_bar" = true) (k27 : PySem.W.keepIn K (.ref f27) = true)
    {f28 : Addr} {od28 an28 : Option Addr} {sl28 : Array (Option Value)} {oc28 kV28 dc28 pm28 cd28 ct28 : Value}
    (a28 : PySem.W.nsIn K mainGlobals "_law_root" = some (some (.ref f28))) (l28 : K.lookup f28 = some ⟨oc28, od28, .func (PySem.W.fnOf "_law_root" "_law_root" (defArgs s__law_root) (defBody s__law_root) (defScope s__law_root) .none kV28 dc28 pm28 an28 cd28 ct28), sl28⟩) (c28 : PySem.W.codeIn K cd28 "_law_root" = true) (k28 : PySem.W.keepIn K (.ref f28) = true)
    {f29 : Addr} {od29 an29 : Option Addr} {sl29 : Array (Option Value)} {oc29 kV29 dc29 pm29 cd29 ct29 : Value}
    (a29 : PySem.W.nsIn K mainGlobals "_law_flat" = some (some (.ref f29))) (l29 : K.lookup f29 = some ⟨oc29, od29, .func (PySem.W.fnOf "_law_flat" "_law_flat" (defArgs s__law_flat) (defBody s__law_flat) (defScope s__law_flat) .none kV29 dc29 pm29 an29 cd29 ct29), sl29⟩) (c29 : PySem.W.codeIn K cd29 "_law_flat" = true) (k29 : PySem.W.keepIn K (.ref f29) = true)
    {f30 : Addr} {od30 an30 : Option Addr} {sl30 : Array (Option Value)} {oc30 kV30 dc30 pm30 cd30 ct30 : Value}
    (a30 : PySem.W.nsIn K mainGlobals "_law_turn" = some (some (.ref f30))) (l30 : K.lookup f30 = some ⟨oc30, od30, .func (PySem.W.fnOf "_law_turn" "_law_turn" (defArgs s__law_turn) (defBody s__law_turn) (defScope s__law_turn) .none kV30 dc30 pm30 an30 cd30 ct30), sl30⟩) (c30 : PySem.W.codeIn K cd30 "_law_turn" = true) (k30 : PySem.W.keepIn K (.ref f30) = true)
    {f31 : Addr} {od31 an31 : Option Addr} {sl31 : Array (Option Value)} {oc31 kV31 dc31 pm31 cd31 ct31 : Value}
    (a31 : PySem.W.nsIn K mainGlobals "_law_value" = some (some (.ref f31))) (l31 : K.lookup f31 = some ⟨oc31, od31, .func (PySem.W.fnOf "_law_value" "_law_value" (defArgs s__law_value) (defBody s__law_value) (defScope s__law_value) .none kV31 dc31 pm31 an31 cd31 ct31), sl31⟩) (c31 : PySem.W.codeIn K cd31 "_law_value" = true) (k31 : PySem.W.keepIn K (.ref f31) = true)
    {f32 : Addr} {od32 an32 : Option Addr} {sl32 : Array (Option Value)} {oc32 kV32 dc32 pm32 cd32 ct32 : Value}
    (a32 : PySem.W.nsIn K mainGlobals "_law_moved" = some (some (.ref f32))) (l32 : K.lookup f32 = some ⟨oc32, od32, .func (PySem.W.fnOf "_law_moved" "_law_moved" (defArgs s__law_moved) (defBody s__law_moved) (defScope s__law_moved) .none kV32 dc32 pm32 an32 cd32 ct32), sl32⟩) (c32 : PySem.W.codeIn K cd32 "_law_moved" = true) (k32 : PySem.W.keepIn K (.ref f32) = true)
    {f33 : Addr} {od33 an33 : Option Addr} {sl33 : Array (Option Value)} {oc33 kV33 dc33 pm33 cd33 ct33 : Value}
    (a33 : PySem.W.nsIn K mainGlobals "_law_saddle" = some (some (.ref f33))) (l33 : K.lookup f33 = some ⟨oc33, od33, .func (PySem.W.fnOf "_law_saddle" "_law_saddle" (defArgs s__law_saddle) (defBody s__law_saddle) (defScope s__law_saddle) .none kV33 dc33 pm33 an33 cd33 ct33), sl33⟩) (c33 : PySem.W.codeIn K cd33 "_law_saddle" = true) (k33 : PySem.W.keepIn K (.ref f33) = true)
    {f34 : Addr} {od34 an34 : Option Addr} {sl34 : Array (Option Value)} {oc34 kV34 dc34 pm34 cd34 ct34 : Value}
    (a34 : PySem.W.nsIn K mainGlobals "_law_put" = some (some (.ref f34))) (l34 : K.lookup f34 = some ⟨oc34, od34, .func (PySem.W.fnOf "_law_put" "_law_put" (defArgs s__law_put) (defBody s__law_put) (defScope s__law_put) .none kV34 dc34 pm34 an34 cd34 ct34), sl34⟩) (c34 : PySem.W.codeIn K cd34 "_law_put" = true) (k34 : PySem.W.keepIn K (.ref f34) = true)
    {f35 : Addr} {od35 an35 : Option Addr} {sl35 : Array (Option Value)} {oc35 kV35 dc35 pm35 cd35 ct35 : Value}
    (a35 : PySem.W.nsIn K mainGlobals "_law_told" = some (some (.ref f35))) (l35 : K.lookup f35 = some ⟨oc35, od35, .func (PySem.W.fnOf "_law_told" "_law_told" (defArgs s__law_told) (defBody s__law_told) (defScope s__law_told) .none kV35 dc35 pm35 an35 cd35 ct35), sl35⟩) (c35 : PySem.W.codeIn K cd35 "_law_told" = true) (k35 : PySem.W.keepIn K (.ref f35) = true)
    {f36 : Addr} {od36 an36 : Option Addr} {sl36 : Array (Option Value)} {oc36 kV36 dc36 pm36 cd36 ct36 : Value}
    (a36 : PySem.W.nsIn K mainGlobals "_law_refused" = some (some (.ref f36))) (l36 : K.lookup f36 = some ⟨oc36, od36, .func (PySem.W.fnOf "_law_refused" "_law_refused" (defArgs s__law_refused) (defBody s__law_refused) (defScope s__law_refused) .none kV36 dc36 pm36 an36 cd36 ct36), sl36⟩) (c36 : PySem.W.codeIn K cd36 "_law_refused" = true) (k36 : PySem.W.keepIn K (.ref f36) = true)
    {f37 : Addr} {od37 an37 : Option Addr} {sl37 : Array (Option Value)} {oc37 kV37 dc37 pm37 cd37 ct37 : Value}
    (a37 : PySem.W.nsIn K mainGlobals "law" = some (some (.ref f37))) (l37 : K.lookup f37 = some ⟨oc37, od37, .func (PySem.W.fnOf "law" "law" (defArgs s_law) (defBody s_law) (defScope s_law) .none kV37 dc37 pm37 an37 cd37 ct37), sl37⟩) (c37 : PySem.W.codeIn K cd37 "law" = true) (k37 : PySem.W.keepIn K (.ref f37) = true)
    (z_abs : PySem.W.nsIn K mainGlobals "abs" = some none)
    (z_bool : PySem.W.nsIn K mainGlobals "bool" = some none)
    (z_int : PySem.W.nsIn K mainGlobals "int" = some none)
    (z_isinstance : PySem.W.nsIn K mainGlobals "isinstance" = some none)
    (z_len : PySem.W.nsIn K mainGlobals "len" = some none)
    (z_max : PySem.W.nsIn K mainGlobals "max" = some none)
    (z_range : PySem.W.nsIn K mainGlobals "range" = some none)
    (z_tuple : PySem.W.nsIn K mainGlobals "tuple" = some none)
    (z_ValueError : PySem.W.nsIn K mainGlobals "ValueError" = some none)
    {U_FormError NU_FormError : Addr} {nmU_FormError qU_FormError : Str} {bsU_FormError subU_FormError : List Value} {hdU_FormError abU_FormError : Bool} {snU_FormError : List Str} {colU_FormError : Option Bool} {ddU_FormError odU_FormError : Option Addr} {ka_FormError kb_FormError kc_FormError kd_FormError kf_FormError : Option Value} {idU_FormError : String} {ocU_FormError : Value} {es_FormError : Array DictEntry} {ep_FormError : Nat} {sl_FormError : Array (Option Value)}
    (aU_FormError : PySem.W.nsIn K mainGlobals "FormError" = some (some (.ref U_FormError)))
    (lU_FormError : K.lookup U_FormError = some (PySem.excClassObj nmU_FormError qU_FormError U_FormError NU_FormError bsU_FormError bmV hdU_FormError snU_FormError subU_FormError abU_FormError colU_FormError ddU_FormError ka_FormError kb_FormError kc_FormError kd_FormError kf_FormError idU_FormError))
    (lN_FormError : K.lookup NU_FormError = some ⟨ocU_FormError, odU_FormError, .dict es_FormError ep_FormError, sl_FormError⟩) (sk_FormError : strK es_FormError = true) (ni_FormError : nsFind es_FormError "__init__" = none)
    {C_NoTurn N_NoTurn fI_NoTurn : Addr} {nm_NoTurn q_NoTurn : Str} {bs_NoTurn sub_NoTurn : List Value} {ab_NoTurn : Bool} {sn_NoTurn : List Str} {col_NoTurn : Option Bool} {dd_NoTurn odi_NoTurn ani_NoTurn : Option Addr} {xa_NoTurn xb_NoTurn xc_NoTurn xd_NoTurn xf_NoTurn : Option Value} {oci_NoTurn kVi_NoTurn dci_NoTurn pmi_NoTurn cdi_NoTurn cti_NoTurn : Value} {sli_NoTurn : Array (Option Value)}
    (aC_NoTurn : PySem.W.nsIn K mainGlobals "NoTurn" = some (some (.ref C_NoTurn)))
    (lC_NoTurn : K.lookup C_NoTurn = some (PySem.excClassObj nm_NoTurn q_NoTurn C_NoTurn N_NoTurn bs_NoTurn (.ref U_FormError :: bmV) true sn_NoTurn sub_NoTurn ab_NoTurn col_NoTurn dd_NoTurn xa_NoTurn xb_NoTurn xc_NoTurn xd_NoTurn xf_NoTurn "ValueError.__new__"))
    (kC_NoTurn : PySem.W.keepIn K (.ref C_NoTurn) = true) (sa_NoTurn : PySem.W.findIn K (.ref C_NoTurn) "__setattr__" = some (some (.builtin "object.__setattr__"))) (ga_NoTurn : PySem.W.findIn K (.ref C_NoTurn) "__getattribute__" = some (some (.builtin "BaseException.__getattribute__"))) (gh_NoTurn : PySem.W.findIn K (.ref C_NoTurn) "__getattr__" = some none)
    (cl_NoTurn : PySem.W.findIn K (.ref C_NoTurn) "__class__" = some (some (.builtin "object.__class__"))) (gg_NoTurn : PySem.W.specialIn K (.builtin "object.__class__") "__get__" = some (some (.builtin "getset_descriptor.__get__"))) (gt_NoTurn : PySem.W.takesIn K (.builtin "object.__class__") = some true)
    (hi_NoTurn : PySem.W.findIn K (.ref C_NoTurn) "__init__" = some (some (.ref fI_NoTurn))) (hf_NoTurn : PySem.W.typeIn K (.ref fI_NoTurn) = some (.type "function"))
    (lI_NoTurn : K.lookup fI_NoTurn = some ⟨oci_NoTurn, odi_NoTurn, .func (PySem.W.fnOf "__init__" "NoTurn.__init__" (defArgs si_NoTurn) (defBody si_NoTurn) (defScope si_NoTurn) .none kVi_NoTurn dci_NoTurn pmi_NoTurn ani_NoTurn cdi_NoTurn cti_NoTurn), sli_NoTurn⟩) (cI_NoTurn : PySem.W.codeIn K cdi_NoTurn "NoTurn.__init__" = true) (kI_NoTurn : PySem.W.keepIn K (.ref fI_NoTurn) = true)
    (tk_NoTurn_turn : PySem.W.takerIn K C_NoTurn "turn" = some none) (nf_NoTurn_turn : PySem.W.findIn K (.ref C_NoTurn) "turn" = some none)
    {C_NotOwn N_NotOwn fI_NotOwn : Addr} {nm_NotOwn q_NotOwn : Str} {bs_NotOwn sub_NotOwn : List Value} {ab_NotOwn : Bool} {sn_NotOwn : List Str} {col_NotOwn : Option Bool} {dd_NotOwn odi_NotOwn ani_NotOwn : Option Addr} {xa_NotOwn xb_NotOwn xc_NotOwn xd_NotOwn xf_NotOwn : Option Value} {oci_NotOwn kVi_NotOwn dci_NotOwn pmi_NotOwn cdi_NotOwn cti_NotOwn : Value} {sli_NotOwn : Array (Option Value)}
    (aC_NotOwn : PySem.W.nsIn K mainGlobals "NotOwn" = some (some (.ref C_NotOwn)))
    (lC_NotOwn : K.lookup C_NotOwn = some (PySem.excClassObj nm_NotOwn q_NotOwn C_NotOwn N_NotOwn bs_NotOwn (.ref U_FormError :: bmV) true sn_NotOwn sub_NotOwn ab_NotOwn col_NotOwn dd_NotOwn xa_NotOwn xb_NotOwn xc_NotOwn xd_NotOwn xf_NotOwn "ValueError.__new__"))
    (kC_NotOwn : PySem.W.keepIn K (.ref C_NotOwn) = true) (sa_NotOwn : PySem.W.findIn K (.ref C_NotOwn) "__setattr__" = some (some (.builtin "object.__setattr__"))) (ga_NotOwn : PySem.W.findIn K (.ref C_NotOwn) "__getattribute__" = some (some (.builtin "BaseException.__getattribute__"))) (gh_NotOwn : PySem.W.findIn K (.ref C_NotOwn) "__getattr__" = some none)
    (cl_NotOwn : PySem.W.findIn K (.ref C_NotOwn) "__class__" = some (some (.builtin "object.__class__"))) (gg_NotOwn : PySem.W.specialIn K (.builtin "object.__class__") "__get__" = some (some (.builtin "getset_descriptor.__get__"))) (gt_NotOwn : PySem.W.takesIn K (.builtin "object.__class__") = some true)
    (hi_NotOwn : PySem.W.findIn K (.ref C_NotOwn) "__init__" = some (some (.ref fI_NotOwn))) (hf_NotOwn : PySem.W.typeIn K (.ref fI_NotOwn) = some (.type "function"))
    (lI_NotOwn : K.lookup fI_NotOwn = some ⟨oci_NotOwn, odi_NotOwn, .func (PySem.W.fnOf "__init__" "NotOwn.__init__" (defArgs si_NotOwn) (defBody si_NotOwn) (defScope si_NotOwn) .none kVi_NotOwn dci_NotOwn pmi_NotOwn ani_NotOwn cdi_NotOwn cti_NotOwn), sli_NotOwn⟩) (cI_NotOwn : PySem.W.codeIn K cdi_NotOwn "NotOwn.__init__" = true) (kI_NotOwn : PySem.W.keepIn K (.ref fI_NotOwn) = true)
    (tk_NotOwn_turn : PySem.W.takerIn K C_NotOwn "turn" = some none) (nf_NotOwn_turn : PySem.W.findIn K (.ref C_NotOwn) "turn" = some none)
    {A_Apart : Addr} {cd_Apart : ClassData} (aA_Apart : PySem.W.nsIn K mainGlobals "Apart" = some (some (.ref A_Apart))) (zA_Apart : PySem.W.clsIn K A_Apart = some cd_Apart) (tA_Apart : PySem.W.typeIn K (.ref A_Apart) = some (.type "type"))
    (m_NoTurn_Apart : PySem.W.mroIn K C_NoTurn (.ref A_Apart) = some false)
    (m_NotOwn_Apart : PySem.W.mroIn K C_NotOwn (.ref A_Apart) = some false)
    {A_NoAnswer : Addr} {cd_NoAnswer : ClassData} (aA_NoAnswer : PySem.W.nsIn K mainGlobals "NoAnswer" = some (some (.ref A_NoAnswer))) (zA_NoAnswer : PySem.W.clsIn K A_NoAnswer = some cd_NoAnswer) (tA_NoAnswer : PySem.W.typeIn K (.ref A_NoAnswer) = some (.type "type"))
    (m_NoTurn_NoAnswer : PySem.W.mroIn K C_NoTurn (.ref A_NoAnswer) = some false)
    (m_NotOwn_NoAnswer : PySem.W.mroIn K C_NotOwn (.ref A_NoAnswer) = some false)
    {A_NoMeasure : Addr} {cd_NoMeasure : ClassData} (aA_NoMeasure : PySem.W.nsIn K mainGlobals "NoMeasure" = some (some (.ref A_NoMeasure))) (zA_NoMeasure : PySem.W.clsIn K A_NoMeasure = some cd_NoMeasure) (tA_NoMeasure : PySem.W.typeIn K (.ref A_NoMeasure) = some (.type "type"))
    (m_NoTurn_NoMeasure : PySem.W.mroIn K C_NoTurn (.ref A_NoMeasure) = some false)
    (m_NotOwn_NoMeasure : PySem.W.mroIn K C_NotOwn (.ref A_NoMeasure) = some false)
    {A_NoRoot : Addr} {cd_NoRoot : ClassData} (aA_NoRoot : PySem.W.nsIn K mainGlobals "NoRoot" = some (some (.ref A_NoRoot))) (zA_NoRoot : PySem.W.clsIn K A_NoRoot = some cd_NoRoot) (tA_NoRoot : PySem.W.typeIn K (.ref A_NoRoot) = some (.type "type"))
    (m_NoTurn_NoRoot : PySem.W.mroIn K C_NoTurn (.ref A_NoRoot) = some false)
    (m_NotOwn_NoRoot : PySem.W.mroIn K C_NotOwn (.ref A_NoRoot) = some false)
    {A_NoShape : Addr} {cd_NoShape : ClassData} (aA_NoShape : PySem.W.nsIn K mainGlobals "NoShape" = some (some (.ref A_NoShape))) (zA_NoShape : PySem.W.clsIn K A_NoShape = some cd_NoShape) (tA_NoShape : PySem.W.typeIn K (.ref A_NoShape) = some (.type "type"))
    (m_NoTurn_NoShape : PySem.W.mroIn K C_NoTurn (.ref A_NoShape) = some false)
    (m_NotOwn_NoShape : PySem.W.mroIn K C_NotOwn (.ref A_NoShape) = some false)
    {A_NotLevel : Addr} {cd_NotLevel : ClassData} (aA_NotLevel : PySem.W.nsIn K mainGlobals "NotLevel" = some (some (.ref A_NotLevel))) (zA_NotLevel : PySem.W.clsIn K A_NotLevel = some cd_NotLevel) (tA_NotLevel : PySem.W.typeIn K (.ref A_NotLevel) = some (.type "type"))
    (m_NoTurn_NotLevel : PySem.W.mroIn K C_NoTurn (.ref A_NotLevel) = some false)
    (m_NotOwn_NotLevel : PySem.W.mroIn K C_NotOwn (.ref A_NotLevel) = some false)
    {A_NotPlain : Addr} {cd_NotPlain : ClassData} (aA_NotPlain : PySem.W.nsIn K mainGlobals "NotPlain" = some (some (.ref A_NotPlain))) (zA_NotPlain : PySem.W.clsIn K A_NotPlain = some cd_NotPlain) (tA_NotPlain : PySem.W.typeIn K (.ref A_NotPlain) = some (.type "type"))
    (m_NoTurn_NotPlain : PySem.W.mroIn K C_NoTurn (.ref A_NotPlain) = some false)
    (m_NotOwn_NotPlain : PySem.W.mroIn K C_NotOwn (.ref A_NotPlain) = some false)
    {A_Nought : Addr} {cd_Nought : ClassData} (aA_Nought : PySem.W.nsIn K mainGlobals "Nought" = some (some (.ref A_Nought))) (zA_Nought : PySem.W.clsIn K A_Nought = some cd_Nought) (tA_Nought : PySem.W.typeIn K (.ref A_Nought) = some (.type "type"))
    (m_NoTurn_Nought : PySem.W.mroIn K C_NoTurn (.ref A_Nought) = some false)
    (m_NotOwn_Nought : PySem.W.mroIn K C_NotOwn (.ref A_Nought) = some false)
    {A_TooGreat : Addr} {cd_TooGreat : ClassData} (aA_TooGreat : PySem.W.nsIn K mainGlobals "TooGreat" = some (some (.ref A_TooGreat))) (zA_TooGreat : PySem.W.clsIn K A_TooGreat = some cd_TooGreat) (tA_TooGreat : PySem.W.typeIn K (.ref A_TooGreat) = some (.type "type"))
    (m_NoTurn_TooGreat : PySem.W.mroIn K C_NoTurn (.ref A_TooGreat) = some false)
    (m_NotOwn_TooGreat : PySem.W.mroIn K C_NotOwn (.ref A_TooGreat) = some false)
    {cd_NotOwn : ClassData} (zA_NotOwn : PySem.W.clsIn K C_NotOwn = some cd_NotOwn) (tA_NotOwn : PySem.W.typeIn K (.ref C_NotOwn) = some (.type "type"))
    (m_NoTurn_NotOwn : PySem.W.mroIn K C_NoTurn (.ref C_NotOwn) = some false)
    {cd_NoTurn : ClassData} (zA_NoTurn : PySem.W.clsIn K C_NoTurn = some cd_NoTurn) (tA_NoTurn : PySem.W.typeIn K (.ref C_NoTurn) = some (.type "type"))
    (m_NotOwn_NoTurn : PySem.W.mroIn K C_NotOwn (.ref C_NoTurn) = some false)
    {C_SAME : Addr} {od_SAME : Option Addr} {sl_SAME : Array (Option Value)} {n_SAME : Nat} {t_SAME_0 : Tok} {t_SAME_1 : Tok} {t_SAME_2 : Tok} {t_SAME_3 : Tok}
    (a_SAME : PySem.W.nsIn K mainGlobals "SAME" = some (some (.ref C_SAME))) (l_SAME : K.lookup C_SAME = some ⟨.type "tuple", od_SAME, .seq #[.int (1) t_SAME_0, .int (0) t_SAME_1, .int (0) t_SAME_2, .int (1) t_SAME_3] n_SAME, sl_SAME⟩)
    {t_MOST_MEASURE : Tok} (a_MOST_MEASURE : PySem.W.nsIn K mainGlobals "MOST_MEASURE" = some (some (.int (4000) t_MOST_MEASURE)))
    : ∃ fd : FuncData, (∀ (s : Shared) (v : Value), BindsTo s fd ⟨[v], []⟩ [("_law_script", v)]) ∧ ∀ base : Heap, K.In base → base.Ns mainGlobals mg → FnOk l.prog w K mg base CX0 13 fa fd ["_law_script"] (lSp K sp_law) := by
  have e := hfa.symm.trans (PySem.W.mg_of X G a37)
  cases e
  have F0 := fun_mk (st := s_divisor) l0 c0 k0
  have F1 := fun_mk (st := s_root) l1 c1 k1
  have F2 := fun_mk (st := s_is_square) l2 c2 k2
  have F3 := fun_mk (st := s_check_at_most) l3 c3 k3
  have F4 := fun_mk (st := s_is_turn) l4 c4 k4
  have F5 := fun_mk (st := s_check_turn) l5 c5 k5
  have F6 := fun_mk (st := s_put_behind) l6 c6 k6
  have F7 := fun_mk (st := s_back) l7 c7 k7
  have F8 := fun_mk (st := s_measure) l8 c8 k8
  have F9 := fun_mk (st := s_value) l9 c9 k9
  have F10 := fun_mk (st := s_content) l10 c10 k10
  have F11 := fun_mk (st := s_moved) l11 c11 k11
  have F12 := fun_mk (st := s_middle) l12 c12 k12
  have F13 := fun_mk (st := s_shape) l13 c13 k13
  have F14 := fun_mk (st := s_check_saddle) l14 c14 k14
  have F15 := fun_mk (st := s_stands_level) l15 c15 k15
  have F16 := fun_mk (st := s_turn_behind) l16 c16 k16
  have F17 := fun_mk (st := s_stop_behind) l17 c17 k17
  have F18 := fun_mk (st := s_eased) l18 c18 k18
  have F19 := fun_mk (st := s_stops_round) l19 c19 k19
  have F20 := fun_mk (st := s_step_of) l20 c20 k20
  have F21 := fun_mk (st := s_step_pair) l21 c21 k21
  have F22 := fun_mk (st := s_power_of) l22 c22 k22
  have F23 := fun_mk (st := s_count_without_sign) l23 c23 k23
  have F24 := fun_mk (st := s__law_cell) l24 c24 k24
  have F25 := fun_mk (st := s__law_whole) l25 c25 k25
  have F26 := fun_mk (st := s__law_wholes) l26 c26 k26
  have F27 := fun_mk (st := s__law_bar) l27 c27 k27
  have F28 := fun_mk (st := s__law_root) l28 c28 k28
  have F29 := fun_mk (st := s__law_flat) l29 c29 k29
  have F30 := fun_mk (st := s__law_turn) l30 c30 k30
  have F31 := fun_mk (st := s__law_value) l31 c31 k31
  have F32 := fun_mk (st := s__law_moved) l32 c32 k32
  have F33 := fun_mk (st := s__law_saddle) l33 c33 k33
  have F34 := fun_mk (st := s__law_put) l34 c34 k34
  have F35 := fun_mk (st := s__law_told) l35 c35 k35
  have F36 := fun_mk (st := s__law_refused) l36 c36 k36
  have F37 := fun_mk (st := s_law) l37 c37 k37
  have X_NoTurn : XC K C_NoTurn U_FormError := ⟨⟨_, _, _, _, _, _, _, _, _, _, _, _, _, _, lC_NoTurn⟩, ⟨_, _, _, _, _, _, _, _, _, lU_FormError, lN_FormError, sk_FormError, ni_FormError⟩, sa_NoTurn, ga_NoTurn, gh_NoTurn, cl_NoTurn, gg_NoTurn, gt_NoTurn⟩
  have FI_NoTurn := fun_mk (st := si_NoTurn) lI_NoTurn cI_NoTurn kI_NoTurn
  have X_NotOwn : XC K C_NotOwn U_FormError := ⟨⟨_, _, _, _, _, _, _, _, _, _, _, _, _, _, lC_NotOwn⟩, ⟨_, _, _, _, _, _, _, _, _, lU_FormError, lN_FormError, sk_FormError, ni_FormError⟩, sa_NotOwn, ga_NotOwn, gh_NotOwn, cl_NotOwn, gg_NotOwn, gt_NotOwn⟩
  have FI_NotOwn := fun_mk (st := si_NotOwn) lI_NotOwn cI_NotOwn kI_NotOwn
  have T : Txt K mg := {
    x_NoTurn := ⟨_, _, _, _, aC_NoTurn, PySem.W.mg_of X G aC_NoTurn, kC_NoTurn, X_NoTurn, hi_NoTurn, hf_NoTurn, FI_NoTurn.binds (ps := ["self", "turn"]) fun _ _ _ _ _ _ us hl => match us, hl with | [_, _], _ => rfl, rfl, FI_NoTurn, fun f hf => by simp only [List.mem_cons, List.not_mem_nil, or_false] at hf; subst hf; exact tk_NoTurn_turn⟩
    un_NoTurn_FormError := Under.mk aC_NoTurn X_NoTurn (PySem.W.mg_of X G aU_FormError)
    nf_NoTurn_turn := NoAt.mk aC_NoTurn nf_NoTurn_turn
    x_NotOwn := ⟨_, _, _, _, aC_NotOwn, PySem.W.mg_of X G aC_NotOwn, kC_NotOwn, X_NotOwn, hi_NotOwn, hf_NotOwn, FI_NotOwn.binds (ps := ["self", "turn"]) fun _ _ _ _ _ _ us hl => match us, hl with | [_, _], _ => rfl, rfl, FI_NotOwn, fun f hf => by simp only [List.mem_cons, List.not_mem_nil, or_false] at hf; subst hf; exact tk_NotOwn_turn⟩
    un_NotOwn_FormError := Under.mk aC_NotOwn X_NotOwn (PySem.W.mg_of X G aU_FormError)
    nf_NotOwn_turn := NoAt.mk aC_NotOwn nf_NotOwn_turn
    u_FormError := ⟨_, PySem.W.mg_of X G aU_FormError, _, _, _, _, _, _, _, _, _, _, _, _, _, _, _, _, lU_FormError⟩
    c_Apart := ⟨_, PySem.W.mg_of X G aA_Apart, SubX.no aC_NoTurn X_NoTurn zA_Apart tA_Apart m_NoTurn_Apart, SubX.no aC_NotOwn X_NotOwn zA_Apart tA_Apart m_NotOwn_Apart⟩
    c_NoAnswer := ⟨_, PySem.W.mg_of X G aA_NoAnswer, SubX.no aC_NoTurn X_NoTurn zA_NoAnswer tA_NoAnswer m_NoTurn_NoAnswer, SubX.no aC_NotOwn X_NotOwn zA_NoAnswer tA_NoAnswer m_NotOwn_NoAnswer⟩
    c_NoMeasure := ⟨_, PySem.W.mg_of X G aA_NoMeasure, SubX.no aC_NoTurn X_NoTurn zA_NoMeasure tA_NoMeasure m_NoTurn_NoMeasure, SubX.no aC_NotOwn X_NotOwn zA_NoMeasure tA_NoMeasure m_NotOwn_NoMeasure⟩
    c_NoRoot := ⟨_, PySem.W.mg_of X G aA_NoRoot, SubX.no aC_NoTurn X_NoTurn zA_NoRoot tA_NoRoot m_NoTurn_NoRoot, SubX.no aC_NotOwn X_NotOwn zA_NoRoot tA_NoRoot m_NotOwn_NoRoot⟩
    c_NoShape := ⟨_, PySem.W.mg_of X G aA_NoShape, SubX.no aC_NoTurn X_NoTurn zA_NoShape tA_NoShape m_NoTurn_NoShape, SubX.no aC_NotOwn X_NotOwn zA_NoShape tA_NoShape m_NotOwn_NoShape⟩
    c_NotLevel := ⟨_, PySem.W.mg_of X G aA_NotLevel, SubX.no aC_NoTurn X_NoTurn zA_NotLevel tA_NotLevel m_NoTurn_NotLevel, SubX.no aC_NotOwn X_NotOwn zA_NotLevel tA_NotLevel m_NotOwn_NotLevel⟩
    c_NotPlain := ⟨_, PySem.W.mg_of X G aA_NotPlain, SubX.no aC_NoTurn X_NoTurn zA_NotPlain tA_NotPlain m_NoTurn_NotPlain, SubX.no aC_NotOwn X_NotOwn zA_NotPlain tA_NotPlain m_NotOwn_NotPlain⟩
    c_Nought := ⟨_, PySem.W.mg_of X G aA_Nought, SubX.no aC_NoTurn X_NoTurn zA_Nought tA_Nought m_NoTurn_Nought, SubX.no aC_NotOwn X_NotOwn zA_Nought tA_Nought m_NotOwn_Nought⟩
    c_TooGreat := ⟨_, PySem.W.mg_of X G aA_TooGreat, SubX.no aC_NoTurn X_NoTurn zA_TooGreat tA_TooGreat m_NoTurn_TooGreat, SubX.no aC_NotOwn X_NotOwn zA_TooGreat tA_TooGreat m_NotOwn_TooGreat⟩
    c_NotOwn := ⟨_, PySem.W.mg_of X G aC_NotOwn, SubX.no aC_NoTurn X_NoTurn zA_NotOwn tA_NotOwn m_NoTurn_NotOwn, SubX.self aC_NotOwn⟩
    c_NoTurn := ⟨_, PySem.W.mg_of X G aC_NoTurn, SubX.self aC_NoTurn, SubX.no aC_NotOwn X_NotOwn zA_NoTurn tA_NoTurn m_NotOwn_NoTurn⟩
    z_ValueError := PySem.W.mg_none_of X G z_ValueError
    t_divisor := ⟨_, _, F0, PySem.W.mg_of X G a0, F0.binds (ps := ["one", "other"]) fun _ _ _ _ _ _ us hl => match us, hl with | [_, _], _ => rfl⟩
    t_root := ⟨_, _, F1, PySem.W.mg_of X G a1, F1.binds (ps := ["number"]) fun _ _ _ _ _ _ us hl => match us, hl with | [_], _ => rfl⟩
    t_is_square := ⟨_, _, F2, PySem.W.mg_of X G a2, F2.binds (ps := ["number"]) fun _ _ _ _ _ _ us hl => match us, hl with | [_], _ => rfl⟩
    t_check_at_most := ⟨_, _, F3, PySem.W.mg_of X G a3, F3.binds (ps := ["number", "most"]) fun _ _ _ _ _ _ us hl => match us, hl with | [_, _], _ => rfl⟩
    t_is_turn := ⟨_, _, F4, PySem.W.mg_of X G a4, F4.binds (ps := ["turn"]) fun _ _ _ _ _ _ us hl => match us, hl with | [_], _ => rfl⟩
    t_check_turn := ⟨_, _, F5, PySem.W.mg_of X G a5, F5.binds (ps := ["turn"]) fun _ _ _ _ _ _ us hl => match us, hl with | [_], _ => rfl⟩
    t_put_behind := ⟨_, _, F6, PySem.W.mg_of X G a6, F6.binds (ps := ["one", "other"]) fun _ _ _ _ _ _ us hl => match us, hl with | [_, _], _ => rfl⟩
    t_back := ⟨_, _, F7, PySem.W.mg_of X G a7, F7.binds (ps := ["turn"]) fun _ _ _ _ _ _ us hl => match us, hl with | [_], _ => rfl⟩
    t_measure := ⟨_, _, F8, PySem.W.mg_of X G a8, F8.binds (ps := ["form"]) fun _ _ _ _ _ _ us hl => match us, hl with | [_], _ => rfl⟩
    t_value := ⟨_, _, F9, PySem.W.mg_of X G a9, F9.binds (ps := ["form", "point"]) fun _ _ _ _ _ _ us hl => match us, hl with | [_, _], _ => rfl⟩
    t_content := ⟨_, _, F10, PySem.W.mg_of X G a10, F10.binds (ps := ["form"]) fun _ _ _ _ _ _ us hl => match us, hl with | [_], _ => rfl⟩
    t_moved := ⟨_, _, F11, PySem.W.mg_of X G a11, F11.binds (ps := ["form", "turn"]) fun _ _ _ _ _ _ us hl => match us, hl with | [_, _], _ => rfl⟩
    t_middle := ⟨_, _, F12, PySem.W.mg_of X G a12, F12.binds (ps := ["form", "left", "right"]) fun _ _ _ _ _ _ us hl => match us, hl with | [_, _, _], _ => rfl⟩
    t_shape := ⟨_, _, F13, PySem.W.mg_of X G a13, F13.binds (ps := ["form"]) fun _ _ _ _ _ _ us hl => match us, hl with | [_], _ => rfl⟩
    t_check_saddle := ⟨_, _, F14, PySem.W.mg_of X G a14, F14.binds (ps := ["form"]) fun _ _ _ _ _ _ us hl => match us, hl with | [_], _ => rfl⟩
    t_stands_level := ⟨_, _, F15, PySem.W.mg_of X G a15, F15.binds (ps := ["form", "far"]) fun _ _ _ _ _ _ us hl => match us, hl with | [_, _], _ => rfl⟩
    t_turn_behind := ⟨_, _, F16, PySem.W.mg_of X G a16, F16.binds (ps := ["form", "top"]) fun _ _ _ _ _ _ us hl => match us, hl with | [_, _], _ => rfl⟩
    t_stop_behind := ⟨_, _, F17, PySem.W.mg_of X G a17, F17.binds (ps := ["stop", "top"]) fun _ _ _ _ _ _ us hl => match us, hl with | [_, _], _ => rfl⟩
    t_eased := ⟨_, _, F18, PySem.W.mg_of X G a18, F18.binds (ps := ["form"]) fun _ _ _ _ _ _ us hl => match us, hl with | [_], _ => rfl⟩
    t_stops_round := ⟨_, _, F19, PySem.W.mg_of X G a19, F19.binds (ps := ["form"]) fun _ _ _ _ _ _ us hl => match us, hl with | [_], _ => rfl⟩
    t_step_of := ⟨_, _, F20, PySem.W.mg_of X G a20, F20.binds (ps := ["form"]) fun _ _ _ _ _ _ us hl => match us, hl with | [_], _ => rfl⟩
    t_step_pair := ⟨_, _, F21, PySem.W.mg_of X G a21, F21.binds (ps := ["form", "plain_first"]) fun _ _ _ _ _ _ us hl => match us, hl with | [_, _], _ => rfl⟩
    t_power_of := ⟨_, _, F22, PySem.W.mg_of X G a22, F22.binds (ps := ["form", "turn"]) fun _ _ _ _ _ _ us hl => match us, hl with | [_, _], _ => rfl⟩
    t_count_without_sign := ⟨_, _, F23, PySem.W.mg_of X G a23, F23.binds (ps := ["step", "third"]) fun _ _ _ _ _ _ us hl => match us, hl with | [_, _], _ => rfl⟩
    t__law_cell := ⟨_, _, F24, PySem.W.mg_of X G a24, F24.binds (ps := ["_law_script", "_law_k"]) fun _ _ _ _ _ _ us hl => match us, hl with | [_, _], _ => rfl⟩
    t__law_whole := ⟨_, _, F25, PySem.W.mg_of X G a25, F25.binds (ps := ["_law_found"]) fun _ _ _ _ _ _ us hl => match us, hl with | [_], _ => rfl⟩
    t__law_wholes := ⟨_, _, F26, PySem.W.mg_of X G a26, F26.binds (ps := ["_law_found", "_law_many"]) fun _ _ _ _ _ _ us hl => match us, hl with | [_, _], _ => rfl⟩
    t__law_bar := ⟨_, _, F27, PySem.W.mg_of X G a27, F27.binds (ps := ["_law_form"]) fun _ _ _ _ _ _ us hl => match us, hl with | [_], _ => rfl⟩
    t__law_root := ⟨_, _, F28, PySem.W.mg_of X G a28, F28.binds (ps := ["_law_number"]) fun _ _ _ _ _ _ us hl => match us, hl with | [_], _ => rfl⟩
    t__law_flat := ⟨_, _, F29, PySem.W.mg_of X G a29, F29.binds (ps := ["_law_form"]) fun _ _ _ _ _ _ us hl => match us, hl with | [_], _ => rfl⟩
    t__law_turn := ⟨_, _, F30, PySem.W.mg_of X G a30, F30.binds (ps := ["_law_first", "_law_cells"]) fun _ _ _ _ _ _ us hl => match us, hl with | [_, _], _ => rfl⟩
    t__law_value := ⟨_, _, F31, PySem.W.mg_of X G a31, F31.binds (ps := ["_law_form", "_law_x", "_law_y"]) fun _ _ _ _ _ _ us hl => match us, hl with | [_, _, _], _ => rfl⟩
    t__law_moved := ⟨_, _, F32, PySem.W.mg_of X G a32, F32.binds (ps := ["_law_form", "_law_turn_here"]) fun _ _ _ _ _ _ us hl => match us, hl with | [_, _], _ => rfl⟩
    t__law_saddle := ⟨_, _, F33, PySem.W.mg_of X G a33, F33.binds (ps := ["_law_one", "_law_two", "_law_three"]) fun _ _ _ _ _ _ us hl => match us, hl with | [_, _, _], _ => rfl⟩
    t__law_put := ⟨_, _, F34, PySem.W.mg_of X G a34, F34.binds (ps := ["_law_one", "_law_other"]) fun _ _ _ _ _ _ us hl => match us, hl with | [_, _], _ => rfl⟩
    t__law_told := ⟨_, _, F35, PySem.W.mg_of X G a35, F35.binds (ps := ["_law_form", "_law_turn_here"]) fun _ _ _ _ _ _ us hl => match us, hl with | [_, _], _ => rfl⟩
    t__law_refused := ⟨_, _, F36, PySem.W.mg_of X G a36, F36.binds (ps := ["_law_form", "_law_turn_here", "_law_own"]) fun _ _ _ _ _ _ us hl => match us, hl with | [_, _, _], _ => rfl⟩
    t_law := ⟨_, _, F37, PySem.W.mg_of X G a37, F37.binds (ps := ["_law_script"]) fun _ _ _ _ _ _ us hl => match us, hl with | [_], _ => rfl⟩
    z_abs := PySem.W.mg_none_of X G z_abs
    z_bool := PySem.W.mg_none_of X G z_bool
    z_int := PySem.W.mg_none_of X G z_int
    z_isinstance := PySem.W.mg_none_of X G z_isinstance
    z_len := PySem.W.mg_none_of X G z_len
    z_max := PySem.W.mg_none_of X G z_max
    z_range := PySem.W.mg_none_of X G z_range
    z_tuple := PySem.W.mg_none_of X G z_tuple
    k_SAME := ⟨_, PySem.W.mg_of X G a_SAME, fun H => rp_tup.mpr ⟨_, [.int (1), .int (0), .int (0), .int (1)], rfl, .inr ⟨_, _, _, l_SAME, rfl, rfl, size_ok (by show 4 ≤ 1000; decide), .cons ⟨_, rfl⟩ (.cons ⟨_, rfl⟩ (.cons ⟨_, rfl⟩ (.cons ⟨_, rfl⟩ (.nil))))⟩, RpL.cons (rp_int.mpr rfl) (RpL.cons (rp_int.mpr rfl) (RpL.cons (rp_int.mpr rfl) (RpL.cons (rp_int.mpr rfl) (RpL.nil))))⟩⟩
    m_MOST_MEASURE := ⟨_, PySem.W.mg_of X G a_MOST_MEASURE⟩
  }
  refine ⟨PySem.W.fnOf "law" "law" (defArgs s_law) (defBody s_law) (defScope s_law) .none kV37 dc37 pm37 an37 cd37 ct37, fun s v => .of_eq rfl, fun base kb nb => ?_⟩
  have g_divisor := ok_divisor (P := l.prog) (w := w) (base := base) T 
  have g_root := ok_root (P := l.prog) (w := w) (base := base) T 
  have g_check_at_most := ok_check_at_most (P := l.prog) (w := w) (base := base) T 
  have g_is_turn := ok_is_turn (P := l.prog) (w := w) (base := base) T 
  have g_put_behind := ok_put_behind (P := l.prog) (w := w) (base := base) T 
  have g_measure := ok_measure (P := l.prog) (w := w) (base := base) T 
  have g_value := ok_value (P := l.prog) (w := w) (base := base) T 
  have g_middle := ok_middle (P := l.prog) (w := w) (base := base) T 
  have g_stands_level := ok_stands_level (P := l.prog) (w := w) (base := base) T 
  have g_turn_behind := ok_turn_behind (P := l.prog) (w := w) (base := base) T 
  have g__law_cell := ok__law_cell (P := l.prog) (w := w) (base := base) T 
  have g__law_whole := ok__law_whole (P := l.prog) (w := w) (base := base) T 
  have g__law_bar := ok__law_bar (P := l.prog) (w := w) (base := base) T 
  have g__law_root := ok__law_root (P := l.prog) (w := w) (base := base) T 
  have g__law_turn := ok__law_turn (P := l.prog) (w := w) (base := base) T 
  have g__law_value := ok__law_value (P := l.prog) (w := w) (base := base) T 
  have g__law_saddle := ok__law_saddle (P := l.prog) (w := w) (base := base) T 
  have g__law_put := ok__law_put (P := l.prog) (w := w) (base := base) T 
  have g_is_square := ok_is_square (P := l.prog) (w := w) (base := base) T g_root
  have g_content := ok_content (P := l.prog) (w := w) (base := base) T g_divisor
  have g_count_without_sign := ok_count_without_sign (P := l.prog) (w := w) (base := base) T g_put_behind
  have g__law_wholes := ok__law_wholes (P := l.prog) (w := w) (base := base) T g__law_whole
  have g__law_flat := ok__law_flat (P := l.prog) (w := w) (base := base) T g__law_bar g__law_root
  have g__law_moved := ok__law_moved (P := l.prog) (w := w) (base := base) T g__law_value
  have gx_check_turn := okx_check_turn (P := l.prog) (w := w) (base := base) T g_is_turn
  have g_check_turn := ok_check_turn gx_check_turn
  have g_shape := ok_shape (P := l.prog) (w := w) (base := base) T g_measure g_is_square
  have g_back := ok_back (P := l.prog) (w := w) (base := base) T g_check_turn
  have g_moved := ok_moved (P := l.prog) (w := w) (base := base) T g_check_turn g_value g_middle
  have g_check_saddle := ok_check_saddle (P := l.prog) (w := w) (base := base) T g_check_at_most g_shape g_measure
  have g_stop_behind := ok_stop_behind (P := l.prog) (w := w) (base := base) T g_turn_behind g_moved g_put_behind
  have g_eased := ok_eased (P := l.prog) (w := w) (base := base) T g_check_saddle g_root g_measure g_stands_level g_stop_behind
  have g_stops_round := ok_stops_round (P := l.prog) (w := w) (base := base) T g_root g_eased g_stop_behind g_measure
  have g_step_pair := ok_step_pair (P := l.prog) (w := w) (base := base) T g_stops_round g_put_behind g_back
  have g_step_of := ok_step_of (P := l.prog) (w := w) (base := base) T g_check_saddle g_content g_step_pair
  have gx_power_of := okx_power_of (P := l.prog) (w := w) (base := base) T g_check_saddle gx_check_turn g_count_without_sign g_moved g_step_of
  have g_power_of := ok_power_of gx_power_of
  have g__law_told := ok__law_told (P := l.prog) (w := w) (base := base) T gx_power_of
  have g__law_refused := ok__law_refused (P := l.prog) (w := w) (base := base) T g__law_told
  have g_law := ok_law (P := l.prog) (w := w) (base := base) T g__law_saddle g__law_flat g__law_moved g_step_of g_power_of g__law_put g__law_cell g__law_turn g__law_wholes g__law_refused
  obtain ⟨f, fd, FT, GG⟩ := g_law
  have e1 := FT.mg.symm.trans (PySem.W.mg_of X G a37)
  cases e1
  have e2 := FT.fn.uniq F37
  subst e2
  exact GG
theorem walk {l : PySem.W.OpenLaw} {q : Program} {loose : List Str} {XP : (Str → Option Value) → Heap → Prop} {YP : World → Heap → Prop} {d : DefRec} {K : Params → PySem.W.Frag} (hn : l.most = some 63) (hdf : d.params.defaults = [])
    (hY : ∀ (w : World) (h : Heap), YP w h → (K w.params).In h)
    (F : ∀ (w : World) (mg : Str → Option Value) (fa : Addr) (h : Heap), (K w.params).In h → h.Ns mainGlobals mg → mg d.name = some (.ref fa) →
      ∃ fd : FuncData, (∀ (s : Shared) (u : Value), BindsTo s fd ⟨[u], []⟩ [("_law_script", u)]) ∧ ∀ base : Heap, (K w.params).In base → base.Ns mainGlobals mg → FnOk l.prog w (K w.params) mg base CX0 13 fa fd ["_law_script"] (lSp (K w.params) sp_law)) :
    PySem.W.WalkO q loose XP YP l.row.toRowW d [] (fun f vs => PySem.call f vs) :=
  L2.walk_of (n := 63) (k := 13) (x := "_law_script") (CX := fun _ => CX0) (sp := fun w => lSp (K w.params) sp_law) hn (by decide) hdf ⟨rfl, by decide, by decide⟩ hY F (fun w H a ns hl _ hS => law_start hl hS) fun _ _ _ _ _ z => z
end My
open PySem PySem.W PyProof.Rows
set_option maxRecDepth 100000 in
set_option maxHeartbeats 0 in
theorem PySem.Challenge.cw_formcycle_k28_so_many_steps_holds : PySem.Challenge.rw_formcycle_k28_so_many_steps.Holds := by
  w_on
  refine holds_law (by kernel_rfl) fun said => ?_
  refine holds_open (r := PySem.Challenge.rw_formcycle_k28_so_many_steps.row) (q := My.vw) (loose := []) (Xt := fun s => xlAt My.vw [] s && recOk (RowW.records (PySem.Challenge.rw_formcycle_k28_so_many_steps.row.toRowW)) s) (XP := XL My.vw []) (Yf := Hook.obs (kHook My.KK My.asK (fun _ => by kernel_rfl))) (Ya := Hook.val (kHook My.KK My.asK (fun _ => by kernel_rfl))) (YP := Hook.says (kHook My.KK My.asK (fun _ => by kernel_rfl))) (N := 8320) My.hl (Hook.of (kHook My.KK My.asK (fun _ => by kernel_rfl))) (Hook.keeps (kHook My.KK My.asK (fun _ => by kernel_rfl))) (fun s e => xl_of s (Bool.and_eq_true_iff.mp e).1) XL.keeps (by rfl) (by rfl) (by rfl) (fun s e => recFacts_of (Bool.and_eq_true_iff.mp e).2) (by rfl) said (by decide +kernel) ⟨rfl, rfl, rfl, rfl, rfl, by decide +kernel⟩ ?hw ?hc
  (case hw => w_witness2)
  k_fill
  refine My.walk (l := PySem.Challenge.rw_formcycle_k28_so_many_steps) rfl rfl (fun w h Y => PySem.W.kIn_of Y) ?F
  case F =>
    intro w mg fa h KX G hmg
    refine' My.all_mk KX G hmg ?a0 ?l0 ?c0 ?k0 ?a1 ?l1 ?c1 ?k1 ?a2 ?l2 ?c2 ?k2 ?a3 ?l3 ?c3 ?k3 ?a4 ?l4 ?c4 ?k4 ?a5 ?l5 ?c5 ?k5 ?a6 ?l6 ?c6 ?k6 ?a7 ?l7 ?c7 ?k7 ?a8 ?l8 ?c8 ?k8 ?a9 ?l9 ?c9 ?k9 ?a10 ?l10 ?c10 ?k10 ?a11 ?l11 ?c11 ?k11 ?a12 ?l12 ?c12 ?k12 ?a13 ?l13 ?c13 ?k13 ?a14 ?l14 ?c14 ?k14 ?a15 ?l15 ?c15 ?k15 ?a16 ?l16 ?c16 ?k16 ?a17 ?l17 ?c17 ?k17 ?a18 ?l18 ?c18 ?k18 ?a19 ?l19 ?c19 ?k19 ?a20 ?l20 ?c20 ?k20 ?a21 ?l21 ?c21 ?k21 ?a22 ?l22 ?c22 ?k22 ?a23 ?l23 ?c23 ?k23 ?a24 ?l24 ?c24 ?k24 ?a25 ?l25 ?c25 ?k25 ?a26 ?l26 ?c26 ?k26 ?a27 ?l27 ?c27 ?k27 ?a28 ?l28 ?c28 ?k28 ?a29 ?l29 ?c29 ?k29 ?a30 ?l30 ?c30 ?k30 ?a31 ?l31 ?c31 ?k31 ?a32 ?l32 ?c32 ?k32 ?a33 ?l33 ?c33 ?k33 ?a34 ?l34 ?c34 ?k34 ?a35 ?l35 ?c35 ?k35 ?a36 ?l36 ?c36 ?k36 ?a37 ?l37 ?c37 ?k37 ?z_abs ?z_bool ?z_int ?z_isinstance ?z_len ?z_max ?z_range ?z_tuple ?z_ValueError ?aU_FormError ?lU_FormError ?lN_FormError ?sk_FormError ?ni_FormError ?aC_NoTurn ?lC_NoTurn ?kC_NoTurn ?sa_NoTurn ?ga_NoTurn ?gh_NoTurn ?cl_NoTurn ?gg_NoTurn ?gt_NoTurn ?hi_NoTurn ?hf_NoTurn ?lI_NoTurn ?cI_NoTurn ?kI_NoTurn ?tk_NoTurn_turn ?nf_NoTurn_turn ?aC_NotOwn ?lC_NotOwn ?kC_NotOwn ?sa_NotOwn ?ga_NotOwn ?gh_NotOwn ?cl_NotOwn ?gg_NotOwn ?gt_NotOwn ?hi_NotOwn ?hf_NotOwn ?lI_NotOwn ?cI_NotOwn ?kI_NotOwn ?tk_NotOwn_turn ?nf_NotOwn_turn ?aA_Apart ?zA_Apart ?tA_Apart ?m_NoTurn_Apart ?m_NotOwn_Apart ?aA_NoAnswer ?zA_NoAnswer ?tA_NoAnswer ?m_NoTurn_NoAnswer ?m_NotOwn_NoAnswer ?aA_NoMeasure ?zA_NoMeasure ?tA_NoMeasure ?m_NoTurn_NoMeasure ?m_NotOwn_NoMeasure ?aA_NoRoot ?zA_NoRoot ?tA_NoRoot ?m_NoTurn_NoRoot ?m_NotOwn_NoRoot ?aA_NoShape ?zA_NoShape ?tA_NoShape ?m_NoTurn_NoShape ?m_NotOwn_NoShape ?aA_NotLevel ?zA_NotLevel ?tA_NotLevel ?m_NoTurn_NotLevel ?m_NotOwn_NotLevel ?aA_NotPlain ?zA_NotPlain ?tA_NotPlain ?m_NoTurn_NotPlain ?m_NotOwn_NotPlain ?aA_Nought ?zA_Nought ?tA_Nought ?m_NoTurn_Nought ?m_NotOwn_Nought ?aA_TooGreat ?zA_TooGreat ?tA_TooGreat ?m_NoTurn_TooGreat ?m_NotOwn_TooGreat ?zA_NotOwn ?tA_NotOwn ?m_NoTurn_NotOwn ?zA_NoTurn ?tA_NoTurn ?m_NotOwn_NoTurn ?a_SAME ?l_SAME ?a_MOST_MEASURE
    (case a0 => k_is)
    (case l0 => k_is)
    (case c0 => k_is)
    (case k0 => k_is)
    (case a1 => k_is)
    (case l1 => k_is)
    (case c1 => k_is)
    (case k1 => k_is)
    (case a2 => k_is)
    (case l2 => k_is)
    (case c2 => k_is)
    (case k2 => k_is)
    (case a3 => k_is)
    (case l3 => k_is)
    (case c3 => k_is)
    (case k3 => k_is)
    (case a4 => k_is)
    (case l4 => k_is)
    (case c4 => k_is)
    (case k4 => k_is)
    (case a5 => k_is)
    (case l5 => k_is)
    (case c5 => k_is)
    (case k5 => k_is)
    (case a6 => k_is)
    (case l6 => k_is)
    (case c6 => k_is)
    (case k6 => k_is)
    (case a7 => k_is)
    (case l7 => k_is)
    (case c7 => k_is)
    (case k7 => k_is)
    (case a8 => k_is)
    (case l8 => k_is)
    (case c8 => k_is)
    (case k8 => k_is)
    (case a9 => k_is)
    (case l9 => k_is)
    (case c9 => k_is)
    (case k9 => k_is)
    (case a10 => k_is)
    (case l10 => k_is)
    (case c10 => k_is)
    (case k10 => k_is)
    (case a11 => k_is)
    (case l11 => k_is)
    (case c11 => k_is)
    (case k11 => k_is)
    (case a12 => k_is)
    (case l12 => k_is)
    (case c12 => k_is)
    (case k12 => k_is)
    (case a13 => k_is)
    (case l13 => k_is)
    (case c13 => k_is)
    (case k13 => k_is)
    (case a14 => k_is)
    (case l14 => k_is)
    (case c14 => k_is)
    (case k14 => k_is)
    (case a15 => k_is)
    (case l15 => k_is)
    (case c15 => k_is)
    (case k15 => k_is)
    (case a16 => k_is)
    (case l16 => k_is)
    (case c16 => k_is)
    (case k16 => k_is)
    (case a17 => k_is)
    (case l17 => k_is)
    (case c17 => k_is)
    (case k17 => k_is)
    (case a18 => k_is)
    (case l18 => k_is)
    (case c18 => k_is)
    (case k18 => k_is)
    (case a19 => k_is)
    (case l19 => k_is)
    (case c19 => k_is)
    (case k19 => k_is)
    (case a20 => k_is)
    (case l20 => k_is)
    (case c20 => k_is)
    (case k20 => k_is)
    (case a21 => k_is)
    (case l21 => k_is)
    (case c21 => k_is)
    (case k21 => k_is)
    (case a22 => k_is)
    (case l22 => k_is)
    (case c22 => k_is)
    (case k22 => k_is)
    (case a23 => k_is)
    (case l23 => k_is)
    (case c23 => k_is)
    (case k23 => k_is)
    (case a24 => k_is)
    (case l24 => k_is)
    (case c24 => k_is)
    (case k24 => k_is)
    (case a25 => k_is)
    (case l25 => k_is)
    (case c25 => k_is)
    (case k25 => k_is)
    (case a26 => k_is)
    (case l26 => k_is)
    (case c26 => k_is)
    (case k26 => k_is)
    (case a27 => k_is)
    (case l27 => k_is)
    (case c27 => k_is)
    (case k27 => k_is)
    (case a28 => k_is)
    (case l28 => k_is)
    (case c28 => k_is)
    (case k28 => k_is)
    (case a29 => k_is)
    (case l29 => k_is)
    (case c29 => k_is)
    (case k29 => k_is)
    (case a30 => k_is)
    (case l30 => k_is)
    (case c30 => k_is)
    (case k30 => k_is)
    (case a31 => k_is)
    (case l31 => k_is)
    (case c31 => k_is)
    (case k31 => k_is)
    (case a32 => k_is)
    (case l32 => k_is)
    (case c32 => k_is)
    (case k32 => k_is)
    (case a33 => k_is)
    (case l33 => k_is)
    (case c33 => k_is)
    (case k33 => k_is)
    (case a34 => k_is)
    (case l34 => k_is)
    (case c34 => k_is)
    (case k34 => k_is)
    (case a35 => k_is)
    (case l35 => k_is)
    (case c35 => k_is)
    (case k35 => k_is)
    (case a36 => k_is)
    (case l36 => k_is)
    (case c36 => k_is)
    (case k36 => k_is)
    (case a37 => k_is)
    (case l37 => k_is)
    (case c37 => k_is)
    (case k37 => k_is)
    (case z_abs => k_is)
    (case z_bool => k_is)
    (case z_int => k_is)
    (case z_isinstance => k_is)
    (case z_len => k_is)
    (case z_max => k_is)
    (case z_range => k_is)
    (case z_tuple => k_is)
    (case z_ValueError => k_is)
    (case aU_FormError => k_is)
    (case lU_FormError => k_is)
    (case lN_FormError => k_is)
    (case sk_FormError => rfl)
    (case ni_FormError => rfl)
    (case aC_NoTurn => k_is)
    (case lC_NoTurn => k_is)
    (case kC_NoTurn => k_is)
    (case sa_NoTurn => k_is)
    (case ga_NoTurn => k_is)
    (case gh_NoTurn => k_is)
    (case cl_NoTurn => k_is)
    (case gg_NoTurn => k_is)
    (case gt_NoTurn => k_is)
    (case hi_NoTurn => k_is)
    (case hf_NoTurn => k_is)
    (case lI_NoTurn => k_is)
    (case cI_NoTurn => k_is)
    (case kI_NoTurn => k_is)
    (case tk_NoTurn_turn => k_is)
    (case nf_NoTurn_turn => k_is)
    (case aC_NotOwn => k_is)
    (case lC_NotOwn => k_is)
    (case kC_NotOwn => k_is)
    (case sa_NotOwn => k_is)
    (case ga_NotOwn => k_is)
    (case gh_NotOwn => k_is)
    (case cl_NotOwn => k_is)
    (case gg_NotOwn => k_is)
    (case gt_NotOwn => k_is)
    (case hi_NotOwn => k_is)
    (case hf_NotOwn => k_is)
    (case lI_NotOwn => k_is)
    (case cI_NotOwn => k_is)
    (case kI_NotOwn => k_is)
    (case tk_NotOwn_turn => k_is)
    (case nf_NotOwn_turn => k_is)
    (case aA_Apart => k_is)
    (case zA_Apart => k_is)
    (case tA_Apart => k_is)
    (case m_NoTurn_Apart => k_is)
    (case m_NotOwn_Apart => k_is)
    (case aA_NoAnswer => k_is)
    (case zA_NoAnswer => k_is)
    (case tA_NoAnswer => k_is)
    (case m_NoTurn_NoAnswer => k_is)
    (case m_NotOwn_NoAnswer => k_is)
    (case aA_NoMeasure => k_is)
    (case zA_NoMeasure => k_is)
    (case tA_NoMeasure => k_is)
    (case m_NoTurn_NoMeasure => k_is)
    (case m_NotOwn_NoMeasure => k_is)
    (case aA_NoRoot => k_is)
    (case zA_NoRoot => k_is)
    (case tA_NoRoot => k_is)
    (case m_NoTurn_NoRoot => k_is)
    (case m_NotOwn_NoRoot => k_is)
    (case aA_NoShape => k_is)
    (case zA_NoShape => k_is)
    (case tA_NoShape => k_is)
    (case m_NoTurn_NoShape => k_is)
    (case m_NotOwn_NoShape => k_is)
    (case aA_NotLevel => k_is)
    (case zA_NotLevel => k_is)
    (case tA_NotLevel => k_is)
    (case m_NoTurn_NotLevel => k_is)
    (case m_NotOwn_NotLevel => k_is)
    (case aA_NotPlain => k_is)
    (case zA_NotPlain => k_is)
    (case tA_NotPlain => k_is)
    (case m_NoTurn_NotPlain => k_is)
    (case m_NotOwn_NotPlain => k_is)
    (case aA_Nought => k_is)
    (case zA_Nought => k_is)
    (case tA_Nought => k_is)
    (case m_NoTurn_Nought => k_is)
    (case m_NotOwn_Nought => k_is)
    (case aA_TooGreat => k_is)
    (case zA_TooGreat => k_is)
    (case tA_TooGreat => k_is)
    (case m_NoTurn_TooGreat => k_is)
    (case m_NotOwn_TooGreat => k_is)
    (case zA_NotOwn => k_is)
    (case tA_NotOwn => k_is)
    (case m_NoTurn_NotOwn => k_is)
    (case zA_NoTurn => k_is)
    (case tA_NoTurn => k_is)
    (case m_NotOwn_NoTurn => k_is)
    (case a_SAME => k_is)
    (case l_SAME => k_is)
    (case a_MOST_MEASURE => k_is)

