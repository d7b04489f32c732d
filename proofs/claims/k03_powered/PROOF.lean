import PyProof.Rows.All
import Wide.All
import OpenK.AllK
import Wide.FinOn
import Lean
import PyProof.EqAt
import PyProof.EqKinds
import PyProof.TupleCall
import PySem.Challenge.RW_formcycle_k03_powered
set_option Elab.async false
set_option linter.all false
set_option maxRecDepth 100000
namespace L2
open PySem PySem.Spec PyProof.Rows

abbrev Key := Sum Int Str
def keyIs : Key → Value → Bool
  | .inl k, v => Value.isInt k v
  | .inr x, v => Value.isStrOf x v
def keyH (w : World) : Key → Int
  | .inl k => hashInt k
  | .inr x => hashStr w x
theorem keyIs_shape : ∀ {k : Key} {v : Value}, keyIs k v = true → (∃ i t, k = Sum.inl i ∧ v = Value.int i t) ∨ (∃ x t, k = Sum.inr x ∧ v = Value.str x t)
  | .inl i, v, h => by
    obtain ⟨t, e⟩ := Value.isInt_shape (k := i) (v := v) h
    exact .inl ⟨i, t, rfl, e⟩
  | .inr x, v, h => by
    obtain ⟨t, e⟩ := Value.isStrOf_shape (x := x) (v := v) h
    exact .inr ⟨x, t, rfl, e⟩
theorem key_ll (a b : Int) : decide ((Sum.inl a : Key) = Sum.inl b) = (a == b) := by
  by_cases e : a = b
  · subst e; simp
  · have h : ¬ (Sum.inl a : Key) = Sum.inl b := fun q => e (Sum.inl.inj q)
    rw [decide_eq_false h]
    exact (beq_eq_false_iff_ne.mpr e).symm
theorem key_rr (a b : Str) : decide ((Sum.inr a : Key) = Sum.inr b) = decide (a = b) := by
  by_cases e : a = b
  · subst e; simp
  · have h : ¬ (Sum.inr a : Key) = Sum.inr b := fun q => e (Sum.inr.inj q)
    rw [decide_eq_false h, decide_eq_false e]
theorem key_lr (a : Int) (b : Str) : decide ((Sum.inl a : Key) = Sum.inr b) = false := decide_eq_false (fun q => nomatch q)
theorem key_rl (a : Str) (b : Int) : decide ((Sum.inr a : Key) = Sum.inl b) = false := decide_eq_false (fun q => nomatch q)

def mixKind (prog : Program) (w : World) : PySem.KeyKind prog w Key where
  is := keyIs
  hash := keyH w
  inj := fun v a b ha hb => by
    rcases keyIs_shape ha with ⟨i, t, rfl, rfl⟩ | ⟨x, t, rfl, rfl⟩
    · rcases keyIs_shape hb with ⟨j, u, rfl, e⟩ | ⟨y, u, rfl, e⟩
      · injection e with e1 _; rw [e1]
      · exact nomatch e
    · rcases keyIs_shape hb with ⟨j, u, rfl, e⟩ | ⟨y, u, rfl, e⟩
      · exact nomatch e
      · injection e with e1 _; rw [e1]
  byValue := fun k v h => by
    rcases keyIs_shape h with ⟨i, t, rfl, rfl⟩ | ⟨x, t, rfl, rfl⟩ <;> rfl
  pyHash := fun hv h => by
    rcases keyIs_shape hv with ⟨i, t, rfl, rfl⟩ | ⟨x, t, rfl, rfl⟩
    · exact wpAny_pyHash_int h
    · exact wpAny_pyHash_str h
  eqBool := fun hu hv h => by
    rcases keyIs_shape hu with ⟨i, t, rfl, rfl⟩ | ⟨x, t, rfl, rfl⟩
    · rcases keyIs_shape hv with ⟨j, u, rfl, rfl⟩ | ⟨y, u, rfl, rfl⟩
      · rw [key_ll] at h; exact wpAny_eqBool_int h
      · rw [key_lr] at h; exact SeqAt.EqAt.int_str i t y u _ _ _ _ h
    · rcases keyIs_shape hv with ⟨j, u, rfl, rfl⟩ | ⟨y, u, rfl, rfl⟩
      · rw [key_rl] at h; exact SeqAt.EqAt.str_int x t j u _ _ _ _ h
      · rw [key_rr] at h; exact wpAny_eqBool_str h
  «strs» := fun k x t v h => by
    rcases keyIs_shape h with ⟨i, u, rfl, e⟩ | ⟨y, u, rfl, e⟩
    · exact nomatch e
    · injection e with e1 _
      subst e1
      cases v <;> rfl

end L2

namespace L2
open PySem PySem.Spec PyProof.Rows

inductive V where
  | non | bl (b : Bool) | int (i : Int) | str (x : Str) | byt (b : Array UInt8) | flt (b : UInt64) | ref (a : Addr) | ty (n : String)
  deriving DecidableEq

def RelV : V → Value → Prop
  | .non, u => u = Value.none
  | .bl b, u => u = Value.bool b
  | .int i, u => ∃ t, u = Value.int i t
  | .str x, u => ∃ t, u = Value.str x t
  | .byt b, u => ∃ t, u = Value.bytes b t
  | .flt b, u => ∃ t, u = Value.float b t
  | .ref a, u => u = Value.ref a
  | .ty n, u => u = Value.type n

abbrev Vals : List V → List Value → Prop := Paired RelV
theorem Vals.length {xs : List V} {us : List Value} (r : Vals xs us) : xs.length = us.length := Paired.length r
theorem Vals.get : ∀ {xs : List V} {us : List Value} {i : Nat} {x : V}, Vals xs us → xs[i]? = some x → ∃ u, us[i]? = some u ∧ RelV x u
  | _, _, _, _, .nil, e => by simp at e
  | _, _, 0, _, .cons r _, e => by simp at e; subst e; exact ⟨_, rfl, r⟩
  | _, _, i + 1, x, .cons _ t, e => by
    obtain ⟨u, h1, h2⟩ := Vals.get (i := i) (x := x) t (by simpa using e)
    exact ⟨u, by simpa using h1, h2⟩
theorem Vals.append : ∀ {xs ys : List V} {us ws : List Value}, Vals xs us → Vals ys ws → Vals (xs ++ ys) (us ++ ws)
  | _, _, _, _, .nil, s => s
  | _, _, _, _, .cons r t, s => .cons r (Vals.append t s)
theorem Vals.take : ∀ {xs : List V} {us : List Value} (n : Nat), Vals xs us → Vals (xs.take n) (us.take n)
  | _, _, 0, _ => .nil
  | _, _, _ + 1, .nil => .nil
  | _, _, n + 1, .cons r t => .cons r (Vals.take n t)
theorem Vals.drop : ∀ {xs : List V} {us : List Value} (n : Nat), Vals xs us → Vals (xs.drop n) (us.drop n)
  | _, _, 0, r => r
  | _, _, _ + 1, .nil => .nil
  | _, _, n + 1, .cons _ t => Vals.drop n t
def RelO : Option V → Option Value → Prop
  | some v, some u => RelV v u
  | none, none => True
  | _, _ => False
def KV {κ : Type} : List (κ × V) → List (κ × Value) → Prop := Paired fun (p : κ × V) (q : κ × Value) => p.1 = q.1 ∧ RelV p.2 q.2

def kV : Key → V
  | .inl i => .int i
  | .inr x => .str x

inductive HO where
  /-- a list -/
  | lst (xs : List V)
  /-- a tuple (never changes) -/
  | tup (xs : List V)
  /-- a dict whose keys are ints and texts; one whose keys are tuples of ints and texts (the empty one is both) -/
  | dK (kvs : List (Key × V)) | dT (kvs : List (List Key × V))
  /-- a set of ints: its members, its size -/
  | set (S : Int → Bool) (n : Nat)
  /-- an instance of the class at C, its dict at dx, its attributes -/
  | ins (C dx : Addr) (fs : List (Str × V))
  /-- the dict of the instance at x -/
  | own (x : Addr)
  /-- the dict of an exception -/
  | xd (fs : List (Str × V))
  /-- a bound method, f of x -/
  | met (f x : Addr)
  /-- a range object lo, lo + 1, .. below hi -/
  | rng (lo hi : Int)
  /-- a thing that is known to the object (the script; a dict while a loop walks it): read, never written while it is so -/
  | frz (o : Obj) (u : HO)
  /-- a code object's table -/
  | tbl (ps : Array Value)
  /-- any other thing, by what is true of its one object (a def of one's own: SetO a S n := HO.ext fun h => ..) -/
  | ext (φ : Heap → Prop)

abbrev Hp := Addr → Option HO
def upd (H : Hp) (a : Addr) (o : HO) : Hp := fun b => if b = a then some o else H b
theorem upd_same {H : Hp} {a : Addr} {o : HO} : upd H a o a = some o := by unfold upd; rw [if_pos rfl]
theorem upd_ne {H : Hp} {a b : Addr} {o : HO} (h : b ≠ a) : upd H a o b = H b := by unfold upd; rw [if_neg h]
theorem ne_of_none {H : Hp} {a b : Addr} {o : HO} (h : H a = some o) (h' : H b = none) : a ≠ b := by
  intro e; subst e; rw [h] at h'; cases h'

section
variable (P : Program) (w : World)
def ObjOk (H : Hp) (h : Heap) (a : Addr) : HO → Prop
  | .lst xs => xs.length ≤ sizeLine ∧ ∃ (its : List Value) (n : Nat), Vals xs its ∧ h.get? a = some { cls := .type "list", data := .seq its.toArray n }
  | .tup xs => xs.length ≤ sizeLine ∧ ∃ its : List Value, Vals xs its ∧ IsTup h a its.toArray
  | .dK kvs => kvs.length ≤ sizeLine ∧ (a == sysModules) = false ∧ ∃ vs, KV kvs vs ∧ h.DictOf (mixKind P w) a vs
  | .dT kvs => kvs.length ≤ sizeLine ∧ (a == sysModules) = false ∧ ∃ xs : List (List Key × Addr × Value),
      Paired (fun (p : List Key × V) (q : List Key × Addr × Value) => p.1 = q.1 ∧ H q.2.1 = some (.tup (p.1.map kV)) ∧ RelV p.2 q.2.2) kvs xs ∧
      ∃ o es ep, h.get? a = some o ∧ o.ExactDict ∧ o.data = .dict es ep ∧ es.toList = xs.map (entryOfKey (tupleKind (mixKind P w))) ∧ (xs.map (·.1)).Nodup
  | .set S n => h.SetOf (intKind P w) a S n
  | .ins C dx fs => H dx = some (.own a) ∧ fs.length ≤ 1000 ∧ dx ≠ a ∧ h.get? a = some (PySem.W.instObj C dx) ∧
      ∃ mA, h.Ns1 dx mA ∧ (∀ f, RelO (fs.lookup f) (mA f)) ∧ PySem.Within mA (fs.map (·.1))
  | .own _ => ∃ o, h.get? a = some o
  | .xd fs => ∃ mA, h.Ns1 a mA ∧ ∀ f, RelO (fs.lookup f) (mA f)
  | .rng lo hi => ∃ t u v, h.get? a = some { cls := .type "range", data := .fields #[.int lo t, .int hi u, .int 1 v] }
  | .frz o u => h.get? a = some o ∧ ObjOk H h a u
  | .tbl ps => h.get? a = some { cls := .none, data := .fields ps }
  | .met f x => h.get? a = some (PySem.W.methodObj (.ref f) (.ref x))
  | .ext φ => φ h ∧ (∃ o, h.get? a = some o) ∧ ∀ h1 h2 : Heap, φ h1 → (∀ o, h1.get? a = some o → h2.get? a = some o) → φ h2
def HOk (H : Hp) (h : Heap) : Prop := ∀ a o, H a = some o → ObjOk P w H h a o
end

section
variable {P : Program} {w : World} {H H' : Hp} {h h' : Heap} {a : Addr} {o : HO}
theorem ObjOk.lt (x : ObjOk P w H h a o) : a < h.objs.size := by
  cases o with
  | lst xs => obtain ⟨_, _, _, _, e⟩ := x; exact Heap.lt_size e
  | tup xs => obtain ⟨_, _, _, p⟩ := x; exact p.lt
  | dK kvs => obtain ⟨_, _, _, _, o, _, _, e, _⟩ := x; exact Heap.lt_size e
  | dT kvs => obtain ⟨_, _, _, _, o, _, _, e, _⟩ := x; exact Heap.lt_size e
  | set S n => obtain ⟨o, _, _, _, e, _⟩ := x; exact Heap.lt_size e
  | ins C dx fs => obtain ⟨_, _, _, e, _⟩ := x; exact Heap.lt_size e
  | own y => obtain ⟨_, e⟩ := x; exact Heap.lt_size e
  | xd fs => obtain ⟨_, ⟨_, _, _, e, _⟩, _⟩ := x; exact Heap.lt_size e
  | rng lo hi => obtain ⟨_, _, _, e⟩ := x; exact Heap.lt_size e
  | frz ob u => obtain ⟨e, _⟩ := x; exact Heap.lt_size e
  | tbl ps => exact Heap.lt_size (show h.get? a = some _ from x)
  | met f y => exact Heap.lt_size (show h.get? a = some _ from x)
  | ext φ => obtain ⟨_, ⟨_, e⟩, _⟩ := x; exact Heap.lt_size e
theorem Paired.mapP {α β : Type} {F G : α → β → Prop} : ∀ {l₁ : List α} {l₂ : List β}, Paired F l₁ l₂ → (∀ a b, F a b → G a b) → Paired G l₁ l₂
  | _, _, .nil, _ => .nil
  | _, _, .cons r t, f => .cons (f _ _ r) (Paired.mapP t f)
theorem ObjOk.stay (x : ObjOk P w H h a o) (k : ∀ b u, (b = a ∨ H b = some (.own a)) → h.get? b = some u → h'.get? b = some u)
    (ho : ∀ b, H b = some (.own a) → H' b = some (.own a)) (ht : ∀ b xs, H b = some (.tup xs) → H' b = some (.tup xs)) : ObjOk P w H' h' a o := by
  induction o with
  | lst xs => obtain ⟨z, its, n, r, e⟩ := x; exact ⟨z, its, n, r, k _ _ (.inl rfl) e⟩
  | tup xs => obtain ⟨z, its, r, ob, e, c⟩ := x; exact ⟨z, its, r, ob, k _ _ (.inl rfl) e, c⟩
  | dK kvs => obtain ⟨z, y, vs, r, ob, es, ep, e, c⟩ := x; exact ⟨z, y, vs, r, ob, es, ep, k _ _ (.inl rfl) e, c⟩
  | dT kvs =>
    obtain ⟨z, y, xs, r, ob, es, ep, e, c⟩ := x
    exact ⟨z, y, xs, Paired.mapP r fun p q z => ⟨z.1, ht _ _ z.2.1, z.2.2⟩, ob, es, ep, k _ _ (.inl rfl) e, c⟩
  | set S n => obtain ⟨ob, es, ep, t, e, c⟩ := x; exact ⟨ob, es, ep, t, k _ _ (.inl rfl) e, c⟩
  | ins C dx fs =>
    obtain ⟨d, z, ne, e, mA, ⟨od, es, ep, e2, c⟩, r⟩ := x
    exact ⟨ho _ d, z, ne, k _ _ (.inl rfl) e, mA, ⟨od, es, ep, k _ _ (.inr d) e2, c⟩, r⟩
  | own y => obtain ⟨ob, e⟩ := x; exact ⟨ob, k _ _ (.inl rfl) e⟩
  | xd fs => obtain ⟨mA, ⟨od, es, ep, e, c⟩, r⟩ := x; exact ⟨mA, ⟨od, es, ep, k _ _ (.inl rfl) e, c⟩, r⟩
  | rng lo hi => obtain ⟨t, u, v, e⟩ := x; exact ⟨t, u, v, k _ _ (.inl rfl) e⟩
  | frz ob u ih => obtain ⟨e, q⟩ := x; exact ⟨k _ _ (.inl rfl) e, ih q⟩
  | tbl ps =>
    have e : h.get? a = some { cls := .none, data := .fields ps } := x
    show h'.get? a = some { cls := .none, data := .fields ps }
    exact k a _ (.inl rfl) e
  | met f y =>
    have e : h.get? a = some (PySem.W.methodObj (.ref f) (.ref y)) := x
    show h'.get? a = some (PySem.W.methodObj (.ref f) (.ref y))
    exact k a _ (.inl rfl) e
  | ext φ => obtain ⟨p, ⟨o, e⟩, st⟩ := x; exact ⟨st _ _ p fun o q => k _ _ (.inl rfl) q, ⟨o, k _ _ (.inl rfl) e⟩, st⟩
theorem HOk.lt (x : HOk P w H h) (e : H a = some o) : a < h.objs.size := (x a o e).lt
theorem HOk.fresh (x : HOk P w H h) (e : h.objs.size ≤ a) : H a = none := by
  cases q : H a with
  | none => rfl
  | some u => exact absurd (Nat.lt_of_lt_of_le (x.lt q) e) (Nat.lt_irrefl _)
theorem HOk.kept (x : HOk P w H h) (k : ∀ b u, h.get? b = some u → h'.get? b = some u) : HOk P w H h' := fun a o e =>
  (x a o e).stay (fun b u _ q => k b u q) (fun _ q => q) fun _ _ q => q
theorem HOk.laid (x : HOk P w H h) (k : ∀ b u, h.get? b = some u → h'.get? b = some u) (hp : h.objs.size ≤ a) (new : ObjOk P w (upd H a o) h' a o) : HOk P w (upd H a o) h' := fun b u e => by
  have hn := x.fresh hp
  by_cases hb : b = a
  · subst hb; rw [upd_same] at e; cases e; exact new
  · rw [upd_ne hb] at e
    exact (x b u e).stay (fun c v _ q => k c v q) (fun c q => by rw [upd_ne (ne_of_none q hn)]; exact q) fun c xs q => by rw [upd_ne (ne_of_none q hn)]; exact q
end

def Rd (H : Hp) (a : Addr) (u : HO) : Prop := H a = some u ∨ ∃ o, H a = some (.frz o u)
theorem Rd.ok {P : Program} {w : World} {H : Hp} {h : Heap} {a : Addr} {u : HO} (r : Rd H a u) (x : HOk P w H h) : ObjOk P w H h a u := by
  rcases r with r | ⟨o, r⟩
  · exact x a u r
  · obtain ⟨_, q⟩ := x a _ r
    exact q
def Mut : Option HO → Prop
  | some (.lst _) => True
  | some (.dK _) => True
  | some (.dT _) => True
  | some (.set _ _) => True
  | some (.ins _ _ _) => True
  | some (.ext _) => True
  | _ => False
section
variable {P : Program} {w : World} {H : Hp} {h h' : Heap} {x e : Addr} {o' : HO}
theorem HOk.write (ok : HOk P w H h) (mu : Mut (H x)) (he : e = x ∨ H e = some (.own x)) (k : ∀ b u, b ≠ e → h.get? b = some u → h'.get? b = some u) (heo : ∃ u, h'.get? e = some u)
    (new : ObjOk P w (upd H x o') h' x o') : HOk P w (upd H x o') h' := fun b u q => by
  have nown : ∀ c y, H c = some (.own y) → c ≠ x := fun c y r z => by subst z; rw [r] at mu; exact mu
  have ntup : ∀ c xs, H c = some (.tup xs) → c ≠ x := fun c xs r z => by subst z; rw [r] at mu; exact mu
  by_cases hb : b = x
  · subst hb; rw [upd_same] at q; cases q; exact new
  · rw [upd_ne hb] at q
    by_cases hbe : b = e
    · have q' : H b = some (.own x) := by
        rcases he with z | z
        · exact absurd (hbe.trans z) hb
        · rw [hbe]; exact z
      rw [q] at q'; cases q'
      obtain ⟨v, hv⟩ := heo
      exact ⟨v, by rw [hbe]; exact hv⟩
    · refine (ok b u q).stay (fun c v hc r => k c v ?_ r) (fun c r => by rw [upd_ne (nown c b r)]; exact r) fun c xs r => by rw [upd_ne (ntup c xs r)]; exact r
      rcases hc with rfl | hc
      · exact hbe
      · rintro rfl
        rcases he with z | z
        · exact nown c b hc z
        · rw [hc] at z; cases z; exact hb rfl
end

structure Un (fs ex : List Addr) (H H' : Hp) (h h' : Heap) : Prop where
  keep : ∀ b o, h.get? b = some o → H b = none → b ∉ fs → b ∉ ex → h'.get? b = some o
  slot : ∀ b o, h.get? b = some o → H b = none → b ∈ fs → b ∉ ex → ∃ sl, h'.get? b = some { o with slots := sl }
  free : ∀ b o, h.get? b = some o → H b = none → b ∉ ex → H' b = none
  there : ∀ b o, h.get? b = some o → b ∉ ex → ∃ o', h'.get? b = some o'
  tups : ∀ b xs, H b = some (.tup xs) → H' b = some (.tup xs)
  frzs : ∀ b o u, H b = some (.frz o u) → H' b = some (.frz o u)
  tbls : ∀ b ps, H b = some (.tbl ps) → ∃ more, H' b = some (.tbl (ps ++ more))
section
variable {fs fs' ex ex' : List Addr} {H H1 H2 : Hp} {h h1 h2 h' : Heap} {a x e : Addr} {o : HO}
theorem Un.any (u : Un fs ex H H1 h h1) {b : Addr} {ob : Obj} (q : h.get? b = some ob) (n : H b = none) (hx : b ∉ ex) : ∃ sl, h1.get? b = some { ob with slots := sl } := by
  by_cases hb : b ∈ fs
  · exact u.slot b ob q n hb hx
  · exact ⟨ob.slots, u.keep b ob q n hb hx⟩
theorem Un.kept (k : ∀ b u, h.get? b = some u → h'.get? b = some u) : Un fs ex H H h h' :=
  ⟨fun b ob q _ _ _ => k b ob q, fun b ob q _ _ _ => ⟨ob.slots, k b ob q⟩, fun _ _ _ n _ => n, fun b ob q _ => ⟨ob, k b ob q⟩, fun _ _ q => q, fun _ _ _ q => q, fun _ ps q => ⟨#[], by rw [q]; simp⟩⟩
theorem Un.refl : Un fs ex H H h h := Un.kept fun _ _ q => q
theorem Un.laid (k : ∀ b u, h.get? b = some u → h'.get? b = some u) (hp : h.objs.size ≤ a) (hn : H a = none) : Un fs ex H (upd H a o) h h' where
  keep := fun b u q _ _ _ => k b u q
  slot := fun b u q _ _ _ => ⟨u.slots, k b u q⟩
  free := fun b u q n _ => by rw [upd_ne (Nat.ne_of_lt (Nat.lt_of_lt_of_le (Heap.lt_size q) hp))]; exact n
  there := fun b u q _ => ⟨u, k b u q⟩
  tups := fun b xs q => by rw [upd_ne (ne_of_none q hn)]; exact q
  frzs := fun b u xs q => by rw [upd_ne (ne_of_none q hn)]; exact q
  tbls := fun b ps q => ⟨#[], by rw [upd_ne (ne_of_none q hn), q]; simp⟩
theorem Un.write (mu : Mut (H x)) (he : e = x ∨ H e = some (.own x)) (k : ∀ b u, b ≠ e → h.get? b = some u → h'.get? b = some u) (heo : ∃ u, h'.get? e = some u) : Un fs ex H (upd H x o) h h' := by
  have hx : ∀ b, H b = none → b ≠ x := fun b n z => by subst z; rw [n] at mu; exact mu
  have hb : ∀ b, H b = none → b ≠ e := fun b n z => by
    subst z
    rcases he with r | r
    · exact hx b n r
    · rw [n] at r; cases r
  have hm : ∀ b u, H b = some u → ¬ Mut (some u) → b ≠ x := fun b u q nm z => by subst z; rw [q] at mu; exact nm mu
  refine ⟨fun b u q n _ _ => k b u (hb b n) q, fun b u q n _ _ => ⟨u.slots, k b u (hb b n) q⟩, fun b u q n _ => by rw [upd_ne (hx b n)]; exact n, fun b u q _ => ?_,
    fun b xs q => by rw [upd_ne (hm b _ q fun z => z)]; exact q, fun b u xs q => by rw [upd_ne (hm b _ q fun z => z)]; exact q, fun b ps q => ⟨#[], by rw [upd_ne (hm b _ q fun z => z), q]; simp⟩⟩
  by_cases hbe : b = e
  · subst hbe; exact heo
  · exact ⟨u, k b u hbe q⟩
end

def trk (h : Heap) (H : Hp) : List Addr := (List.range h.objs.size).filter fun a => (H a).isSome
def hidT (h : Heap) (H : Hp) : Heap := PySem.W.hideAll h (trk h H)
theorem hidT_size (h : Heap) (H : Hp) : (hidT h H).objs.size = h.objs.size := PySem.W.hideAll_size _ _
theorem hidT_get {h : Heap} {H : Hp} {b : Addr} {o : Obj} (e : h.get? b = some o) (n : H b = none) : (hidT h H).get? b = some o :=
  PySem.W.hideAll_get _ e fun hm => by
    have q : (H b).isSome = true := (List.mem_filter.mp hm).2
    rw [n] at q; simp at q
theorem of_hidT {h : Heap} {H : Hp} {b : Addr} {o : Obj} (e : (hidT h H).get? b = some o) : h.get? b = some o ∧ H b = none := by
  have e' : h.get? b = some o := PySem.W.of_hideAll (trk h H) e
  refine ⟨e', ?_⟩
  cases q : H b with
  | none => rfl
  | some x =>
    have hm : b ∈ trk h H := List.mem_filter.mpr ⟨List.mem_range.mpr (Heap.lt_size e'), by simp [q]⟩
    have z : (hidT h H).get? b = none := PySem.W.hideAll_none (trk h H) hm
    rw [z] at e; cases e

def allNews (g h : Heap) (L : Addr) : List (Addr × Obj) := (List.range h.objs.size).filterMap fun a => if a = L ∨ (g.get? a).isSome = true then none else (h.get? a).map fun o => (a, o)
def rest (g h : Heap) (L d : Addr) : List (Addr × Obj) := (allNews g h L).filter fun p => decide (p.1 ≠ d)
end L2

namespace L2
open PySem PySem.Spec PyProof.Rows

structure Mod (K : PySem.W.Frag) (mg : Str → Option Value) (base : Heap) : Prop where
  kin : K.In base
  glob : base.Ns mainGlobals mg
  blt : ∃ mb, base.Ns builtinsNs mb ∧ ∀ x : Str, x ≠ "__name__" → mb x = bootBuiltins x
  nolimit : base.NoLimit

structure Cx where
  prog : Program
  w : World
  K : PySem.W.Frag
  mg : Str → Option Value
  base : Heap
  A : Around
  N : List Str
  s₀ : Shared
  H₀ : Hp
  env : Env
  outer : List Env
  stack : List Env
  ex : List Addr
  fn : Str → Bool
  calm : Bool
  pn : List (Addr × Obj)
  xe : Value → Shared → Prop
def frs (l : List Env) : List Addr := l.filterMap (·.frame)
abbrev Cx.fs (X : Cx) : List Addr := frs X.outer

def Vis (sc : Scope) (x : Str) : Prop := sc.names.lookup x = some .local ∨ sc.names.lookup x = some .cell ∨ sc.names.lookup x = some .free
def Loc (sc : Scope) (x : Str) : Prop := sc.names.lookup x = some .local ∨ sc.names.lookup x = some .cell
def Look (env : Env) (h : Heap) (m : Str → Option Value) (x : Str) (u : Value) : Prop :=
  (env.kindOf x = some .local ∧ m x = some u) ∨ ((env.kindOf x = some .cell ∨ env.kindOf x = some .free) ∧ ∃ c, env.cells.lookup x = some c ∧ h.IsCell c (some u))

structure Cx.Ok (X : Cx) : Prop where
  mod : Mod X.K X.mg X.base
  kind : X.env.scope.kind = .function
  glob : X.env.globals = mainGlobals
  blt : X.env.builtins = builtinsNs
  above : X.s₀.heap.objs.size ≤ X.env.locals
  inj : ∀ x y c, X.env.cells.lookup x = some c → X.env.cells.lookup y = some c → x = y
  has : ∀ x, (X.env.kindOf x = some .cell ∨ X.env.kindOf x = some .free) → ∃ c, X.env.cells.lookup x = some c
  cab : ∀ x c, X.fn x = true → X.env.cells.lookup x = some c → X.s₀.heap.objs.size ≤ c
  hd : X.calm = true → X.A.handled = none
  frames : X.A.frames = some X.stack
  stk : X.stack = X.outer ∨ (X.stack = X.env :: X.outer ∧ X.env.frame = some X.env.locals)
  exf : ∀ b ∈ X.ex, b ≠ X.env.locals ∧ ∀ x c, X.env.cells.lookup x = some c → c ≠ b
  bs : ∀ b o, X.base.get? b = some o → X.s₀.heap.get? b = some o ∧ X.H₀ b = none
  bsz : X.base.objs.size ≤ X.s₀.heap.objs.size
  noex : ∀ b o, X.base.get? b = some o → b ∉ X.ex
  exfs : ∀ b ∈ X.ex, b ∉ X.fs
  funs : X.s₀.heap.FunFrames X.base X.outer
  frf : ∀ b ∈ X.fs, X.H₀ b = none

structure Inv (X : Cx) (pins : List (Addr × Obj)) (σ : List (Option V)) (H : Hp) (s : Shared) : Prop where
  ok : X.Ok
  os : s.os = X.s₀.os
  bare : AllBare s.gens
  base : Un X.fs X.ex X.H₀ H X.s₀.heap s.heap
  loc : ∃ m, s.heap.Ns X.env.locals m ∧ ∀ (i : Nat) (x : Str) (v : V), X.N[i]? = some x → σ[i]? = some (some v) → Vis X.env.scope x → ∃ u, RelV v u ∧ Look X.env s.heap m x u
  cell : ∀ x c, X.env.cells.lookup x = some c → ∃ v, s.heap.IsCell c v
  free : H X.env.locals = none
  freeC : ∀ x c, X.env.cells.lookup x = some c → H c = none
  pin : ∀ p ∈ X.pn ++ pins, s.heap.get? p.1 = some p.2 ∧ H p.1 = none ∧ p.1 ≠ X.env.locals ∧ p.1 ∉ X.fs ∧ ∀ v, p.2.data ≠ .cell v
  hok : HOk X.prog X.w H s.heap
  len : σ.length = X.N.length

section
variable {X : Cx} {pins : List (Addr × Obj)} {σ : List (Option V)} {H H' : Hp} {s : Shared} {h' : Heap}

theorem Cx.Ok.nofr (ok : X.Ok) {b : Addr} {o : Obj} (e : X.base.get? b = some o) : b ∉ X.fs := fun hb => by
  have := (ok.funs.mem hb).1
  rw [e] at this; cases this
theorem Inv.bs (I : Inv X pins σ H s) : ∀ b o, X.base.get? b = some o → s.heap.get? b = some o ∧ H b = none := fun b o e =>
  ⟨I.base.keep b o (I.ok.bs b o e).1 (I.ok.bs b o e).2 (I.ok.nofr e) (I.ok.noex b o e), I.base.free b o (I.ok.bs b o e).1 (I.ok.bs b o e).2 (I.ok.noex b o e)⟩
theorem Inv.bk (I : Inv X pins σ H s) : ∀ b o, X.base.get? b = some o → s.heap.get? b = some o := fun b o e => (I.bs b o e).1
theorem Inv.mod (I : Inv X pins σ H s) : Mod X.K X.mg X.base := I.ok.mod
theorem Inv.kIn (I : Inv X pins σ H s) : X.K.In s.heap := I.ok.mod.kin.keeps I.bk
theorem Inv.lt (I : Inv X pins σ H s) : X.env.locals < s.heap.objs.size := let ⟨_, hn, _⟩ := I.loc; hn.lt
theorem Inv.sz (I : Inv X pins σ H s) : X.s₀.heap.objs.size ≤ s.heap.objs.size := Nat.le_trans I.ok.above (Nat.le_of_lt I.lt)
theorem Inv.nofs (I : Inv X pins σ H s) {a : Addr} (h : s.heap.objs.size ≤ a) : a ∉ X.fs := fun hb => by
  obtain ⟨_, o, ho, _⟩ := I.ok.funs.mem hb
  exact absurd (Nat.lt_of_lt_of_le (Heap.lt_size ho) (Nat.le_trans I.sz h)) (Nat.lt_irrefl _)
theorem Inv.cne (I : Inv X pins σ H s) : ∀ x c, X.env.cells.lookup x = some c → c ≠ X.env.locals := fun x c e z => by
  obtain ⟨v, o, ho, hd⟩ := I.cell x c e
  obtain ⟨m, ⟨o', es, ep, ho', hd', _⟩, _⟩ := I.loc
  rw [z, ho'] at ho; cases ho; rw [hd'] at hd; cases hd
theorem Inv.funs (I : Inv X pins σ H s) : s.heap.FunFrames X.base X.outer := by
  have all : ∀ (l : List Env), (∀ b ∈ frs l, b ∈ X.fs) → X.s₀.heap.FunFrames X.base l → s.heap.FunFrames X.base l := by
    intro l
    induction l with
    | nil => intro _ _; trivial
    | cons env r ih =>
      intro hs hl
      obtain ⟨hk, ⟨L, o, hf, hn, ho, hd⟩, hr⟩ := hl
      have hL : L ∈ X.fs := hs L (by unfold frs; rw [List.filterMap_cons, hf]; exact List.mem_cons_self)
      obtain ⟨sl, e⟩ := I.base.slot L o ho (I.ok.frf L hL) hL fun z => I.ok.exfs L z hL
      exact ⟨hk, ⟨L, _, hf, hn, e, hd⟩, ih (fun b hb => hs b (by unfold frs; rw [List.filterMap_cons, hf]; exact List.mem_cons_of_mem _ hb)) hr⟩
  exact all X.outer (fun _ hb => hb) I.ok.funs

theorem Inv.stack (I : Inv X pins σ H s) : s.heap.FunFrames X.base X.stack := by
  rcases I.ok.stk with e | ⟨e, hf⟩
  · rw [e]; exact I.funs
  · rw [e]
    obtain ⟨m, hn, _⟩ := I.loc
    refine .cons (by rw [I.ok.kind]; decide) hf hn ?_ I.funs
    exact Heap.get?_none_of_le (Nat.le_trans I.ok.bsz I.ok.above)
theorem Inv.stkSub (I : Inv X pins σ H s) : ∀ b ∈ frs X.stack, b ∈ X.env.locals :: X.fs := fun b hb => by
  rcases I.ok.stk with e | ⟨e, hf⟩
  · rw [e] at hb; exact List.mem_cons_of_mem _ hb
  · rw [e] at hb
    unfold frs at hb
    rw [List.filterMap_cons, hf] at hb
    exact hb
theorem Inv.stkFree (I : Inv X pins σ H s) : ∀ b ∈ frs X.stack, H b = none := fun b hb => by
  rcases List.mem_cons.mp (I.stkSub b hb) with e | hb
  · rw [e]; exact I.free
  · obtain ⟨_, o, ho, _⟩ := I.ok.funs.mem hb
    exact I.base.free b o ho (I.ok.frf b hb) fun z => I.ok.exfs b z hb

theorem Inv.step {g' : Array GenState} {t' : Nat} {d' : Drawn} {ch : List Addr} (I : Inv X pins σ H s)
    (hch : ∀ b ∈ ch, (b ∈ X.ex ∨ X.s₀.heap.objs.size ≤ b) ∧ b ≠ X.env.locals ∧ (∀ x c, X.env.cells.lookup x = some c → c ≠ b) ∧ ∀ p ∈ X.pn ++ pins, p.1 ≠ b)
    (keep : ∀ b o, b ≠ X.env.locals → b ∉ X.fs → b ∉ ch → s.heap.get? b = some o → H b = none → h'.get? b = some o)
    (slot : ∀ b o, b ≠ X.env.locals → b ∈ X.fs → b ∉ ch → s.heap.get? b = some o → H b = none → ∃ sl, h'.get? b = some { o with slots := sl }) (free : ∀ b o, b ∉ ch → s.heap.get? b = some o → H b = none → H' b = none)
    (there : ∀ b o, b ∉ ch → s.heap.get? b = some o → ∃ o', h'.get? b = some o')
    (tups : ∀ b xs, H b = some (.tup xs) → H' b = some (.tup xs)) (frzs : ∀ b o u, H b = some (.frz o u) → H' b = some (.frz o u)) (tbls : ∀ b ps, H b = some (.tbl ps) → ∃ more, H' b = some (.tbl (ps ++ more)))
    (ns : ∀ m, s.heap.Ns X.env.locals m → h'.Ns X.env.locals m) (hok : HOk X.prog X.w H' h') (hg : AllBare g') :
    Inv X pins σ H' { s with heap := h', gens := g', drawn := d', toks := t' } := by
  have neL : ∀ b o, X.s₀.heap.get? b = some o → b ≠ X.env.locals := fun b o e => Nat.ne_of_lt (Nat.lt_of_lt_of_le (Heap.lt_size e) I.ok.above)
  have neC : ∀ b o, X.s₀.heap.get? b = some o → b ∉ X.ex → b ∉ ch := fun b o e hx hb => by
    rcases (hch b hb).1 with z | z
    · exact hx z
    · exact absurd (Nat.lt_of_lt_of_le (Heap.lt_size e) z) (Nat.lt_irrefl _)
  have cellK : ∀ x c, X.env.cells.lookup x = some c → ∀ v, s.heap.IsCell c v → h'.IsCell c v := fun x c e v ⟨o, ho, hd⟩ => by
    have nch : c ∉ ch := fun z => (hch c z).2.2.1 x c e rfl
    by_cases hc : c ∈ X.fs
    · obtain ⟨sl, q⟩ := slot c o (I.cne x c e) hc nch ho (I.freeC x c e)
      exact ⟨_, q, hd⟩
    · exact ⟨o, keep c o (I.cne x c e) hc nch ho (I.freeC x c e), hd⟩
  refine ⟨I.ok, I.os, hg, ⟨fun b o e n hb hx => ?_, fun b o e n hb hx => ?_, fun b o e n hx => ?_, fun b o e hx => ?_, fun b xs e => tups b xs (I.base.tups b xs e), fun b o xs e => frzs b o xs (I.base.frzs b o xs e), fun b ps e => ?_⟩, ?_, fun x c e => ?_, ?_, fun x c e => ?_, fun p hp => ?_, hok, I.len⟩
  · exact keep b o (neL b o e) hb (neC b o e hx) (I.base.keep b o e n hb hx) (I.base.free b o e n hx)
  · obtain ⟨sl, e1⟩ := I.base.slot b o e n hb hx
    obtain ⟨sl', e2⟩ := slot b _ (neL b o e) hb (neC b o e hx) e1 (I.base.free b o e n hx)
    exact ⟨sl', e2⟩
  · obtain ⟨o', e1⟩ := I.base.there b o e hx
    exact free b o' (neC b o e hx) e1 (I.base.free b o e n hx)
  · obtain ⟨o', e1⟩ := I.base.there b o e hx
    exact there b o' (neC b o e hx) e1
  · obtain ⟨m1, e1⟩ := I.base.tbls b ps e
    obtain ⟨m2, e2⟩ := tbls b _ e1
    exact ⟨m1 ++ m2, by rw [e2, Array.append_assoc]⟩
  · obtain ⟨m, hn, hl⟩ := I.loc
    refine ⟨m, ns m hn, fun i x v e1 e2 e3 => ?_⟩
    obtain ⟨u, r, l⟩ := hl i x v e1 e2 e3
    refine ⟨u, r, ?_⟩
    rcases l with l | ⟨k, c, e, z⟩
    · exact .inl l
    · exact .inr ⟨k, c, e, cellK x c e _ z⟩
  · obtain ⟨v, z⟩ := I.cell x c e
    exact ⟨v, cellK x c e v z⟩
  · obtain ⟨m, ⟨o, _, _, ho, _⟩, _⟩ := I.loc
    exact free _ o (fun z => (hch _ z).2.1 rfl) ho I.free
  · obtain ⟨v, o, ho, hd⟩ := I.cell x c e
    exact free c o (fun z => (hch c z).2.2.1 x c e rfl) ho (I.freeC x c e)
  · obtain ⟨e, n, ne, nf, d⟩ := I.pin p hp
    have nch : p.1 ∉ ch := fun z => (hch p.1 z).2.2.2 p hp rfl
    exact ⟨keep p.1 p.2 ne nf nch e n, free p.1 p.2 nch e n, ne, nf, d⟩
theorem Inv.un {t' : Nat} (I : Inv X pins σ H s) (u : Un X.fs [] H H' s.heap h') (hok : HOk X.prog X.w H' h') : Inv X pins σ H' { s with heap := h', toks := t' } := by
  obtain ⟨m, ⟨o, es, ep, ho, r⟩, _⟩ := id I.loc
  obtain ⟨sl, hL⟩ := u.any ho I.free (by simp)
  exact I.step (g' := s.gens) (d' := s.drawn) (ch := []) (fun _ z => nomatch z) (fun b o _ hb _ e n => u.keep b o e n hb (by simp)) (fun b o _ hb _ e n => u.slot b o e n hb (by simp)) (fun b o _ e n => u.free b o e n (by simp)) (fun b o _ e => u.there b o e (by simp)) u.tups u.frzs u.tbls (fun m' hm => by
    obtain ⟨o', es', ep', ho', r'⟩ := hm
    rw [ho] at ho'; cases ho'
    exact ⟨_, es', ep', hL, r'⟩) hok I.bare
theorem Inv.call {g' : Array GenState} {t' : Nat} {d' : Drawn} {ch : List Addr} (I : Inv X pins σ H s) (u : Un (frs X.stack) ch H H' s.heap h') (hok : HOk X.prog X.w H' h') (hg : AllBare g')
    (hch : ∀ b ∈ ch, (b ∈ X.ex ∨ X.s₀.heap.objs.size ≤ b) ∧ b ≠ X.env.locals ∧ (∀ x c, X.env.cells.lookup x = some c → c ≠ b) ∧ ∀ p ∈ X.pn ++ pins, p.1 ≠ b) :
    Inv X pins σ H' { s with heap := h', gens := g', drawn := d', toks := t' } := by
  obtain ⟨m, ⟨o, es, ep, ho, r⟩, _⟩ := id I.loc
  obtain ⟨sl, hL⟩ := u.any ho I.free fun z => (hch _ z).2.1 rfl
  exact I.step (ch := ch) hch (fun b o hL hb hc e n => u.keep b o e n (fun z => (List.mem_cons.mp (I.stkSub b z)).elim hL hb) hc) (fun b o _ _ hc e n => u.any e n hc) (fun b o hc e n => u.free b o e n hc) (fun b o hc e => u.there b o e hc) u.tups u.frzs u.tbls (fun m' hm => by
    obtain ⟨o', es', ep', ho', r'⟩ := hm
    rw [ho] at ho'; cases ho'
    exact ⟨_, es', ep', hL, r'⟩) hok hg
theorem Inv.turned {t' : Nat} {it : Addr} (I : Inv X pins σ H s) (k : ∀ b o, b ≠ it → s.heap.get? b = some o → h'.get? b = some o) (hn : H it = none) (hL : it ≠ X.env.locals)
    (h1 : it ∈ X.ex ∨ X.s₀.heap.objs.size ≤ it) (h2 : ∀ x c, X.env.cells.lookup x = some c → c ≠ it) (h3 : ∀ p ∈ X.pn ++ pins, p.1 ≠ it) : Inv X pins σ H { s with heap := h', toks := t' } := by
  have nit : ∀ b u, H b = some u → b ≠ it := fun b u e z => by rw [z, hn] at e; cases e
  refine I.step (g' := s.gens) (d' := s.drawn) (ch := [it]) (fun b hb => ?_) (fun b o _ _ hc e _ => k b o (fun z => hc (by simp [z])) e) (fun b o _ _ hc e _ => ⟨o.slots, k b o (fun z => hc (by simp [z])) e⟩) (fun _ _ _ _ n => n)
    (fun b o hc e => ⟨o, k b o (fun z => hc (by simp [z])) e⟩) (fun _ _ e => e) (fun _ _ _ e => e) (fun b ps e => ⟨#[], by rw [e]; simp⟩) (fun m hm => ?_) (fun b u e => ?_) I.bare
  · have e : b = it := by simpa using hb
    subst e
    exact ⟨h1, hL, h2, h3⟩
  · obtain ⟨o, es, ep, ho, r⟩ := hm
    exact ⟨o, es, ep, k _ o (Ne.symm hL) ho, r⟩
  · refine (I.hok b u e).stay (fun c v hc q => k c v ?_ q) (fun _ q => q) fun _ _ q => q
    rcases hc with z | z
    · rw [z]; exact nit b u e
    · exact nit c _ z
theorem Inv.tok (I : Inv X pins σ H s) (t : Nat) : Inv X pins σ H { s with toks := t } := I.un (h' := s.heap) (t' := t) Un.refl I.hok
theorem Inv.kept {t' : Nat} (I : Inv X pins σ H s) (k : ∀ b u, s.heap.get? b = some u → h'.get? b = some u) : Inv X pins σ H { s with heap := h', toks := t' } := I.un (Un.kept k) (I.hok.kept k)
theorem Inv.laid {a : Addr} {o : HO} {t' : Nat} (I : Inv X pins σ H s) (k : ∀ b u, s.heap.get? b = some u → h'.get? b = some u) (hp : s.heap.objs.size ≤ a) (new : ObjOk X.prog X.w (upd H a o) h' a o) :
    Inv X pins σ (upd H a o) { s with heap := h', toks := t' } := I.un (Un.laid k hp (I.hok.fresh hp)) (I.hok.laid k hp new)
theorem Inv.write {x e : Addr} {o : HO} {t' : Nat} (I : Inv X pins σ H s) (mu : Mut (H x)) (he : e = x ∨ H e = some (.own x)) (k : ∀ b u, b ≠ e → s.heap.get? b = some u → h'.get? b = some u) (heo : ∃ u, h'.get? e = some u)
    (new : ObjOk X.prog X.w (upd H x o) h' x o) : Inv X pins σ (upd H x o) { s with heap := h', toks := t' } := I.un (Un.write mu he k heo) (I.hok.write mu he k heo new)
theorem Inv.pins_of {pins' : List (Addr × Obj)} (I : Inv X pins σ H s) (h : ∀ p ∈ pins', s.heap.get? p.1 = some p.2 ∧ H p.1 = none ∧ p.1 ≠ X.env.locals ∧ p.1 ∉ X.fs ∧ ∀ v, p.2.data ≠ .cell v) : Inv X pins' σ H s :=
  ⟨I.ok, I.os, I.bare, I.base, I.loc, I.cell, I.free, I.freeC, fun p hp => (List.mem_append.mp hp).elim (fun z => I.pin p (List.mem_append_left _ z)) (h p), I.hok, I.len⟩

theorem nodup_ix {N : List Str} (hN : N.Nodup) {i j : Nat} {x : Str} (a : N[i]? = some x) (b : N[j]? = some x) : i = j := by
  obtain ⟨h1, e1⟩ := List.getElem?_eq_some_iff.mp a
  obtain ⟨h2, e2⟩ := List.getElem?_eq_some_iff.mp b
  exact (List.getElem_inj hN).mp (e1.trans e2.symm)

theorem store_ok2 {M : Model} {A : Around} {E : Value → Shared → Prop} {i : Nat} {x : Str} {v : V} {u : Value} {Q : Unit → Shared → Prop} (I : Inv X pins σ H s) (hN : X.N.Nodup) (hi : X.N[i]? = some x) (hx : Loc X.env.scope x) (r : RelV v u)
    (h : ∀ s', Inv X pins (σ.set i (some v)) H s' → (∃ a, Heap.SameBut a s.heap s'.heap ∧ (a = X.env.locals ∨ X.env.cells.lookup x = some a)) → Q () s') (hf : X.fn x = true ∨ X.env.scope.names.lookup x = some .local := by first | exact .inl rfl | exact .inr rfl | assumption) : wpAny M A (storeName X.env x u) Q E s := by
  obtain ⟨m, hn, hl⟩ := id I.loc
  have hcls : (X.env.scope.kind == .class || (X.env.scope.kind == .module && X.env.locals != X.env.globals)) = false := by rw [I.ok.kind]; rfl
  have hiσ : i < σ.length := by rw [I.len]; exact (List.getElem?_eq_some_iff.mp hi).1
  have cne := I.cne
  have tracked : ∀ {a : Addr} {h' : Heap}, (∃ o, s.heap.get? a = some o ∧ H a = none) → Heap.SameBut a s.heap h' → HOk X.prog X.w H h' := fun {a h'} ha hs b ob e => by
    obtain ⟨_, _, hfree⟩ := ha
    refine (I.hok b ob e).stay (fun c w' hc q => (hs.2 c ?_).trans q) (fun _ q => q) fun _ _ q => q
    rintro rfl
    rcases hc with rfl | hc
    · rw [hfree] at e; cases e
    · rw [hfree] at hc; cases hc
  rcases hx with hk | hk
  · refine wpAny_storeName_local hk hn (fun h' hn' hs => ?_) hcls
    obtain ⟨oL, _, _, hoL, _⟩ := id hn
    refine h _ ⟨I.ok, I.os, I.bare, ⟨fun b o e n hb hx => ?_, fun b o e n hb hx => ?_, I.base.free, fun b o e hx => ?_, I.base.tups, I.base.frzs, I.base.tbls⟩, ⟨_, hn', fun j y v' e1 e2 e3 => ?_⟩, fun y c e => ?_, I.free, I.freeC, fun p hp => ?_, tracked ⟨oL, hoL, I.free⟩ hs, by simpa using I.len⟩ ⟨_, hs, .inl rfl⟩
    · exact (hs.2 b (Nat.ne_of_lt (Nat.lt_of_lt_of_le (Heap.lt_size e) I.ok.above))).trans (I.base.keep b o e n hb hx)
    · obtain ⟨sl, e1⟩ := I.base.slot b o e n hb hx
      exact ⟨sl, (hs.2 b (Nat.ne_of_lt (Nat.lt_of_lt_of_le (Heap.lt_size e) I.ok.above))).trans e1⟩
    · obtain ⟨o', e1⟩ := I.base.there b o e hx
      exact ⟨o', (hs.2 b (Nat.ne_of_lt (Nat.lt_of_lt_of_le (Heap.lt_size e) I.ok.above))).trans e1⟩
    · by_cases hj : j = i
      · subst hj
        rw [hi] at e1; cases e1
        rw [List.getElem?_set_self hiσ] at e2
        cases e2
        exact ⟨u, r, .inl ⟨hk, by simp⟩⟩
      · rw [List.getElem?_set_ne (Ne.symm hj)] at e2
        obtain ⟨u', r', q⟩ := hl j y v' e1 e2 e3
        refine ⟨u', r', ?_⟩
        rcases q with ⟨k, e⟩ | ⟨k, c, e, z⟩
        · refine .inl ⟨k, ?_⟩
          have : y ≠ x := fun e => hj (nodup_ix hN e1 (e ▸ hi))
          simp [this, e]
        · exact .inr ⟨k, c, e, z.sameBut hs (cne y c e)⟩
    · obtain ⟨w', z⟩ := I.cell y c e
      exact ⟨w', z.sameBut hs (cne y c e)⟩
    · obtain ⟨e, n, ne, nf, d⟩ := I.pin p hp
      exact ⟨(hs.2 p.1 ne).trans e, n, ne, nf, d⟩
  · have hfn : X.fn x = true := by
      rcases hf with z | z
      · exact z
      · rw [z] at hk; cases hk
    obtain ⟨c, hc⟩ := I.ok.has x (.inl hk)
    obtain ⟨w', z⟩ := I.cell x c hc
    refine wpAny_storeName_cell I.ok.kind hk hc z (fun h' hc' hs => ?_)
    obtain ⟨oc, hoc, hocd⟩ := id z
    refine h { s with heap := h' } ⟨I.ok, I.os, I.bare, ⟨fun b o e n hb hx => ?_, fun b o e n hb hx => ?_, I.base.free, fun b o e hx => ?_, I.base.tups, I.base.frzs, I.base.tbls⟩, ⟨m, hn.sameBut hs (Ne.symm (cne x c hc)), fun j y v' e1 e2 e3 => ?_⟩, fun y c' e => ?_, I.free, I.freeC, fun p hp => ?_, tracked ⟨oc, hoc, I.freeC x c hc⟩ hs, by simpa using I.len⟩ ⟨c, hs, .inr hc⟩
    · exact (hs.2 b (Nat.ne_of_lt (Nat.lt_of_lt_of_le (Heap.lt_size e) (I.ok.cab x c hfn hc)))).trans (I.base.keep b o e n hb hx)
    · obtain ⟨sl, e1⟩ := I.base.slot b o e n hb hx
      exact ⟨sl, (hs.2 b (Nat.ne_of_lt (Nat.lt_of_lt_of_le (Heap.lt_size e) (I.ok.cab x c hfn hc)))).trans e1⟩
    · obtain ⟨o', e1⟩ := I.base.there b o e hx
      exact ⟨o', (hs.2 b (Nat.ne_of_lt (Nat.lt_of_lt_of_le (Heap.lt_size e) (I.ok.cab x c hfn hc)))).trans e1⟩
    · by_cases hj : j = i
      · subst hj
        rw [hi] at e1; cases e1
        rw [List.getElem?_set_self hiσ] at e2
        cases e2
        exact ⟨u, r, .inr ⟨.inl hk, c, hc, hc'⟩⟩
      · rw [List.getElem?_set_ne (Ne.symm hj)] at e2
        obtain ⟨u', r', q⟩ := hl j y v' e1 e2 e3
        refine ⟨u', r', ?_⟩
        rcases q with q | ⟨k, c', e, z'⟩
        · exact .inl q
        · refine .inr ⟨k, c', e, z'.sameBut hs ?_⟩
          rintro rfl
          exact hj (nodup_ix hN e1 (I.ok.inj _ _ _ e hc ▸ hi))
    · by_cases hcc : c' = c
      · subst hcc; exact ⟨_, hc'⟩
      · obtain ⟨w2, z2⟩ := I.cell y c' e
        exact ⟨w2, z2.sameBut hs hcc⟩
    · obtain ⟨e, n, ne, nf, d⟩ := I.pin p hp
      refine ⟨(hs.2 p.1 ?_).trans e, n, ne, nf, d⟩
      intro q
      rw [q, hoc] at e
      have q' : oc = p.2 := Option.some.inj e
      exact d w' (by rw [← q']; exact hocd)
theorem store_ok {M : Model} {A : Around} {E : Value → Shared → Prop} {i : Nat} {x : Str} {v : V} {u : Value} {Q : Unit → Shared → Prop} (I : Inv X pins σ H s) (hN : X.N.Nodup) (hi : X.N[i]? = some x) (hx : Loc X.env.scope x) (r : RelV v u)
    (h : ∀ s', Inv X pins (σ.set i (some v)) H s' → Q () s') (hf : X.fn x = true ∨ X.env.scope.names.lookup x = some .local := by first | exact .inl rfl | exact .inr rfl | assumption) : wpAny M A (storeName X.env x u) Q E s :=
  store_ok2 I hN hi hx r (fun s' I' _ => h s' I') hf
end

abbrev XK := Value → Option Addr → Hp → Prop
abbrev St := List (Option V)
abbrev VK := V → Hp → Prop
abbrev TE := St → Hp → VK → Prop
abbrev TT := St → Hp → (Bool → Hp → Prop) → Prop
abbrev TA := St → Hp → (List V → Hp → Prop) → Prop
structure Ends where
  nx : St → Hp → Prop
  rt : VK
  bk : St → Hp → Prop := fun _ _ => False
  ct : St → Hp → Prop := fun _ _ => False
abbrev TS := Ends → St → Hp → Prop

def EP (X : Cx) (pins : List (Addr × Obj)) (σ : St) (Q : VK) (u : Value) (s' : Shared) : Prop := ∃ v H', Inv X pins σ H' s' ∧ RelV v u ∧ Q v H'
def TP (X : Cx) (pins : List (Addr × Obj)) (σ : St) (Q : Bool → Hp → Prop) (b : Bool) (s' : Shared) : Prop := ∃ H', Inv X pins σ H' s' ∧ Q b H'
def AP (X : Cx) (pins : List (Addr × Obj)) (σ : St) (Q : List V → Hp → Prop) (us : List Value) (s' : Shared) : Prop := ∃ vs H', Inv X pins σ H' s' ∧ Vals vs us ∧ Q vs H'
def SP (X : Cx) (pins : List (Addr × Obj)) (D : Ends) (f : Flow) (s' : Shared) : Prop :=
  match f with
  | .next => ∃ σ' H', Inv X pins σ' H' s' ∧ D.nx σ' H'
  | .brk => ∃ σ' H', Inv X pins σ' H' s' ∧ D.bk σ' H'
  | .cont => ∃ σ' H', Inv X pins σ' H' s' ∧ D.ct σ' H'
  | .ret u => ∃ v σ' H', Inv X pins σ' H' s' ∧ RelV v u ∧ D.rt v H'

def PE (X : Cx) (e : Expr) (t : TE) : Prop :=
  ∀ (pins : List (Addr × Obj)) (s : Shared) (σ : St) (H : Hp) (Q : VK), Inv X pins σ H s → t σ H Q → wpAny (model X.prog X.w) X.A (eval e X.env) (EP X pins σ Q) X.xe s
def PT (X : Cx) (e : Expr) (t : TT) : Prop :=
  ∀ (pins : List (Addr × Obj)) (s : Shared) (σ : St) (H : Hp) (Q : Bool → Hp → Prop), Inv X pins σ H s → t σ H Q → wpAny (model X.prog X.w) X.A (isTrue e X.env (eval e X.env)) (TP X pins σ Q) X.xe s
def PW (X : Cx) (e : Expr) (t : TT) : Prop :=
  ∀ (whole : Sem Value) (pins : List (Addr × Obj)) (s : Shared) (σ : St) (H : Hp) (Q : Bool → Hp → Prop), Inv X pins σ H s → t σ H Q → wpAny (model X.prog X.w) X.A (isTrue e X.env whole) (TP X pins σ Q) X.xe s
theorem PW.pt {X : Cx} {e : Expr} {t : TT} (h : PW X e t) : PT X e t := h _
def PA (X : Cx) (es : List Expr) (t : TA) : Prop :=
  ∀ (pos : Pos) (pins : List (Addr × Obj)) (s : Shared) (σ : St) (H : Hp) (Q : List V → Hp → Prop), Inv X pins σ H s → t σ H Q → wpAny (model X.prog X.w) X.A (spliced (backTo pos (starEach es X.env))) (AP X pins σ Q) X.xe s
def PS (X : Cx) (st : Stmt) (t : TS) : Prop :=
  ∀ (pins : List (Addr × Obj)) (s : Shared) (σ : St) (H : Hp) (D : Ends), Inv X pins σ H s → t D σ H → wpAny (model X.prog X.w) X.A (exec st X.env) (SP X pins D) X.xe s
def PSs (X : Cx) (st : List Stmt) (t : TS) : Prop :=
  ∀ (pins : List (Addr × Obj)) (s : Shared) (σ : St) (H : Hp) (D : Ends), Inv X pins σ H s → t D σ H → wpAny (model X.prog X.w) X.A (execs st X.env) (SP X pins D) X.xe s
theorem thn {α : Type} {t : Sem α} {Q Q' : α → Shared → Prop} {M : Model} {A : Around} {E : Value → Shared → Prop} {s : Shared} (h : wpAny M A t Q E s) (hQ : ∀ a s, Q a s → Q' a s) : wpAny M A t Q' E s := wpAny_mono h hQ fun _ _ x => x
end L2

namespace L2
open PySem PySem.Spec PyProof.Rows
section
variable {X : Cx}

theorem bin {a b : Expr} {ta tb : TE} (ha : PE X a ta) (hb : PE X b tb) {pins : List (Addr × Obj)} {s : Shared} {σ : St} {H : Hp} {R : V → V → Hp → Prop} (I : Inv X pins σ H s) (h : ta σ H fun x H1 => tb σ H1 fun y H2 => R x y H2)
    {α : Type} {Q : α → Shared → Prop} {f : Value → Value → Sem α}
    (hf : ∀ v u s2 x y H2, Inv X pins σ H2 s2 → RelV x v → RelV y u → R x y H2 → wpAny (model X.prog X.w) X.A (f v u) Q X.xe s2) :
    wpAny (model X.prog X.w) X.A (eval a X.env) (fun v s₁ => wpAny (model X.prog X.w) X.A (eval b X.env) (fun u s₂ => wpAny (model X.prog X.w) X.A (f v u) Q X.xe s₂) X.xe s₁) X.xe s := by
  refine thn (ha pins s σ H _ I h) fun v s1 ⟨x, H1, I1, r1, q1⟩ => ?_
  refine thn (hb pins s1 σ H1 _ I1 q1) fun u s2 ⟨y, H2, I2, r2, q2⟩ => ?_
  exact hf v u s2 x y H2 I2 r1 r2 q2

def tVar (i : Nat) : TE := fun σ H Q => ∃ v, σ[i]? = some (some v) ∧ Q v H
def tC (v : V) : TE := fun _ H Q => Q v H
theorem pe_var {i : Nat} {x : Str} {pos : Pos} (hN : X.N[i]? = some x) (hv : Vis X.env.scope x) (hd : (x == ("__debug__" : Str)) = false := by decide) (hcd : (x == ("__classdict__" : Str)) = false := by decide) : PE X (.Name x pos) (tVar i) := by
  intro pins s σ H Q I h
  obtain ⟨v, e, h⟩ := h
  obtain ⟨m, hn, hl⟩ := I.loc
  obtain ⟨u, r, l⟩ := hl i x v hN e hv
  have fin : EP X pins σ Q u s := ⟨v, H, I, r, h⟩
  rcases l with ⟨hk, hm⟩ | ⟨hk, c, hc, hcell⟩
  · exact wpAny_Name (wpAny_loadName_local I.ok.kind hk hn hm fin) hd
  · rcases hk with hk | hk
    · exact wpAny_Name (wpAny_loadName_cell I.ok.kind hk hc hcell fin) hd
    · exact wpAny_Name (wpAny_loadName_free I.ok.kind hk hc hcell fin hcd) hd
theorem pe_int {i j pos} : PE X (.Constant (.int i) j pos) (tC (.int i)) := fun _ _ _ H _ I h => wpAny_Constant_int ⟨.int i, H, I.tok _, ⟨_, rfl⟩, h⟩
theorem pe_bl {b j pos} : PE X (.Constant (.bool b) j pos) (tC (.bl b)) := fun _ _ _ H _ I h => Constant_bool ⟨.bl b, H, I, rfl, h⟩
theorem pe_str {x j pos} : PE X (.Constant (.str x) j pos) (tC (.str x)) := fun _ _ _ H _ I h => Calls.Constant_str ⟨.str x, H, I.tok _, ⟨_, rfl⟩, h⟩

def Gl (X : Cx) (x : Str) : Prop := X.env.kindOf x = some .globalImplicit
theorem ld_glob {E : Value → Shared → Prop} {pins : List (Addr × Obj)} {s : Shared} {σ : St} {H : Hp} {x : Str} {u : Value} {pos : Pos} {Q : Value → Shared → Prop} (I : Inv X pins σ H s) (hg : Gl X x) (hm : X.mg x = some u) (h : Q u s)
    (hd : (x == ("__debug__" : Str)) = false := by decide) : wpAny (model X.prog X.w) X.A (eval (.Name x pos) X.env) Q E s :=
  Calls.Name_function_global I.ok.kind hg (Calls.loadGlobal_global (by rw [I.ok.glob]; exact I.mod.glob.keeps I.bk) hm h) hd
theorem ld_blt {E : Value → Shared → Prop} {pins : List (Addr × Obj)} {s : Shared} {σ : St} {H : Hp} {x : Str} {u : Value} {pos : Pos} {Q : Value → Shared → Prop} (I : Inv X pins σ H s) (hg : Gl X x) (hm : X.mg x = none) (hv : bootBuiltins x = some u) (h : Q u s)
    (hn : x ≠ "__name__" := by decide) (hd : (x == ("__debug__" : Str)) = false := by decide) : wpAny (model X.prog X.w) X.A (eval (.Name x pos) X.env) Q E s := by
  obtain ⟨mb, h1, h2⟩ := I.mod.blt
  exact Calls.Name_function_global I.ok.kind hg (Calls.loadGlobal_builtin (by rw [I.ok.glob]; exact I.mod.glob.keeps I.bk) hm (by rw [I.ok.blt]; exact h1.keeps I.bk) ((h2 x hn).trans hv) h) hd
theorem pe_bltn {x : Str} {v : V} {u : Value} {pos : Pos} (hg : Gl X x) (hm : X.mg x = none) (hv : bootBuiltins x = some u) (r : RelV v u) (hn : x ≠ "__name__" := by decide) (hd : (x == ("__debug__" : Str)) = false := by decide) : PE X (.Name x pos) (tC v) :=
  fun _ _ _ H _ I h => ld_blt I hg hm hv ⟨v, H, I, r, h⟩ hn hd

variable {a b : Expr} {ta tb : TE} {pos : Pos}
def PC (X : Cx) (op : CmpOp) (a b : Expr) (t : TE) : Prop :=
  ∀ (pins : List (Addr × Obj)) (s : Shared) (σ : St) (H : Hp) (Q : VK), Inv X pins σ H s → t σ H Q →
    wpAny (model X.prog X.w) X.A (eval a X.env) (fun v s₁ => wpAny (model X.prog X.w) X.A (eval b X.env) (fun u s₂ => wpAny (model X.prog X.w) X.A (compareOp op v u) (EP X pins σ Q) X.xe s₂) X.xe s₁) X.xe s
def tB (t : TE) : TT := fun σ H Q => t σ H fun x H1 => ∃ c, x = .bl c ∧ Q c H1
theorem pt_cmp {op : CmpOp} {t : TE} (h : PC X op a b t) (h1 : behindInMarks op b = false := by first | exact nobehind _ (by decide) (by decide) | rfl) : PT X (.Compare a [op] [b] pos) (tB t) := by
  intro pins s σ H Q I hw
  refine wpAny_isTrue_Compare1 (thn (h pins s σ H _ I hw) fun v s1 h1 => thn h1 fun u s2 h2 => thn h2 fun c s3 ⟨x, H1, I1, r1, q1⟩ => ?_) h1
  obtain ⟨d, rfl, q⟩ := q1
  cases r1
  exact wpAny_truthy_bool ⟨H1, I1, q⟩
theorem pt_val {e : Expr} {t : TE} (h : PE X e t) (he : ∀ whole, isTrue e X.env whole = (do let v ← whole; standAt e.pos; holding [v] (truthy v)) := by intro _; rfl) : PT X e (tB t) := by
  intro pins s σ H Q I hw
  refine isTrue_plain (thn (h pins s σ H _ I hw) fun v s1 ⟨x, H1, I1, r1, q1⟩ => ?_) (he _)
  obtain ⟨d, rfl, q⟩ := q1
  cases r1
  exact wpAny_truthy_bool ⟨H1, I1, q⟩

variable {tA tB' : TT} {rest : List Expr}
def tOr (t u : TT) : TT := fun σ H Q => t σ H fun c H1 => if c = true then Q true H1 else u σ H1 Q
def tNot (t : TT) : TT := fun σ H Q => t σ H fun c H1 => Q (!c) H1
theorem pw_or1 (ha : PT X a tA) : PW X (.BoolOp .Or [a] pos) tA := by
  intro wh pins s σ H Q I h
  refine isTrue_or (thn (ha pins s σ H Q I h) fun c s1 e => ?_)
  cases c with
  | false => exact isTrue_or_nil e
  | true => exact e
theorem pw_or (ha : PT X a tA) (hb : PW X (.BoolOp .Or (b :: rest) pos) tB') : PW X (.BoolOp .Or (a :: b :: rest) pos) (tOr tA tB') := by
  intro wh pins s σ H Q I h
  refine isTrue_or (thn (ha pins s σ H _ I h) fun c s1 ⟨H1, I1, q1⟩ => ?_)
  cases c with
  | true => exact ⟨H1, I1, q1⟩
  | false => exact hb wh pins s1 σ H1 Q I1 q1
theorem pt_not (ha : PT X a tA) : PT X (.UnaryOp .Not a pos) (tNot tA) := by
  intro pins s σ H Q I h
  exact isTrue_not (ha pins s σ H (fun c H1 => Q (!c) H1) I h)
def tAndV (ta tb : TE) : TE := fun σ H Q => ta σ H fun x H1 => ∃ c, x = .bl c ∧ if c = true then tb σ H1 Q else Q (.bl false) H1
def tNotV (ta : TE) : TE := fun σ H Q => ta σ H fun x H1 => ∃ c, x = .bl c ∧ Q (.bl (!c)) H1
theorem pe_one {op} {t : TE} (h : PE X a t) : PE X (.BoolOp op [a] pos) t := fun pins s σ H Q I hw => BoolOp_one (h pins s σ H Q I hw)
theorem pe_and (ha : PE X a ta) (hb : PE X (.BoolOp .And (b :: rest) pos) tb) : PE X (.BoolOp .And (a :: b :: rest) pos) (tAndV ta tb) := by
  intro pins s σ H Q I h
  refine BoolOp_and (thn (ha pins s σ H _ I h) fun v s1 ⟨x, H1, I1, r1, q1⟩ => ?_)
  obtain ⟨c, rfl, q1⟩ := q1
  cases r1
  refine wpAny_truthy_bool ?_
  cases c with
  | true => exact hb pins s1 σ H1 Q I1 q1
  | false => exact ⟨.bl false, H1, I1, rfl, q1⟩
theorem pe_not (ha : PE X a ta) : PE X (.UnaryOp .Not a pos) (tNotV ta) := by
  intro pins s σ H Q I h
  refine UnaryOp_ (thn (ha pins s σ H _ I h) fun v s1 ⟨x, H1, I1, r1, q1⟩ => ?_)
  obtain ⟨c, rfl, q1⟩ := q1
  cases r1
  exact not_of (wpAny_truthy_bool ⟨.bl (!c), H1, I1, rfl, q1⟩)
end
end L2

namespace L2
open PySem PySem.Spec PyProof.Rows

def SqL (K : PySem.W.Frag) (H : Hp) (a : Addr) (xs : List V) : Prop :=
  Rd H a (.lst xs) ∨
    ∃ (o : Obj) (its : Array Value) (n : Nat), K.lookup a = some o ∧ o.cls = .type "list" ∧ o.dict = none ∧ o.data = .seq its n ∧ its.size ≤ sizeLine ∧ Vals xs its.toList
def SqT (K : PySem.W.Frag) (H : Hp) (a : Addr) (xs : List V) : Prop :=
  Rd H a (.tup xs) ∨
    ∃ (o : Obj) (its : Array Value) (n : Nat), K.lookup a = some o ∧ o.cls = .type "tuple" ∧ o.data = .seq its n ∧ its.size ≤ sizeLine ∧ Vals xs its.toList
def absV : Value → Option V
  | .none => some .non
  | .bool b => some (.bl b)
  | .int i _ => some (.int i)
  | .str x _ => some (.str x)
  | .bytes b _ => some (.byt b)
  | .float b _ => some (.flt b)
  | .ref a => some (.ref a)
  | .type n => some (.ty n)
  | _ => none
theorem RelV.abs {x : V} {u : Value} (r : RelV x u) : absV u = some x := by
  cases x with
  | non => cases r; rfl
  | bl _ => cases r; rfl
  | int _ => obtain ⟨t, rfl⟩ := r; rfl
  | str _ => obtain ⟨t, rfl⟩ := r; rfl
  | byt _ => obtain ⟨t, rfl⟩ := r; rfl
  | flt _ => obtain ⟨t, rfl⟩ := r; rfl
  | ref _ => cases r; rfl
  | ty _ => cases r; rfl
theorem RelV.inj {x y : V} {u : Value} (r : RelV x u) (q : RelV y u) : x = y := Option.some.inj (r.abs.symm.trans q.abs)
theorem Vals.inj : ∀ {xs ys : List V} {us : List Value}, Vals xs us → Vals ys us → xs = ys
  | _, _, _, .nil, .nil => rfl
  | _, _, _, .cons r t, .cons r' t' => by rw [r.inj r', Vals.inj t t']
section
variable {X : Cx} {pins : List (Addr × Obj)} {σ : St} {H : Hp} {s : Shared} {a : Addr} {xs ys : List V}
theorem SqL.of {K : PySem.W.Frag} (h : H a = some (.lst xs)) : SqL K H a xs := .inl (.inl h)
theorem Inv.list (I : Inv X pins σ H s) (h : SqL X.K H a xs) : ∃ its : List Value, Vals xs its ∧ PlainL s.heap a its.toArray ∧ xs.length ≤ sizeLine := by
  rcases h with h | ⟨o, its, n, hk, hc, hd, hs, hz, r⟩
  · obtain ⟨z, its, n, r, e⟩ := h.ok I.hok
    exact ⟨its, r, ⟨_, n, e, rfl, rfl, rfl⟩, z⟩
  · refine ⟨its.toList, r, ⟨o, n, I.kIn a o hk, hc, hd, by simpa using hs⟩, ?_⟩
    have e := r.length
    simp only [Array.length_toList] at e
    omega
theorem Inv.tuple (I : Inv X pins σ H s) (h : SqT X.K H a xs) : ∃ its : List Value, Vals xs its ∧ IsTup s.heap a its.toArray ∧ xs.length ≤ sizeLine := by
  rcases h with h | ⟨o, its, n, hk, hc, hs, hz, r⟩
  · obtain ⟨z, its, r, p⟩ := h.ok I.hok
    exact ⟨its, r, p, z⟩
  · refine ⟨its.toList, r, ⟨o, I.kIn a o hk, hc, n, by simpa using hs⟩, ?_⟩
    have e := r.length
    simp only [Array.length_toList] at e
    omega
theorem Inv.list_inj (I : Inv X pins σ H s) (h : SqL X.K H a xs) (h' : SqL X.K H a ys) : xs = ys := by
  obtain ⟨its, r, ⟨o, n, e, _, _, d⟩, _⟩ := I.list h
  obtain ⟨its', r', ⟨o', n', e', _, _, d'⟩, _⟩ := I.list h'
  rw [e] at e'; cases e'
  rw [d] at d'
  injection d' with d1 _
  have : its = its' := by simpa using congrArg Array.toList d1
  subst this
  exact r.inj r'
end

abbrev Cx.wish (X : Cx) (E : Value → Shared → Prop) : Cx := { X with xe := E }
abbrev Cx.nox (X : Cx) : Cx := X.wish fun _ _ => False
theorem Cx.Ok.wish {X : Cx} (ok : X.Ok) (E : Value → Shared → Prop) : (X.wish E).Ok :=
  ⟨ok.mod, ok.kind, ok.glob, ok.blt, ok.above, ok.inj, ok.has, ok.cab, ok.hd, ok.frames, ok.stk, ok.exf, ok.bs, ok.bsz, ok.noex, ok.exfs, ok.funs, ok.frf⟩
theorem Cx.Ok.unwish {X : Cx} {E : Value → Shared → Prop} (ok : (X.wish E).Ok) : X.Ok :=
  ⟨ok.mod, ok.kind, ok.glob, ok.blt, ok.above, ok.inj, ok.has, ok.cab, ok.hd, ok.frames, ok.stk, ok.exf, ok.bs, ok.bsz, ok.noex, ok.exfs, ok.funs, ok.frf⟩
section
variable {X : Cx} {pins : List (Addr × Obj)} {σ : St} {H : Hp} {s : Shared} {E : Value → Shared → Prop}
theorem Inv.wish (I : Inv X pins σ H s) (E : Value → Shared → Prop) : Inv (X.wish E) pins σ H s := ⟨I.ok.wish E, I.os, I.bare, I.base, I.loc, I.cell, I.free, I.freeC, I.pin, I.hok, I.len⟩
theorem Inv.unwish (I : Inv (X.wish E) pins σ H s) : Inv X pins σ H s := ⟨I.ok.unwish, I.os, I.bare, I.base, I.loc, I.cell, I.free, I.freeC, I.pin, I.hok, I.len⟩
theorem SP.unwish {D : Ends} {f : Flow} {s' : Shared} (h : SP (X.wish E) pins D f s') : SP X pins D f s' := by
  cases f with
  | next => obtain ⟨σ', H', I, q⟩ := h; exact ⟨σ', H', I.unwish, q⟩
  | brk => obtain ⟨σ', H', I, q⟩ := h; exact ⟨σ', H', I.unwish, q⟩
  | cont => obtain ⟨σ', H', I, q⟩ := h; exact ⟨σ', H', I.unwish, q⟩
  | ret u => obtain ⟨v, σ', H', I, r, q⟩ := h; exact ⟨v, σ', H', I.unwish, r, q⟩
theorem PSs.nox {st : List Stmt} {t : TS} (h : PSs X.nox st t) : PSs X st t := fun pins s σ H D I hw =>
  wpAny_mono (h pins s σ H D (I.wish _) hw) (fun _ _ q => q.unwish) fun _ _ z => False.elim z
end

section
variable {X : Cx} {st : Stmt} {rest : List Stmt} {t u : TS} {e : Expr} {te : TE} {pos : Pos}
def tNext : TS := fun D σ H => D.nx σ H
def tSeq (t u : TS) : TS := fun D σ H => t { D with nx := u D } σ H
theorem pss_nil : PSs X [] tNext := fun _ _ σ H _ I h => wpAny_execs_nil ⟨σ, H, I, h⟩
theorem pss_cons (h1 : PS X st t) (h2 : PSs X rest u) : PSs X (st :: rest) (tSeq t u) := by
  intro pins s σ H D I h
  refine wpAny_execs_cons (thn (h1 pins s σ H { D with nx := u D } I h) fun f s1 q => ?_)
  cases f with
  | next =>
    obtain ⟨σ', H', I', q⟩ := q
    exact h2 pins s1 σ' H' D I' q
  | ret v => exact q
  | brk => exact q
  | cont => exact q
theorem pss_one (h1 : PS X st t) : PSs X [st] t := by
  intro pins s σ H D I h
  refine wpAny_execs_cons (thn (h1 pins s σ H D I h) fun f s1 q => ?_)
  cases f with
  | next => exact wpAny_execs_nil q
  | ret v => exact q
  | brk => exact q
  | cont => exact q
def tRet (te : TE) : TS := fun D σ H => te σ H D.rt
theorem ps_ret (he : PE X e te) : PS X (.Return (some e) pos) (tRet te) := by
  intro pins s σ H D I h
  exact wpAny_Return_some (thn (he pins s σ H _ I h) fun v s1 ⟨x, H1, I1, r1, q1⟩ => ⟨x, σ, H1, I1, r1, q1⟩)
def tIfS (c : TT) (t u : TS) : TS := fun D σ H => c σ H fun b H1 => if b = true then t D σ H1 else u D σ H1
theorem ps_if {c : Expr} {a b : List Stmt} {tc : TT} (hc : PT X c tc) (ha : PSs X a t) (hb : PSs X b u) : PS X (.If c a b pos) (tIfS tc t u) := by
  intro pins s σ H D I h
  refine wpAny_If (thn (hc pins s σ H _ I h) fun d s1 ⟨H1, I1, q1⟩ => ?_)
  cases d with
  | true => exact ha pins s1 σ H1 D I1 q1
  | false => exact hb pins s1 σ H1 D I1 q1
end

abbrev TG := V → St → Hp → (St → Hp → Prop) → Prop
def PG (X : Cx) (target : Expr) (t : TG) : Prop :=
  ∀ (pins : List (Addr × Obj)) (s : Shared) (σ : St) (H : Hp) (v : V) (u : Value) (Q : St → Hp → Prop), Inv X pins σ H s → RelV v u → t v σ H Q →
    wpAny (model X.prog X.w) X.A (assign target X.env u) (fun _ s' => ∃ σ' H', Inv X pins σ' H' s' ∧ Q σ' H') X.xe s
section
variable {X : Cx} {pos : Pos}
def gName (i : Nat) : TG := fun v σ H Q => Q (σ.set i (some v)) H
theorem pg_name {i : Nat} {x : Str} (hN : X.N.Nodup) (hi : X.N[i]? = some x) (hx : Loc X.env.scope x) (hf : X.fn x = true ∨ X.env.scope.names.lookup x = some .local := by first | exact .inl rfl | exact .inr rfl | assumption) : PG X (.Name x pos) (gName i) := by
  intro pins s σ H v u Q I r h
  exact wpAny_assign_Name (store_ok I hN hi hx r (fun s' I' => ⟨_, H, I', h⟩) hf)
def tAsg (te : TE) (g : TG) : TS := fun D σ H => te σ H fun x H1 => g x σ H1 D.nx
theorem ps_set {i : Nat} {x : Str} {e : Expr} {te : TE} {pos' : Pos} (hN : X.N.Nodup) (hi : X.N[i]? = some x) (hx : Loc X.env.scope x) (he : PE X e te) (hs : swapsWith e (some (.Name x pos')) pos.line X.env = pure false := by rfl) (hf : X.fn x = true ∨ X.env.scope.names.lookup x = some .local := by first | exact .inl rfl | exact .inr rfl | assumption) :
    PS X (.Assign [.Name x pos'] e pos) (tAsg te (gName i)) := by
  intro pins s σ H D I h
  refine wpAny_Assign_Name (thn (he pins s σ H _ I h) fun v s1 ⟨y, H1, I1, r1, q1⟩ => ?_) hs
  exact store_ok I1 hN hi hx r1 (fun s2 I2 => ⟨_, H1, I2, q1⟩) hf
end

section
variable {X : Cx} {pos : Pos}
end

structure It where
  go : Nat → Hp → Prop
  yld : Nat → Hp → V → Hp → Prop
  stop : Nat → Hp → Prop
def FpOk (X : Cx) (pins : List (Addr × Obj)) (H : Hp) (b : Addr) : Prop :=
  H b = none ∧ b ≠ X.env.locals ∧ b ∉ X.fs ∧ (b ∈ X.ex ∨ X.s₀.heap.objs.size ≤ b) ∧ (∀ x c, X.env.cells.lookup x = some c → c ≠ b) ∧ ∀ p ∈ X.pn ++ pins, p.1 ≠ b
theorem Inv.fpOk {X : Cx} {pins : List (Addr × Obj)} {σ : St} {H H' : Hp} {s : Shared} {b : Addr} (I : Inv X pins σ H s) (hb : s.heap.objs.size ≤ b) (hn : H' b = none) : FpOk X pins H' b := by
  refine ⟨hn, Nat.ne_of_gt (Nat.lt_of_lt_of_le I.lt hb), I.nofs hb, .inr (Nat.le_trans I.sz hb), fun x c e z => ?_, fun p hp z => ?_⟩
  · obtain ⟨v, q⟩ := I.cell x c e
    exact absurd (Nat.lt_of_lt_of_le q.lt (by rw [z]; exact hb)) (Nat.lt_irrefl _)
  · exact absurd (Nat.lt_of_lt_of_le (Heap.lt_size (I.pin p hp).1) (by rw [z]; exact hb)) (Nat.lt_irrefl _)
structure Turn (P : Program) (w : World) (K : PySem.W.Frag) (tg : Expr) (J : It) (fp : List Addr) (it : Addr) (tn : Nat → Heap → Prop) : Prop where
  mem : it ∈ fp
  obj : ∀ i h, tn i h → ∀ b ∈ fp, ∃ o, h.get? b = some o ∧ ∀ v, o.data ≠ .cell v
  keep : ∀ i h h', tn i h → (∀ b ∈ fp, ∀ o, h.get? b = some o → h'.get? b = some o) → tn i h'
  item : ∀ (X : Cx), X.prog = P → X.w = w → X.K = K → X.calm = true → ∀ (i : Nat) (pins : List (Addr × Obj)) (s : Shared) (σ : St) (H : Hp) (E : Value → Shared → Prop), Inv X pins σ H s → (∀ b ∈ fp, FpOk X pins H b) → tn i s.heap → J.go i H →
    wpAny (model P w) X.A (pyNext (.ref it)) (fun r s1 => ∃ u, r = some u ∧
      wpAny (model P w) X.A (letOwnedTupleGo tg (.ref it) u) (fun _ s2 => ∃ x H', Inv X pins σ H' s2 ∧ RelV x u ∧ J.yld i H x H' ∧ tn (i + 1) s2.heap ∧ ∀ b ∈ fp, H' b = none) E s1) E s
  done : ∀ (X : Cx), X.prog = P → X.w = w → X.K = K → X.calm = true → ∀ (i : Nat) (pins : List (Addr × Obj)) (s : Shared) (σ : St) (H : Hp) (E : Value → Shared → Prop), Inv X pins σ H s → (∀ b ∈ fp, FpOk X pins H b) → tn i s.heap → J.stop i H →
    wpAny (model P w) X.A (pyNext (.ref it)) (fun r s1 => r = none ∧ Inv X pins σ H s1) E s
  self : ∀ (A : Around) (i : Nat) (s : Shared) (Q : Value → Shared → Prop) (E : Value → Shared → Prop), tn i s.heap → Q (.ref it) s → wpAny (model P w) A (pyIter (.ref it)) Q E s
abbrev TI := St → Hp → (It → Hp → Prop) → Prop
def PIE (X : Cx) (pins : List (Addr × Obj)) (σ : St) (tg : Expr) (R : It → Hp → Prop) (itv : Value) (s2 : Shared) : Prop :=
  ∃ (it : Addr) (fp : List Addr) (tn : Nat → Heap → Prop) (J : It) (H' : Hp), itv = .ref it ∧ Inv X pins σ H' s2 ∧ Turn X.prog X.w X.K tg J fp it tn ∧ tn 0 s2.heap ∧ (∀ b ∈ fp, FpOk X pins H' b) ∧ R J H'
def PI (X : Cx) (tg iter : Expr) (wi : TI) : Prop :=
  ∀ (pins : List (Addr × Obj)) (s : Shared) (σ : St) (H : Hp) (R : It → Hp → Prop), Inv X pins σ H s → wi σ H R →
    wpAny (model X.prog X.w) X.A (eval iter X.env) (fun v s1 => wpAny (model X.prog X.w) X.A (pyIter v) (PIE X pins σ tg R) X.xe s1) X.xe s

theorem go_of {M : Model} {A : Around} {E : Value → Shared → Prop} {s : Shared} {tg : Expr} {it : Addr} {u : Value} {o : Obj} {n : String} {vs : Array Value} {Q : Unit → Shared → Prop} (ho : s.heap.get? it = some o) (hc : o.cls = .type n) (hd : o.data = .fields vs)
    (hn : ["enumerate", "zip", "dict_itemiterator", "dict_reverseitemiterator", "odict_iterator", "itertools.zip_longest", "itertools.pairwise"].contains n = false) (hQ : Q () s) : wpAny M A (letOwnedTupleGo tg (.ref it) u) Q E s := by
  unfold letOwnedTupleGo
  cases tg <;> first
    | exact wpAny_pure hQ
    | (cases u <;> first
        | exact wpAny_pure hQ
        | (refine wpAny_bind (wpAny_load ho ?_)
           rw [hc, hd]
           show wpAny M A (if (["enumerate", "zip", "dict_itemiterator", "dict_reverseitemiterator", "odict_iterator", "itertools.zip_longest", "itertools.pairwise"].contains n && vs[0]? == some (rawInt _)) = true then _ else _) Q E s
           rw [if_neg (by intro h; rw [hn, Bool.false_and] at h; cases h)]
           exact wpAny_pure hQ))

def Itl (K : PySem.W.Frag) (a : Addr) : It :=
  ⟨fun i H => ∃ xs x, SqL K H a xs ∧ xs[i]? = some x, fun i H x H' => H' = H ∧ ∀ xs, SqL K H a xs → xs[i]? = some x, fun i H => ∃ xs, SqL K H a xs ∧ xs.length ≤ i⟩
def Itr (lo : Int) (n : Nat) : It := ⟨fun i _ => i < n, fun i H x H' => H' = H ∧ x = .int (lo + i), fun i _ => n ≤ i⟩
theorem turn_list {P : Program} {w : World} {K : PySem.W.Frag} {tg : Expr} (a it : Addr) : Turn P w K tg (Itl K a) [it] it (fun i h => h.IsListIter it a i) where
  mem := by simp
  obj := fun i h st b hb => by
    have e : b = it := by simpa using hb
    subst e
    obtain ⟨o, e, c, d⟩ := st
    exact ⟨o, e, fun v z => by rw [d] at z; cases z⟩
  keep := fun i h h' st k => st.at fun o e => k it (by simp) o e
  item := by
    intro X hP hw hK hc i pins s σ H E I hf st hg
    subst hP hw hK
    obtain ⟨xs, x, hq, hx⟩ := hg
    obtain ⟨its, rv, p, hz⟩ := I.list hq
    obtain ⟨u, hu, ru⟩ := rv.get hx
    obtain ⟨f0, f1, f2, f3, f4, f5⟩ := hf it (by simp)
    refine wpAny_pyNext_list_item st p.isList (x := u) (by simpa using hu) fun h' st' sb => ?_
    have I1 : Inv X pins σ H { s with heap := h' } := I.turned (t' := s.toks) (fun b o hb e => (sb.2 b hb).trans e) f0 f1 f3 f4 f5
    obtain ⟨o, e, c, d⟩ := id st'
    exact ⟨u, rfl, go_of (s := { s with heap := h' }) e c d (by decide) ⟨x, H, I1, ru, ⟨rfl, fun ys hy => by rw [I.list_inj hy hq]; exact hx⟩, st', fun b hb => (hf b hb).1⟩⟩
  done := by
    intro X hP hw hK hc i pins s σ H E I hf st hg
    subst hP hw hK
    obtain ⟨xs, hq, hx⟩ := hg
    obtain ⟨its, rv, p, hz⟩ := I.list hq
    obtain ⟨f0, f1, f2, f3, f4, f5⟩ := hf it (by simp)
    have hl := rv.length
    exact wpAny_pyNext_list_end (I.ok.hd hc) st p.isList (by simp; omega) fun h' eb => ⟨rfl, I.turned (t' := s.toks) (fun b o hb e => eb b o hb e) f0 f1 f3 f4 f5⟩
  self := fun _ _ _ _ _ st h => wpAny_pyIter_listiter st h
theorem turn_range {P : Program} {w : World} {K : PySem.W.Frag} {tg : Expr} (it : Addr) (lo : Int) (n : Nat) : Turn P w K tg (Itr lo n) [it] it (fun i h => IsRangeIter h it (lo + (i : Nat) * 1) ((n : Int) - (i : Nat)) 1) where
  mem := by simp
  obj := fun i h st b hb => by
    have e : b = it := by simpa using hb
    subst e
    exact ⟨_, st, fun v z => by
      have z' : Data.fields _ = Data.cell v := z
      cases z'⟩
  keep := fun i h h' st k => k it (by simp) _ st
  item := by
    intro X hP hw hK hc i pins s σ H E I hf st hg
    subst hP hw hK
    obtain ⟨f0, f1, f2, f3, f4, f5⟩ := hf it (by simp)
    have W := Walks.range (prog := X.prog) (w := X.w) (I.ok.hd hc) it lo 1 n
    refine W.item i s _ _ hg st fun v h' tk hv st' kk => ?_
    obtain ⟨t, rfl⟩ := hv
    have I1 : Inv X pins σ H { s with heap := h', toks := tk } := I.turned (fun b o hb e => kk b o (by simpa using hb) e) f0 f1 f3 f4 f5
    refine ⟨_, rfl, go_of (s := { s with heap := h', toks := tk }) (n := "range_iterator") st' rfl rfl (by decide) ⟨.int (lo + i), H, I1, ⟨t, ?_⟩, ⟨rfl, rfl⟩, st', fun b hb => (hf b hb).1⟩⟩
    rw [Int.mul_one]
  done := by
    intro X hP hw hK hc i pins s σ H E I hf st hg
    subst hP hw hK
    obtain ⟨f0, f1, f2, f3, f4, f5⟩ := hf it (by simp)
    exact wpAny_pyNext_range_end (I.ok.hd hc) st (by have : n ≤ i := hg; omega) fun h' eb => ⟨rfl, I.turned (t' := s.toks) (fun b o hb e => eb b o hb e) f0 f1 f3 f4 f5⟩
  self := fun _ _ _ _ _ st h => wpAny_pyIter_rangeiter st h
end L2

namespace L2
open PySem PySem.Spec PyProof.Rows
section
variable {X : Cx} {tg : Expr}
def iList (K : PySem.W.Frag) (tl : TE) : TI := fun σ H R => tl σ H fun x H1 => ∃ a, x = .ref a ∧ (∃ xs, SqL K H1 a xs) ∧ R (Itl K a) H1
theorem pi_list {l : Expr} {tl : TE} (hl : PE X l tl) : PI X tg l (iList X.K tl) := by
  intro pins s σ H R I h
  refine thn (hl pins s σ H _ I h) fun v s1 ⟨x, H1, I1, r1, q1⟩ => ?_
  obtain ⟨a, e, ⟨xs, hq⟩, q⟩ := q1
  subst e
  cases r1
  obtain ⟨its, rv, p, hz⟩ := I1.list hq
  refine wpAny_pyIter_list p.isList ?_
  refine ⟨s1.heap.objs.size, [s1.heap.objs.size], _, _, H1, rfl, I1.kept (t' := s1.toks) fun b o e => Heap.get?_push_of_some _ e, turn_list a _, ⟨_, Heap.get?_push_size _ rfl, rfl, rfl⟩, fun b hb => ?_, q⟩
  have e : b = s1.heap.objs.size := by simpa using hb
  subst e
  exact I1.fpOk (Nat.le_refl _) (I1.hok.fresh (Nat.le_refl _))
theorem range_it {pins : List (Addr × Obj)} {σ : St} {H : Hp} {s : Shared} {R : It → Hp → Prop} {E : Value → Shared → Prop} {lo hi : Int} {t u v : Tok} {tk : Nat} (I : Inv X pins σ H s) (h1 : -(2 ^ 62) ≤ lo) (h2 : lo < 2 ^ 62) (h3 : -(2 ^ 62) ≤ hi) (h4 : hi < 2 ^ 62)
    (q : R (Itr lo (hi - lo).toNat) H) : wpAny (model X.prog X.w) X.A (pyIter (.ref s.heap.objs.size)) (PIE X pins σ tg R) E { s with heap := s.heap.push { cls := .type "range", data := .fields #[.int lo t, .int hi u, .int 1 v] }, toks := tk } := by
  refine wpAny_pyIter_range (IsRange.new ..) (small_one h1 h2 h3 h4) ?_
  have I1 : Inv X pins σ H { s with heap := s.heap.push { cls := .type "range", data := .fields #[.int lo t, .int hi u, .int 1 v] }, toks := tk } := I.kept fun b o e => Heap.get?_push_of_some _ e
  refine ⟨(s.heap.push { cls := .type "range", data := .fields #[.int lo t, .int hi u, .int 1 v] }).objs.size, [(s.heap.push { cls := .type "range", data := .fields #[.int lo t, .int hi u, .int 1 v] }).objs.size], _, _, H, rfl,
    I1.kept (t' := tk) fun b o e => Heap.get?_push_of_some _ e, turn_range _ lo (hi - lo).toNat, ?_, fun b hb => ?_, q⟩
  · have e1 : lo + ((0 : Nat) : Int) * 1 = lo := by simp
    have e2 : (((hi - lo).toNat : Nat) : Int) - ((0 : Nat) : Int) = Builtin.Range.rangeSize lo hi 1 := by rw [rangeSize_one]; split <;> omega
    show IsRangeIter _ _ (lo + ((0 : Nat) : Int) * 1) ((((hi - lo).toNat : Nat) : Int) - ((0 : Nat) : Int)) 1
    rw [e1, e2]
    exact Heap.get?_push_size _ rfl
  · have e : b = (s.heap.push { cls := .type "range", data := .fields #[.int lo t, .int hi u, .int 1 v] }).objs.size := by simpa using hb
    subst e
    exact I1.fpOk (Nat.le_refl _) (I1.hok.fresh (Nat.le_refl _))
def iRng1 (ta : TA) : TI := fun σ H R => ta σ H fun vs H1 => ∃ j : Int, vs = [.int j] ∧ -(2 ^ 62) ≤ j ∧ j < 2 ^ 62 ∧ R (Itr 0 j.toNat) H1
theorem pi_range1 {a : Expr} {ta : TA} {p pos : Pos} (hg : Gl X "range") (hm : X.mg "range" = none) (ha : PA X [a] ta) (hs : starEach [a] X.env = [(false, eval a X.env)] := by rfl) : PI X tg (.Call (.Name "range" p) [a] [] pos) (iRng1 ta) := by
  intro pins s σ H R I h
  refine Call_ (ld_blt I hg hm boot_range (PyProof.Rows.callWith_type1 (thn (ha pos pins s σ H _ I h) fun us s1 ⟨vs, H1, I1, r1, q1⟩ => ?_) hs rfl))
  obtain ⟨j, e, q1, q2, q⟩ := q1
  subst e
  cases r1 with
  | cons r rr =>
    cases rr
    obtain ⟨t, rfl⟩ := r
    exact call_range_1 (range_it I1 (by omega) (by omega) q1 q2 (by simpa using q))
def tFor (wi : TI) (g : TG) (tb : TS) : TS := fun D σ H => wi σ H fun J H1 => ∃ W : Nat → Nat → St → Hp → Prop, (∃ m, W 0 m σ H1) ∧ ∀ i m σ H, W i m σ H →
  (J.stop i H ∧ D.nx σ H) ∨ (J.go i H ∧ ∃ N : St → Hp → Prop, (∀ σ' H', N σ' H' → ∃ m', m' < m ∧ W (i + 1) m' σ' H') ∧ ∀ x H', J.yld i H x H' → g x σ H' fun σ2 H2 => tb { D with nx := N, ct := N, bk := D.nx } σ2 H2)
def pinsAt (fp : List Addr) (h : Heap) : List (Addr × Obj) := fp.filterMap fun b => (h.get? b).map fun o => (b, o)
theorem mem_pinsAt {fp : List Addr} {h : Heap} {b : Addr} {o : Obj} (hb : b ∈ fp) (e : h.get? b = some o) : (b, o) ∈ pinsAt fp h := List.mem_filterMap.mpr ⟨b, hb, by rw [e]; rfl⟩
theorem of_pinsAt {fp : List Addr} {h : Heap} {p : Addr × Obj} (hp : p ∈ pinsAt fp h) : p.1 ∈ fp ∧ h.get? p.1 = some p.2 := by
  obtain ⟨b, hb, e⟩ := List.mem_filterMap.mp hp
  cases q : h.get? b with
  | none => rw [q] at e; cases e
  | some o =>
    rw [q] at e
    have e' : (b, o) = p := Option.some.inj e
    subst e'
    exact ⟨hb, q⟩
theorem Inv.pinned {pins : List (Addr × Obj)} {σ : St} {H : Hp} {s : Shared} {fp : List Addr} (I : Inv X pins σ H s) (hf : ∀ b ∈ fp, FpOk X pins H b) (ho : ∀ b ∈ fp, ∃ o, s.heap.get? b = some o ∧ ∀ v, o.data ≠ .cell v) : Inv X (pins ++ pinsAt fp s.heap) σ H s :=
  I.pins_of fun p hp => (List.mem_append.mp hp).elim (fun z => I.pin p (List.mem_append_right _ z)) fun z => by
    obtain ⟨hb, e⟩ := of_pinsAt z
    obtain ⟨f0, f1, f2, _⟩ := hf p.1 hb
    obtain ⟨o, e', d⟩ := ho p.1 hb
    rw [e] at e'; cases e'
    exact ⟨e, f0, f1, f2, d⟩
theorem Inv.unpinned {pins pl : List (Addr × Obj)} {σ : St} {H : Hp} {s : Shared} (I : Inv X (pins ++ pl) σ H s) : Inv X pins σ H s := I.pins_of fun p hp => I.pin p (List.mem_append_right _ (List.mem_append_left _ hp))
theorem ps_for {iter : Expr} {body : List Stmt} {wi : TI} {g : TG} {tb : TS} {pos : Pos} (hp : PassesOwn (model X.prog X.w) X.A X.env X.xe) (hc : X.calm = true) (hi : PI X tg iter wi) (hg : PG X tg g) (hb : PSs X body tb)
    (hs : ∀ x, foldedSetIterable iter X.env x = pure x := by intro _; rfl) : PS X (.For tg iter body [] pos) (tFor wi g tb) := by
  intro pins s σ H D I h
  refine wpAny_For (thn (hi pins s σ H _ I h) fun v s1 h1 => thn h1 fun itv s2 h2 => ?_) hs
  obtain ⟨it, fp, tn, J, H2, e, I2, T, st2, f2, W, ⟨m0, w0⟩, turn⟩ := h2
  subst e
  -- what stays true of the iterator's objects through the loop
  have stat : ∀ {H' : Hp}, (∀ b ∈ fp, H' b = none) → ∀ b ∈ fp, FpOk X pins H' b := fun hn b hb => ⟨hn b hb, (f2 b hb).2⟩
  refine codeAny_forLoop_any (fun n s' => ∃ i σ' H', Inv X pins σ' H' s' ∧ tn i s'.heap ∧ (∀ b ∈ fp, H' b = none) ∧ W i n σ' H') ?_ m0 ⟨0, σ, H2, I2, st2, fun b hb => (f2 b hb).1, w0⟩
  rintro n s3 ⟨i, σ3, H3, I3, st3, fr3, w3⟩
  rcases turn i n σ3 H3 w3 with ⟨stop, qn⟩ | ⟨go, N, hN, step⟩
  · refine wpAny_passesOwn hp (thn (T.done X rfl rfl rfl hc i pins s3 σ3 H3 X.xe I3 (stat fr3) st3 stop) fun r s4 ⟨hr, I4⟩ => ?_)
    subst hr
    exact wpAny_execs_nil ⟨σ3, H3, I4, qn⟩
  · refine wpAny_passesOwn hp (thn (T.item X rfl rfl rfl hc i pins s3 σ3 H3 X.xe I3 (stat fr3) st3 go) fun r s4 ⟨u, hr, h4⟩ => ?_)
    subst hr
    refine wpAny_passesOwn hp (thn h4 fun _ s5 ⟨x, H5, I5, r5, y5, st5, fr5⟩ => ?_)
    have I5' := I5.pinned (stat fr5) (T.obj _ _ st5)
    refine wpAny_passesOwn hp (thn (hg _ s5 σ3 H5 x u _ I5' r5 (step x H5 y5)) fun _ s6 ⟨σ6, H6, I6, q6⟩ => ?_)
    refine wpAny_passesOwn hp (thn (hb _ s6 σ6 H6 _ I6 q6) fun f s7 q7 => ?_)
    have again : ∀ {σ7 : St} {H7 : Hp}, Inv X (pins ++ pinsAt fp s5.heap) σ7 H7 s7 → N σ7 H7 → ∃ m, m < n ∧ ∃ i σ' H', Inv X pins σ' H' s7 ∧ tn i s7.heap ∧ (∀ b ∈ fp, H' b = none) ∧ W i m σ' H' := fun {σ7 H7} I7 n7 => by
      obtain ⟨m', hm, w7⟩ := hN σ7 H7 n7
      refine ⟨m', hm, i + 1, σ7, H7, I7.unpinned, T.keep _ _ _ st5 fun b hb o e => (I7.pin (b, o) (List.mem_append_right _ (List.mem_append_right _ (mem_pinsAt hb e)))).1, fun b hb => ?_, w7⟩
      obtain ⟨o, e, d⟩ := T.obj _ _ st5 b hb
      exact (I7.pin (b, o) (List.mem_append_right _ (List.mem_append_right _ (mem_pinsAt hb e)))).2.1
    cases f with
    | next => obtain ⟨σ7, H7, I7, n7⟩ := q7; exact again I7 n7
    | cont => obtain ⟨σ7, H7, I7, n7⟩ := q7; exact again I7 n7
    | brk => obtain ⟨σ7, H7, I7, q7⟩ := q7; exact ⟨σ7, H7, I7.unpinned, q7⟩
    | ret v => obtain ⟨x7, σ7, H7, I7, r7, q7⟩ := q7; exact ⟨x7, σ7, H7, I7.unpinned, r7, q7⟩
end

end L2

namespace L2
open PySem PySem.Spec PyProof.Rows

abbrev R2 := V → V → Hp → VK → Prop
def OpR (X : Cx) (f : Value → Value → Sem Value) (r : R2) : Prop :=
  ∀ (pins : List (Addr × Obj)) (s : Shared) (σ : St) (H : Hp) (x y : V) (v u : Value) (Q : VK), Inv X pins σ H s → RelV x v → RelV y u → r x y H Q →
    wpAny (model X.prog X.w) X.A (f v u) (EP X pins σ Q) X.xe s
def UnR (X : Cx) (f : Value → Sem Value) (r : V → Hp → VK → Prop) : Prop :=
  ∀ (pins : List (Addr × Obj)) (s : Shared) (σ : St) (H : Hp) (x : V) (v : Value) (Q : VK), Inv X pins σ H s → RelV x v → r x H Q →
    wpAny (model X.prog X.w) X.A (f v) (EP X pins σ Q) X.xe s
def CallR (X : Cx) (f : Value) (r : List V → Hp → VK → Prop) : Prop :=
  ∀ (pins : List (Addr × Obj)) (s : Shared) (σ : St) (H : Hp) (xs : List V) (us : List Value) (Q : VK), Inv X pins σ H s → Vals xs us → r xs H Q →
    wpAny (model X.prog X.w) X.A (call f us) (EP X pins σ Q) X.xe s
def tOp (r : R2) (ta tb : TE) : TE := fun σ H Q => ta σ H fun x H1 => tb σ H1 fun y H2 => r x y H2 Q
def tUn (r : V → Hp → VK → Prop) (ta : TE) : TE := fun σ H Q => ta σ H fun x H1 => r x H1 Q
def rI (C : Int → Int → Prop) (g : Int → Int → V) : R2 := fun x y H Q => ∃ i j, x = .int i ∧ y = .int j ∧ C i j ∧ Q (g i j) H
def rI0 (g : Int → Int → V) : R2 := fun x y H Q => ∃ i j, x = .int i ∧ y = .int j ∧ Q (g i j) H
def rU (g : Int → V) : V → Hp → VK → Prop := fun x H Q => ∃ i, x = .int i ∧ Q (g i) H

section
variable {X : Cx} {a b c : Expr} {ta tb tc : TE} {pos : Pos}

theorem binT (ha : PE X a ta) (hb : PE X b tb) {pins : List (Addr × Obj)} {s : Shared} {σ : St} {H : Hp} {R : V → V → Hp → Prop} (I : Inv X pins σ H s)
    (h : ta σ H fun x H1 => tb σ H1 fun y H2 => R x y H2) {Q : Value → Shared → Prop} {f : Value → Value → Sem Value}
    (hf : ∀ v u s2 x y H2, Inv X pins σ H2 s2 → RelV x v → RelV y u → R x y H2 → wpAny (model X.prog X.w) X.A (f v u) Q X.xe s2) :
    wpAny (model X.prog X.w) X.A (eval a X.env) (fun v s₁ => wpAny (model X.prog X.w) X.A (eval b X.env) (fun u s₂ => wpAny (model X.prog X.w) X.A (f v u) Q X.xe s₂) X.xe s₁) X.xe s := by
  refine thn (ha pins s σ H _ I h) fun v s1 ⟨x, H1, I1, r1, q1⟩ => ?_
  refine thn (hb pins s1 σ H1 _ I1 q1) fun u s2 ⟨y, H2, I2, r2, q2⟩ => ?_
  exact hf v u s2 x y H2 I2 r1 r2 q2

theorem pe_op {op : Operator} {r : R2} (ho : OpR X (binaryOp op) r) (ha : PE X a ta) (hb : PE X b tb) : PE X (.BinOp a op b pos) (tOp r ta tb) := by
  intro pins s σ H Q I h
  exact wpAny_BinOp (binT ha hb I h fun v u s2 x y H2 I2 rx ry q => ho pins s2 σ H2 x y v u Q I2 rx ry q)
theorem pe_un {op : UnaryOp} {r : V → Hp → VK → Prop} (ho : UnR X (unaryOp op) r) (ha : PE X a ta) : PE X (.UnaryOp op a pos) (tUn r ta) := by
  intro pins s σ H Q I h
  exact UnaryOp_ (thn (ha pins s σ H _ I h) fun v s1 ⟨x, H1, I1, r1, q1⟩ => ho pins s1 σ H1 x v Q I1 r1 q1)
theorem opI {f : Value → Value → Sem Value} {C : Int → Int → Prop} {g : Int → Int → Int}
    (rule : ∀ (i j : Int) (t u : Tok) (s : Shared) (Q : Value → Shared → Prop) (E : Value → Shared → Prop), C i j → Q (.int (g i j) s.toks) { s with toks := s.toks + 1 } → wpAny (model X.prog X.w) X.A (f (.int i t) (.int j u)) Q E s) :
    OpR X f (rI C fun i j => .int (g i j)) := by
  intro pins s σ H x y v u Q I rx ry h
  obtain ⟨i, j, rfl, rfl, hc, q⟩ := h
  obtain ⟨t, rfl⟩ := rx
  obtain ⟨t', rfl⟩ := ry
  exact rule i j t t' s _ _ hc ⟨.int (g i j), H, I.tok _, ⟨_, rfl⟩, q⟩
theorem opI0 {f : Value → Value → Sem Value} {g : Int → Int → Int}
    (rule : ∀ (i j : Int) (t u : Tok) (s : Shared) (Q : Value → Shared → Prop) (E : Value → Shared → Prop), Q (.int (g i j) s.toks) { s with toks := s.toks + 1 } → wpAny (model X.prog X.w) X.A (f (.int i t) (.int j u)) Q E s) :
    OpR X f (rI0 fun i j => .int (g i j)) := by
  intro pins s σ H x y v u Q I rx ry h
  obtain ⟨i, j, rfl, rfl, q⟩ := h
  obtain ⟨t, rfl⟩ := rx
  obtain ⟨t', rfl⟩ := ry
  exact rule i j t t' s _ _ ⟨.int (g i j), H, I.tok _, ⟨_, rfl⟩, q⟩
theorem opB0 {f : Value → Value → Sem Value} {g : Int → Int → Bool}
    (rule : ∀ (i j : Int) (t u : Tok) (s : Shared) (Q : Value → Shared → Prop) (E : Value → Shared → Prop), Q (.bool (g i j)) s → wpAny (model X.prog X.w) X.A (f (.int i t) (.int j u)) Q E s) :
    OpR X f (rI0 fun i j => .bl (g i j)) := by
  intro pins s σ H x y v u Q I rx ry h
  obtain ⟨i, j, rfl, rfl, q⟩ := h
  obtain ⟨t, rfl⟩ := rx
  obtain ⟨t', rfl⟩ := ry
  exact rule i j t t' s _ _ ⟨.bl (g i j), H, I, rfl, q⟩

def CPow (i j : Int) : Prop := 0 ≤ j ∧ j ≤ 1000000 ∧ i.natAbs < 2 ^ 64
theorem two_pow_nn (k : Nat) : (0 : Int) ≤ 2 ^ k := by
  rw [two_pow_cast]
  exact Int.natCast_nonneg _

theorem op_add : OpR X (binaryOp .Add) (rI0 fun i j => .int (i + j)) := opI0 fun _ _ _ _ _ _ _ q => add_int q
theorem op_sub : OpR X (binaryOp .Sub) (rI0 fun i j => .int (i - j)) := opI0 fun _ _ _ _ _ _ _ q => sub_int q
theorem op_modN : OpR X (binaryOp .Mod) (rI (fun _ j => j ≠ 0) fun i j => .int (i.fmod j)) := opI fun _ _ _ _ _ _ _ hc q => mod_int' hc q
theorem op_pow : OpR X (binaryOp .Pow) (rI CPow fun i j => .int (i ^ j.toNat)) := opI fun _ _ _ _ _ _ _ hc q => pow_int_small hc.1 hc.2.1 hc.2.2 q
theorem op_shr : OpR X (binaryOp .RShift) (rI (fun _ j => 0 ≤ j) fun i j => .int (i / 2 ^ j.toNat)) := opI fun i j _ _ _ _ _ hc q =>
  rshift_int hc (by rw [Int.fdiv_eq_ediv_of_nonneg i (two_pow_nn _)]; exact q)
theorem unI {f : Value → Sem Value} {g : Int → Int}
    (rule : ∀ (i : Int) (t : Tok) (s : Shared) (Q : Value → Shared → Prop) (E : Value → Shared → Prop), Q (.int (g i) s.toks) { s with toks := s.toks + 1 } → wpAny (model X.prog X.w) X.A (f (.int i t)) Q E s) :
    UnR X f (rU fun i => .int (g i)) := by
  intro pins s σ H x v Q I rx h
  obtain ⟨i, rfl, q⟩ := h
  obtain ⟨t, rfl⟩ := rx
  exact rule i t s _ _ ⟨.int (g i), H, I.tok _, ⟨_, rfl⟩, q⟩
theorem un_neg : UnR X (unaryOp .USub) (rU fun i => .int (-i)) := unI fun _ _ _ _ _ q => neg_int q
end

section
variable {X : Cx} {a b c : Expr} {ta tb tc : TE} {pos : Pos}
theorem op_lt : OpR X (compareOp .Lt) (rI0 fun i j => .bl (decide (i < j))) := opB0 fun _ _ _ _ _ _ _ q => lt_int q
theorem op_gt : OpR X (compareOp .Gt) (rI0 fun i j => .bl (decide (j < i))) := opB0 fun _ _ _ _ _ _ _ q => gt_int q
theorem nomark (b : Expr) {op : CmpOp} (h : op ≠ .In := by decide) (h2 : op ≠ .NotIn := by decide) : behindInMarks op b = false := by
  have e1 : (op == CmpOp.In) = false := by cases op <;> first | rfl | exact absurd rfl h
  have e2 : (op == CmpOp.NotIn) = false := by cases op <;> first | rfl | exact absurd rfl h2
  cases b <;> simp [behindInMarks, e1, e2]
theorem pe_cmpR {op : CmpOp} {r : R2} (ho : OpR X (compareOp op) r) (ha : PE X a ta) (hb : PE X b tb) (hm : behindInMarks op b = false) : PE X (.Compare a [op] [b] pos) (tOp r ta tb) := by
  intro pins s σ H Q I h
  exact wpAny_Compare1 (binT ha hb I h fun v u s2 x y H2 I2 rx ry q => ho pins s2 σ H2 x y v u Q I2 rx ry q) hm
def tTest (t : TE) : TT := fun σ H Q => t σ H fun x H' => ∃ k, x = .bl k ∧ Q k H'
theorem pt_cmpR {op : CmpOp} {r : R2} (ho : OpR X (compareOp op) r) (ha : PE X a ta) (hb : PE X b tb) (hm : behindInMarks op b = false) : PT X (.Compare a [op] [b] pos) (tTest (tOp r ta tb)) := by
  intro pins s σ H Q I h
  refine wpAny_isTrue_Compare1 (thn (ha pins s σ H _ I h) fun v s1 ⟨x, H1, I1, r1, q1⟩ => thn (hb pins s1 σ H1 _ I1 q1) fun u s2 ⟨y, H2, I2, r2, q2⟩ =>
    thn (ho pins s2 σ H2 x y v u _ I2 r1 r2 q2) fun c s3 ⟨z, H3, I3, r3, k, e, q3⟩ => ?_) hm
  subst e
  cases r3
  exact wpAny_truthy_bool ⟨H3, I3, q3⟩
theorem line63 : (sizeLine : Nat) < 2 ^ 63 := by rw [sizeLine_eq]; decide
theorem op_add_str : OpR X (binaryOp .Add) (fun x y H Q => ∃ i j, x = .str i ∧ y = .str j ∧ i.length + j.length ≤ sizeLine ∧ Q (.str (i ++ j)) H) := by
  intro pins s σ H x y v u Q I rx ry h
  obtain ⟨i, j, rfl, rfl, hz, q⟩ := h
  obtain ⟨t, rfl⟩ := rx
  obtain ⟨t', rfl⟩ := ry
  exact add_str (fun t' tk => ⟨.str (i ++ j), H, I.tok _, ⟨_, rfl⟩, q⟩) hz
theorem vals1 {x : V} {us : List Value} (r : Vals [x] us) : ∃ u, us = [u] ∧ RelV x u := by
  cases r with
  | cons r1 r2 => cases r2; exact ⟨_, rfl, r1⟩
theorem vals2 {x y : V} {us : List Value} (r : Vals [x, y] us) : ∃ u w', us = [u, w'] ∧ RelV x u ∧ RelV y w' := by
  cases r with
  | cons r1 r2 =>
    cases r2 with
    | cons r3 r4 => cases r4; exact ⟨_, _, rfl, r1, r3⟩
end
end L2

namespace L2
open PySem PySem.Spec PyProof.Rows

section
variable {prog : Program} {w : World} {A : Around} {E : Value → Shared → Prop} {s : Shared} {K : PySem.W.Frag} {x dx C f : Addr} {mA : Str → Option Value} {name : Str} {v : Value}

end

section
variable {P : Program} {w : World} {H H' : Hp} {h h' : Heap} {a C dx : Addr} {fs fs' : List (Str × V)}
end

structure Cls (K : PySem.W.Frag) (C : Addr) : Prop where
  pg : PySem.W.plainGet K C Str.empty = true
  hd : PySem.W.hasDictIn K C = true
  po : PySem.W.plainOver K C = true
  sa : PySem.W.findIn K (.ref C) "__setattr__" = some (some (.builtin "object.__setattr__"))
section
variable {X : Cx} {pins : List (Addr × Obj)} {σ : St} {H : Hp} {s : Shared} {a C dx : Addr} {fs : List (Str × V)} {f : Str} {v : V} {A : Around} {E : Value → Shared → Prop}

end

section
variable {X : Cx} {o e value : Expr} {f : Str} {pos pos' tpos : Pos} {ta tv : TE}
end

section
variable {X : Cx} {pins : List (Addr × Obj)} {σ : St} {H : Hp} {s : Shared} {A : Around} {E : Value → Shared → Prop} {Q : Value → Shared → Prop} {c : Value} {b : Bool}
end
end L2

namespace L2
open PySem PySem.Spec PyProof.Rows

structure Room (k : Nat) (A : Around) : Prop where
  hd : A.handled = none
  dp : A.depth + 3 * k + 5 < recursionLimit
  un : A.units + 16 * k + 200 < cLine
theorem Room.mono {j k : Nat} {A : Around} (r : Room k A) (h : j ≤ k) : Room j A := ⟨r.hd, by have := r.dp; omega, by have := r.un; omega⟩
theorem Room.deeper {k : Nat} {A : Around} (r : Room (k + 1) A) (env : Env) : Room k (A.deeper env) :=
  ⟨r.hd, by have := r.dp; show A.depth + 1 + 3 * k + 5 < _; omega, by have := r.un; show A.units + 3 + 16 * k + 200 < _; omega⟩
theorem Room.depth {k : Nat} {A : Around} (r : Room k A) : A.depth < recursionLimit := by have := r.dp; omega
theorem Room.units {k : Nat} {A : Around} (r : Room k A) : A.units + 64 < cLine := by have := r.un; omega
def tNil : TA := fun _ H Q => Q [] H
def tCons (ta : TE) (tr : TA) : TA := fun σ H Q => ta σ H fun x H1 => tr σ H1 fun xs H2 => Q (x :: xs) H2
section
variable {X : Cx} {e : Expr} {es : List Expr} {te : TE} {t : TA} {pos : Pos}
theorem pa_nil : PA X [] tNil := fun _ _ _ _ H Q I h => Calls.spliced_nil ⟨[], H, I, .nil, h⟩
theorem pa_cons (ha : PE X e te) (hr : PA X es t) (hs : starEach (e :: es) X.env = (false, eval e X.env) :: starEach es X.env := by rfl) : PA X (e :: es) (tCons te t) := by
  intro pos pins s σ H Q I h
  rw [hs]
  show wpAny _ _ (spliced ((false, eval e X.env) :: backTo pos (starEach es X.env))) _ _ s
  refine Calls.spliced_cons (thn (ha pins s σ H _ I h) fun u s1 ⟨x, H1, I1, r1, q1⟩ => ?_)
  exact thn (hr pos pins s1 σ H1 _ I1 q1) fun us s2 ⟨xs, H2, I2, r2, q2⟩ => ⟨x :: xs, H2, I2, .cons r1 r2, q2⟩

def tLst (t : TA) : TE := fun σ H Q => t σ H fun xs H1 => xs.length ≤ sizeLine ∧ ∀ p, H1 p = none → Q (.ref p) (upd H1 p (.lst xs))
theorem pe_lst (h : PA X es t) : PE X (.List es pos) (tLst t) := by
  intro pins s σ H Q I hq
  refine wpAny_List_spliced (thn (h pos pins s σ H _ I hq) fun us s1 ⟨xs, H1, I1, r, z, q⟩ => ⟨by rw [← r.length]; exact z, ?_⟩)
  have hf : H1 s1.heap.objs.size = none := I1.hok.fresh (Nat.le_refl _)
  refine ⟨.ref s1.heap.objs.size, upd H1 s1.heap.objs.size (.lst xs), I1.laid (t' := s1.toks) (fun b u e => Heap.get?_push_of_some _ e) (Nat.le_refl _) ?_, rfl, q _ hf⟩
  exact ⟨z, us, 0, r, Heap.get?_push_size _ rfl⟩
end

abbrev Sp := List V → Hp → VK → XK → Prop
abbrev CXT := List Env → Hp → Shared → XK → Value → Shared → Prop

structure Env0 (P : Program) (w : World) (K : PySem.W.Frag) (mg : Str → Option Value) (base : Heap) (A : Around) (outer : List Env) (s : Shared) (H : Hp) : Prop where
  frames : A.frames = some outer
  mod : Mod K mg base
  bs : ∀ b o, base.get? b = some o → s.heap.get? b = some o ∧ H b = none
  bsz : base.objs.size ≤ s.heap.objs.size
  funs : s.heap.FunFrames base outer
  frf : ∀ b ∈ frs outer, H b = none
  hok : HOk P w H s.heap
  bare : AllBare s.gens
def CE (outer : List Env) (P : Program) (w : World) (H : Hp) (s : Shared) (Q : VK) (u : Value) (s' : Shared) : Prop :=
  ∃ v H', s'.os = s.os ∧ AllBare s'.gens ∧ Un (frs outer) [] H H' s.heap s'.heap ∧ HOk P w H' s'.heap ∧ RelV v u ∧ Q v H'
def CR (CX : CXT) (outer : List Env) (P : Program) (w : World) (H : Hp) (s : Shared) (Q : VK) (E : XK) (r : Result) (s' : Shared) : Prop :=
  match r with
  | .ok (.ret u) => CE outer P w H s Q u s'
  | .ok _ => False
  | .error e => CX outer H s E e s'
structure FnOk (P : Program) (w : World) (K : PySem.W.Frag) (mg : Str → Option Value) (base : Heap) (CX : CXT) (k : Nat) (f : Addr) (fd : FuncData) (ps : List Str) (sp : Sp) : Prop where
  len : ∀ vs H Q E, sp vs H Q E → vs.length = ps.length
  run : ∀ (A : Around) (outer : List Env) (s : Shared) (H : Hp) (args : Args) (us : List Value) (vs : List V) (Q : VK) (E : XK), Room k A → Env0 P w K mg base A outer s H → BindsTo s fd args (ps.zip us) → Vals vs us → sp vs H Q E →
    codeAny (model P w) A (.call (.ref f) args) (CR CX outer P w H s Q E) s
section
variable {X : Cx} {pins : List (Addr × Obj)} {σ : St} {H : Hp} {s s' : Shared}
theorem Inv.env0 (I : Inv X pins σ H s) : Env0 X.prog X.w X.K X.mg X.base X.A X.stack s H :=
  ⟨I.ok.frames, I.ok.mod, I.bs, Nat.le_trans I.ok.bsz I.sz, I.stack, I.stkFree, I.hok, I.bare⟩
theorem Inv.after {Q : VK} {u : Value} (I : Inv X pins σ H s) (h : CE X.stack X.prog X.w H s Q u s') : EP X pins σ Q u s' := by
  obtain ⟨v, H', os, bare, un, hok, r, q⟩ := h
  obtain ⟨hh, g, d, t, os'⟩ := s'
  obtain rfl : os' = s.os := os
  exact ⟨v, H', I.call (h' := hh) (g' := g) (d' := d) (t' := t) (ch := []) un hok bare (fun b z => absurd z (by simp)), r, q⟩
end

def tCall (sp : Sp) (dvs : List V) (E : XK) (t : TA) : TE := fun σ H Q => t σ H fun vs H1 => sp (vs ++ dvs) H1 Q E
def Binds (K : PySem.W.Frag) (fd : FuncData) (ps : List Str) (ds : List Value) : Prop :=
  ∀ (s : Shared) (us : List Value), K.In s.heap → (us ++ ds).length = ps.length → BindsTo s fd ⟨us, []⟩ (ps.zip (us ++ ds))
theorem Binds.all {K : PySem.W.Frag} {fd : FuncData} {ps : List Str} (h : ∀ us : List Value, us.length = ps.length → bindArgs fd ⟨us, []⟩ = pure (ps.zip us)) : Binds K fd ps [] := fun s us _ hl => by
  rw [List.append_nil] at hl ⊢
  exact .of_eq (h us hl)

def Passes (CX : CXT) (X : Cx) (E : XK) : Prop := ∀ (pins : List (Addr × Obj)) (σ : St) (H : Hp) (s : Shared) (e : Value) (s' : Shared), Inv X pins σ H s → CX X.stack H s E e s' → X.xe e s'

section
variable {X : Cx} {CX : CXT} {k : Nat} {f C : Addr} {fd : FuncData} {ps : List Str} {sp : Sp} {dvs : List V} {ds : List Value} {E : XK} {x m : Str} {p pos apos : Pos} {e o : Expr} {es : List Expr} {ta : TE} {t : TA}

theorem run_fn {pins : List (Addr × Obj)} {σ : St} {H : Hp} {s : Shared} {Q : VK} {us : List Value} {vs : List V} (F : FnOk X.prog X.w X.K X.mg X.base CX k f fd ps sp) (hr : Room k X.A) (hb : Binds X.K fd ps ds) (hd : Vals dvs ds) (hx : Passes CX X E)
    (I : Inv X pins σ H s) (r : Vals vs us) (h : sp (vs ++ dvs) H Q E) : wpAny (model X.prog X.w) X.A (call (.ref f) us) (EP X pins σ Q) X.xe s := by
  have r2 : Vals (vs ++ dvs) (us ++ ds) := r.append hd
  have hl : (us ++ ds).length = ps.length := by rw [← r2.length]; exact F.len _ _ _ _ h
  refine wpAny_call (codeAny_mono (F.run X.A X.stack s H ⟨us, []⟩ (us ++ ds) (vs ++ dvs) Q E hr I.env0 (hb s us I.kIn hl) r2 h) fun r s' hq => ?_)
  cases r with
  | error e => exact hx pins σ H s e s' I hq
  | ok fl =>
    cases fl with
    | ret u => exact I.after hq
    | next => exact False.elim hq
    | brk => exact False.elim hq
    | cont => exact False.elim hq

theorem pe_call (F : FnOk X.prog X.w X.K X.mg X.base CX k f fd ps sp) (hr : Room k X.A) (hg : Gl X x) (hm : X.mg x = some (.ref f)) (hk : PySem.W.keepIn X.K (.ref f) = true) (hb : Binds X.K fd ps ds) (hd : Vals dvs ds) (hx : Passes CX X E)
    (ha : PA X (e :: es) t) (hdb : (x == ("__debug__" : Str)) = false := by decide) (he : starEach (e :: es) X.env = (false, eval e X.env) :: starEach es X.env := by rfl) (hpl : (backTo pos (starEach es X.env)).any (·.1) = false := by rfl) :
    PE X (.Call (.Name x p) (e :: es) [] pos) (tCall sp dvs E t) := by
  intro pins s σ H Q I h
  refine wpAny_Call_Name_kw (ld_glob I hg hm ?_ hdb)
  refine PySem.W.callWith_K (h₀ := X.base) I.ok.mod.kin hk (thn (ha pos pins s σ H _ I h) fun us s1 ⟨vs, H1, I1, r, q⟩ => ⟨I1.kIn, ?_⟩) he hpl
  exact run_fn F hr hb hd hx I1 r q
end

section
variable {X : Cx} {CX : CXT} {k : Nat} {f C : Addr} {fd : FuncData} {ps ks : List Str} {sp : Sp} {E : XK} {x m : Str} {p pos apos kpos : Pos} {e o : Expr} {es : List Expr} {kws : List Keyword} {te ta : TE} {t tk : TA} {nm : Option Str}
variable {g : List Value → List Value → List Value} {gV : List V → List V → List V}
end

structure FnScope (N P : List Str) (sc : Scope) : Prop where
  kind : sc.kind = .function
  co : sc.isCoroutine = false
  gen : sc.isGenerator = false
  nd : N.Nodup
  pre : N.take P.length = P
  par : ∀ x ∈ P, sc.names.lookup x = some .local ∨ sc.names.lookup x = some .cell
  nofree : ∀ y ∈ sc.names, y.2 ≠ .free

theorem bindL_out {kindOf : Str → Option NameKind} {x : Str} : ∀ {binds : List (Str × Value)} {m : Str → Option Value}, (∀ v, (x, v) ∉ binds) → bindL kindOf binds m x = m x
  | [], _, _ => rfl
  | (n, v) :: r, m, h => by
    unfold bindL
    rw [bindL_out fun w hw => h w (List.mem_cons_of_mem _ hw)]
    split
    · have : x ≠ n := by rintro rfl; exact h v List.mem_cons_self
      simp [this]
    · rfl
theorem bindC_out {kindOf : Str → Option NameKind} {x : Str} : ∀ {binds : List (Str × Value)} {m : Str → Option Value}, (∀ v, (x, v) ∉ binds) → bindC kindOf binds m x = m x
  | [], _, _ => rfl
  | (n, v) :: r, m, h => by
    unfold bindC
    rw [bindC_out fun w hw => h w (List.mem_cons_of_mem _ hw)]
    split
    · rfl
    · have : x ≠ n := by rintro rfl; exact h v List.mem_cons_self
      simp [this]
theorem bindL_get {kindOf : Str → Option NameKind} {x : Str} {v : Value} : ∀ {P : List Str} {vs : List Value} {i : Nat} {m : Str → Option Value}, P.Nodup → P[i]? = some x → vs[i]? = some v → kindOf x = some .local →
    bindL kindOf (P.zip vs) m x = some v
  | [], _, _, _, _, h, _, _ => by simp at h
  | _ :: _, [], _, _, _, _, h, _ => by simp at h
  | p :: P, w :: vs, 0, m, nd, h1, h2, hk => by
    simp at h1 h2; subst h1; subst h2
    show bindL kindOf ((p, w) :: P.zip vs) m p = _
    unfold bindL
    rw [bindL_out fun v hv => (List.nodup_cons.mp nd).1 (List.of_mem_zip hv).1, if_pos hk]
    simp
  | p :: P, w :: vs, i + 1, m, nd, h1, h2, hk => by
    show bindL kindOf ((p, w) :: P.zip vs) m x = _
    unfold bindL
    exact bindL_get (i := i) (List.nodup_cons.mp nd).2 (by simpa using h1) (by simpa using h2) hk
theorem bindC_get {kindOf : Str → Option NameKind} {x : Str} {v : Value} : ∀ {P : List Str} {vs : List Value} {i : Nat} {m : Str → Option Value}, P.Nodup → P[i]? = some x → vs[i]? = some v → kindOf x ≠ some .local →
    bindC kindOf (P.zip vs) m x = some v
  | [], _, _, _, _, h, _, _ => by simp at h
  | _ :: _, [], _, _, _, _, h, _ => by simp at h
  | p :: P, w :: vs, 0, m, nd, h1, h2, hk => by
    simp at h1 h2; subst h1; subst h2
    show bindC kindOf ((p, w) :: P.zip vs) m p = _
    unfold bindC
    rw [bindC_out fun v hv => (List.nodup_cons.mp nd).1 (List.of_mem_zip hv).1, if_neg hk]
    simp
  | p :: P, w :: vs, i + 1, m, nd, h1, h2, hk => by
    show bindC kindOf ((p, w) :: P.zip vs) m x = _
    unfold bindC
    exact bindC_get (i := i) (List.nodup_cons.mp nd).2 (by simpa using h1) (by simpa using h2) hk

def start (N : List Str) (vs : List V) : St := vs.map some ++ List.replicate (N.length - vs.length) none

def cxOf (CX : CXT) (P : Program) (w : World) (K : PySem.W.Frag) (mg : Str → Option Value) (base : Heap) (N : List Str) (qual : Str) (scope : Scope) (f : Addr) (cd : Value) (A : Around) (outer : List Env) (s : Shared) (H : Hp) (E : XK) : Cx where
  prog := P
  w := w
  K := K
  mg := mg
  base := base
  A := A.deeper (envOfC qual scope s.heap.objs.size f cd)
  N := N
  s₀ := s
  H₀ := H
  env := envOfC qual scope s.heap.objs.size f cd
  outer := outer
  stack := envOfC qual scope s.heap.objs.size f cd :: outer
  ex := []
  calm := true
  fn := fun _ => true
  pn := []
  xe := fun e s' => wpAny (model P w) (A.deeper (envOfC qual scope s.heap.objs.size f cd)) (leaving (envOfC qual scope s.heap.objs.size f cd) e) (fun _ s'' => CX outer H s E e s'') (fun e' s'' => CX outer H s E e' s'') s'

theorem cell_has {sc : Scope} {n : Nat} {x : Str} (h : sc.names.lookup x = some .cell) : ∃ c, (cellsFrom n sc.names []).lookup x = some c := by
  have q := PySem.W.cellsFrom_some sc.names n [] (.inl h)
  exact Option.isSome_iff_exists.mp q

theorem inv_start {CX : CXT} {P : Program} {w : World} {K : PySem.W.Frag} {mg : Str → Option Value} {base : Heap} {N ps : List Str} {qual : Str} {scope : Scope} {f : Addr} {cd : Value} {A : Around} {outer : List Env} {s s1 : Shared} {H : Hp} {E : XK} {us : List Value} {vs : List V}
    (S : FnScope N ps scope) (hd : A.handled = none) (e0 : Env0 P w K mg base A outer s H) (hl : vs.length = ps.length) (r : Vals vs us)
    (x : InCallC s s.heap.objs.size (bindL (envOfC qual scope s.heap.objs.size f cd).kindOf (ps.zip us) fun _ => none) (cellsFrom (s.heap.objs.size + 1) scope.names []) (bindC (envOfC qual scope s.heap.objs.size f cd).kindOf (ps.zip us) fun _ => none) s1) :
    Inv (cxOf CX P w K mg base N qual scope f cd A outer s H E) [] (start N vs) H s1 := by
  have hpl : ps.length ≤ N.length := by have := congrArg List.length S.pre; rw [List.length_take] at this; omega
  obtain ⟨h1, tk, rfl, hk⟩ := x.done
  have noA : ∀ b : Addr, b ∉ (cxOf CX P w K mg base N qual scope f cd A outer s H E).ex := fun b z => absurd (show b ∈ ([] : List Addr) from z) (by simp)
  refine ⟨⟨e0.mod, S.kind, rfl, rfl, Nat.le_refl _, fun y z c h1 h2 => ?_, fun y hy => ?_, fun y c _ h => ?_, fun _ => hd, Around.frames_deeper e0.frames, .inr ⟨rfl, rfl⟩, fun b z => absurd z (noA b), e0.bs, e0.bsz, fun b _ _ => noA b, fun b z => absurd z (noA b), e0.funs, e0.frf⟩,
    rfl, e0.bare, Un.kept hk, ⟨_, x.toInCall.ns, fun i y v h1 h2 h3 => ?_⟩, fun y c h => ⟨_, x.cell y c h⟩, e0.hok.fresh (Nat.le_refl _), fun y c h => ?_, fun p hp => absurd (show p ∈ ([] : List (Addr × Obj)) from hp) (by simp), e0.hok.kept hk, ?_⟩
  · exact name_of_addr x.apart (PySem.mem_of_lookup h1) (PySem.mem_of_lookup h2)
  · have hy : scope.names.lookup y = some .cell ∨ scope.names.lookup y = some .free := hy
    rcases hy with hy | hy
    · exact cell_has hy
    · exact absurd rfl (S.nofree _ (PySem.mem_of_lookup hy))
  · exact Nat.le_of_lt (x.above y c (PySem.mem_of_lookup h))
  · have hi : i < vs.length := by
      unfold start at h2
      by_cases hi : i < vs.length
      · exact hi
      · rw [List.getElem?_append_right (by simpa using hi)] at h2
        rw [List.getElem?_replicate] at h2
        split at h2 <;> cases h2
    have ha : vs[i]? = some v := by
      unfold start at h2
      rw [List.getElem?_append_left (by simpa using hi), List.getElem?_map] at h2
      cases e : vs[i]? with
      | none => rw [e] at h2; cases h2
      | some a => rw [e] at h2; cases h2; rfl
    obtain ⟨u, hu, rv⟩ := r.get ha
    have hp : ps[i]? = some y := by
      rw [← S.pre, List.getElem?_take_of_lt (by omega)]; exact h1
    have ndP : ps.Nodup := by rw [← S.pre]; exact S.nd.sublist (List.take_sublist _ _)
    refine ⟨u, rv, ?_⟩
    rcases S.par y (List.mem_of_getElem? hp) with k | k
    · exact .inl ⟨k, bindL_get ndP hp hu k⟩
    · obtain ⟨c, e⟩ := cell_has (n := s.heap.objs.size + 1) k
      refine .inr ⟨.inl k, c, e, ?_⟩
      have q := x.cell y c e
      rw [bindC_get ndP hp hu (by show scope.names.lookup y ≠ _; rw [k]; decide)] at q
      exact q
  · exact e0.hok.fresh (Nat.le_of_lt (x.above y c (PySem.mem_of_lookup h)))
  · unfold start
    show _ = N.length
    rw [List.length_append, List.length_map, List.length_replicate]
    omega

theorem fn_of {CX : CXT} {P : Program} {w : World} {K : PySem.W.Frag} {mg : Str → Option Value} {base : Heap} {k : Nat} {f : Addr} {name qual : Str} {params : Arguments} {body : List Stmt} {scope : Scope} {dV kV doc pm cdv ct oc : Value} {an od : Option Addr}
    {osl : Array (Option Value)} {N ps : List Str} {sp : Sp} (lk : K.lookup f = some ⟨oc, od, .func (PySem.W.fnOf name qual params body scope dV kV doc pm an cdv ct), osl⟩) (hcd : PySem.W.codeIn K cdv qual = true) (S : FnScope N ps scope)
    (len : ∀ vs H Q E, sp vs H Q E → vs.length = ps.length)
    (hbody : ∀ (A : Around) (outer : List Env) (s : Shared) (H : Hp) (vs : List V) (Q : VK) (E : XK), Room k (A.deeper (envOfC qual scope s.heap.objs.size f cdv)) → sp vs H Q E →
      ∃ t, PSs (cxOf CX P w K mg base N qual scope f cdv A outer s H E) body t ∧ t { nx := fun _ H' => Q .non H', rt := Q } (start N vs) H) :
    FnOk P w K mg base CX (k + 1) f (PySem.W.fnOf name qual params body scope dV kV doc pm an cdv ct) ps sp := by
  refine ⟨len, fun A outer s H args us vs Q E hr e0 hb r hsp => ?_⟩
  have hl := len _ _ _ _ hsp
  have KX : K.In s.heap := e0.mod.kin.keeps fun b o e => (e0.bs b o e).1
  have lim : s.heap.NoLimit := e0.mod.nolimit.keeps fun b o e => (e0.bs b o e).1
  have hkind : ∀ y ∈ ps.zip us, scope.names.lookup y.1 = some .local ∨ (scope.names.lookup y.1 = some .cell ∧ ((cellsFrom (s.heap.objs.size + 1) scope.names []).lookup y.1).isSome = true) := fun ⟨n, v⟩ hy => by
    rcases S.par n (List.of_mem_zip hy).1 with q | q
    · exact .inl q
    · exact .inr ⟨q, PySem.W.cellsFrom_some _ _ _ (.inl q)⟩
  refine codeAny_call_function hr.depth (KX _ _ lk) rfl S.co S.gen rfl (PySem.W.codeRec_of KX hcd) (hb _ _ _ _ ?_)
  refine wpAny_newFunctionEnv_cells S.kind hkind fun env he s1 x => ?_
  subst he
  refine ⟨lim.keeps x.toInCall.keep, codeAny_func ?_⟩
  obtain ⟨t, ht, hq⟩ := hbody A outer s H vs Q E (hr.deeper _) hsp
  have I : Inv (cxOf CX P w K mg base N qual scope f cdv A outer s H E) [] (start N vs) H s1 := inv_start S hr.hd e0 hl r x
  refine wpAny_mono (ht [] s1 (start N vs) H _ I hq) (fun fl s' hs => ?_) fun e s' hs => hs
  have fin : ∀ {σ' : St} {H' : Hp} {v : V} {u : Value}, Inv (cxOf CX P w K mg base N qual scope f cdv A outer s H E) [] σ' H' s' → RelV v u → Q v H' → CE outer P w H s Q u s' :=
    fun {σ' H' v u} J rv q => ⟨v, H', J.os, J.bare, J.base, J.hok, rv, q⟩
  cases fl with
  | ret u =>
    obtain ⟨v, σ', H', J, rv, q⟩ := hs
    exact fin J rv q
  | next =>
    obtain ⟨σ', H', J, q⟩ := hs
    exact fin (v := V.non) (u := Value.none) J rfl q
  | brk =>
    obtain ⟨_, _, _, q⟩ := hs
    exact False.elim q
  | cont =>
    obtain ⟨_, _, _, q⟩ := hs
    exact False.elim q
end L2

namespace L2
open PySem PySem.Spec PyProof.Rows
section
variable {X : Cx} {x : Str} {p pos : Pos} {e : Expr} {es : List Expr} {t : TA} {id T : String} {r : List V → Hp → VK → Prop}

def tCB (r : List V → Hp → VK → Prop) (t : TA) : TE := fun σ H Q => t σ H fun vs H1 => r vs H1 Q
theorem pe_callB (hc : CallR X (.builtin id) r) (hg : Gl X x) (hm : X.mg x = none) (hv : bootBuiltins x = some (.builtin id)) (ha : PA X (e :: es) t) (hn : x ≠ "__name__" := by decide) (hdb : (x == ("__debug__" : Str)) = false := by decide)
    (he : starEach (e :: es) X.env = (false, eval e X.env) :: starEach es X.env := by rfl) (hpl : (backTo pos (starEach es X.env)).any (·.1) = false := by rfl) : PE X (.Call (.Name x p) (e :: es) [] pos) (tCB r t) := by
  intro pins s σ H Q I h
  refine wpAny_Call_Name_kw (ld_blt I hg hm hv ?_ hn hdb)
  exact PyProof.Rows.callWith_builtin1 (thn (ha pos pins s σ H _ I h) fun us s1 ⟨vs, H1, I1, r1, q1⟩ => hc pins s1 σ H1 vs us Q I1 r1 q1) he hpl
end
end L2

namespace HT
open PySem PyProof.Rows

section
open PySem.SeqAt
open PySem.AutoSeq1 (wpAny_loadPart')
open PySem.MeetsSeq PySem.MeetsSeq2 PySem.MeetsSeq3

end

section
variable {prog : Program} {w : World} {A : Around} {E : Value → Shared → Prop} {s : Shared}

def sIx (n d : Nat) : Option Int → Nat
  | none => d
  | some v => if v < 0 then (v + (n : Int)).toNat else min v.toNat n
end
end HT

namespace L2
open PySem PySem.Spec PyProof.Rows

abbrev TO := St → Hp → (Option Int → Hp → Prop) → Prop
def PO (X : Cx) (e : Option Expr) (t : TO) : Prop :=
  ∀ (pins : List (Addr × Obj)) (s : Shared) (σ : St) (H : Hp) (Q : Option Int → Hp → Prop), Inv X pins σ H s → t σ H Q →
    wpAny (model X.prog X.w) X.A (evalPart e X.env) (fun u s' => ∃ o H', Inv X pins σ H' s' ∧ IsPart u o ∧ Q o H') X.xe s
def tNoPart : TO := fun _ H Q => Q none H
def tPart (t : TE) : TO := fun σ H Q => t σ H fun x H1 => ∃ i, x = .int i ∧ Q (some i) H1

section
variable {X : Cx} {e : Expr} {te : TE} {lo hi : Option Expr} {tl th : TO} {pos p2 : Pos}

theorem po_none : PO X none tNoPart := by
  intro pins s σ H Q I h
  rw [evalPart_none]
  exact wpAny_pure ⟨none, H, I, .none, h⟩
theorem po_some (h : PE X e te) : PO X (some e) (tPart te) := by
  intro pins s σ H Q I hw
  rw [evalPart_some]
  refine thn (h pins s σ H _ I hw) fun u s1 ⟨x, H1, I1, r1, q1⟩ => ?_
  obtain ⟨i, rfl, q⟩ := q1
  obtain ⟨t, rfl⟩ := r1
  exact ⟨some i, H1, I1, .int i t, q⟩

def SlR (X : Cx) (r : V → Option Int → Option Int → Hp → VK → Prop) : Prop :=
  ∀ (pins : List (Addr × Obj)) (s : Shared) (σ : St) (H : Hp) (x : V) (v vl vu : Value) (lo hi : Option Int) (sl : Addr) (Q : VK), Inv X pins σ H s → RelV x v → s.heap.IsSliceOf sl vl vu .none → IsPart vl lo → IsPart vu hi → r x lo hi H Q →
    ∃ T id, typeLookup (.type T) "__getitem__" = pure (some (.builtin id)) ∧ s.TypeIs v T ∧ wpAny (model X.prog X.w) X.A (getItem v (.ref sl)) (EP X pins σ Q) X.xe s
def tSl (r : V → Option Int → Option Int → Hp → VK → Prop) (te : TE) (tl th : TO) : TE := fun σ H Q => te σ H fun x H1 => tl σ H1 fun l H2 => th σ H2 fun u H3 => r x l u H3 Q
theorem pe_slice {r : V → Option Int → Option Int → Hp → VK → Prop} (hr : SlR X r) (he : PE X e te) (hl : PO X lo tl) (hu : PO X hi th) : PE X (.Subscript e (.Slice lo hi none p2) pos) (tSl r te tl th) := by
  intro pins s σ H Q I h
  refine Subscript_ (thn (he pins s σ H _ I h) fun v s1 ⟨x, H1, I1, r1, q1⟩ => ?_)
  refine wpAny_Slice (thn (hl pins s1 σ H1 _ I1 q1) fun vl s2 ⟨l, H2, I2, pl, q2⟩ => thn (hu pins s2 σ H2 _ I2 q2) fun vu s3 ⟨u, H3, I3, pu, q3⟩ => ?_)
  rw [evalPart_none]
  refine wpAny_pure ?_
  have I4 : Inv X pins σ H3 { s3 with heap := s3.heap.push { cls := .type "slice", data := .fields #[vl, vu, .none] } } := I3.kept (t' := s3.toks) fun b ob q => Heap.get?_push_of_some _ q
  obtain ⟨T, id, hT, ht, hg⟩ := hr pins { s3 with heap := s3.heap.push { cls := .type "slice", data := .fields #[vl, vu, .none] } } σ H3 x v vl vu l u s3.heap.objs.size Q I4 r1 (Heap.IsSliceOf.new ..) pl pu q3
  show wpAny (model X.prog X.w) X.A (subscriptTail e (.Slice lo hi none p2) v (.ref s3.heap.objs.size)) (EP X pins σ Q) X.xe { s3 with heap := s3.heap.push { cls := .type "slice", data := .fields #[vl, vu, .none] } }
  exact tail_any (ops := [.ref s3.heap.objs.size, v]) ht hT hg (by with_unfolding_all rfl)

def cutV (xs : List V) (lo hi : Option Int) : List V := (xs.drop (HT.sIx xs.length 0 lo)).take (HT.sIx xs.length xs.length hi - HT.sIx xs.length 0 lo)
theorem cutV_length (xs : List V) (lo hi : Option Int) : (cutV xs lo hi).length ≤ xs.length := by
  unfold cutV
  rw [List.length_take, List.length_drop]
  omega
end
end L2

namespace L2
open PySem PySem.Spec PyProof.Rows

def ixN (n : Nat) (i : Int) : Option Nat := if 0 ≤ i then (if i < n then some i.toNat else none) else if -(n : Int) ≤ i then some (i + n).toNat else none
def atI {α : Type} (xs : List α) (i : Int) : Option α := (ixN xs.length i).bind fun j => xs[j]?
theorem ixN_seq {n : Nat} {i : Int} {j : Nat} (h : ixN n i = some j) : seqIndex? i n = some j ∧ j < n ∧ -(n : Int) ≤ i ∧ i < n := by
  unfold ixN at h
  by_cases h0 : 0 ≤ i
  · rw [if_pos h0] at h
    by_cases h1 : i < n
    · rw [if_pos h1] at h
      have e : i.toNat = j := Option.some.inj h
      exact ⟨by rw [seqIndex_of h0 h1, e], by omega, by omega, h1⟩
    · rw [if_neg h1] at h; cases h
  · rw [if_neg h0] at h
    by_cases h1 : -(n : Int) ≤ i
    · rw [if_pos h1] at h
      have e : (i + n).toNat = j := Option.some.inj h
      exact ⟨by rw [seqIndex_neg (by omega) h1, e], by omega, h1, by omega⟩
    · rw [if_neg h1] at h; cases h
theorem atI_get {α : Type} {xs : List α} {i : Int} {v : α} (h : atI xs i = some v) : ∃ j, seqIndex? i xs.length = some j ∧ xs[j]? = some v ∧ j < xs.length ∧ -(xs.length : Int) ≤ i ∧ i < xs.length := by
  unfold atI at h
  cases e : ixN xs.length i with
  | none => rw [e] at h; cases h
  | some j =>
    rw [e] at h
    obtain ⟨h1, h2, h3, h4⟩ := ixN_seq e
    exact ⟨j, h1, h, h2, h3, h4⟩
theorem atI_nat {α : Type} {xs : List α} {j : Nat} {v : α} (h : xs[j]? = some v) : atI xs (j : Int) = some v := by
  have hj : j < xs.length := (List.getElem?_eq_some_iff.mp h).1
  have e : ixN xs.length (j : Int) = some j := by
    unfold ixN
    rw [if_pos (by omega), if_pos (by omega)]; simp
  unfold atI; rw [e]; exact h
def PlainIx (b : Expr) : Prop := ∀ o i, subscripted b false o i = operate [o, i] (getItem o i)
def IxR (X : Cx) (r : R2) : Prop :=
  ∀ (value slice : Expr) (pins : List (Addr × Obj)) (s : Shared) (σ : St) (H : Hp) (x y : V) (v u : Value) (Q : VK), Inv X pins σ H s → RelV x v → RelV y u → r x y H Q →
    subscripted slice false v u = operate [v, u] (getItem v u) → wpAny (model X.prog X.w) X.A (subscriptTail value slice v u) (EP X pins σ Q) X.xe s
def MtR (X : Cx) (id : String) (r : V → List V → Hp → VK → Prop) : Prop :=
  ∀ (pins : List (Addr × Obj)) (s : Shared) (σ : St) (H : Hp) (x : V) (xs : List V) (v : Value) (us : List Value) (Q : VK), Inv X pins σ H s → RelV x v → Vals xs us → r x xs H Q →
    wpAny (model X.prog X.w) X.A (call (.builtin id) (v :: us)) (EP X pins σ Q) X.xe s
section
variable {X : Cx} {a b : Expr} {ta tb : TE} {pos : Pos}
theorem IxR.or {r r' : R2} (h : IxR X r) (h' : IxR X r') : IxR X (fun x y H Q => r x y H Q ∨ r' x y H Q) := by
  intro value slice pins s σ H x y v u Q I rx ry q hs
  rcases q with q | q
  · exact h value slice pins s σ H x y v u Q I rx ry q hs
  · exact h' value slice pins s σ H x y v u Q I rx ry q hs
theorem pe_ix {r : R2} (hr : IxR X r) (ha : PE X a ta) (hb : PE X b tb) (hs : PlainIx b) : PE X (.Subscript a b pos) (tOp r ta tb) := by
  intro pins s σ H Q I h
  exact Subscript_ (binT ha hb I h fun v u s2 x y H2 I2 rx ry q => hr a b pins s2 σ H2 x y v u Q I2 rx ry q (hs _ _))

def rIxL (K : PySem.W.Frag) : R2 := fun x y H Q => ∃ p xs i v, x = .ref p ∧ y = .int i ∧ SqL K H p xs ∧ atI xs i = some v ∧ Q v H
def rIxT (K : PySem.W.Frag) : R2 := fun x y H Q => ∃ p xs i v, x = .ref p ∧ y = .int i ∧ SqT K H p xs ∧ atI xs i = some v ∧ Q v H
def rIxS : R2 := fun x y H Q => ∃ z i c, x = .str z ∧ y = .int i ∧ z.length ≤ sizeLine ∧ atI z.cps.toList i = some c ∧ Q (.str ⟨#[c]⟩) H
theorem ix_list : IxR X (rIxL X.K) := by
  intro value slice pins s σ H x y v u Q I rx ry h hs
  obtain ⟨p, xs, i, z, rfl, rfl, hq, he, q⟩ := h
  cases rx
  obtain ⟨t, rfl⟩ := ry
  obtain ⟨its, r, pl, hz⟩ := I.list hq
  obtain ⟨j, h1, h2, h3, h4, h5⟩ := atI_get he
  obtain ⟨w, ew, rw'⟩ := r.get h2
  have hl := r.length
  have hn := line63
  have fin : EP X pins σ Q w s := ⟨z, H, I, rw', q⟩
  by_cases h0 : 0 ≤ i
  · have hj : i.toNat = j := by
      rw [seqIndex_of h0 h5] at h1
      exact Option.some.inj h1
    exact item_listR pl.isList h0 (by omega) (by rw [hj]; simpa using ew) fin hs
  · have hj : (i + (its.toArray.size : Int)).toNat = j := by
      rw [seqIndex_neg (by omega) h4] at h1
      rw [List.size_toArray, ← hl]
      exact Option.some.inj h1
    exact subscriptTail_builtinR (x := w) pl.isList.typeIs slot_list_getitem.lookup
      (wpAny_getItem_list_neg (Q := fun r s' => r = w ∧ EP X pins σ Q r s') pl.isList (by omega) (by rw [List.size_toArray] <;> omega) (by omega) (by rw [hj]; simpa using ew) ⟨rfl, fin⟩) hs
theorem ix_tup : IxR X (rIxT X.K) := by
  intro value slice pins s σ H x y v u Q I rx ry h hs
  obtain ⟨p, xs, i, z, rfl, rfl, hq, he, q⟩ := h
  cases rx
  obtain ⟨t, rfl⟩ := ry
  obtain ⟨its, r, pl, hz⟩ := I.tuple hq
  obtain ⟨j, h1, h2, h3, h4, h5⟩ := atI_get he
  obtain ⟨w, ew, rw'⟩ := r.get h2
  have hl := r.length
  have hn := line63
  have fin : EP X pins σ Q w s := ⟨z, H, I, rw', q⟩
  exact subscriptTail_builtinR (x := w) pl.typeIs slot_tuple_getitem.lookup
    (getItem_tuple (j := j) (Q := fun r s' => r = w ∧ EP X pins σ Q r s') pl (by omega) (by omega) (by rw [List.size_toArray, ← hl]; exact h1) (by simpa using ew) ⟨rfl, fin⟩) hs
theorem ix_str : IxR X rIxS := by
  intro value slice pins s σ H x y v u Q I rx ry h hs
  obtain ⟨z, i, c, rfl, rfl, hz, he, q⟩ := h
  obtain ⟨t, rfl⟩ := rx
  obtain ⟨t', rfl⟩ := ry
  obtain ⟨j, h1, h2, h3, h4, h5⟩ := atI_get he
  have hl : z.cps.toList.length = z.length := by simp [Str.length]
  rw [hl] at h1 h4 h5
  have hn := line63
  exact tail_any (typeIs_str s z t) slot_str_getitem.lookup (getItem_str (c := c) (by
    have e1 : decide (i < -(2 ^ 63 : Int)) = false := decide_eq_false (by omega)
    have e2 : decide (i ≥ 2 ^ 63) = false := decide_eq_false (by omega)
    rw [e1, e2, Bool.or_false]) (by rw [h1]; simpa using h2) ⟨.str ⟨#[c]⟩, H, I.tok _, ⟨_, rfl⟩, q⟩) hs
def rIx (K : PySem.W.Frag) : R2 := fun x y H Q => rIxL K x y H Q ∨ rIxT K x y H Q ∨ rIxS x y H Q
theorem ix_seq : IxR X (rIx X.K) := ix_list.or (ix_tup.or ix_str)

theorem slice_bounds (lo hi : Option Int) (n : Nat) : (sliceBounds lo hi none n).1 = ((HT.sIx n 0 lo : Nat) : Int) ∧ (sliceBounds lo hi none n).2.1 = ((HT.sIx n n hi : Nat) : Int) ∧ (sliceBounds lo hi none n).2.2 = 1 := by
  refine ⟨?_, ?_, rfl⟩
  · cases lo with
    | none => simp [sliceBounds, HT.sIx]
    | some i =>
      simp only [sliceBounds, HT.sIx, Option.getD_none, show (1 : Int) > 0 by decide, if_true]
      by_cases h : i < 0
      · simp only [h, if_true] <;> omega
      · simp only [h, if_false] <;> omega
  · cases hi with
    | none => simp [sliceBounds, HT.sIx]
    | some i =>
      simp only [sliceBounds, HT.sIx, Option.getD_none, show (1 : Int) > 0 by decide, if_true]
      by_cases h : i < 0
      · simp only [h, if_true] <;> omega
      · simp only [h, if_false] <;> omega
theorem slicePick_cut (its : List Value) (lo hi : Option Int) : slicePick its.toArray lo hi none = ((its.drop (HT.sIx its.length 0 lo)).take (HT.sIx its.length its.length hi - HT.sIx its.length 0 lo)).toArray := by
  obtain ⟨h1, h2, h3⟩ := slice_bounds lo hi its.toArray.size
  unfold slicePick
  rw [h1, h2, h3]
  simp only [sliceRange_one, pick_run, List.size_toArray] <;> rfl
def rSlL (K : PySem.W.Frag) : V → Option Int → Option Int → Hp → VK → Prop := fun x lo hi H Q => ∃ a xs, x = .ref a ∧ SqL K H a xs ∧ ∀ p, H p = none → Q (.ref p) (upd H p (.lst (cutV xs lo hi)))
theorem sl_list : SlR X (rSlL X.K) := by
  intro pins s σ H x v vl vu lo hi sl Q I rx hs pl pu h
  obtain ⟨a, xs, rfl, hx, q⟩ := h
  cases rx
  obtain ⟨its, r, ht, hz⟩ := I.list hx
  have hlen := r.length
  refine ⟨"list", _, slot_list_getitem.lookup, ht.isList.typeIs, ?_⟩
  refine wpAny_getItem_list_slice ht.isList hs pl pu .none (by simp) ?_ (by rw [List.size_toArray] <;> omega)
  rw [slicePick_cut, ← hlen]
  refine ⟨.ref s.heap.objs.size, _, I.laid (t' := s.toks) (o := .lst (cutV xs lo hi)) (fun b ob q => Heap.get?_push_of_some _ q) (Nat.le_refl _) ?_, rfl, q _ (I.hok.fresh (Nat.le_refl _))⟩
  exact ⟨Nat.le_trans (cutV_length xs lo hi) hz, _, 0, (r.drop (HT.sIx xs.length 0 lo)).take (HT.sIx xs.length xs.length hi - HT.sIx xs.length 0 lo), Heap.get?_push_size _ rfl⟩

theorem call_len_seq : CallR X (.builtin "len") (fun xs H Q => ∃ p ys, xs = [.ref p] ∧ (SqL X.K H p ys ∨ SqT X.K H p ys) ∧ Q (.int ys.length) H) := by
  intro pins s σ H xs us Q I r h
  obtain ⟨p, ys, rfl, hq, q⟩ := h
  obtain ⟨u, rfl, rx⟩ := vals1 r
  cases rx
  have hn := line63
  rcases hq with hq | hq
  · obtain ⟨its, r', pl, hz⟩ := I.list hq
    have hlen := r'.length
    exact Calls.call_len_list pl.isList (by simp only [List.size_toArray] <;> omega) ⟨.int ys.length, H, I.tok _, ⟨s.toks + 1, by rw [List.size_toArray, hlen]⟩, q⟩
  · obtain ⟨its, r', pl, hz⟩ := I.tuple hq
    have hlen := r'.length
    exact len_tuple pl (by simp only [List.size_toArray] <;> omega) ⟨.int ys.length, H, I.tok _, ⟨s.toks + 1, by rw [List.size_toArray, hlen]⟩, q⟩
def tyV (K : PySem.W.Frag) (T : String) (x : V) (H : Hp) : Prop := match x with
  | .str _ => T = "str"
  | .int _ => T = "int"
  | .ref p => (T = "list" ∧ ∃ xs, SqL K H p xs) ∨ (T = "tuple" ∧ ∃ o, K.lookup p = some o ∧ o.cls = .type "tuple" ∧ o.dict = none) ∨
      (T = "dict" ∧ ((∃ kvs, H p = some (.dK kvs)) ∨ ∃ kvs, H p = some (.dT kvs))) ∨ (T = "set" ∧ ∃ S n, H p = some (.set S n))
  | _ => False
theorem tyV_is {pins : List (Addr × Obj)} {σ : St} {H : Hp} {s : Shared} {T : String} {x : V} {v : Value} (I : Inv X pins σ H s) (r : RelV x v) (ty : tyV X.K T x H) :
    s.TypeIs v T ∧ ∀ a, v = .ref a → ∃ ob, s.heap.get? a = some ob ∧ ob.dict = none := by
  cases x with
  | str z =>
    obtain ⟨t, rfl⟩ := r
    cases (show T = "str" from ty)
    exact ⟨typeIs_str s z t, fun _ e => nomatch e⟩
  | int i =>
    obtain ⟨t, rfl⟩ := r
    cases (show T = "int" from ty)
    exact ⟨typeIs_int s i t, fun _ e => nomatch e⟩
  | ref p =>
    cases r
    rcases ty with ⟨rfl, xs, hq⟩ | ⟨rfl, o, hk, hc, hd⟩ | ⟨rfl, hk⟩ | ⟨rfl, S, n, hk⟩
    · obtain ⟨its, _, pl, _⟩ := I.list hq
      refine ⟨pl.isList.typeIs, fun a e => ?_⟩
      cases e
      obtain ⟨o, n, e, c, hd, _⟩ := pl
      exact ⟨o, e, hd⟩
    · refine ⟨⟨o, I.kIn p o hk, hc⟩, fun a e => ?_⟩
      cases e
      exact ⟨o, I.kIn _ o hk, hd⟩
    · have z : ∃ o, s.heap.get? p = some o ∧ o.ExactDict := by
        rcases hk with ⟨kvs, hk⟩ | ⟨kvs, hk⟩
        · obtain ⟨_, _, _, _, o, _, _, e, ex, _⟩ := I.hok p _ hk
          exact ⟨o, e, ex⟩
        · obtain ⟨_, _, _, _, o, _, _, e, ex, _⟩ := I.hok p _ hk
          exact ⟨o, e, ex⟩
      obtain ⟨o, e, ex⟩ := z
      refine ⟨⟨o, e, ex.1⟩, fun a e2 => ?_⟩
      cases e2
      exact ⟨o, e, ex.2.1⟩
    · obtain ⟨o, _, _, _, e, ex, _⟩ := I.hok p _ hk
      refine ⟨⟨o, e, ex.1⟩, fun a e2 => ?_⟩
      cases e2
      exact ⟨o, e, ex.2.1⟩
  | _ => exact False.elim ty
def tBM0 (K : PySem.W.Frag) (T : String) (r : V → List V → Hp → VK → Prop) (to : TE) : TE := fun σ H Q => to σ H fun x H1 => tyV K T x H1 ∧ r x [] H1 Q
def tBM (K : PySem.W.Frag) (T : String) (r : V → List V → Hp → VK → Prop) (to : TE) (t : TA) : TE := fun σ H Q => to σ H fun x H1 => tyV K T x H1 ∧ t σ H1 fun xs H2 => r x xs H2 Q
variable {o e : Expr} {es : List Expr} {to : TE} {t : TA} {name : Str} {apos cpos : Pos} {T id : String} {r : V → List V → Hp → VK → Prop}
theorem pe_bm0 (pa : PlainAttrs T) (slot : Slot T name id) (hty : typeOf (.builtin id) = pure (.type "method_descriptor")) (hm : MtR X id r) (ho : PE X o to)
    (hbase : attributeBase o name X.env (eval o X.env) = eval o X.env := by rfl) (hline : (apos.endLine == cpos.line) = true := by rfl) : PE X (.Call (.Attribute o name apos) [] [] cpos) (tBM0 X.K T r to) := by
  intro pins s σ H Q I h
  refine wpAny_Call_method0_late hbase hline (thn (ho pins s σ H _ I h) fun v s1 ⟨x, H1, I1, r1, ty, q1⟩ => ?_)
  obtain ⟨h1, h2⟩ := tyV_is I1 r1 ty
  exact ⟨T, id, pa, slot, hty, h1, h2, Calls.callWith_builtin rfl (PySem.evalArgs_none (hm pins s1 σ H1 x [] v [] Q I1 r1 .nil q1))⟩
theorem pe_bm (pa : PlainAttrs T) (slot : Slot T name id) (hty : typeOf (.builtin id) = pure (.type "method_descriptor")) (hm : MtR X id r) (ho : PE X o to) (ha : PA X (e :: es) t)
    (hbase : attributeBase o name X.env (eval o X.env) = eval o X.env := by rfl)
    (hfew : ((backTo cpos (starEach (e :: es) X.env)).all (fun x => !x.1) && (backToKw cpos (keywordEach [] X.env)).all (fun x => x.1.isSome)
      && decide ((e :: es).length + ([] : List Keyword).length + (if ([] : List Keyword).isEmpty then 0 else 1) < 30)) = true := by rfl)
    (hline : (apos.endLine == cpos.line) = true := by rfl) (hs : starEach (e :: es) X.env = (false, eval e X.env) :: starEach es X.env := by rfl) (hplain : (backTo cpos (starEach es X.env)).any (·.1) = false := by rfl) :
    PE X (.Call (.Attribute o name apos) (e :: es) [] cpos) (tBM X.K T r to t) := by
  intro pins s σ H Q I h
  refine wpAny_Call_method_late hbase hfew hline rfl (thn (ho pins s σ H _ I h) fun v s1 ⟨x, H1, I1, r1, ty, q1⟩ => ?_)
  obtain ⟨h1, h2⟩ := tyV_is I1 r1 ty
  refine ⟨T, id, pa, slot, hty, h1, h2, ?_⟩
  have hA := ha cpos pins s1 σ H1 _ I1 q1
  rw [hs] at hA ⊢
  refine Calls.callWith_builtin (by show (false || (backTo cpos (starEach es X.env)).any (·.1)) = false; rw [hplain] <;> rfl) (Calls.evalArgs_plain ?_)
  exact thn hA fun us s2 ⟨vs, H2, I2, r2, q2⟩ => hm pins s2 σ H2 x vs v us Q I2 r1 r2 q2
/- xs.append(e), list.index on a module's tuple .. are MtR facts of 06m -/
end
end L2

namespace L2
open PySem PySem.Spec PyProof.Rows

def MtM (X : Cx) (id : String) (r : V → List V → Hp → VK → Prop) : Prop :=
  ∀ (pins : List (Addr × Obj)) (s : Shared) (σ : St) (H : Hp) (x : V) (xs : List V) (v : Value) (us : List Value) (Q : VK), Inv X pins σ H s → RelV x v → Vals xs us → r x xs H Q →
    wpAny (model X.prog X.w) X.A (call (.builtin id) (v :: us)) (EP X pins σ Q) X.xe s

theorem Vals.one : ∀ {x : V} {us : List Value}, Vals [x] us → ∃ u, us = [u] ∧ RelV x u
  | _, _, .cons r .nil => ⟨_, rfl, r⟩
section
variable {X : Cx} {pins : List (Addr × Obj)} {σ : St} {H : Hp} {s : Shared} {l b : Addr} {xs ys zs : List V}

theorem Inv.lset {its its' : List Value} {n : Nat} {f : Array Value → Array Value} {t' : Nat} (I : Inv X pins σ H s) (hH : H l = some (.lst xs))
    (e : s.heap.get? l = some { cls := .type "list", data := .seq its.toArray n }) (hf : f its.toArray = its'.toArray) (hv : Vals ys its') (hz : ys.length ≤ sizeLine) :
    Inv X pins σ (upd H l (.lst ys)) { s with heap := s.heap.update l (Obj.mapSeq f), toks := t' } := by
  have q := PySem.IsL.update e f
  rw [hf] at q
  refine I.write (x := l) (e := l) (by rw [hH]; exact trivial) (.inl rfl) (fun b' u hb hu => (Heap.get?_update_other s.heap (Obj.mapSeq f) (Ne.symm hb)).trans hu) ⟨_, q⟩ ?_
  exact ⟨hz, its', _, hv, q⟩
theorem Inv.lstM (I : Inv X pins σ H s) (hH : H l = some (.lst xs)) : xs.length ≤ sizeLine ∧ ∃ (its : List Value) (n : Nat), Vals xs its ∧ xs.length = its.length ∧ s.heap.get? l = some { cls := .type "list", data := .seq its.toArray n } := by
  obtain ⟨z, its, n, r, e⟩ := I.hok l _ hH
  exact ⟨z, its, n, r, r.length, e⟩

end

section
variable {X : Cx}

def rAppend : V → List V → Hp → VK → Prop := fun x vs H Q => ∃ l xs y, x = .ref l ∧ vs = [y] ∧ H l = some (.lst xs) ∧ xs.length < sizeLine ∧ Q .non (upd H l (.lst (xs ++ [y])))
theorem mt_append : MtM X "list.append" rAppend := by
  intro pins s σ H x vs v us Q I rx rv h
  obtain ⟨l, xs, y, rfl, rfl, hH, hz, q⟩ := h
  cases rx
  obtain ⟨u, rfl, ru⟩ := rv.one
  obtain ⟨z, its, n, r, hl, e⟩ := I.lstM hH
  refine call_meets F.slot_list_append ⟨_, e, rfl⟩ F.entry_list_append (F.args_list_append_2 _ _) (PySem.list_append l its.toArray n u (by rw [List.size_toArray]; omega)) ⟨e, ?_⟩
  refine ⟨.non, _, I.lset (its' := its ++ [u]) hH e (by simp) (r.append (.cons ru .nil)) ?_, rfl, q⟩
  rw [List.length_append, List.length_singleton]
  omega

end

section
variable {prog : Program} {w : World} {A : Around} {E : Value → Shared → Prop} {s : Shared}
set_option maxRecDepth 100000 in
end

section
variable {X : Cx}
end
end L2

namespace Att
open PySem PySem.W PySem.Calls PyProof.Rows

theorem ints_of_wellAll {P : Params} {h : Heap} : ∀ (ns : List Int) (vs : List Value), WellAll P h vs (ns.map WData.int) → IntsAre vs ns := by
  intro ns
  induction ns with
  | nil =>
    intro vs w
    rw [List.map_nil] at w
    cases w
    exact .nil
  | cons n ns ih =>
    intro vs w
    rw [List.map_cons] at w
    cases w with
    | cons a b =>
      cases a
      exact .cons _ _ (ih _ b)

theorem script_of {l : OpenLaw} {n : Nat} (hn : l.most = some n) {P : Params} {h : Heap} {args : List WData} {vals : List Value}
    (hpre : l.row.toRowW.claim.pre args = true) (hwl : WellAll P h vals args) :
    ∃ a vs ns, vals = [Value.ref a] ∧ args = [WData.list (ns.map WData.int)] ∧ h.get? a = some { cls := .type "list", data := .seq vs.toArray } ∧ IntsAre vs ns ∧ ns.length ≤ n := by
  have hsh : WShape.hasAll [] args [.list .int] = true := (pre_splitW hpre).1
  have hc : l.pre.holds [] { args := args } = true := (pre_splitW hpre).2
  obtain ⟨d, r, rfl, h1, h2⟩ := hasAllW_cons hsh
  obtain rfl := hasAllW_nil h2
  obtain ⟨xs, rfl, h3⟩ := hasW_list h1
  obtain ⟨ns, rfl⟩ := items_int h3
  have hlen : ns.length ≤ n := by
    unfold OpenLaw.pre at hc
    have h4 : (WTm.not (.lt (.lit (.int (n : Int))) (.len (.arg 0)))).holds [] { args := [.list (ns.map .int)] } = true := by
      have h4 := (holds_andW hc).1
      rw [hn] at h4
      exact h4
    have h5 := condW_of h4 (w_not (w_lt w_lit (w_len_list (w_arg rfl))))
    rw [List.length_map] at h5
    refine Nat.le_of_not_lt fun q => ?_
    have q' : (n : Int) < ((ns.length : Nat) : Int) := by omega
    first
      | (rw [decide_eq_true q'] at h5; exact absurd h5 (by decide))
      | (simp at h5; omega)
  cases hwl with
  | cons w1 w2 =>
    cases w2
    cases w1 with
    | list ho hall => exact ⟨_, _, ns, rfl, rfl, ho, ints_of_wellAll ns _ hall, hlen⟩

theorem post_true (l : OpenLaw) (args : List WData) : l.row.toRowW.claim.post args (.bool true) args = true :=
  postW_of (r := l.row.toRowW) (X := (true == true))
    (show WShape.has [] (.bool true) .bool = true by first | rfl | decide | simp [WShape.has, WShape.arms, WShape.armsAll])
    (show (WTm.eq .res (.lit (.bool true))).value [] { args := args, res := some (.bool true), after := args } = some (.bool (true == true)) from w_eq_bool (w_res rfl) w_lit) rfl

section
variable {prog : Program} {w : World} {A : Around} {E : Value → Shared → Prop} {s : Shared} {K : Frag}

def ledger (h : Heap) (L d : Addr) : List (Addr × Obj) := (List.range h.objs.size).filterMap fun a => if a = L ∨ a = d then none else (h.get? a).map fun o => (a, o)
end
end Att

namespace L2
open PySem PySem.Spec PyProof.Rows

theorem vals_ints : ∀ {vs : List Value} {ns : List Int}, IntsAre vs ns → Vals (ns.map V.int) vs
  | _, _, .nil => .nil
  | _, _, .cons n t h => .cons ⟨t, rfl⟩ (vals_ints h)

end L2

namespace L2
open PySem PySem.Spec PyProof.Rows

abbrev KOf {K : PySem.W.Frag} {h : Heap} (_ : K.In h) : PySem.W.Frag := K

end L2

/- THE LAST THEOREM (shape; LID, My.* are yours):
   My.Adr: a structure of the addresses that your layer names (classes, functions); My.Txt K t: a structure (Prop) of the equations over K;
   My.txt_mk : {K} {implicit addresses ..} (e1 : nsIn K mainGlobals "law" = some (some (.ref f))) (e2 : K.lookup f = some ⟨oc, od, .func (fnOf "law" "law" params body scope dV kV doc pm an cdv ct), sl⟩) (e3 : codeIn K cdv "law" = true) .. : ∃ t, My.Txt K t

set_option maxRecDepth 100000 in
set_option maxHeartbeats 0 in
theorem PySem.Challenge.cw_LID_holds : PySem.Challenge.rw_LID.Holds := by
  w_on; o_law; k_head; (case hw => w_witness2)
  k_fill
  refine L2.walk_of (l := PySem.Challenge.rw_LID) (n := 63) (k := 40) (x := "script") (CX := fun w => ..) (sp := fun _ => My.sp_law) rfl (by decide) rfl ⟨rfl, by decide, by decide⟩ (fun w h Y => PySem.W.kIn_of Y) ?F ?S ?C
  case F =>
    intro w mg fa h KX G hmg
    have T : ∃ t, My.Txt (L2.KOf KX) t := by
      dsimp only [L2.KOf]                          -- K must stand as «<heap const> w.params» for k_is
      refine' My.txt_mk ?e1 ?e2 ?e3 ..
      (case e1 => PySem.W.k_is)                    -- in the order: a name -> its address -> its object -> its parts
      (case e2 => PySem.W.k_is)
      ..
    obtain ⟨t, T⟩ := T
    have e0 := hmg.symm.trans (PySem.W.mg_of KX G T.law)
    cases e0                                       -- fa is the law's own address
    exact ⟨_, fun s u => .of_eq rfl, fun base kb nb => My.law_fn T kb nb⟩     -- if «.of_eq rfl» comes too early: refine' ⟨_, ?b, fun base kb nb => My.law_fn T kb nb⟩; exact fun s u => .of_eq rfl
  case S => exact fun w H a ns hl hO hS => ..
  case C => exact ..
(the tactic k_is has no namespace: write k_is) -/

namespace L2
open PySem PySem.Spec PyProof.Rows

def defArgs (s : Stmt) : Arguments := match s with
  | .FunctionDef _ a _ _ _ _ _ _ _ _ => a
  | _ => { posonlyargs := [], args := [], vararg := none, kwonlyargs := [], kw_defaults := [], kwarg := none, defaults := [] }
def defBody (s : Stmt) : List Stmt := match s with
  | .FunctionDef _ _ b _ _ _ _ _ _ _ => b
  | _ => []
def defScope (s : Stmt) : Scope := match s with
  | .FunctionDef _ _ _ _ _ _ sc _ _ _ => sc
  | _ => { kind := .function, names := [], isGenerator := false, isCoroutine := false }

abbrev CX0 : CXT := fun _ _ _ _ _ _ => False
abbrev E0 : XK := fun _ _ _ => False
theorem pass0 {X : Cx} : Passes CX0 X E0 := fun _ _ _ _ _ _ _ h => h.elim

structure Fun (K : PySem.W.Frag) (x qual : Str) (st : Stmt) (f : Addr) (fd : FuncData) : Prop where
  ex : ∃ (oc : Value) (od : Option Addr) (kV doc pm : Value) (an : Option Addr) (cdv ct : Value) (osl : Array (Option Value)),
    fd = PySem.W.fnOf x qual (defArgs st) (defBody st) (defScope st) .none kV doc pm an cdv ct ∧ K.lookup f = some ⟨oc, od, .func fd, osl⟩ ∧ PySem.W.codeIn K cdv qual = true
  kp : PySem.W.keepIn K (.ref f) = true
section
variable {P : Program} {w : World} {K : PySem.W.Frag} {mg : Str → Option Value} {base : Heap}
theorem Fun.ok {x qual : Str} {st : Stmt} {f : Addr} {fd : FuncData} {N ps : List Str} {k : Nat} {sp : Sp} (F : Fun K x qual st f fd) (S : FnScope N ps (defScope st)) (len : ∀ vs H Q E, sp vs H Q E → vs.length = ps.length)
    (hbody : ∀ (cdv : Value) (A : Around) (outer : List Env) (s : Shared) (H : Hp) (vs : List V) (Q : VK) (E : XK), Room k (A.deeper (envOfC qual (defScope st) s.heap.objs.size f cdv)) → sp vs H Q E →
      ∃ t, PSs (cxOf CX0 P w K mg base N qual (defScope st) f cdv A outer s H E).nox (defBody st) t ∧ t { nx := fun _ H' => Q .non H', rt := Q } (start N vs) H) : FnOk P w K mg base CX0 (k + 1) f fd ps sp := by
  obtain ⟨oc, od, kV, doc, pm, an, cdv, ct, osl, rfl, lk, hcd⟩ := F.ex
  refine fn_of lk hcd S len fun A outer s H vs Q E hr hsp => ?_
  obtain ⟨t, h, q⟩ := hbody cdv A outer s H vs Q E hr hsp
  exact ⟨t, h.nox, q⟩
theorem Fun.binds {x qual : Str} {st : Stmt} {f : Addr} {fd : FuncData} {ps : List Str} (F : Fun K x qual st f fd)
    (h : ∀ (kV doc pm : Value) (an : Option Addr) (cdv ct : Value) (us : List Value), us.length = ps.length → bindArgs (PySem.W.fnOf x qual (defArgs st) (defBody st) (defScope st) .none kV doc pm an cdv ct) ⟨us, []⟩ = pure (ps.zip us)) : Binds K fd ps [] := by
  obtain ⟨oc, od, kV, doc, pm, an, cdv, ct, osl, rfl, lk, hcd⟩ := F.ex
  exact .all (h kV doc pm an cdv ct)
theorem fun_mk {x qual : Str} {st : Stmt} {f : Addr} {oc : Value} {od an : Option Addr} {osl : Array (Option Value)} {kV doc pm cdv ct : Value} (l : K.lookup f = some ⟨oc, od, .func (PySem.W.fnOf x qual (defArgs st) (defBody st) (defScope st) .none kV doc pm an cdv ct), osl⟩)
    (c : PySem.W.codeIn K cdv qual = true) (k : PySem.W.keepIn K (.ref f) = true) : Fun K x qual st f (PySem.W.fnOf x qual (defArgs st) (defBody st) (defScope st) .none kV doc pm an cdv ct) := ⟨⟨oc, od, kV, doc, pm, an, cdv, ct, osl, rfl, l, c⟩, k⟩
end
theorem small1000 {n : Nat} (h : n ≤ 1000) : n < sizeLine := Nat.lt_of_le_of_lt h (by decide)

section
variable {X : Cx}
theorem pv (i : Nat) {x : Str} {pos : Pos} (hN : X.N[i]? = some x := by rfl) (hv : Vis X.env.scope x := by first | exact Or.inl rfl | exact Or.inr (Or.inl rfl) | exact Or.inr (Or.inr rfl)) (hd : (x == ("__debug__" : Str)) = false := by decide)
    (hcd : (x == ("__classdict__" : Str)) = false := by decide) : PE X (.Name x pos) (tVar i) := pe_var hN hv hd hcd
end

theorem ite2 {c A B : Prop} [Decidable c] (h1 : c → A) (h2 : ¬ c → B) : if c then A else B := by
  by_cases h : c
  · rw [if_pos h]
    exact h1 h
  · rw [if_neg h]
    exact h2 h
def Same (H H' : Hp) : Prop := ∀ b o, H b = some o → H' b = some o
theorem Same.refl (H : Hp) : Same H H := fun _ _ h => h
theorem Same.trans {H H1 H2 : Hp} (a : Same H H1) (b : Same H1 H2) : Same H H2 := fun c o h => b c o (a c o h)
theorem Same.seq {K : PySem.W.Frag} {H H' : Hp} {a : Addr} {xs : List V} (e : Same H H') (h : SqL K H a xs) : SqL K H' a xs := by
  rcases h with (h | ⟨o, h⟩) | h
  · exact .inl (.inl (e _ _ h))
  · exact .inl (.inr ⟨o, e _ _ h⟩)
  · exact .inr h

end L2

namespace L2
open PySem PySem.Spec PyProof.Rows

def exO (a C dx : Addr) (h : Heap) : Prop := ∃ o vs, h.get? a = some o ∧ o.cls = .ref C ∧ o.dict = (if dx = a then none else some dx) ∧ o.data = .fields vs
section
variable {M : Model} {A : Around} {E : Value → Shared → Prop} {s : Shared} {base : Heap} {env : Env} {outer : List Env} {L e : Addr}

end

section
variable {P : Program} {w : World} {H : Hp} {h h' : Heap} {fs : List Addr} {e : Addr} {oe : Obj} {vs : Array Value} {old : Option Addr} {φ : Heap → Prop}
end
end L2

namespace L2
open PySem PySem.Spec PyProof.Rows

section
variable {X : Cx} {pins : List (Addr × Obj)} {σ : St} {H : Hp} {s : Shared} {a : Addr} {E : Value → Shared → Prop} {Q : Unit → Shared → Prop}
end

section
variable {X : Cx} {k : Nat} {f : Addr} {fd : FuncData} {ps : List Str} {sp : Sp} {x : Str} {p pos : Pos} {e : Expr} {es : List Expr} {t : TA}
end
end L2

namespace L2
open PySem PySem.Spec PyProof.Rows

abbrev bmV : List Value := [.type "ValueError", .type "Exception", .type "BaseException", .type "object"]
def strK (es : Array DictEntry) : Bool := es.toList.all fun e => match e.key with | .str _ _ => true | _ => false
structure XC (K : PySem.W.Frag) (C F : Addr) : Prop where
  obj : ∃ nm q N bs sn sub ab col dd k0 k1 k2 k3 k5, K.lookup C = some (excClassObj nm q C N bs (.ref F :: bmV) true sn sub ab col dd k0 k1 k2 k3 k5 "ValueError.__new__")
  tail : ∃ c0 dd cd sl oc od es ep sl', K.lookup F = some ⟨c0, dd, .cls cd, sl⟩ ∧ K.lookup cd.ns = some ⟨oc, od, .dict es ep, sl'⟩ ∧ strK es = true ∧ nsFind es "__init__" = none
  sa : PySem.W.findIn K (.ref C) "__setattr__" = some (some (.builtin "object.__setattr__"))
  ga : PySem.W.findIn K (.ref C) "__getattribute__" = some (some (.builtin "BaseException.__getattribute__"))
  gh : PySem.W.findIn K (.ref C) "__getattr__" = some none
  cl : PySem.W.findIn K (.ref C) "__class__" = some (some (.builtin "object.__class__"))
  gg : PySem.W.specialIn K (.builtin "object.__class__") "__get__" = some (some (.builtin "getset_descriptor.__get__"))
  gt : PySem.W.takesIn K (.builtin "object.__class__") = some true
section
variable {prog : Program} {w : World} {A : Around} {E : Value → Shared → Prop} {s : Shared} {K : PySem.W.Frag} {C U fI : Addr} {rest : List Value}
end
end L2

namespace L2
open PySem PySem.Spec PyProof.Rows PySem.W PySem.Builtin PySem.Builtin.ObjectAttr

section
variable {prog : Program} {w : World} {A : Around} {E : Value → Shared → Prop} {s : Shared} {K : PySem.W.Frag} {C U x : Addr} {name : Str} {v : Value}
end
end L2

namespace L2
open PySem PySem.Spec PyProof.Rows PySem.W PySem.Builtin PySem.Builtin.ObjectAttr

section
variable {prog : Program} {w : World} {A : Around} {E : Value → Shared → Prop} {s : Shared} {K : PySem.W.Frag} {C U x : Addr} {name : Str} {v : Value} {ox : Obj} {od : Option Obj}
end
end L2

namespace L2
open PySem PySem.Spec PyProof.Rows PySem.SeqAt

inductive Dt where
  | non | bl (b : Bool) | int (i : Int) | str (x : Str) | tup (ds : List Dt) | lst (ds : List Dt) | fn (a : Addr)
  /-- an exception: its class's name, its fields -/
  | exc (c : Str) (ns : List Str) (ds : List Dt)
  /-- an instance: its class's name, its fields -/
  | obj (c : Str) (ns : List Str) (ds : List Dt)

def LsD (K : PySem.W.Frag) (H : Hp) (a : Addr) (xs : List V) : Prop := H a = some (.lst xs) ∨ (SqL K H a xs ∧ ∀ x ∈ xs, ∃ i : Int, x = .int i)
theorem LsD.sq {K : PySem.W.Frag} {H : Hp} {a : Addr} {xs : List V} (h : LsD K H a xs) : SqL K H a xs := by
  rcases h with h | ⟨h, _⟩
  · exact SqL.of h
  · exact h
theorem LsD.mono {K : PySem.W.Frag} {H H' : Hp} {a : Addr} {xs : List V} (s : Same H H') (h : LsD K H a xs) : LsD K H' a xs := by
  rcases h with h | ⟨h, q⟩
  · exact .inl (s _ _ h)
  · exact .inr ⟨s.seq h, q⟩
mutual
def Rp (K : PySem.W.Frag) (H : Hp) : Dt → V → Prop
  | .non, v => v = .non
  | .bl b, v => v = .bl b
  | .int i, v => v = .int i
  | .str x, v => v = .str x
  | .fn a, v => v = .ref a
  | .exc c ns ds, v => ∃ a C U dx vs, v = .ref a ∧ PySem.W.nsIn K mainGlobals c = some (some (.ref C)) ∧ XC K C U ∧ H a = some (.ext (exO a C dx)) ∧ (H dx = some (.xd (ns.zip vs)) ∨ dx = a ∧ ns = []) ∧ ns.length = ds.length ∧ RpL K H ds vs
  | .obj c ns ds, v => ∃ a C dx vs, v = .ref a ∧ PySem.W.nsIn K mainGlobals c = some (some (.ref C)) ∧ Cls K C ∧ H a = some (.ins C dx (ns.zip vs)) ∧ ns.length = ds.length ∧ RpL K H ds vs
  | .tup ds, v => ∃ a xs, v = .ref a ∧ SqT K H a xs ∧ RpL K H ds xs
  | .lst ds, v => ∃ a xs, v = .ref a ∧ LsD K H a xs ∧ RpL K H ds xs
def RpL (K : PySem.W.Frag) (H : Hp) : List Dt → List V → Prop
  | [], xs => xs = []
  | d :: ds, xs => ∃ v r, xs = v :: r ∧ Rp K H d v ∧ RpL K H ds r
end

theorem Same.seqT {K : PySem.W.Frag} {H H' : Hp} {a : Addr} {xs : List V} (e : Same H H') (h : SqT K H a xs) : SqT K H' a xs := by
  rcases h with (h | ⟨o, h⟩) | h
  · exact .inl (.inl (e _ _ h))
  · exact .inl (.inr ⟨o, e _ _ h⟩)
  · exact .inr h

mutual
theorem Rp.mono {K : PySem.W.Frag} {H H' : Hp} (s : Same H H') : ∀ {d : Dt} {v : V}, Rp K H d v → Rp K H' d v
  | .non, _, h => by unfold Rp at h ⊢; exact h
  | .bl _, _, h => by unfold Rp at h ⊢; exact h
  | .int _, _, h => by unfold Rp at h ⊢; exact h
  | .str _, _, h => by unfold Rp at h ⊢; exact h
  | .fn _, _, h => by unfold Rp at h ⊢; exact h
  | .exc _ _ _, _, h => by
    unfold Rp at h ⊢
    obtain ⟨a, C, U, dx, vs, e, q, x, h1, h2, l, r⟩ := h
    exact ⟨a, C, U, dx, vs, e, q, x, s _ _ h1, h2.imp (s _ _) id, l, RpL.mono s r⟩
  | .obj _ _ _, _, h => by
    unfold Rp at h ⊢
    obtain ⟨a, C, dx, vs, e, q, x, h1, l, r⟩ := h
    exact ⟨a, C, dx, vs, e, q, x, s _ _ h1, l, RpL.mono s r⟩
  | .tup ds, _, h => by
    unfold Rp at h ⊢
    obtain ⟨a, xs, e, q, r⟩ := h
    exact ⟨a, xs, e, s.seqT q, RpL.mono s r⟩
  | .lst ds, _, h => by
    unfold Rp at h ⊢
    obtain ⟨a, xs, e, q, r⟩ := h
    exact ⟨a, xs, e, q.mono s, RpL.mono s r⟩
theorem RpL.mono {K : PySem.W.Frag} {H H' : Hp} (s : Same H H') : ∀ {ds : List Dt} {vs : List V}, RpL K H ds vs → RpL K H' ds vs
  | [], _, h => by unfold RpL at h ⊢; exact h
  | d :: ds, _, h => by
    unfold RpL at h ⊢
    obtain ⟨v, r, e, q, p⟩ := h
    exact ⟨v, r, e, Rp.mono s q, RpL.mono s p⟩
end

section
variable {K : PySem.W.Frag} {H : Hp}
theorem rp_non {v : V} : Rp K H .non v ↔ v = .non := by unfold Rp; exact Iff.rfl
theorem rp_bl {b : Bool} {v : V} : Rp K H (.bl b) v ↔ v = .bl b := by unfold Rp; exact Iff.rfl
theorem rp_int {i : Int} {v : V} : Rp K H (.int i) v ↔ v = .int i := by unfold Rp; exact Iff.rfl
theorem rp_str {x : Str} {v : V} : Rp K H (.str x) v ↔ v = .str x := by unfold Rp; exact Iff.rfl
theorem rp_fn {a : Addr} {v : V} : Rp K H (.fn a) v ↔ v = .ref a := by unfold Rp; exact Iff.rfl
theorem rp_tup {ds : List Dt} {v : V} : Rp K H (.tup ds) v ↔ ∃ a xs, v = .ref a ∧ SqT K H a xs ∧ RpL K H ds xs := by rw [Rp]
theorem rp_lst0 {ds : List Dt} {v : V} : Rp K H (.lst ds) v ↔ ∃ a xs, v = .ref a ∧ LsD K H a xs ∧ RpL K H ds xs := by rw [Rp]
theorem rp_lstI {ds : List Dt} {v : V} (h : ∃ a xs, v = .ref a ∧ H a = some (.lst xs) ∧ RpL K H ds xs) : Rp K H (.lst ds) v := let ⟨a, xs, e, h1, h2⟩ := h; rp_lst0.mpr ⟨a, xs, e, .inl h1, h2⟩
theorem rp_lstE {ds : List Dt} {v : V} (h : Rp K H (.lst ds) v) : ∃ a xs, v = .ref a ∧ SqL K H a xs ∧ RpL K H ds xs := let ⟨a, xs, e, h1, h2⟩ := rp_lst0.mp h; ⟨a, xs, e, h1.sq, h2⟩
theorem rp_ints {ns : List Int} {a : Addr} (h : SqL K H a (ns.map V.int)) (r : RpL K H (ns.map Dt.int) (ns.map V.int)) : Rp K H (.lst (ns.map Dt.int)) (.ref a) := rp_lst0.mpr ⟨a, _, rfl, .inr ⟨h, fun x hx => by obtain ⟨i, _, rfl⟩ := List.mem_map.mp hx; exact ⟨i, rfl⟩⟩, r⟩
theorem rpl_nil {vs : List V} : RpL K H [] vs ↔ vs = [] := by rw [RpL]
theorem rpl_cons {d : Dt} {ds : List Dt} {vs : List V} : RpL K H (d :: ds) vs ↔ ∃ v r, vs = v :: r ∧ Rp K H d v ∧ RpL K H ds r := by rw [RpL]
theorem RpL.nil : RpL K H [] [] := rpl_nil.mpr rfl
theorem RpL.cons {d : Dt} {ds : List Dt} {v : V} {vs : List V} (h : Rp K H d v) (r : RpL K H ds vs) : RpL K H (d :: ds) (v :: vs) := rpl_cons.mpr ⟨v, vs, rfl, h, r⟩
theorem RpL.len : ∀ {ds : List Dt} {vs : List V}, RpL K H ds vs → vs.length = ds.length
  | [], _, h => by rw [rpl_nil.mp h]; rfl
  | d :: ds, _, h => by
    obtain ⟨v, r, rfl, _, p⟩ := rpl_cons.mp h
    simp [RpL.len p]
theorem RpL.get : ∀ {ds : List Dt} {vs : List V} {i : Nat} {d : Dt}, RpL K H ds vs → ds[i]? = some d → ∃ v, vs[i]? = some v ∧ Rp K H d v
  | [], _, _, _, _, e => by simp at e
  | d :: ds, _, 0, _, h, e => by
    obtain ⟨v, r, rfl, q, p⟩ := rpl_cons.mp h
    simp at e; subst e
    exact ⟨v, rfl, q⟩
  | d :: ds, _, i + 1, _, h, e => by
    obtain ⟨v, r, rfl, q, p⟩ := rpl_cons.mp h
    obtain ⟨u, e1, e2⟩ := RpL.get (i := i) p (by simpa using e)
    exact ⟨u, by simpa using e1, e2⟩
theorem RpL.drop : ∀ {ds : List Dt} {vs : List V} (n : Nat), RpL K H ds vs → RpL K H (ds.drop n) (vs.drop n)
  | _, _, 0, h => by simpa using h
  | [], _, n + 1, h => by rw [rpl_nil.mp h]; simpa using RpL.nil
  | d :: ds, _, n + 1, h => by
    obtain ⟨v, r, rfl, a, p⟩ := rpl_cons.mp h
    simpa using RpL.drop n p
theorem RpL.take : ∀ {ds : List Dt} {vs : List V} (n : Nat), RpL K H ds vs → RpL K H (ds.take n) (vs.take n)
  | _, _, 0, h => by simpa using RpL.nil
  | [], _, n + 1, h => by rw [rpl_nil.mp h]; simpa using RpL.nil
  | d :: ds, _, n + 1, h => by
    obtain ⟨v, r, rfl, a, p⟩ := rpl_cons.mp h
    simpa using RpL.cons a (RpL.take n p)
theorem RpL.ints : ∀ (ns : List Int), RpL K H (ns.map Dt.int) (ns.map V.int)
  | [] => RpL.nil
  | _ :: ns => RpL.cons (rp_int.mpr rfl) (RpL.ints ns)
end

def mask (O : List Addr) (H : Hp) : Hp := fun a => if a ∈ O then none else H a
theorem mask_in {O : List Addr} {H : Hp} {a : Addr} (h : a ∈ O) : mask O H a = none := if_pos h
theorem mask_out {O : List Addr} {H : Hp} {a : Addr} (h : a ∉ O) : mask O H a = H a := if_neg h
theorem mask_some {O : List Addr} {H : Hp} {a : Addr} {o : HO} (h : mask O H a = some o) : a ∉ O ∧ H a = some o := by
  by_cases q : a ∈ O
  · rw [mask_in q] at h; cases h
  · rw [mask_out q] at h; exact ⟨q, h⟩
theorem mask_le {O : List Addr} {H : Hp} : Same (mask O H) H := fun _ _ h => (mask_some h).2
theorem Same.mask {O : List Addr} {H H' : Hp} (s : Same H H') : Same (mask O H) (L2.mask O H') := fun a o h => by
  obtain ⟨q, e⟩ := mask_some h
  rw [mask_out q]; exact s a o e
theorem mask_sub {O O' : List Addr} {H : Hp} (h : ∀ a ∈ O', a ∈ O) : Same (mask O H) (mask O' H) := fun a o e => by
  obtain ⟨q, e⟩ := mask_some e
  rw [mask_out fun z => q (h a z)]; exact e
theorem Same.upd {H : Hp} {p : Addr} {o : HO} (h : H p = none) : Same H (L2.upd H p o) := fun a u e => by
  rw [upd_ne (ne_of_none e h)]; exact e

def tabAt (a : Addr) (xs : List (List Key × Addr × Value)) (h : Heap) : Prop := (a == sysModules) = false ∧ ∃ (P : Program) (w : World) (o : Obj) (es : Array DictEntry) (ep : Nat), h.get? a = some o ∧ o.ExactDict ∧ o.data = .dict es ep ∧ es.toList = xs.map (entryOfKey (tupleKind (mixKind P w))) ∧ (xs.map (·.1)).Nodup
def TabK (K : PySem.W.Frag) (H : Hp) (ks : List (List Int)) (xs : List (List Key × Addr × Value)) : Prop := xs.map (·.1) = ks.map (·.map Sum.inl) ∧ ∀ x ∈ xs, SqT K H x.2.1 (x.1.map kV)
theorem TabK.mono {K : PySem.W.Frag} {H H' : Hp} {ks : List (List Int)} {xs : List (List Key × Addr × Value)} (s : Same H H') (h : TabK K H ks xs) : TabK K H' ks xs := ⟨h.1, fun x hx => s.seqT (h.2 x hx)⟩
inductive En where
  | is (d : Dt) | own (ds : List Dt) | tab (ks : List (List Int)) | raw (v : V)
abbrev DEnv := List (Option En)
abbrev DTE := DEnv → (Dt → Prop) → Prop
abbrev DTT := DEnv → (Bool → Prop) → Prop
abbrev DTA := DEnv → (List Dt → Prop) → Prop
structure DEnds where
  nx : DEnv → Prop
  rt : Dt → Prop
  bk : DEnv → Prop := fun _ => False
  ct : DEnv → Prop := fun _ => False
abbrev DTS := DEnds → DEnv → Prop

structure Rep (K : PySem.W.Frag) (B : Hp) (F O : List Addr) (H : Hp) (σ : St) (ρ : DEnv) : Prop where
  len : σ.length = ρ.length
  base : Same B H
  fr : ∀ a ∈ O, B a = none
  th : ∀ a ∈ F ++ O, H a ≠ none
  is : ∀ (i : Nat) (d : Dt), ρ[i]? = some (some (.is d)) → ∃ v, σ[i]? = some (some v) ∧ Rp K (mask (F ++ O) H) d v
  own : ∀ (i : Nat) (ds : List Dt), ρ[i]? = some (some (.own ds)) → ∃ a xs, σ[i]? = some (some (.ref a)) ∧ a ∈ O ∧ a ∉ F ∧ H a = some (.lst xs) ∧ RpL K (mask (F ++ O) H) ds xs
  inj : ∀ (i j : Nat) (ds es : List Dt) (a : Addr), ρ[i]? = some (some (.own ds)) → ρ[j]? = some (some (.own es)) → σ[i]? = some (some (.ref a)) → σ[j]? = some (some (.ref a)) → i = j
  tab : ∀ (i : Nat) (ks : List (List Int)), ρ[i]? = some (some (.tab ks)) → ∃ a xs, σ[i]? = some (some (.ref a)) ∧ a ∈ O ∧ a ∉ F ∧ H a = some (.ext (tabAt a xs)) ∧ TabK K (mask (F ++ O) H) ks xs
  tinj : ∀ (i j : Nat) (ks ls : List (List Int)) (a : Addr), ρ[i]? = some (some (.tab ks)) → ρ[j]? = some (some (.tab ls)) → σ[i]? = some (some (.ref a)) → σ[j]? = some (some (.ref a)) → i = j
  raw : ∀ (i : Nat) (v : V), ρ[i]? = some (some (.raw v)) → σ[i]? = some (some v)

theorem raw_back {ρ : DEnv} {i : Nat} {y : Option En} (hy : ∀ v, y ≠ some (.raw v)) {j : Nat} {v : V} (e : (ρ.set i y)[j]? = some (some (.raw v))) : j ≠ i ∧ ρ[j]? = some (some (.raw v)) := by
  by_cases hj : j = i
  · subst hj
    by_cases hk : j < ρ.length
    · rw [List.getElem?_set_self hk] at e; exact (hy v (Option.some.inj e)).elim
    · rw [List.getElem?_eq_none (by simpa using hk)] at e; cases e
  · rw [List.getElem?_set_ne (Ne.symm hj)] at e; exact ⟨hj, e⟩
theorem Rep.rawSet {K : PySem.W.Frag} {B : Hp} {F O : List Addr} {H : Hp} {σ : St} {ρ : DEnv} (r : Rep K B F O H σ ρ) {i : Nat} {x : Option V} {y : Option En} (hy : ∀ v, y ≠ some (.raw v)) (j : Nat) (v : V) (e : (ρ.set i y)[j]? = some (some (.raw v))) : (σ.set i x)[j]? = some (some v) := by
  obtain ⟨hj, e⟩ := raw_back hy e
  rw [List.getElem?_set_ne (Ne.symm hj)]
  exact r.raw j v e
section
variable {K : PySem.W.Frag} {B : Hp} {F O : List Addr} {H H' : Hp} {σ : St} {ρ : DEnv}
theorem Rep.same (r : Rep K B F O H σ ρ) (s : Same H H') : Rep K B F O H' σ ρ where
  len := r.len
  base := r.base.trans s
  fr := r.fr
  th := fun a h e => by
    have := r.th a h
    cases q : H a with
    | none => exact this q
    | some o => rw [s a o q] at e; cases e
  is := fun i d e => let ⟨v, h1, h2⟩ := r.is i d e; ⟨v, h1, h2.mono s.mask⟩
  own := fun i ds e => let ⟨a, xs, h1, h2, h3, h4, h5⟩ := r.own i ds e; ⟨a, xs, h1, h2, h3, s _ _ h4, h5.mono s.mask⟩
  inj := r.inj
  tab := fun i ks e => let ⟨a, xs, h1, h2, h3, h4, h5⟩ := r.tab i ks e; ⟨a, xs, h1, h2, h3, s _ _ h4, h5.mono s.mask⟩
  tinj := r.tinj
  raw := r.raw
theorem Rep.below (r : Rep K B F O H σ ρ) : Same (mask F B) (mask (F ++ O) H) := fun a o e => by
  obtain ⟨q, e⟩ := mask_some e
  rw [mask_out]
  · exact r.base a o e
  · intro z
    rcases List.mem_append.mp z with z | z
    · exact q z
    · rw [r.fr a z] at e; cases e
theorem Rep.set (r : Rep K B F O H σ ρ) (i : Nat) {d : Dt} {v : V} (h : Rp K (mask (F ++ O) H) d v) : Rep K B F O H (σ.set i (some v)) (ρ.set i (some (.is d))) := by
  have hl := r.len
  have back : ∀ (j : Nat) (ds : En), (∀ z, ds ≠ .is z) → (ρ.set i (some (.is d)))[j]? = some (some ds) → j ≠ i ∧ ρ[j]? = some (some ds) := fun j ds nz e => by
    by_cases hj : j = i
    · subst hj
      by_cases hk : j < ρ.length
      · rw [List.getElem?_set_self hk] at e; cases e; exact (nz d rfl).elim
      · rw [List.getElem?_eq_none (by simpa using hk)] at e; cases e
    · rw [List.getElem?_set_ne (Ne.symm hj)] at e; exact ⟨hj, e⟩
  refine ⟨by simpa using hl, r.base, r.fr, r.th, fun j e q => ?_, fun j ds q => ?_, fun j k ds es a h1 h2 h3 h4 => ?_, fun j ks q => ?_, fun j k ds es a h1 h2 h3 h4 => ?_, fun j u q => ?_⟩
  · by_cases hj : j = i
    · subst hj
      by_cases hk : j < ρ.length
      · rw [List.getElem?_set_self hk] at q
        cases q
        exact ⟨v, List.getElem?_set_self (by omega), h⟩
      · rw [List.getElem?_eq_none (by simpa using hk)] at q; cases q
    · rw [List.getElem?_set_ne (Ne.symm hj)] at q ⊢
      exact r.is j e q
  · obtain ⟨hj, q⟩ := back j _ (fun _ z => by cases z) q
    rw [List.getElem?_set_ne (Ne.symm hj)]
    exact r.own j ds q
  · obtain ⟨hj, q1⟩ := back j _ (fun _ z => by cases z) h1
    obtain ⟨hk, q2⟩ := back k _ (fun _ z => by cases z) h2
    rw [List.getElem?_set_ne (Ne.symm hj)] at h3
    rw [List.getElem?_set_ne (Ne.symm hk)] at h4
    exact r.inj j k ds es a q1 q2 h3 h4
  · obtain ⟨hj, q⟩ := back j _ (fun _ z => by cases z) q
    rw [List.getElem?_set_ne (Ne.symm hj)]
    exact r.tab j ks q
  · obtain ⟨hj, q1⟩ := back j _ (fun _ z => by cases z) h1
    obtain ⟨hk, q2⟩ := back k _ (fun _ z => by cases z) h2
    rw [List.getElem?_set_ne (Ne.symm hj)] at h3
    rw [List.getElem?_set_ne (Ne.symm hk)] at h4
    exact r.tinj j k ds es a q1 q2 h3 h4
  · obtain ⟨hj, q⟩ := back j _ (fun _ z => by cases z) q
    rw [List.getElem?_set_ne (Ne.symm hj)]
    exact r.raw j u q
end

def lE (K : PySem.W.Frag) (t : DTE) : TE := fun σ H Q => ∃ B F O ρ, Rep K B F O H σ ρ ∧ t ρ fun d => ∀ v H', Same H H' → Rp K (mask (F ++ O) H') d v → Q v H'
def lT (K : PySem.W.Frag) (t : DTT) : TT := fun σ H Q => ∃ B F O ρ, Rep K B F O H σ ρ ∧ t ρ fun b => ∀ H', Same H H' → Q b H'
def lA (K : PySem.W.Frag) (t : DTA) : TA := fun σ H Q => ∃ B F O ρ, Rep K B F O H σ ρ ∧ t ρ fun ds => ∀ vs H', Same H H' → RpL K (mask (F ++ O) H') ds vs → Q vs H'
def lD (K : PySem.W.Frag) (B : Hp) (F : List Addr) (D : Ends) : DEnds where
  nx := fun ρ' => ∀ O' σ' H', Rep K B F O' H' σ' ρ' → D.nx σ' H'
  rt := fun d => ∀ v H', Same B H' → Rp K (mask F H') d v → D.rt v H'
  bk := fun ρ' => ∀ O' σ' H', Rep K B F O' H' σ' ρ' → D.bk σ' H'
  ct := fun ρ' => ∀ O' σ' H', Rep K B F O' H' σ' ρ' → D.ct σ' H'
def lS (K : PySem.W.Frag) (t : DTS) : TS := fun D σ H => ∃ B F O ρ, Rep K B F O H σ ρ ∧ t (lD K B F D) ρ

structure DEnds.le (D D' : DEnds) : Prop where
  nx : ∀ ρ, D.nx ρ → D'.nx ρ
  rt : ∀ d, D.rt d → D'.rt d
  bk : ∀ ρ, D.bk ρ → D'.bk ρ
  ct : ∀ ρ, D.ct ρ → D'.ct ρ

structure DE (X : Cx) (e : Expr) (t : DTE) : Prop where
  mono : ∀ {ρ Q Q'}, (∀ d, Q d → Q' d) → t ρ Q → t ρ Q'
  pe : PE X e (lE X.K t)
structure DT (X : Cx) (e : Expr) (t : DTT) : Prop where
  mono : ∀ {ρ Q Q'}, (∀ d, Q d → Q' d) → t ρ Q → t ρ Q'
  pt : PT X e (lT X.K t)
structure DA (X : Cx) (es : List Expr) (t : DTA) : Prop where
  mono : ∀ {ρ Q Q'}, (∀ d, Q d → Q' d) → t ρ Q → t ρ Q'
  pa : PA X es (lA X.K t)
structure DS (X : Cx) (st : Stmt) (t : DTS) : Prop where
  mono : ∀ {ρ D D'}, DEnds.le D D' → t D ρ → t D' ρ
  ps : PS X st (lS X.K t)
structure DSs (X : Cx) (st : List Stmt) (t : DTS) : Prop where
  mono : ∀ {ρ D D'}, DEnds.le D D' → t D ρ → t D' ρ
  ps : PSs X st (lS X.K t)

theorem PE.imp {X : Cx} {e : Expr} {t t' : TE} (h : PE X e t) (i : ∀ σ H Q, t' σ H Q → t σ H Q) : PE X e t' := fun pins s σ H Q I q => h pins s σ H Q I (i _ _ _ q)
theorem PT.imp {X : Cx} {e : Expr} {t t' : TT} (h : PT X e t) (i : ∀ σ H Q, t' σ H Q → t σ H Q) : PT X e t' := fun pins s σ H Q I q => h pins s σ H Q I (i _ _ _ q)
theorem PA.imp {X : Cx} {e : List Expr} {t t' : TA} (h : PA X e t) (i : ∀ σ H Q, t' σ H Q → t σ H Q) : PA X e t' := fun pos pins s σ H Q I q => h pos pins s σ H Q I (i _ _ _ q)
theorem PS.imp {X : Cx} {e : Stmt} {t t' : TS} (h : PS X e t) (i : ∀ D σ H, t' D σ H → t D σ H) : PS X e t' := fun pins s σ H D I q => h pins s σ H D I (i _ _ _ q)
theorem PSs.imp {X : Cx} {e : List Stmt} {t t' : TS} (h : PSs X e t) (i : ∀ D σ H, t' D σ H → t D σ H) : PSs X e t' := fun pins s σ H D I q => h pins s σ H D I (i _ _ _ q)

section
variable {X : Cx} {a b c e : Expr} {es : List Expr} {ta tb tc te : DTE} {tA tB : DTT} {tl : DTA} {pos : Pos}

def dVar (i : Nat) : DTE := fun ρ Q => match ρ[i]? with
  | some (some (.is d)) => Q d
  | _ => False
def dC (d : Dt) : DTE := fun _ Q => Q d
theorem dv (i : Nat) {x : Str} {pos : Pos} (hN : X.N[i]? = some x := by rfl) (hv : Vis X.env.scope x := by first | exact Or.inl rfl | exact Or.inr (Or.inl rfl) | exact Or.inr (Or.inr rfl)) (hd : (x == ("__debug__" : Str)) = false := by decide)
    (hcd : (x == ("__classdict__" : Str)) = false := by decide) : DE X (.Name x pos) (dVar i) where
  mono := fun {ρ Q Q'} hq h => by
    unfold dVar at h ⊢
    split at h
    · exact hq _ h
    · exact h.elim
  pe := (pe_var hN hv hd hcd).imp fun σ H Q ⟨B, F, O, ρ, r, h⟩ => by
    unfold dVar at h
    split at h
    · rename_i d e
      obtain ⟨v, h1, h2⟩ := r.is i d e
      exact ⟨v, h1, h v H (Same.refl H) h2⟩
    · exact h.elim
theorem de_c {v : V} {d : Dt} (h : PE X e (tC v)) (hr : ∀ K H, Rp K H d v) : DE X e (dC d) where
  mono := fun hq h => hq _ h
  pe := h.imp fun σ H Q ⟨B, F, O, ρ, r, h⟩ => h v H (Same.refl H) (hr _ _)
theorem de_int {i j pos} : DE X (.Constant (.int i) j pos) (dC (.int i)) := de_c pe_int fun _ _ => rp_int.mpr rfl
theorem de_bl {i j pos} : DE X (.Constant (.bool i) j pos) (dC (.bl i)) := de_c pe_bl fun _ _ => rp_bl.mpr rfl
theorem de_str {x j pos} : DE X (.Constant (.str x) j pos) (dC (.str x)) := de_c pe_str fun _ _ => rp_str.mpr rfl
abbrev D2 := Dt → Dt → (Dt → Prop) → Prop
structure Sem2 (K : PySem.W.Frag) (r : R2) (t : D2) : Prop where
  mono : ∀ {a b Q Q'}, (∀ d, Q d → Q' d) → t a b Q → t a b Q'
  ok : ∀ (O : List Addr) (H : Hp) (a b : Dt) (x y : V) (Q : VK), (∀ p ∈ O, H p ≠ none) → Rp K (mask O H) a x → Rp K (mask O H) b y →
    t a b (fun d => ∀ v H', Same H H' → Rp K (mask O H') d v → Q v H') → r x y H Q
def dOp (t : D2) (ta tb : DTE) : DTE := fun ρ Q => ta ρ fun a => tb ρ fun b => t a b Q
theorem op_imp {K : PySem.W.Frag} {r : R2} {t : D2} (S : Sem2 K r t) {ta tb : DTE} (ma : ∀ {ρ Q Q'}, (∀ d, Q d → Q' d) → ta ρ Q → ta ρ Q') (mb : ∀ {ρ Q Q'}, (∀ d, Q d → Q' d) → tb ρ Q → tb ρ Q')
    (σ : St) (H : Hp) (Q : VK) (h : lE K (dOp t ta tb) σ H Q) : tOp r (lE K ta) (lE K tb) σ H Q := by
  obtain ⟨B, F, O, ρ, R, h⟩ := h
  refine ⟨B, F, O, ρ, R, ma (fun a h v H1 s1 r1 => ?_) h⟩
  refine ⟨B, F, O, ρ, R.same s1, mb (fun b h u H2 s2 r2 => ?_) h⟩
  exact S.ok _ H2 a b v u Q ((R.same s1).same s2).th (r1.mono s2.mask) r2 (S.mono (fun d q w H3 s3 r3 => q w H3 ((s1.trans s2).trans s3) r3) h)
theorem dop_mono {t : D2} (m : ∀ {a b Q Q'}, (∀ d, Q d → Q' d) → t a b Q → t a b Q') (ma : ∀ {ρ Q Q'}, (∀ d, Q d → Q' d) → ta ρ Q → ta ρ Q') (mb : ∀ {ρ Q Q'}, (∀ d, Q d → Q' d) → tb ρ Q → tb ρ Q') :
    ∀ {ρ Q Q'}, (∀ d, Q d → Q' d) → dOp t ta tb ρ Q → dOp t ta tb ρ Q' := fun hq h => ma (fun _ h => mb (fun _ h => m hq h) h) h
theorem de_op {op : Operator} {r : R2} {t : D2} (ho : OpR X (binaryOp op) r) (S : Sem2 X.K r t) (ha : DE X a ta) (hb : DE X b tb) : DE X (.BinOp a op b pos) (dOp t ta tb) where
  mono := dop_mono (t := t) (ta := ta) (tb := tb) S.mono ha.mono hb.mono
  pe := (pe_op ho ha.pe hb.pe).imp (op_imp (ta := ta) (tb := tb) S ha.mono hb.mono)
theorem de_cmp {op : CmpOp} {r : R2} {t : D2} (ho : OpR X (compareOp op) r) (S : Sem2 X.K r t) (ha : DE X a ta) (hb : DE X b tb) (hm : behindInMarks op b = false) : DE X (.Compare a [op] [b] pos) (dOp t ta tb) where
  mono := dop_mono (t := t) (ta := ta) (tb := tb) S.mono ha.mono hb.mono
  pe := (pe_cmpR ho ha.pe hb.pe hm).imp (op_imp (ta := ta) (tb := tb) S ha.mono hb.mono)
theorem de_ix {r : R2} {t : D2} (ho : IxR X r) (S : Sem2 X.K r t) (ha : DE X a ta) (hb : DE X b tb) (hs : PlainIx b) : DE X (.Subscript a b pos) (dOp t ta tb) where
  mono := dop_mono (t := t) (ta := ta) (tb := tb) S.mono ha.mono hb.mono
  pe := (pe_ix ho ha.pe hb.pe hs).imp (op_imp (ta := ta) (tb := tb) S ha.mono hb.mono)
def dI (C : Int → Int → Prop) (g : Int → Int → Int) : D2 := fun a b Q => match a, b with
  | .int i, .int j => C i j ∧ Q (.int (g i j))
  | _, _ => False
def dI0 (g : Int → Int → Int) : D2 := fun a b Q => match a, b with
  | .int i, .int j => Q (.int (g i j))
  | _, _ => False
def dB0 (g : Int → Int → Bool) : D2 := fun a b Q => match a, b with
  | .int i, .int j => Q (.bl (g i j))
  | _, _ => False
theorem sem_I {K : PySem.W.Frag} {C : Int → Int → Prop} {g : Int → Int → Int} : Sem2 K (rI C fun i j => .int (g i j)) (dI C g) where
  mono := fun {a b Q Q'} hq h => by
    unfold dI at h ⊢
    split at h
    · exact ⟨h.1, hq _ h.2⟩
    · exact h.elim
  ok := fun O H a b x y Q _ ra rb h => by
    unfold dI at h
    split at h
    · exact ⟨_, _, rp_int.mp ra, rp_int.mp rb, h.1, h.2 _ H (Same.refl H) (rp_int.mpr rfl)⟩
    · exact h.elim
theorem sem_I0 {K : PySem.W.Frag} {g : Int → Int → Int} : Sem2 K (rI0 fun i j => .int (g i j)) (dI0 g) where
  mono := fun {a b Q Q'} hq h => by
    unfold dI0 at h ⊢
    split at h
    · exact hq _ h
    · exact h.elim
  ok := fun O H a b x y Q _ ra rb h => by
    unfold dI0 at h
    split at h
    · exact ⟨_, _, rp_int.mp ra, rp_int.mp rb, h _ H (Same.refl H) (rp_int.mpr rfl)⟩
    · exact h.elim
theorem sem_B0 {K : PySem.W.Frag} {g : Int → Int → Bool} : Sem2 K (rI0 fun i j => .bl (g i j)) (dB0 g) where
  mono := fun {a b Q Q'} hq h => by
    unfold dB0 at h ⊢
    split at h
    · exact hq _ h
    · exact h.elim
  ok := fun O H a b x y Q _ ra rb h => by
    unfold dB0 at h
    split at h
    · exact ⟨_, _, rp_int.mp ra, rp_int.mp rb, h _ H (Same.refl H) (rp_bl.mpr rfl)⟩
    · exact h.elim
theorem op_mulO : OpR X (binaryOp .Mult) (rI IntMulOk fun i j => .int (i * j)) := opI fun _ _ _ _ _ _ _ hc q => mul_int q hc
def CDv (_ j : Int) : Prop := j ≠ 0 ∧ j.natAbs < 2 ^ 9000
def dAdd : D2 := dI0 fun i j => i + j
def dSub : D2 := dI0 fun i j => i - j
def dMul : D2 := dI IntMulOk fun i j => i * j
def dMod : D2 := dI (fun _ j => j ≠ 0) fun i j => i.fmod j
def dDiv : D2 := dI CDv fun i j => i.fdiv j
def dPow : D2 := dI CPow fun i j => i ^ j.toNat
def dShl : D2 := dI CPow fun i j => i * 2 ^ j.toNat
def dShr : D2 := dI (fun _ j => 0 ≤ j) fun i j => i / 2 ^ j.toNat
theorem de_add (ha : DE X a ta) (hb : DE X b tb) : DE X (.BinOp a .Add b pos) (dOp dAdd ta tb) := de_op op_add sem_I0 ha hb
theorem de_sub (ha : DE X a ta) (hb : DE X b tb) : DE X (.BinOp a .Sub b pos) (dOp dSub ta tb) := de_op op_sub sem_I0 ha hb
theorem de_mul (ha : DE X a ta) (hb : DE X b tb) : DE X (.BinOp a .Mult b pos) (dOp dMul ta tb) := de_op op_mulO sem_I ha hb
theorem de_mod (ha : DE X a ta) (hb : DE X b tb) : DE X (.BinOp a .Mod b pos) (dOp dMod ta tb) := de_op op_modN sem_I ha hb
theorem de_pow (ha : DE X a ta) (hb : DE X b tb) : DE X (.BinOp a .Pow b pos) (dOp dPow ta tb) := de_op op_pow sem_I ha hb
theorem de_shr (ha : DE X a ta) (hb : DE X b tb) : DE X (.BinOp a .RShift b pos) (dOp dShr ta tb) := de_op op_shr sem_I ha hb
def dLt : D2 := dB0 fun i j => decide (i < j)
def dLe : D2 := dB0 fun i j => decide (i ≤ j)
def dGt : D2 := dB0 fun i j => decide (j < i)
def dGe : D2 := dB0 fun i j => decide (j ≤ i)
def ixL : Int → List Dt → Option Dt
  | .ofNat n, ds => ds[n]?
  | .negSucc m, ds => if m < ds.length then ds[ds.length - 1 - m]? else none
def ixD (i : Int) : Dt → Option Dt
  | .tup ds => ixL i ds
  | .lst ds => ixL i ds
  | _ => none
theorem ixL_at {i : Int} {ds : List Dt} {d : Dt} (h : ixL i ds = some d) : atI ds i = some d := by
  cases i with
  | ofNat n => exact atI_nat h
  | negSucc m =>
    have h' : (if m < ds.length then ds[ds.length - 1 - m]? else none) = some d := h
    by_cases hm : m < ds.length
    · rw [if_pos hm] at h'
      unfold atI ixN
      have h1 : ¬ (0 : Int) ≤ Int.negSucc m := by omega
      have h2 : -(ds.length : Int) ≤ Int.negSucc m := by omega
      have h3 : (Int.negSucc m + (ds.length : Int)).toNat = ds.length - 1 - m := by omega
      rw [if_neg h1, if_pos h2, Option.bind_some, h3]
      exact h'
    · rw [if_neg hm] at h'; cases h'
def dIx : D2 := fun a b Q => match b with
  | .int i => match ixD i a with
    | some d => Q d
    | none => False
  | _ => False
theorem atI_rp {K : PySem.W.Frag} {H : Hp} {ds : List Dt} {xs : List V} {i : Int} {d : Dt} (r : RpL K H ds xs) (h : atI ds i = some d) : ∃ v, atI xs i = some v ∧ Rp K H d v := by
  unfold atI at h ⊢
  rw [r.len]
  cases e : ixN ds.length i with
  | none => rw [e] at h; cases h
  | some j =>
    rw [e] at h
    exact r.get h
theorem sem_ix {K : PySem.W.Frag} : Sem2 K (rIx K) dIx where
  mono := fun {a b Q Q'} hq h => by
    unfold dIx at h ⊢
    split at h
    · split at h
      · rename_i e; exact hq _ h
      · exact h.elim
    · exact h.elim
  ok := fun O H a b x y Q _ ra rb h => by
    unfold dIx at h
    split at h
    · split at h
      · rename_i i _ d e
        have eb := rp_int.mp rb
        subst eb
        cases a with
        | tup ds =>
          obtain ⟨p, xs, rfl, hs, hl⟩ := rp_tup.mp ra
          obtain ⟨v, e1, e2⟩ := atI_rp hl (ixL_at e)
          exact .inr (.inl ⟨p, xs, i, v, rfl, rfl, mask_le.seqT hs, e1, h v H (Same.refl H) e2⟩)
        | lst ds =>
          obtain ⟨p, xs, rfl, hs, hl⟩ := rp_lstE ra
          obtain ⟨v, e1, e2⟩ := atI_rp hl (ixL_at e)
          exact .inl ⟨p, xs, i, v, rfl, rfl, mask_le.seq hs, e1, h v H (Same.refl H) e2⟩
        | _ => cases e
      · exact h.elim
    · exact h.elim
theorem de_sub_ix (ha : DE X a ta) (hb : DE X b tb) (hs : PlainIx b := by exact fun _ _ => rfl) : DE X (.Subscript a b pos) (dOp dIx ta tb) := de_ix ix_seq sem_ix ha hb hs

def dNeg : Dt → (Dt → Prop) → Prop := fun a Q => match a with
  | .int i => Q (.int (-i))
  | _ => False
def dUn (t : Dt → (Dt → Prop) → Prop) (ta : DTE) : DTE := fun ρ Q => ta ρ fun a => t a Q
theorem de_neg (ha : DE X a ta) : DE X (.UnaryOp .USub a pos) (dUn dNeg ta) where
  mono := fun hq h => ha.mono (fun d h => by
    unfold dNeg at h ⊢
    split at h
    · exact hq _ h
    · exact h.elim) h
  pe := (pe_un un_neg ha.pe).imp fun σ H Q ⟨B, F, O, ρ, R, h⟩ => ⟨B, F, O, ρ, R, ha.mono (fun d h v H1 s1 r1 => by
    unfold dNeg at h
    split at h
    · exact ⟨_, rp_int.mp r1, h _ H1 s1 (rp_int.mpr rfl)⟩
    · exact h.elim) h⟩

def dNot (ta : DTE) : DTE := fun ρ Q => ta ρ fun a => match a with
  | .bl k => Q (.bl (!k))
  | _ => False
def dAnd (ta tb : DTE) : DTE := fun ρ Q => ta ρ fun a => match a with
  | .bl k => if k = true then tb ρ Q else Q (.bl false)
  | _ => False
def dOr (ta tb : DTE) : DTE := fun ρ Q => ta ρ fun a => match a with
  | .bl k => if k = true then Q (.bl true) else tb ρ Q
  | _ => False
theorem de_not (ha : DE X a ta) : DE X (.UnaryOp .Not a pos) (dNot ta) where
  mono := fun hq h => ha.mono (fun d h => by
    split at h
    · exact hq _ h
    · exact h.elim) h
  pe := (pe_not ha.pe).imp fun σ H Q ⟨B, F, O, ρ, R, h⟩ => ⟨B, F, O, ρ, R, ha.mono (fun d h v H1 s1 r1 => by
    split at h
    · exact ⟨_, rp_bl.mp r1, h _ H1 s1 (rp_bl.mpr rfl)⟩
    · exact h.elim) h⟩
theorem de_one {op} (h : DE X a ta) : DE X (.BoolOp op [a] pos) ta := ⟨h.mono, pe_one h.pe⟩
theorem de_and {rest : List Expr} (ha : DE X a ta) (hb : DE X (.BoolOp .And (b :: rest) pos) tb) : DE X (.BoolOp .And (a :: b :: rest) pos) (dAnd ta tb) where
  mono := fun hq h => ha.mono (fun d h => by
    split at h
    · split at h
      · rename_i e; simp only [e, if_true]; exact hb.mono hq h
      · rename_i e; simp only [e]; exact hq _ h
    · exact h.elim) h
  pe := (pe_and ha.pe hb.pe).imp fun σ H Q ⟨B, F, O, ρ, R, h⟩ => ⟨B, F, O, ρ, R, ha.mono (fun d h v H1 s1 r1 => by
    split at h
    · rename_i k
      refine ⟨k, rp_bl.mp r1, ?_⟩
      cases k with
      | true => exact ⟨B, F, O, ρ, R.same s1, hb.mono (fun d q v H2 s2 r2 => q v H2 (s1.trans s2) r2) h⟩
      | false => exact h _ H1 s1 (rp_bl.mpr rfl)
    · exact h.elim) h⟩
def dTst (t : DTE) : DTT := fun ρ Q => t ρ fun a => match a with
  | .bl k => Q k
  | _ => False
theorem dtst_mono {t : DTE} (m : ∀ {ρ Q Q'}, (∀ d, Q d → Q' d) → t ρ Q → t ρ Q') : ∀ {ρ Q Q'}, (∀ d, Q d → Q' d) → dTst t ρ Q → dTst t ρ Q' := fun hq h => m (fun d h => by
    split at h
    · exact hq _ h
    · exact h.elim) h
theorem dt_val (h : DE X e te) (he : ∀ whole, isTrue e X.env whole = (do let v ← whole; standAt e.pos; holding [v] (truthy v)) := by intro _; rfl) : DT X e (dTst te) where
  mono := dtst_mono (t := te) h.mono
  pt := (pt_val h.pe he).imp fun σ H Q ⟨B, F, O, ρ, R, q⟩ => ⟨B, F, O, ρ, R, h.mono (fun d q v H1 s1 r1 => by
    split at q
    · exact ⟨_, rp_bl.mp r1, q H1 s1⟩
    · exact q.elim) q⟩
theorem dt_cmp {op : CmpOp} {r : R2} {t : D2} (ho : OpR X (compareOp op) r) (S : Sem2 X.K r t) (ha : DE X a ta) (hb : DE X b tb) (hm : behindInMarks op b = false) : DT X (.Compare a [op] [b] pos) (dTst (dOp t ta tb)) where
  mono := dtst_mono (t := dOp t ta tb) (dop_mono (t := t) (ta := ta) (tb := tb) S.mono ha.mono hb.mono)
  pt := (pt_cmpR ho ha.pe hb.pe hm).imp fun σ H Q ⟨B, F, O, ρ, R, q⟩ => op_imp (ta := ta) (tb := tb) S ha.mono hb.mono σ H _ ⟨B, F, O, ρ, R, dop_mono (t := t) (ta := ta) (tb := tb) S.mono ha.mono hb.mono (fun d q v H1 s1 r1 => by
    split at q
    · exact ⟨_, rp_bl.mp r1, q H1 s1⟩
    · exact q.elim) q⟩
theorem dt_lt (ha : DE X a ta) (hb : DE X b tb) : DT X (.Compare a [.Lt] [b] pos) (dTst (dOp dLt ta tb)) := dt_cmp op_lt sem_B0 ha hb (nomark _)
theorem dt_gt (ha : DE X a ta) (hb : DE X b tb) : DT X (.Compare a [.Gt] [b] pos) (dTst (dOp dGt ta tb)) := dt_cmp op_gt sem_B0 ha hb (nomark _)
def dTNot (t : DTT) : DTT := fun ρ Q => t ρ fun k => Q (!k)
def dTAnd (t u : DTT) : DTT := fun ρ Q => t ρ fun k => if k = true then u ρ Q else Q false
def dTOr (t u : DTT) : DTT := fun ρ Q => t ρ fun k => if k = true then Q true else u ρ Q
theorem dt_not (ha : DT X a tA) : DT X (.UnaryOp .Not a pos) (dTNot tA) where
  mono := fun hq h => ha.mono (fun _ h => hq _ h) h
  pt := (pt_not ha.pt).imp fun σ H Q ⟨B, F, O, ρ, R, q⟩ => ⟨B, F, O, ρ, R, q⟩
structure DW (X : Cx) (e : Expr) (t : DTT) : Prop where
  mono : ∀ {ρ Q Q'}, (∀ d, Q d → Q' d) → t ρ Q → t ρ Q'
  pw : PW X e (lT X.K t)
theorem DW.dt {t : DTT} (h : DW X e t) : DT X e t := ⟨h.mono, h.pw.pt⟩
theorem dw_or1 (ha : DT X a tA) : DW X (.BoolOp .Or [a] pos) tA := ⟨ha.mono, pw_or1 ha.pt⟩
theorem PW.imp {t t' : TT} (h : PW X e t) (i : ∀ σ H Q, t' σ H Q → t σ H Q) : PW X e t' := fun wh pins s σ H Q I q => h wh pins s σ H Q I (i _ _ _ q)
theorem dw_or {rest : List Expr} (ha : DT X a tA) (hb : DW X (.BoolOp .Or (b :: rest) pos) tB) : DW X (.BoolOp .Or (a :: b :: rest) pos) (dTOr tA tB) where
  mono := fun hq h => ha.mono (fun k h => by
    cases k with
    | true => exact hq _ h
    | false => exact hb.mono hq h) h
  pw := (pw_or ha.pt hb.pw).imp fun σ H Q ⟨B, F, O, ρ, R, q⟩ => ⟨B, F, O, ρ, R, ha.mono (fun k h H1 s1 => by
    cases k with
    | false => exact ⟨B, F, O, ρ, R.same s1, hb.mono (fun k q H2 s2 => q H2 (s1.trans s2)) h⟩
    | true => exact h H1 s1) q⟩
def dIfE (t : DTT) (ta tb : DTE) : DTE := fun ρ Q => t ρ fun k => if k = true then ta ρ Q else tb ρ Q
def dNil : DTA := fun _ Q => Q []
def dCons (te : DTE) (tl : DTA) : DTA := fun ρ Q => te ρ fun d => tl ρ fun ds => Q (d :: ds)
theorem da_nil : DA X [] dNil := ⟨fun hq h => hq _ h, pa_nil.imp fun σ H Q ⟨B, F, O, ρ, R, q⟩ => q [] H (Same.refl H) RpL.nil⟩
theorem da_cons (ha : DE X e te) (hr : DA X es tl) (hs : starEach (e :: es) X.env = (false, eval e X.env) :: starEach es X.env := by rfl) : DA X (e :: es) (dCons te tl) where
  mono := fun hq h => ha.mono (fun d h => hr.mono (fun ds h => hq _ h) h) h
  pa := (pa_cons ha.pe hr.pa hs).imp fun σ H Q ⟨B, F, O, ρ, R, q⟩ => ⟨B, F, O, ρ, R, ha.mono (fun d h v H1 s1 r1 => ⟨B, F, O, ρ, R.same s1, hr.mono (fun ds h vs H2 s2 r2 =>
    h (v :: vs) H2 (s1.trans s2) (RpL.cons (r1.mono s2.mask) r2)) h⟩) q⟩
def dTup (tl : DTA) : DTE := fun ρ Q => tl ρ fun ds => ds.length ≤ sizeLine ∧ Q (.tup ds)
def dLst (tl : DTA) : DTE := fun ρ Q => tl ρ fun ds => ds.length ≤ sizeLine ∧ Q (.lst ds)
theorem mask_upd {O : List Addr} {H : Hp} {p : Addr} {o : HO} (hp : p ∉ O) : mask O (upd H p o) p = some o := by rw [mask_out hp, upd_same]
theorem de_lst (h : DA X es tl) : DE X (.List es pos) (dLst tl) where
  mono := fun hq z => h.mono (fun ds q => ⟨q.1, hq _ q.2⟩) z
  pe := (pe_lst h.pa).imp fun σ H Q ⟨B, F, O, ρ, R, q⟩ => ⟨B, F, O, ρ, R, h.mono (fun ds z vs H1 s1 r1 => ⟨by rw [r1.len]; exact z.1, fun p hp => by
    have np : p ∉ F ++ O := fun m => (R.same s1).th p m hp
    exact z.2 (.ref p) _ (s1.trans (Same.upd hp)) (rp_lstI ⟨p, vs, rfl, (mask_upd np), r1.mono (Same.upd hp).mask⟩)⟩) q⟩

abbrev DSp := List Dt → (Dt → Prop) → Prop
def lSp (K : PySem.W.Frag) (sp : DSp) : Sp := fun vs H Q _ => ∃ F ds, (∀ a ∈ F, H a ≠ none) ∧ RpL K (mask F H) ds vs ∧ sp ds fun d => ∀ v H', Same H H' → Rp K (mask F H') d v → Q v H'
def MonoSp (sp : DSp) : Prop := ∀ ds Q Q', (∀ d, Q d → Q' d) → sp ds Q → sp ds Q'
def dCall (sp : DSp) (tl : DTA) : DTE := fun ρ Q => tl ρ fun ds => sp ds Q
theorem de_call {CX : CXT} {k : Nat} {f : Addr} {fd : FuncData} {ps : List Str} {sp : DSp} {x : Str} {p : Pos} (m : MonoSp sp) (G : FnOk X.prog X.w X.K X.mg X.base CX0 k f fd ps (lSp X.K sp)) (hr : Room k X.A) (hg : Gl X x) (hm : X.mg x = some (.ref f))
    (hk : PySem.W.keepIn X.K (.ref f) = true) (hb : Binds X.K fd ps []) (ha : DA X (e :: es) tl) (hdb : (x == ("__debug__" : Str)) = false := by decide)
    (he : starEach (e :: es) X.env = (false, eval e X.env) :: starEach es X.env := by rfl) (hpl : (backTo pos (starEach es X.env)).any (·.1) = false := by rfl) : DE X (.Call (.Name x p) (e :: es) [] pos) (dCall sp tl) where
  mono := fun hq z => ha.mono (fun ds q => m _ _ _ hq q) z
  pe := (pe_call G hr hg hm hk hb .nil pass0 ha.pa hdb he hpl).imp fun σ H Q ⟨B, F, O, ρ, R, q⟩ => ⟨B, F, O, ρ, R, ha.mono (fun ds z vs H1 s1 r1 => by
    show lSp X.K sp (vs ++ []) H1 Q E0
    rw [List.append_nil]
    exact ⟨F ++ O, ds, (R.same s1).th, r1, m _ _ _ (fun d q v H2 s2 r2 => q v H2 (s1.trans s2) r2) z⟩) q⟩

variable {st : Stmt} {sts : List Stmt} {t u : DTS}
def dNext : DTS := fun D ρ => D.nx ρ
def dSeq (t u : DTS) : DTS := fun D ρ => t { D with nx := u D } ρ
theorem le_nx {D D' : DEnds} {P P' : DEnv → Prop} (h : DEnds.le D D') (hp : ∀ ρ, P ρ → P' ρ) : DEnds.le { D with nx := P } { D' with nx := P' } := ⟨hp, h.rt, h.bk, h.ct⟩
theorem dss_nil : DSs X [] dNext := ⟨fun hd h => hd.nx _ h, pss_nil.imp fun D σ H ⟨B, F, O, ρ, R, h⟩ => h O σ H R⟩
theorem dss_cons (h1 : DS X st t) (h2 : DSs X sts u) : DSs X (st :: sts) (dSeq t u) where
  mono := fun hd h => h1.mono (le_nx hd fun ρ q => h2.mono hd q) h
  ps := (pss_cons h1.ps h2.ps).imp fun D σ H ⟨B, F, O, ρ, R, h⟩ => ⟨B, F, O, ρ, R, h1.mono (D := { lD X.K B F D with nx := u (lD X.K B F D) }) ⟨fun ρ' q O' σ' H' R' => ⟨B, F, O', ρ', R', q⟩, fun _ q => q, fun _ q => q, fun _ q => q⟩ h⟩
theorem dss_one (h1 : DS X st t) : DSs X [st] t := ⟨h1.mono, pss_one h1.ps⟩
def dNever : DTS := fun _ _ => False
def dDrop (te : DTE) : DTS := fun D ρ => te ρ fun _ => D.nx ρ
def dRet (te : DTE) : DTS := fun D ρ => te ρ D.rt
theorem mask_app {F O : List Addr} {H : Hp} : Same (mask (F ++ O) H) (mask F H) := mask_sub fun _ h => List.mem_append_left _ h
theorem ds_ret (he : DE X e te) : DS X (.Return (some e) pos) (dRet te) where
  mono := fun hd h => he.mono (fun _ h => hd.rt _ h) h
  ps := (ps_ret he.pe).imp fun D σ H ⟨B, F, O, ρ, R, h⟩ => ⟨B, F, O, ρ, R, he.mono (fun d q v H1 s1 r1 => q v H1 (R.base.trans s1) (r1.mono mask_app)) h⟩
def dRetN : DTS := fun D _ => D.rt .non
def dIf (c : DTT) (t u : DTS) : DTS := fun D ρ => c ρ fun k => if k = true then t D ρ else u D ρ
theorem ds_if {sa sb : List Stmt} (hc : DT X c tA) (ha : DSs X sa t) (hb : DSs X sb u) : DS X (.If c sa sb pos) (dIf tA t u) where
  mono := fun hd h => hc.mono (fun k h => by
    cases k with
    | true => exact ha.mono hd h
    | false => exact hb.mono hd h) h
  ps := (ps_if hc.pt ha.ps hb.ps).imp fun D σ H ⟨B, F, O, ρ, R, h⟩ => ⟨B, F, O, ρ, R, hc.mono (fun k h H1 s1 => by
    cases k with
    | true => exact ⟨B, F, O, ρ, R.same s1, h⟩
    | false => exact ⟨B, F, O, ρ, R.same s1, h⟩) h⟩

abbrev DTG := Dt → DEnv → (DEnv → Prop) → Prop
abbrev DTGs := List Dt → DEnv → (DEnv → Prop) → Prop
def lG (K : PySem.W.Frag) (g : DTG) : TG := fun v σ H Q => ∃ B F O ρ d, Rep K B F O H σ ρ ∧ Rp K (mask (F ++ O) H) d v ∧ g d ρ fun ρ' => ∀ σ', Rep K B F O H σ' ρ' → Q σ' H
structure DG (X : Cx) (tg : Expr) (g : DTG) : Prop where
  mono : ∀ {d ρ Q Q'}, (∀ ρ', Q ρ' → Q' ρ') → g d ρ Q → g d ρ Q'
  pg : PG X tg (lG X.K g)
theorem PG.imp {e : Expr} {t t' : TG} (h : PG X e t) (i : ∀ v σ H Q, t' v σ H Q → t v σ H Q) : PG X e t' := fun pins s σ H v u Q I r q => h pins s σ H v u Q I r (i _ _ _ _ q)
def dgName (i : Nat) : DTG := fun d ρ Q => Q (ρ.set i (some (.is d)))
theorem dg_name (i : Nat) {x : Str} (hN : X.N.Nodup) (hi : X.N[i]? = some x := by rfl) (hx : Loc X.env.scope x := by first | exact Or.inl rfl | exact Or.inr rfl)
    (hf : X.fn x = true ∨ X.env.scope.names.lookup x = some .local := by first | exact .inl rfl | exact .inr rfl | assumption) : DG X (.Name x pos) (dgName i) where
  mono := fun hq h => hq _ h
  pg := (pg_name hN hi hx hf).imp fun v σ H Q ⟨B, F, O, ρ, d, R, r, h⟩ => h _ (R.set i r)
def dgNil : DTGs := fun ds ρ Q => match ds with
  | [] => Q ρ
  | _ => False
def dgCons (g : DTG) (gs : DTGs) : DTGs := fun ds ρ Q => match ds with
  | d :: r => g d ρ fun ρ' => gs r ρ' Q
  | [] => False
def dgTup (n : Nat) (gs : DTGs) : DTG := fun d ρ Q => match d with
  | .tup ds => ds.length = n ∧ gs ds ρ Q
  | _ => False
def dAsg (te : DTE) (g : DTG) : DTS := fun D ρ => te ρ fun d => g d ρ D.nx
def ItD (K : PySem.W.Frag) (M : Hp) (J : It) (items : List Dt) : Prop := ∀ H, Same M H →
  (∀ (k : Nat) d, items[k]? = some d → J.go k H ∧ ∀ x H', J.yld k H x H' → H' = H ∧ Rp K M d x) ∧ J.stop items.length H
abbrev DTI := DEnv → (List Dt → Prop) → Prop
def lI (K : PySem.W.Frag) (ti : DTI) : TI := fun σ H R => ∃ B F O ρ, Rep K B F O H σ ρ ∧ ti ρ fun items => ∀ J H', Same H H' → ItD K (mask (F ++ O) H') J items → R J H'
structure DI (X : Cx) (tg iter : Expr) (ti : DTI) : Prop where
  mono : ∀ {ρ Q Q'}, (∀ d, Q d → Q' d) → ti ρ Q → ti ρ Q'
  pi : PI X tg iter (lI X.K ti)
theorem PI.imp {tg e : Expr} {t t' : TI} (h : PI X tg e t) (i : ∀ σ H Q, t' σ H Q → t σ H Q) : PI X tg e t' := fun pins s σ H R I q => h pins s σ H R I (i _ _ _ q)
def dFor (ti : DTI) (g : DTG) (tb : DTS) : DTS := fun D ρ => ti ρ fun items => ∃ W : Nat → DEnv → Prop, W 0 ρ ∧
  (∀ (k : Nat) d ρ', items[k]? = some d → W k ρ' → g d ρ' fun ρ2 => tb { D with nx := W (k + 1), ct := W (k + 1), bk := D.nx } ρ2) ∧ ∀ ρ', W items.length ρ' → D.nx ρ'
theorem Rep.rebase {K : PySem.W.Frag} {B : Hp} {F O : List Addr} {H : Hp} {σ : St} {ρ : DEnv} (r : Rep K B F O H σ ρ) : Rep K (mask O H) F O H σ ρ :=
  ⟨r.len, mask_le, fun _ h => mask_in h, r.th, r.is, r.own, r.inj, r.tab, r.tinj, r.raw⟩
theorem Rep.unbase {K : PySem.W.Frag} {B B' : Hp} {F O O' : List Addr} {H H' : Hp} {σ σ' : St} {ρ ρ' : DEnv} (r : Rep K B F O H σ ρ) (r' : Rep K (mask O H) F O' H' σ' ρ') : Rep K B F O' H' σ' ρ' := by
  have s : Same B (mask O H) := fun a o e => by
    rw [mask_out]
    · exact r.base a o e
    · intro z; rw [r.fr a z] at e; cases e
  refine ⟨r'.len, s.trans r'.base, fun a h => ?_, r'.th, r'.is, r'.own, r'.inj, r'.tab, r'.tinj, r'.raw⟩
  cases q : B a with
  | none => rfl
  | some o => have := s a o q; rw [r'.fr a h] at this; cases this
theorem Rep.sub {K : PySem.W.Frag} {B : Hp} {F O : List Addr} {H : Hp} {σ : St} {ρ : DEnv} (r : Rep K B F O H σ ρ) : Same B (mask O H) := fun a o e => by
  rw [mask_out]
  · exact r.base a o e
  · intro z; rw [r.fr a z] at e; cases e
theorem mask_mask {F O : List Addr} {H : Hp} : mask F (mask O H) = mask (F ++ O) H := by
  funext a
  by_cases h1 : a ∈ F
  · rw [mask_in h1, mask_in (List.mem_append_left _ h1)]
  · rw [mask_out h1]
    by_cases h2 : a ∈ O
    · rw [mask_in h2, mask_in (List.mem_append_right _ h2)]
    · rw [mask_out h2, mask_out fun z => (List.mem_append.mp z).elim h1 h2]
theorem ds_for {tg iter : Expr} {body : List Stmt} {ti : DTI} {g : DTG} (hp : PassesOwn (model X.prog X.w) X.A X.env X.xe) (hc : X.calm = true) (hi : DI X tg iter ti) (hg : DG X tg g) (hb : DSs X body t)
    (hs : ∀ x, foldedSetIterable iter X.env x = pure x := by intro _; rfl) : DS X (.For tg iter body [] pos) (dFor ti g t) where
  mono := fun {ρ D D'} hd h => hi.mono (fun items ⟨W, h0, h, he⟩ => ⟨W, h0, fun k d ρ' e w => hg.mono (fun ρ2 q => hb.mono (D := { D with nx := W (k + 1), ct := W (k + 1), bk := D.nx }) ⟨fun _ q => q, hd.rt, hd.nx, fun _ q => q⟩ q) (h k d ρ' e w), fun ρ' w => hd.nx _ (he ρ' w)⟩) h
  ps := (ps_for hp hc hi.pi hg.pg hb.ps hs).imp fun D σ H ⟨B, F, O, ρ, R, h⟩ => by
    refine ⟨B, F, O, ρ, R, hi.mono (fun items z J H1 s1 it => ?_) h⟩
    obtain ⟨W, h0, h, he⟩ := z
    have R1 := R.same s1
    refine ⟨fun i m σ H => m + i = items.length ∧ ∃ O' ρ', Rep X.K (mask O H1) F O' H σ ρ' ∧ W i ρ', ⟨items.length, by omega, O, ρ, R1.rebase, h0⟩, ?_⟩
    rintro i m σ2 H2 ⟨hm, O', ρ', R2, w⟩
    have sb : Same (mask (F ++ O) H1) H2 := fun a o e => R2.base a o (by
      obtain ⟨q, e⟩ := mask_some e
      rw [mask_out fun z => q (List.mem_append_right _ z)]; exact e)
    obtain ⟨go, stop⟩ := it H2 sb
    by_cases hlt : i < items.length
    · refine .inr ⟨(go i items[i] (by simp [hlt])).1, fun σ' H' => ∃ O' ρ', Rep X.K (mask O H1) F O' H' σ' ρ' ∧ W (i + 1) ρ', fun σ' H' q => ⟨m - 1, by omega, by omega, q⟩, fun x H3 y => ?_⟩
      obtain ⟨e, r⟩ := (go i items[i] (by simp [hlt])).2 x H3 y
      subst e
      have r' : Rp X.K (mask (F ++ O') H3) items[i] x := r.mono (by rw [← mask_mask]; exact R2.below)
      refine ⟨_, F, O', ρ', _, R2, r', hg.mono (fun ρ2 q σ3 R3 => ⟨_, F, O', ρ2, R3, hb.mono (D := { lD X.K B F D with nx := W (i + 1), ct := W (i + 1), bk := (lD X.K B F D).nx }) ⟨?_, ?_, ?_, ?_⟩ q⟩) (h i _ ρ' (by simp [hlt]) w)⟩
      · exact fun ρ4 w4 O4 σ4 H4 R4 => ⟨O4, ρ4, R4, w4⟩
      · exact fun d q v H4 s4 r4 => q v H4 (R1.sub.trans s4) r4
      · exact fun ρ4 q O4 σ4 H4 R4 => q O4 σ4 H4 (R1.unbase (B' := B) R4)
      · exact fun ρ4 w4 O4 σ4 H4 R4 => ⟨O4, ρ4, R4, w4⟩
    · have e : i = items.length := by omega
      subst e
      exact .inl ⟨stop, he ρ' w O' σ2 H2 (R1.unbase (B' := B) R2)⟩
def diSeq (te : DTE) : DTI := fun ρ Q => te ρ fun d => match d with
  | .lst ds => Q ds
  | _ => False
def diTup (te : DTE) : DTI := fun ρ Q => te ρ fun d => match d with
  | .tup ds => Q ds
  | _ => False
theorem di_lst {tg : Expr} (h : DE X e te) : DI X tg e (diSeq te) where
  mono := fun hq z => h.mono (fun d z => by
    split at z
    · exact hq _ z
    · exact z.elim) z
  pi := (pi_list h.pe).imp fun σ H Q ⟨B, F, O, ρ, R, z⟩ => ⟨B, F, O, ρ, R, h.mono (fun d z v H1 s1 r1 => by
    split at z
    · obtain ⟨a, xs, rfl, hs, hl⟩ := rp_lstE r1
      refine ⟨a, rfl, ⟨xs, mask_le.seq hs⟩, z _ H1 s1 fun H2 s2 => ⟨fun k d e => ?_, xs, s2.seq hs, by rw [hl.len]; exact Nat.le_refl _⟩⟩
      obtain ⟨x, e1, e2⟩ := hl.get e
      refine ⟨⟨xs, x, s2.seq hs, e1⟩, fun y H3 ⟨e3, e4⟩ => ⟨e3, ?_⟩⟩
      have e5 := e4 xs (s2.seq hs)
      rw [e1] at e5; cases e5; exact e2
    · exact z.elim) z⟩
def ups (lo : Int) (n : Nat) : List Dt := (List.range n).map fun i => .int (lo + (i : Nat))
theorem ups_len {lo : Int} {n : Nat} : (ups lo n).length = n := by simp [ups]
theorem ups_get {lo : Int} {n k : Nat} {d : Dt} (h : (ups lo n)[k]? = some d) : k < n ∧ d = .int (lo + (k : Nat)) := by
  unfold ups at h
  rw [List.getElem?_map] at h
  by_cases hk : k < n
  · rw [List.getElem?_range hk] at h
    exact ⟨hk, (Option.some.inj h).symm⟩
  · rw [List.getElem?_eq_none (by simpa using hk)] at h; cases h
theorem itd_range {K : PySem.W.Frag} {M : Hp} {lo : Int} {n : Nat} : ItD K M (Itr lo n) (ups lo n) := fun H _ => by
  refine ⟨fun k d e => ?_, ?_⟩
  · obtain ⟨hk, rfl⟩ := ups_get e
    exact ⟨hk, fun x H' y => ⟨y.1, rp_int.mpr y.2⟩⟩
  · rw [ups_len]; exact Nat.le_refl n
def diRng1 (tl : DTA) : DTI := fun ρ Q => tl ρ fun ds => match ds with
  | [.int j] => (-(2 ^ 62) ≤ j ∧ j < 2 ^ 62) ∧ Q (ups 0 j.toNat)
  | _ => False
def diRng2 (tl : DTA) : DTI := fun ρ Q => tl ρ fun ds => match ds with
  | [.int i, .int j] => (-(2 ^ 62) ≤ i ∧ i < 2 ^ 62 ∧ -(2 ^ 62) ≤ j ∧ j < 2 ^ 62) ∧ Q (ups i (j - i).toNat)
  | _ => False
theorem di_rng1 {tg : Expr} {p : Pos} (hg : Gl X "range") (hm : X.mg "range" = none) (ha : DA X [a] tl) (hs : starEach [a] X.env = [(false, eval a X.env)] := by rfl) : DI X tg (.Call (.Name "range" p) [a] [] pos) (diRng1 tl) where
  mono := fun hq z => ha.mono (fun d z => by
    split at z
    · exact ⟨z.1, hq _ z.2⟩
    · exact z.elim) z
  pi := (pi_range1 hg hm ha.pa hs).imp fun σ H Q ⟨B, F, O, ρ, R, z⟩ => ⟨B, F, O, ρ, R, ha.mono (fun d z vs H1 s1 r1 => by
    split at z
    · obtain ⟨v, r, rfl, r2, r3⟩ := rpl_cons.mp r1
      rw [rpl_nil.mp r3, rp_int.mp r2]
      exact ⟨_, rfl, z.1.1, z.1.2, z.2 _ H1 s1 itd_range⟩
    · exact z.elim) z⟩
end

def dstart (N : List Str) (ds : List Dt) : DEnv := ds.map (fun d => some (.is d)) ++ List.replicate (N.length - ds.length) none
theorem rep_start {K : PySem.W.Frag} {F : List Addr} {H : Hp} {N : List Str} {ds : List Dt} {vs : List V} (hF : ∀ a ∈ F, H a ≠ none) (r : RpL K (mask F H) ds vs) : Rep K H F [] H (start N vs) (dstart N ds) := by
  have hl := r.len
  have noown : ∀ (i : Nat) (es : En), (∀ z, es ≠ .is z) → (dstart N ds)[i]? = some (some es) → False := fun i es nz e => by
    unfold dstart at e
    by_cases hi : i < ds.length
    · rw [List.getElem?_append_left (by simpa using hi), List.getElem?_map] at e
      cases q : ds[i]? with
      | none => rw [q] at e; cases e
      | some d => rw [q] at e; cases e; exact nz d rfl
    · rw [List.getElem?_append_right (by simpa using hi), List.getElem?_replicate] at e
      split at e <;> cases e
  refine ⟨?_, Same.refl H, fun a h => (nomatch h), fun a h => hF a (by simpa using h), fun i d e => ?_, fun i es e => (noown i _ (fun _ z => by cases z) e).elim, fun i j es es' a h1 => (noown i _ (fun _ z => by cases z) h1).elim, fun i es e => (noown i _ (fun _ z => by cases z) e).elim, fun i j es es' a h1 => (noown i _ (fun _ z => by cases z) h1).elim, fun i v e => (noown i _ (fun _ z => by cases z) e).elim⟩
  · unfold start dstart; simp [hl]
  · unfold dstart at e
    by_cases hi : i < ds.length
    · rw [List.getElem?_append_left (by simpa using hi), List.getElem?_map] at e
      cases q : ds[i]? with
      | none => rw [q] at e; cases e
      | some d' =>
        rw [q] at e; cases e
        obtain ⟨v, e1, e2⟩ := r.get q
        refine ⟨v, ?_, by rw [List.append_nil]; exact e2⟩
        unfold start
        rw [List.getElem?_append_left (by simp; omega), List.getElem?_map, e1]; rfl
    · rw [List.getElem?_append_right (by simpa using hi), List.getElem?_replicate] at e
      split at e <;> cases e
section
variable {P : Program} {w : World} {K : PySem.W.Frag} {mg : Str → Option Value} {base : Heap}
theorem Fun.okD {x qual : Str} {st : Stmt} {f : Addr} {fd : FuncData} {N ps : List Str} {k : Nat} {sp : DSp} (F : Fun K x qual st f fd) (S : FnScope N ps (defScope st)) (len : ∀ ds Q, sp ds Q → ds.length = ps.length)
    (hbody : ∀ (cdv : Value) (A : Around) (outer : List Env) (s : Shared) (H : Hp) (E : XK), Room k (A.deeper (envOfC qual (defScope st) s.heap.objs.size f cdv)) →
      ∃ t, DSs (cxOf CX0 P w K mg base N qual (defScope st) f cdv A outer s H E).nox (defBody st) t ∧ ∀ ds Q, sp ds Q → t { nx := fun _ => Q .non, rt := Q } (dstart N ds)) : FnOk P w K mg base CX0 (k + 1) f fd ps (lSp K sp) := by
  refine F.ok S (fun vs H Q E ⟨F, ds, _, r, h⟩ => by rw [r.len]; exact len _ _ h) fun cdv A outer s H vs Q E hr ⟨F', ds, hF, r, h⟩ => ?_
  obtain ⟨t, T, q⟩ := hbody cdv A outer s H E hr
  refine ⟨_, T.ps, H, F', [], dstart N ds, rep_start hF r, T.mono (D := { nx := fun _ => ∀ v H', Same H H' → Rp K (mask F' H') .non v → Q v H', rt := fun d => ∀ v H', Same H H' → Rp K (mask F' H') d v → Q v H' }) ⟨?_, ?_, fun _ z => False.elim z, fun _ z => False.elim z⟩ (q ds _ h)⟩
  · exact fun ρ z O' σ' H' R' => z .non H' R'.base (rp_non.mpr rfl)
  · exact fun d z v H' s' r' => z v H' s' r'
end
end L2

namespace L2
open PySem PySem.Spec PyProof.Rows PySem.SeqAt

structure FnT (K : PySem.W.Frag) (mg : Str → Option Value) (x : Str) (st : Stmt) (ps : List Str) (f : Addr) (fd : FuncData) : Prop where
  fn : Fun K x x st f fd
  mg : mg x = some (.ref f)
  bd : Binds K fd ps []
def Pm (P : Program) (w : World) (K : PySem.W.Frag) (mg : Str → Option Value) (base : Heap) (k : Nat) (x : Str) (st : Stmt) (ps : List Str) (sp : DSp) : Prop :=
  ∃ f fd, FnT K mg x st ps f fd ∧ FnOk P w K mg base CX0 k f fd ps (lSp K sp)
theorem Fun.uniq {K : PySem.W.Frag} {x q : Str} {st : Stmt} {f : Addr} {fd fd' : FuncData} (a : Fun K x q st f fd) (b : Fun K x q st f fd') : fd = fd' := by
  obtain ⟨oc, od, kV, doc, pm, an, cdv, ct, osl, _, h1, _⟩ := a.ex
  obtain ⟨oc', od', kV', doc', pm', an', cdv', ct', osl', _, h2, _⟩ := b.ex
  rw [h1] at h2
  injection h2 with h2
  injection h2 with _ _ h2 _
  injection h2
def spec {τ : Type} (args : τ → List Dt) (pre : τ → Prop) (post : τ → Dt → Prop) : DSp := fun ds Q => ∃ p, ds = args p ∧ pre p ∧ ∀ d, post p d → Q d
theorem spec_mono {τ : Type} {args : τ → List Dt} {pre : τ → Prop} {post : τ → Dt → Prop} : MonoSp (spec args pre post) := fun _ _ _ hq ⟨p, e, h, q⟩ => ⟨p, e, h, fun d z => hq _ (q d z)⟩
abbrev specF {τ : Type} (args : τ → List Dt) (pre : τ → Prop) (val : τ → Dt) : DSp := spec args pre fun p d => d = val p
abbrev T2 (a b : Int) : Dt := .tup [.int a, .int b]
abbrev T3 (a b c : Int) : Dt := .tup [.int a, .int b, .int c]
abbrev T4 (a b c d : Int) : Dt := .tup [.int a, .int b, .int c, .int d]
def spLaw : DSp := spec (fun ns : List Int => [.lst (ns.map Dt.int)]) (fun ns => ns.length ≤ 63) fun _ d => d = .bl true
section
variable {X : Cx} {a b c e : Expr} {es : List Expr} {ta tb tc te : DTE} {tA tB : DTT} {tl : DTA} {pos : Pos}
theorem de_callP {k : Nat} {ps : List Str} {sp : DSp} {x : Str} {stx : Stmt} {p : Pos} (m : MonoSp sp) (G : Pm X.prog X.w X.K X.mg X.base k x stx ps sp) (hr : Room k X.A) (hg : Gl X x)
    (ha : DA X (e :: es) tl) (hdb : (x == ("__debug__" : Str)) = false := by decide)
    (he : starEach (e :: es) X.env = (false, eval e X.env) :: starEach es X.env := by rfl) (hpl : (backTo pos (starEach es X.env)).any (·.1) = false := by rfl) : DE X (.Call (.Name x p) (e :: es) [] pos) (dCall sp tl) := by
  obtain ⟨f, fd, F, G⟩ := G
  exact de_call (CX := CX0) m G hr hg F.mg F.fn.kp F.bd ha hdb he hpl

theorem ds_set (i : Nat) {x : Str} {pos' : Pos} (hN : X.N.Nodup) (he : DE X e te) (hi : X.N[i]? = some x := by rfl) (hx : Loc X.env.scope x := by first | exact Or.inl rfl | exact Or.inr rfl) (hs : swapsWith e (some (.Name x pos')) pos.line X.env = pure false := by rfl)
    (hf : X.fn x = true ∨ X.env.scope.names.lookup x = some .local := by first | exact .inl rfl | exact .inr rfl | assumption) : DS X (.Assign [.Name x pos'] e pos) (dAsg te (dgName i)) where
  mono := fun hd h => he.mono (fun _ h => hd.nx _ h) h
  ps := (ps_set hN hi hx he.pe hs hf).imp fun D σ H ⟨B, F, O, ρ, R, h⟩ => ⟨B, F, O, ρ, R, he.mono (fun d q v H1 s1 r1 => q O _ H1 ((R.same s1).set i r1)) h⟩
def dPar2 (i j : Nat) (tl : DTA) : DTS := fun D ρ => tl ρ fun ds => match ds with
  | [d, e] => D.nx ((ρ.set i (some (.is d))).set j (some (.is e)))
  | _ => False
mutual
def Dt.py : Dt → PyData
  | .non => .none
  | .bl b => .bool b
  | .int i => .int i
  | .str x => .str x
  | .tup ds => .tuple (Dt.pys ds)
  | .lst ds => .list (Dt.pys ds)
  | .fn _ => .dict []
  | .exc _ _ _ => .dict []
  | .obj _ _ _ => .dict []
def Dt.pys : List Dt → List PyData
  | [] => []
  | d :: ds => d.py :: Dt.pys ds
end
mutual
theorem reads_of {X : Cx} {pins : List (Addr × Obj)} {σ : St} {H : Hp} {s : Shared} (I : Inv X pins σ H s) : ∀ {d : Dt} {v : V} {u : Value}, d.py.canLay0 = true → Rp X.K H d v → RelV v u → ∃ as, Reads s.heap u d.py as
  | .non, v, u, _, h, r => by rw [rp_non.mp h] at r; cases (show u = .none from r); exact ⟨_, by rw [Dt.py]; exact .none⟩
  | .bl b, v, u, _, h, r => by rw [rp_bl.mp h] at r; cases (show u = .bool b from r); exact ⟨_, by rw [Dt.py]; exact .bool b⟩
  | .int i, v, u, _, h, r => by rw [rp_int.mp h] at r; obtain ⟨t, rfl⟩ := r; exact ⟨_, by rw [Dt.py]; exact .int i t⟩
  | .str x, v, u, _, h, r => by rw [rp_str.mp h] at r; obtain ⟨t, rfl⟩ := r; exact ⟨_, by rw [Dt.py]; exact .str x t⟩
  | .fn a, v, u, c, h, r => by rw [Dt.py] at c; exact (nomatch c)
  | .exc _ _ _, v, u, c, h, r => by rw [Dt.py] at c; exact (nomatch c)
  | .obj _ _ _, v, u, c, h, r => by rw [Dt.py] at c; exact (nomatch c)
  | .tup ds, v, u, c, h, r => by
    obtain ⟨a, xs, rfl, hs, hl⟩ := rp_tup.mp h
    cases (show u = .ref a from r)
    obtain ⟨its, rv, ⟨o, h1, h2, n, h3⟩, _⟩ := I.tuple hs
    rw [Dt.py] at c
    obtain ⟨as, ra⟩ := readsL_of I (ds := ds) (by simpa [PyData.canLay0] using c) hl rv
    exact ⟨_, by rw [Dt.py]; exact .tuple h1 h2 h3 (by simpa using ra)⟩
  | .lst ds, v, u, c, h, r => by
    obtain ⟨a, xs, rfl, hs, hl⟩ := rp_lstE h
    cases (show u = .ref a from r)
    obtain ⟨its, rv, ⟨o, n, h1, h2, _, h3⟩, _⟩ := I.list hs
    rw [Dt.py] at c
    obtain ⟨as, ra⟩ := readsL_of I (ds := ds) (by simpa [PyData.canLay0] using c) hl rv
    exact ⟨_, by rw [Dt.py]; exact .list h1 h2 h3 (by simpa using ra)⟩
theorem readsL_of {X : Cx} {pins : List (Addr × Obj)} {σ : St} {H : Hp} {s : Shared} (I : Inv X pins σ H s) : ∀ {ds : List Dt} {vs : List V} {us : List Value}, PyData.canLayAll0 (Dt.pys ds) = true → RpL X.K H ds vs → Vals vs us → ∃ as, ReadsAll s.heap us (Dt.pys ds) as
  | [], vs, us, _, h, r => by rw [rpl_nil.mp h] at r; cases r; exact ⟨_, by rw [Dt.pys]; exact .nil⟩
  | d :: ds, vs, us, c, h, r => by
    obtain ⟨v, vr, rfl, h1, h2⟩ := rpl_cons.mp h
    rw [Dt.pys] at c
    have c' : d.py.canLay0 = true ∧ PyData.canLayAll0 (Dt.pys ds) = true := by simpa [PyData.canLayAll0] using c
    cases r with
    | cons r1 r2 =>
      obtain ⟨as, ra⟩ := reads_of I c'.1 h1 r1
      obtain ⟨bs, rb⟩ := readsL_of I c'.2 h2 r2
      exact ⟨_, by rw [Dt.pys]; exact .cons ra rb⟩
end
mutual
def Dt.eq : Dt → Dt → Bool
  | .non, .non => true
  | .bl a, .bl b => a == b
  | .bl a, .int j => (if a then 1 else 0) == j
  | .int i, .bl b => i == (if b then 1 else 0)
  | .int i, .int j => decide (i = j)
  | .str x, .str y => x == y
  | .tup xs, .tup ys => Dt.eqs xs ys
  | .lst xs, .lst ys => Dt.eqs xs ys
  | _, _ => false
def Dt.eqs : List Dt → List Dt → Bool
  | [], [] => true
  | x :: xs, y :: ys => Dt.eq x y && Dt.eqs xs ys
  | _, _ => false
end
mutual
def Dt.flat : Nat → Dt → Bool
  | _, .fn _ => false
  | _, .exc _ _ _ => false
  | _, .obj _ _ _ => false
  | _, .str x => (PyData.str x).canLay0
  | 0, .tup _ => false
  | 0, .lst _ => false
  | n + 1, .tup ds => Dt.flats n ds
  | n + 1, .lst ds => Dt.flats n ds
  | _, _ => true
def Dt.flats : Nat → List Dt → Bool
  | _, [] => true
  | n, d :: ds => Dt.flat n d && Dt.flats n ds
end
mutual
theorem flat_lay : ∀ (d : Dt) (n : Nat), d.flat n = true → d.py.canLay0 = true ∧ d.py.depth ≤ n
  | .non, n, h => by rw [Dt.py]; exact ⟨rfl, Nat.zero_le _⟩
  | .bl _, n, h => by rw [Dt.py]; exact ⟨rfl, Nat.zero_le _⟩
  | .int _, n, h => by rw [Dt.py]; exact ⟨rfl, Nat.zero_le _⟩
  | .str _, n, h => by rw [Dt.py]; exact ⟨by simpa [Dt.flat] using h, Nat.zero_le _⟩
  | .fn _, n, h => by simp [Dt.flat] at h
  | .exc _ _ _, n, h => by simp [Dt.flat] at h
  | .obj _ _ _, n, h => by simp [Dt.flat] at h
  | .tup ds, 0, h => by simp [Dt.flat] at h
  | .lst ds, 0, h => by simp [Dt.flat] at h
  | .tup ds, n + 1, h => by
    have := flats_lay ds n (by simpa [Dt.flat] using h)
    rw [Dt.py]
    exact ⟨by simpa [PyData.canLay0] using this.1, by simpa [PyData.depth] using this.2⟩
  | .lst ds, n + 1, h => by
    have := flats_lay ds n (by simpa [Dt.flat] using h)
    rw [Dt.py]
    exact ⟨by simpa [PyData.canLay0] using this.1, by simpa [PyData.depth] using this.2⟩
theorem flats_lay : ∀ (ds : List Dt) (n : Nat), Dt.flats n ds = true → PyData.canLayAll0 (Dt.pys ds) = true ∧ PyData.depthAll (Dt.pys ds) ≤ n
  | [], n, h => by rw [Dt.pys]; exact ⟨rfl, Nat.zero_le _⟩
  | d :: ds, n, h => by
    have h' : d.flat n = true ∧ Dt.flats n ds = true := by simpa [Dt.flats] using h
    have h1 := flat_lay d n h'.1
    have h2 := flats_lay ds n h'.2
    rw [Dt.pys]
    exact ⟨by simp [PyData.canLayAll0, h1.1, h2.1], by simp only [PyData.depthAll]; omega⟩
end
mutual
theorem eq_eqv : ∀ (a b : Dt), a.py.canLay0 = true → b.py.canLay0 = true → PyData.eqv a.py b.py = a.eq b
  | .fn _, b, h, _ => by rw [Dt.py] at h; exact (nomatch h)
  | .exc _ _ _, b, h, _ => by rw [Dt.py] at h; exact (nomatch h)
  | .obj _ _ _, b, h, _ => by rw [Dt.py] at h; exact (nomatch h)
  | a, .fn _, _, h => by rw [Dt.py] at h; exact (nomatch h)
  | a, .exc _ _ _, _, h => by rw [Dt.py] at h; exact (nomatch h)
  | a, .obj _ _ _, _, h => by rw [Dt.py] at h; exact (nomatch h)
  | .non, .non, _, _ => by simp [Dt.py, Dt.eq, PyData.eqv]
  | .non, .bl _, _, _ => by simp [Dt.py, Dt.eq, PyData.eqv]
  | .non, .int _, _, _ => by simp [Dt.py, Dt.eq, PyData.eqv]
  | .non, .str _, _, _ => by simp [Dt.py, Dt.eq, PyData.eqv]
  | .non, .tup _, _, _ => by simp [Dt.py, Dt.eq, PyData.eqv]
  | .non, .lst _, _, _ => by simp [Dt.py, Dt.eq, PyData.eqv]
  | .bl _, .non, _, _ => by simp [Dt.py, Dt.eq, PyData.eqv]
  | .bl _, .bl _, _, _ => by simp [Dt.py, Dt.eq, PyData.eqv]
  | .bl _, .int _, _, _ => by simp [Dt.py, Dt.eq, PyData.eqv]
  | .bl _, .str _, _, _ => by simp [Dt.py, Dt.eq, PyData.eqv]
  | .bl _, .tup _, _, _ => by simp [Dt.py, Dt.eq, PyData.eqv]
  | .bl _, .lst _, _, _ => by simp [Dt.py, Dt.eq, PyData.eqv]
  | .int _, .non, _, _ => by simp [Dt.py, Dt.eq, PyData.eqv]
  | .int _, .bl _, _, _ => by simp [Dt.py, Dt.eq, PyData.eqv]
  | .int i, .int j, _, _ => by
    simp only [Dt.py, Dt.eq, PyData.eqv]
    exact Bool.beq_eq_decide_eq i j
  | .int _, .str _, _, _ => by simp [Dt.py, Dt.eq, PyData.eqv]
  | .int _, .tup _, _, _ => by simp [Dt.py, Dt.eq, PyData.eqv]
  | .int _, .lst _, _, _ => by simp [Dt.py, Dt.eq, PyData.eqv]
  | .str _, .non, _, _ => by simp [Dt.py, Dt.eq, PyData.eqv]
  | .str _, .bl _, _, _ => by simp [Dt.py, Dt.eq, PyData.eqv]
  | .str _, .int _, _, _ => by simp [Dt.py, Dt.eq, PyData.eqv]
  | .str _, .str _, _, _ => by simp [Dt.py, Dt.eq, PyData.eqv]
  | .str _, .tup _, _, _ => by simp [Dt.py, Dt.eq, PyData.eqv]
  | .str _, .lst _, _, _ => by simp [Dt.py, Dt.eq, PyData.eqv]
  | .tup _, .non, _, _ => by simp [Dt.py, Dt.eq, PyData.eqv]
  | .tup _, .bl _, _, _ => by simp [Dt.py, Dt.eq, PyData.eqv]
  | .tup _, .int _, _, _ => by simp [Dt.py, Dt.eq, PyData.eqv]
  | .tup _, .str _, _, _ => by simp [Dt.py, Dt.eq, PyData.eqv]
  | .tup xs, .tup ys, h1, h2 => by
    rw [Dt.py] at h1 h2
    rw [Dt.py, Dt.py, Dt.eq, PyData.eqv]
    exact eqs_eqv xs ys (by simpa [PyData.canLay0] using h1) (by simpa [PyData.canLay0] using h2)
  | .tup _, .lst _, _, _ => by simp [Dt.py, Dt.eq, PyData.eqv]
  | .lst _, .non, _, _ => by simp [Dt.py, Dt.eq, PyData.eqv]
  | .lst _, .bl _, _, _ => by simp [Dt.py, Dt.eq, PyData.eqv]
  | .lst _, .int _, _, _ => by simp [Dt.py, Dt.eq, PyData.eqv]
  | .lst _, .str _, _, _ => by simp [Dt.py, Dt.eq, PyData.eqv]
  | .lst _, .tup _, _, _ => by simp [Dt.py, Dt.eq, PyData.eqv]
  | .lst xs, .lst ys, h1, h2 => by
    rw [Dt.py] at h1 h2
    rw [Dt.py, Dt.py, Dt.eq, PyData.eqv]
    exact eqs_eqv xs ys (by simpa [PyData.canLay0] using h1) (by simpa [PyData.canLay0] using h2)
theorem eqs_eqv : ∀ (xs ys : List Dt), PyData.canLayAll0 (Dt.pys xs) = true → PyData.canLayAll0 (Dt.pys ys) = true → PyData.eqvAll (Dt.pys xs) (Dt.pys ys) = Dt.eqs xs ys
  | [], [], _, _ => by simp [Dt.pys, Dt.eqs, PyData.eqvAll]
  | [], _ :: _, _, _ => by simp [Dt.pys, Dt.eqs, PyData.eqvAll]
  | _ :: _, [], _, _ => by simp [Dt.pys, Dt.eqs, PyData.eqvAll]
  | x :: xs, y :: ys, h1, h2 => by
    rw [Dt.pys] at h1 h2
    have h1' : x.py.canLay0 = true ∧ PyData.canLayAll0 (Dt.pys xs) = true := by simpa [PyData.canLayAll0] using h1
    have h2' : y.py.canLay0 = true ∧ PyData.canLayAll0 (Dt.pys ys) = true := by simpa [PyData.canLayAll0] using h2
    rw [Dt.pys, Dt.pys, Dt.eqs, PyData.eqvAll, eq_eqv x y h1'.1 h2'.1, eqs_eqv xs ys h1'.2 h2'.2]
end
def rEqD (K : PySem.W.Frag) (neg : Bool) : R2 := fun x y H Q => ∃ a b, Rp K H a x ∧ Rp K H b y ∧ a.flat 8 = true ∧ b.flat 8 = true ∧ Q (.bl (if neg then !a.eq b else a.eq b)) H
theorem op_eqD (hu : X.A.units + 64 < cLine) : OpR X (compareOp .Eq) (rEqD X.K false) := by
  intro pins s σ H x y v u Q I rx ry ⟨a, b, ra, rb, fa, fb, q⟩
  obtain ⟨ca, da⟩ := flat_lay a 8 fa
  obtain ⟨cb, db⟩ := flat_lay b 8 fb
  obtain ⟨as, r1⟩ := reads_of I ca ra rx
  obtain ⟨bs, r2⟩ := reads_of I cb rb ry
  refine rcAt_reads r1 r2 ca cb (by omega) _ _ _ _ ?_
  rw [eq_eqv a b ca cb]
  exact ⟨.bl _, H, I, rfl, q⟩
theorem op_neD (hu : X.A.units + 64 < cLine) : OpR X (compareOp .NotEq) (rEqD X.K true) := by
  intro pins s σ H x y v u Q I rx ry ⟨a, b, ra, rb, fa, fb, q⟩
  obtain ⟨ca, da⟩ := flat_lay a 8 fa
  obtain ⟨cb, db⟩ := flat_lay b 8 fb
  obtain ⟨as, r1⟩ := reads_of I ca ra rx
  obtain ⟨bs, r2⟩ := reads_of I cb rb ry
  refine compareNe_reads r1 r2 ca cb (by omega) ?_
  rw [eq_eqv a b ca cb]
  exact ⟨.bl _, H, I, rfl, q⟩
def dEq : D2 := fun a b Q => (a.flat 8 = true ∧ b.flat 8 = true) ∧ Q (.bl (a.eq b))
def dNe : D2 := fun a b Q => (a.flat 8 = true ∧ b.flat 8 = true) ∧ Q (.bl (!a.eq b))
theorem sem_eq {K : PySem.W.Frag} : Sem2 K (rEqD K false) dEq := ⟨fun hq h => ⟨h.1, hq _ h.2⟩, fun O H a b x y Q _ ra rb h => ⟨a, b, ra.mono mask_le, rb.mono mask_le, h.1.1, h.1.2, h.2 _ H (Same.refl H) (rp_bl.mpr rfl)⟩⟩
theorem sem_ne {K : PySem.W.Frag} : Sem2 K (rEqD K true) dNe := ⟨fun hq h => ⟨h.1, hq _ h.2⟩, fun O H a b x y Q _ ra rb h => ⟨a, b, ra.mono mask_le, rb.mono mask_le, h.1.1, h.1.2, h.2 _ H (Same.refl H) (rp_bl.mpr rfl)⟩⟩
theorem de_eq (hu : X.A.units + 64 < cLine) (ha : DE X a ta) (hb : DE X b tb) : DE X (.Compare a [.Eq] [b] pos) (dOp dEq ta tb) := de_cmp (op_eqD hu) sem_eq ha hb (nomark _)
theorem dt_eq (hu : X.A.units + 64 < cLine) (ha : DE X a ta) (hb : DE X b tb) : DT X (.Compare a [.Eq] [b] pos) (dTst (dOp dEq ta tb)) := dt_cmp (op_eqD hu) sem_eq ha hb (nomark _)
theorem dt_ne (hu : X.A.units + 64 < cLine) (ha : DE X a ta) (hb : DE X b tb) : DT X (.Compare a [.NotEq] [b] pos) (dTst (dOp dNe ta tb)) := dt_cmp (op_neD hu) sem_ne ha hb (nomark _)

def isB (k : Bool) : Dt → Bool
  | .bl b => b == k
  | _ => false
def isN : Dt → Bool
  | .non => true
  | _ => false
def dIs (neg : Bool) : D2 := fun a b Q => match b with
  | .bl k => Q (.bl (if neg then !isB k a else isB k a))
  | .non => Q (.bl (if neg then !isN a else isN a))
  | _ => False
def dChain (t t' : D2) (ta tb tc : DTE) : DTE := fun ρ Q => ta ρ fun a => tb ρ fun b => t a b fun z => match z with
  | .bl k => if k = true then tc ρ fun c => t' b c Q else Q (.bl false)
  | _ => False
abbrev DL := List Dt → (Dt → Prop) → Prop
structure SemL (K : PySem.W.Frag) (r : List V → Hp → VK → Prop) (t : DL) : Prop where
  mono : ∀ {ds Q Q'}, (∀ d, Q d → Q' d) → t ds Q → t ds Q'
  ok : ∀ (O : List Addr) (H : Hp) (ds : List Dt) (xs : List V) (Q : VK), (∀ p ∈ O, H p ≠ none) → RpL K (mask O H) ds xs →
    t ds (fun d => ∀ v H', Same H H' → Rp K (mask O H') d v → Q v H') → r xs H Q
def dCB (t : DL) (tl : DTA) : DTE := fun ρ Q => tl ρ fun ds => t ds Q
theorem cb_imp {K : PySem.W.Frag} {r : List V → Hp → VK → Prop} {t : DL} (S : SemL K r t) {tl : DTA} (m : ∀ {ρ Q Q'}, (∀ d, Q d → Q' d) → tl ρ Q → tl ρ Q') (σ : St) (H : Hp) (Q : VK) (h : lE K (dCB t tl) σ H Q) : tCB r (lA K tl) σ H Q := by
  obtain ⟨B, F, O, ρ, R, h⟩ := h
  exact ⟨B, F, O, ρ, R, m (fun ds h vs H1 s1 r1 => S.ok _ H1 ds vs Q (R.same s1).th r1 (S.mono (fun d q v H2 s2 r2 => q v H2 (s1.trans s2) r2) h)) h⟩
theorem de_cb {id : String} {x : Str} {p : Pos} {r : List V → Hp → VK → Prop} {t : DL} (hc : CallR X (.builtin id) r) (S : SemL X.K r t) (hg : Gl X x) (hm : X.mg x = none) (hv : bootBuiltins x = some (.builtin id)) (ha : DA X (e :: es) tl) (hn : x ≠ "__name__" := by decide)
    (hdb : (x == ("__debug__" : Str)) = false := by decide) (he : starEach (e :: es) X.env = (false, eval e X.env) :: starEach es X.env := by rfl) (hpl : (backTo pos (starEach es X.env)).any (·.1) = false := by rfl) : DE X (.Call (.Name x p) (e :: es) [] pos) (dCB t tl) where
  mono := fun hq h => ha.mono (fun _ h => S.mono hq h) h
  pe := (pe_callB hc hg hm hv ha.pa hn hdb he hpl).imp (cb_imp (tl := tl) S ha.mono)
def dLen : DL := fun ds Q => match ds with
  | [.lst xs] => Q (.int xs.length)
  | [.tup xs] => Q (.int xs.length)
  | _ => False
def dAbs : DL := fun ds Q => match ds with
  | [.int i] => Q (.int (if i < 0 then -i else i))
  | _ => False
def dMax : DL := fun ds Q => match ds with
  | [.int i, .int j] => Q (.int (if j > i then j else i))
  | _ => False
def dMin : DL := fun ds Q => match ds with
  | [.int i, .int j] => Q (.int (if j < i then j else i))
  | _ => False
def dInt1 : DL := fun ds Q => match ds with
  | [.int i] => Q (.int i)
  | [.bl k] => Q (.int (if k then 1 else 0))
  | _ => False
theorem sem_len {K : PySem.W.Frag} : SemL K (fun xs H Q => ∃ p ys, xs = [.ref p] ∧ (SqL K H p ys ∨ SqT K H p ys) ∧ Q (.int ys.length) H) dLen where
  mono := fun hq h => by
    unfold dLen at h ⊢
    split at h
    · exact hq _ h
    · exact hq _ h
    · exact h.elim
  ok := fun O H ds xs Q _ r h => by
    unfold dLen at h
    split at h
    · obtain ⟨v, r', rfl, r2, r3⟩ := rpl_cons.mp r
      obtain rfl := rpl_nil.mp r3
      obtain ⟨a, ys, rfl, hs, hl⟩ := rp_lstE r2
      exact ⟨a, ys, rfl, .inl (mask_le.seq hs), by rw [hl.len]; exact h _ H (Same.refl H) (rp_int.mpr rfl)⟩
    · obtain ⟨v, r', rfl, r2, r3⟩ := rpl_cons.mp r
      obtain rfl := rpl_nil.mp r3
      obtain ⟨a, ys, rfl, hs, hl⟩ := rp_tup.mp r2
      exact ⟨a, ys, rfl, .inr (mask_le.seqT hs), by rw [hl.len]; exact h _ H (Same.refl H) (rp_int.mpr rfl)⟩
    · exact h.elim
theorem de_len {p : Pos} (hm : X.mg "len" = none) (ha : DA X [a] tl) (hg : Gl X "len" := by rfl) (he : starEach [a] X.env = (false, eval a X.env) :: starEach [] X.env := by rfl) (hpl : (backTo pos (starEach [] X.env)).any (·.1) = false := by rfl) :
    DE X (.Call (.Name "len" p) [a] [] pos) (dCB dLen tl) := de_cb call_len_seq sem_len hg hm PySem.boot_len ha (he := he) (hpl := hpl)
def tyOf : Dt → String
  | .non => "NoneType"
  | .bl _ => "bool"
  | .int _ => "int"
  | .str _ => "str"
  | .tup _ => "tuple"
  | .lst _ => "list"
  | .fn _ => "function"
  | .exc _ _ _ => "exception"
  | .obj _ _ _ => "instance"
def noFn : Dt → Bool
  | .fn _ => false
  | .exc _ _ _ => false
  | .obj _ _ _ => false
  | _ => true
def isT (T : String) (d : Dt) : Bool := tyOf d == T || (T == "int" && tyOf d == "bool")
def IsiOk (T : String) : Prop := ∀ (K : PySem.W.Frag) (d : Dt), noFn d = true → PySem.W.kitOne K (.type (tyOf d)) (.type T) = some (isT T d)
theorem call_isi {T : String} (hT : IsiOk T) : CallR X (.builtin "isinstance") (fun xs H Q => ∃ d x, xs = [x, .ty T] ∧ Rp X.K H d x ∧ noFn d = true ∧ Q (.bl (isT T d)) H) := by
  intro pins s σ H xs us Q I r ⟨d, x, e, rp, nf, q⟩
  subst e
  obtain ⟨u, u2, rfl, r1, r2⟩ := vals2 r
  cases (show u2 = .type T from r2)
  have hk := hT X.K d nf
  have fin : ∀ tk, EP X pins σ Q (.bool (isT T d)) { s with toks := tk } := fun tk => ⟨.bl _, H, I.tok tk, rfl, q⟩
  cases d with
  | non => rw [rp_non.mp rp] at r1; cases (show u = Value.none from r1); exact PySem.W.kia_one PySem.W.kitx_none I.kIn True.intro hk (fun z => nomatch z) fin
  | bl y => rw [rp_bl.mp rp] at r1; cases (show u = Value.bool y from r1); exact PySem.W.kia_one PySem.W.kitx_bool I.kIn True.intro hk (fun z => nomatch z) fin
  | int i => rw [rp_int.mp rp] at r1; obtain ⟨t, q⟩ := (show ∃ t, u = Value.int i t from r1); cases q; exact PySem.W.kia_one PySem.W.kitx_int I.kIn True.intro hk (fun z => nomatch z) fin
  | str y => rw [rp_str.mp rp] at r1; obtain ⟨t, q⟩ := (show ∃ t, u = Value.str y t from r1); cases q; exact PySem.W.kia_one PySem.W.kitx_str I.kIn True.intro hk (fun z => nomatch z) fin
  | fn a => cases nf
  | exc _ _ _ => cases nf
  | obj _ _ _ => cases nf
  | tup ds =>
    obtain ⟨a, ys, rfl, hs, _⟩ := rp_tup.mp rp
    cases (show u = Value.ref a from r1)
    obtain ⟨_, _, ⟨o, h1, h2, _⟩, _⟩ := I.tuple hs
    exact PySem.W.kia_one PySem.W.kitx_tuple I.kIn ⟨o, h1, h2⟩ hk (fun z => nomatch z) fin
  | lst ds =>
    obtain ⟨a, ys, rfl, hs, _⟩ := rp_lstE rp
    cases (show u = Value.ref a from r1)
    obtain ⟨_, _, ⟨o, n, h1, h2, _⟩, _⟩ := I.list hs
    exact PySem.W.kia_one PySem.W.kitx_list I.kIn ⟨o, h1, h2⟩ hk (fun z => nomatch z) fin
def dIsi (T : String) (ta : DTE) : DTE := fun ρ Q => ta ρ fun d => noFn d = true ∧ Q (.bl (isT T d))
theorem de_isi {T : String} {Ts : Str} {p p2 : Pos} (hm : X.mg "isinstance" = none) (hmT : X.mg Ts = none) (hT : IsiOk T) (ha : DE X a ta) (hg : Gl X "isinstance" := by rfl) (hgT : Gl X Ts := by rfl) (hv : bootBuiltins "isinstance" = some (.builtin "isinstance") := by rfl)
    (hvT : bootBuiltins Ts = some (.type T) := by rfl) (hn : Ts ≠ "__name__" := by decide) (hd : (Ts == ("__debug__" : Str)) = false := by decide)
    (hs1 : starEach [a, .Name Ts p2] X.env = (false, eval a X.env) :: starEach [.Name Ts p2] X.env := by rfl) (hs2 : starEach [.Name Ts p2] X.env = (false, eval (.Name Ts p2) X.env) :: starEach [] X.env := by rfl)
    (hpl : (backTo pos (starEach [.Name Ts p2] X.env)).any (·.1) = false := by rfl) : DE X (.Call (.Name "isinstance" p) [a, .Name Ts p2] [] pos) (dIsi T ta) where
  mono := fun hq h => ha.mono (fun _ h => ⟨h.1, hq _ h.2⟩) h
  pe := (pe_callB (call_isi hT) hg hm hv (pa_cons ha.pe (pa_cons (pe_bltn (v := .ty T) hgT hmT hvT rfl hn hd) pa_nil hs2) hs1) (he := hs1) (hpl := hpl)).imp fun σ H Q ⟨B, F, O, ρ, R, h⟩ =>
    ⟨B, F, O, ρ, R, ha.mono (fun d h v H1 s1 r1 => ⟨d, v, rfl, r1.mono mask_le, h.1, h.2 _ H1 s1 (rp_bl.mpr rfl)⟩) h⟩

abbrev DTO := DEnv → (Option Int → Prop) → Prop
def lO (K : PySem.W.Frag) (t : DTO) : TO := fun σ H Q => ∃ B F O ρ, Rep K B F O H σ ρ ∧ t ρ fun o => ∀ H', Same H H' → Q o H'
structure DO (X : Cx) (e : Option Expr) (t : DTO) : Prop where
  mono : ∀ {ρ Q Q'}, (∀ d, Q d → Q' d) → t ρ Q → t ρ Q'
  po : PO X e (lO X.K t)
def dNoPart : DTO := fun _ Q => Q none
def dPart (te : DTE) : DTO := fun ρ Q => te ρ fun d => match d with
  | .int i => Q (some i)
  | _ => False
theorem PO.imp {e : Option Expr} {t t' : TO} (h : PO X e t) (i : ∀ σ H Q, t' σ H Q → t σ H Q) : PO X e t' := fun pins s σ H Q I q => h pins s σ H Q I (i _ _ _ q)
theorem dp_none : DO X none dNoPart := ⟨fun hq h => hq _ h, po_none.imp fun σ H Q ⟨B, F, O, ρ, R, h⟩ => h H (Same.refl H)⟩
theorem dp_some (h : DE X e te) : DO X (some e) (dPart te) where
  mono := fun hq z => h.mono (fun d z => by
    split at z
    · exact hq _ z
    · exact z.elim) z
  po := (po_some h.pe).imp fun σ H Q ⟨B, F, O, ρ, R, z⟩ => ⟨B, F, O, ρ, R, h.mono (fun d z v H1 s1 r1 => by
    split at z
    · exact ⟨_, rp_int.mp r1, z H1 s1⟩
    · exact z.elim) z⟩
def cutD (xs : List Dt) (lo hi : Option Int) : List Dt := (xs.drop (HT.sIx xs.length 0 lo)).take (HT.sIx xs.length xs.length hi - HT.sIx xs.length 0 lo)
theorem RpL.cut {K : PySem.W.Frag} {H : Hp} {ds : List Dt} {xs : List V} {lo hi : Option Int} (h : RpL K H ds xs) : RpL K H (cutD ds lo hi) (cutV xs lo hi) := by
  unfold cutD cutV
  rw [h.len]
  exact (h.drop _).take _
def dSlice (te : DTE) (tl th : DTO) : DTE := fun ρ Q => te ρ fun d => tl ρ fun lo => th ρ fun hi => match d with
  | .lst ds => Q (.lst (cutD ds lo hi))
  | _ => False
theorem de_slice {lo hi : Option Expr} {t1 t2 : DTO} {p2 : Pos} (he : DE X e te) (hl : DO X lo t1) (hh : DO X hi t2) : DE X (.Subscript e (.Slice lo hi none p2) pos) (dSlice te t1 t2) where
  mono := fun hq z => he.mono (fun d z => hl.mono (fun l z => hh.mono (fun h z => by
    split at z
    · exact hq _ z
    · exact z.elim) z) z) z
  pe := (pe_slice sl_list he.pe hl.po hh.po).imp fun σ H Q ⟨B, F, O, ρ, R, z⟩ => ⟨B, F, O, ρ, R, he.mono (fun d z v H1 s1 r1 => ⟨B, F, O, ρ, R.same s1, hl.mono (fun l z H2 s2 => ⟨B, F, O, ρ, (R.same s1).same s2, hh.mono (fun h z H3 s3 => by
    split at z
    · obtain ⟨a, xs, rfl, hs, hr⟩ := rp_lstE ((r1.mono s2.mask).mono s3.mask)
      refine ⟨a, xs, rfl, mask_le.seq hs, fun p hp => ?_⟩
      have R3 := ((R.same s1).same s2).same s3
      have np : p ∉ F ++ O := fun m => R3.th p m hp
      refine z (.ref p) _ (((s1.trans s2).trans s3).trans (Same.upd hp)) (rp_lstI ⟨p, _, rfl, (mask_upd np), ?_⟩)
      exact hr.cut.mono (Same.upd hp).mask
    · exact z.elim) z⟩) z⟩) z⟩
end
theorem isi_int : IsiOk "int" := fun K d h => by cases d <;> first | rfl | cases h
theorem isi_bool : IsiOk "bool" := fun K d h => by cases d <;> first | rfl | cases h
theorem isi_str : IsiOk "str" := fun K d h => by cases d <;> first | rfl | cases h
end L2

namespace L2
open PySem PySem.Spec PyProof.Rows PySem.SeqAt

theorem closure_go (env : Env) : ∀ (names : List (Str × NameKind)) (cs : List (Str × Addr)), (∀ y ∈ names, y.2 = .free → ∃ c, env.cells.lookup y.1 = some c) → (∀ n c, cs.lookup n = some c → env.cells.lookup n = some c) →
    ∃ cl, (forIn names cs fun (x : Str × NameKind) (r : List (Str × Addr)) => (if (x.2 == NameKind.free) = true then (do let c ← cellOf env x.1; pure (ForInStep.yield ((x.1, c) :: r))) else pure (ForInStep.yield r) : Sem (ForInStep (List (Str × Addr))))) = pure cl ∧
      (∀ n c, cl.lookup n = some c → env.cells.lookup n = some c) ∧ (∀ n, (cs.lookup n).isSome = true → (cl.lookup n).isSome = true) ∧ ∀ n, (n, NameKind.free) ∈ names → (cl.lookup n).isSome = true
  | [], cs, _, h2 => ⟨cs, rfl, h2, fun _ h => h, fun n h => (nomatch h)⟩
  | (x, k) :: names, cs, h1, h2 => by
    rw [List.forIn_cons]
    by_cases hk : k = .free
    · subst hk
      obtain ⟨c, hc⟩ := h1 (x, .free) List.mem_cons_self rfl
      have e : cellOf env x = pure c := by unfold cellOf; rw [hc]
      have h3 : ∀ n c', ((x, c) :: cs).lookup n = some c' → env.cells.lookup n = some c' := fun n c' q => by
        rw [List.lookup_cons] at q
        split at q
        · rename_i b; cases q; rw [eq_of_beq b]; exact hc
        · exact h2 n c' q
      obtain ⟨cl, g1, g2, g3, g4⟩ := closure_go env names ((x, c) :: cs) (fun y hy => h1 y (List.mem_cons_of_mem _ hy)) h3
      refine ⟨cl, ?_, g2, fun n q => g3 n ?_, fun n hn => ?_⟩
      · simp only [beq_self_eq_true, if_true, e, pure_bind]
        exact g1
      · rw [List.lookup_cons]; split
        · rfl
        · exact q
      · rcases List.mem_cons.mp hn with q | q
        · cases q
          exact g3 x (by rw [List.lookup_cons]; simp)
        · exact g4 n q
    · have hb : (k == NameKind.free) = false := by simpa using hk
      obtain ⟨cl, g1, g2, g3, g4⟩ := closure_go env names cs (fun y hy => h1 y (List.mem_cons_of_mem _ hy)) h2
      refine ⟨cl, ?_, g2, g3, fun n hn => ?_⟩
      · simp only [hb, Bool.false_eq_true, if_false, pure_bind]
        exact g1
      · rcases List.mem_cons.mp hn with q | q
        · cases q; exact absurd rfl hk
        · exact g4 n q
theorem closure_of {env : Env} {scope : Scope} (h : ∀ y ∈ scope.names, y.2 = .free → ∃ c, env.cells.lookup y.1 = some c) :
    ∃ cl, closureFor scope env = pure cl ∧ (∀ n c, cl.lookup n = some c → env.cells.lookup n = some c) ∧ ∀ n, (n, NameKind.free) ∈ scope.names → ∃ c, cl.lookup n = some c := by
  obtain ⟨cl, g1, g2, _, g4⟩ := closure_go env scope.names [] h (fun n c q => by simp at q)
  refine ⟨cl, ?_, g2, fun n q => Option.isSome_iff_exists.mp (g4 n q)⟩
  unfold closureFor
  simp only [bind_pure]
  exact g1

section
variable {X : Cx} {elt iter : Expr} {x : Str} {px : Pos} {ifs : List Expr} {scope : Scope} {pos : Pos} {N : List Str} {sl : List Nat} {wi : TI} {tt : TT} {te : TE}
def inner (sl : List Nat) (ρ : DEnv) (d : Dt) : DEnv := some (.is d) :: sl.map fun j => (ρ[j]?).join
def dTrue : DTT := fun _ Q => Q true
def caught (sl : List Nat) (ρ : DEnv) : Prop := ∀ j ∈ sl, ∃ d, ρ[j]? = some (some (.is d))
def dComp (sl : List Nat) (ti : DTI) (tt : DTT) (te : DTE) : DTE := fun ρ Q => ti ρ fun items => items.length ≤ sizeLine ∧ caught sl ρ ∧
  ∃ W : Nat → List Dt → Prop, W 0 [] ∧ (∀ (k : Nat) d acc, items[k]? = some d → W k acc → tt (inner sl ρ d) fun b => if b = true then te (inner sl ρ d) fun e => W (k + 1) (acc ++ [e]) else W (k + 1) acc) ∧
    ∀ acc, acc.length ≤ items.length → W items.length acc → Q (.lst acc)
end
end L2

namespace L2
open PySem PySem.Spec PyProof.Rows PySem.SeqAt

def Bt (n : Nat) (x : Int) : Prop := x.natAbs < 2 ^ n
theorem Bt.le {n m : Nat} {x : Int} (h : Bt n x) (l : n ≤ m) : Bt m x := Nat.lt_of_lt_of_le h (Nat.pow_le_pow_right (by decide) l)
theorem Bt.mul {n m : Nat} {x y : Int} (a : Bt n x) (b : Bt m y) : Bt (n + m) (x * y) := by
  unfold Bt at *
  rw [Int.natAbs_mul, Nat.pow_add]
  exact Nat.mul_lt_mul'' a b
theorem Bt.add {n m : Nat} {x y : Int} (a : Bt n x) (b : Bt m y) : Bt (max n m + 1) (x + y) := by
  have a' := a.le (Nat.le_max_left n m)
  have b' := b.le (Nat.le_max_right n m)
  unfold Bt at *
  rw [Nat.pow_succ]
  have := Int.natAbs_add_le x y
  omega
theorem Bt.neg {n : Nat} {x : Int} (a : Bt n x) : Bt n (-x) := by unfold Bt at *; rw [Int.natAbs_neg]; exact a
theorem Bt.sub {n m : Nat} {x y : Int} (a : Bt n x) (b : Bt m y) : Bt (max n m + 1) (x - y) := by rw [Int.sub_eq_add_neg]; exact a.add b.neg
theorem Bt.of_abs {n : Nat} {x : Int} (h : x.natAbs < 2 ^ n) : Bt n x := h
theorem Bt.of {n : Nat} {x : Int} (h1 : -(2 ^ n) < x) (h2 : x < 2 ^ n) : Bt n x := by
  unfold Bt
  have : ((x.natAbs : Nat) : Int) < ((2 ^ n : Nat) : Int) := by push_cast; omega
  omega
theorem Bt.mulOk {n m : Nat} {x y : Int} (a : Bt n x) (b : Bt m y) (hn : n ≤ 1048576 := by decide) (hm : m ≤ 1048576 := by decide) : IntMulOk x y :=
  IntMulOk.of_bits (intBits_le_iff.mpr (a.le hn)) (intBits_le_iff.mpr (b.le hm))
end L2
namespace L2
open PySem PySem.Spec PyProof.Rows PySem.SeqAt
section
variable {a b c d e f : Dt} {r s : List Dt} {i j : Int} {k l : Bool} {n : Nat} {x y : Str}
theorem ixt0 : ixD 0 (.tup (a :: r)) = some a := rfl
theorem ixt1 : ixD 1 (.tup (a :: b :: r)) = some b := rfl
theorem ixt2 : ixD 2 (.tup (a :: b :: c :: r)) = some c := rfl
theorem ixt3 : ixD 3 (.tup (a :: b :: c :: d :: r)) = some d := rfl
theorem ixl0 : ixD 0 (.lst (a :: r)) = some a := rfl
theorem ixl1 : ixD 1 (.lst (a :: b :: r)) = some b := rfl
theorem ixl2 : ixD 2 (.lst (a :: b :: c :: r)) = some c := rfl
theorem ixl3 : ixD 3 (.lst (a :: b :: c :: d :: r)) = some d := rfl
theorem eq_ii : Dt.eq (.int i) (.int j) = decide (i = j) := by rw [Dt.eq]
theorem eq_bb : Dt.eq (.bl k) (.bl l) = (k == l) := by rw [Dt.eq]
theorem eq_ss : Dt.eq (.str x) (.str y) = (x == y) := by rw [Dt.eq]
theorem eq_nn : Dt.eq .non .non = true := by rw [Dt.eq]
theorem eq_ni : Dt.eq .non (.int i) = false := by simp [Dt.eq]
theorem eq_nt : Dt.eq .non (.tup r) = false := by simp [Dt.eq]
theorem eq_tn : Dt.eq (.tup r) .non = false := by simp [Dt.eq]
theorem eq_tt : Dt.eq (.tup r) (.tup s) = Dt.eqs r s := by rw [Dt.eq]
theorem eq_ll : Dt.eq (.lst r) (.lst s) = Dt.eqs r s := by rw [Dt.eq]
theorem eqs_nn : Dt.eqs [] [] = true := by rw [Dt.eqs]
theorem eqs_cc : Dt.eqs (a :: r) (b :: s) = (Dt.eq a b && Dt.eqs r s) := by rw [Dt.eqs]
theorem eqs_nc : Dt.eqs [] (b :: s) = false := by simp [Dt.eqs]
theorem eqs_cn : Dt.eqs (b :: s) [] = false := by simp [Dt.eqs]
theorem flat_i : Dt.flat n (.int i) = true := by cases n <;> rw [Dt.flat] <;> simp
theorem flat_b : Dt.flat n (.bl k) = true := by cases n <;> rw [Dt.flat] <;> simp
theorem flat_n : Dt.flat n .non = true := by cases n <;> rw [Dt.flat] <;> simp
theorem flat_t : Dt.flat (n + 1) (.tup r) = Dt.flats n r := by rw [Dt.flat]
theorem flat_l : Dt.flat (n + 1) (.lst r) = Dt.flats n r := by rw [Dt.flat]
theorem flat_t8 : Dt.flat 8 (.tup r) = Dt.flats 7 r := flat_t
theorem flat_l8 : Dt.flat 8 (.lst r) = Dt.flats 7 r := flat_l
theorem flat_t7 : Dt.flat 7 (.tup r) = Dt.flats 6 r := flat_t
theorem flat_l7 : Dt.flat 7 (.lst r) = Dt.flats 6 r := flat_l
theorem flat_t6 : Dt.flat 6 (.tup r) = Dt.flats 5 r := flat_t
theorem flats_n : Dt.flats n [] = true := by rw [Dt.flats]
theorem flats_c : Dt.flats n (a :: r) = (Dt.flat n a && Dt.flats n r) := by rw [Dt.flats]
theorem dstart_c {N : Str} {M : List Str} : dstart (N :: M) (a :: r) = some (.is a) :: dstart M r := by
  unfold dstart
  simp only [List.map_cons, List.length_cons, List.cons_append, Nat.add_sub_add_right]
theorem dstart_n {N : Str} {M : List Str} : dstart (N :: M) [] = none :: dstart M [] := by
  unfold dstart
  simp [List.replicate_succ]
theorem dstart_e : dstart [] [] = [] := rfl
theorem size_ok (h : n ≤ 1000) : n ≤ sizeLine := Nat.le_of_lt (small1000 h)
theorem isT_tt : isT "tuple" (.tup r) = true := rfl
theorem isT_ll : isT "list" (.lst r) = true := rfl
theorem isT_ii : isT "int" (.int i) = true := rfl
theorem isT_bi : isT "bool" (.int i) = false := rfl
theorem isT_ib : isT "int" (.bl k) = true := rfl
theorem isT_bb : isT "bool" (.bl k) = true := rfl
theorem isT_tn : isT "tuple" .non = false := rfl
theorem isT_in : isT "int" .non = false := rfl
theorem isT_it : isT "int" (.tup r) = false := rfl
theorem isT_bt : isT "bool" (.tup r) = false := rfl
theorem nf_i : noFn (.int i) = true := rfl
theorem nf_b : noFn (.bl k) = true := rfl
theorem nf_n : noFn .non = true := rfl
theorem nf_t : noFn (.tup r) = true := rfl
theorem nf_l : noFn (.lst r) = true := rfl
theorem nf_s : noFn (.str x) = true := rfl
theorem isB_t : isB true (.bl k) = k := by cases k <;> rfl
theorem isB_f : isB false (.bl k) = !k := by cases k <;> rfl
theorem isB_i : isB k (.int i) = false := rfl
theorem isB_n : isB k .non = false := rfl
theorem isB_tu : isB k (.tup r) = false := rfl
theorem isB_l : isB k (.lst r) = false := rfl
theorem isN_n : isN .non = true := rfl
theorem isN_i : isN (.int i) = false := rfl
theorem isN_b : isN (.bl k) = false := rfl
theorem isN_t : isN (.tup r) = false := rfl
theorem isN_l : isN (.lst r) = false := rfl
end
end L2
namespace L2
open PySem PySem.Spec PyProof.Rows PySem.SeqAt
theorem ift {c : Bool} {A B : Prop} (h : c = true) (a : A) : if c = true then A else B := by subst h; exact a
theorem iff' {c : Bool} {A B : Prop} (h : c = false) (b : B) : if c = true then A else B := by subst h; exact b
theorem specF_of {τ : Type} {args : τ → List Dt} {pre : τ → Prop} {val : τ → Dt} {Q : Dt → Prop} (p : τ) (h : pre p) (k : Q (val p)) : specF args pre val (args p) Q := ⟨p, rfl, h, fun d e => by rw [e]; exact k⟩
theorem spec_of {τ : Type} {args : τ → List Dt} {pre : τ → Prop} {post : τ → Dt → Prop} {Q : Dt → Prop} (p : τ) (h : pre p) (k : ∀ d, post p d → Q d) : spec args pre post (args p) Q := ⟨p, rfl, h, k⟩
theorem dFor_of {ti : DTI} {g : DTG} {tb : DTS} {D : DEnds} {ρ : DEnv} (items : List Dt) (hi : ∀ R : List Dt → Prop, R items → ti ρ R) (W : Nat → DEnv → Prop) (h0 : W 0 ρ)
    (hs : ∀ (k : Nat) d ρ', items[k]? = some d → W k ρ' → g d ρ' fun ρ2 => tb { D with nx := W (k + 1), ct := W (k + 1), bk := D.nx } ρ2) (he : ∀ ρ', W items.length ρ' → D.nx ρ') : dFor ti g tb D ρ := hi _ ⟨W, h0, hs, he⟩
theorem ints_get {ns : List Int} {k : Nat} {d : Dt} (h : (ns.map Dt.int)[k]? = some d) : ∃ n, ns[k]? = some n ∧ d = .int n := by
  rw [List.getElem?_map] at h
  cases e : ns[k]? with
  | none => rw [e] at h; cases h
  | some n => rw [e] at h; cases h; exact ⟨n, rfl, rfl⟩
theorem ix_ints {ns : List Int} {k : Int} (h0 : 0 ≤ k) (h1 : k < ns.length) : ixD k (.lst (ns.map Dt.int)) = some (.int (ns.getD k.toNat 0)) := by
  obtain ⟨j, rfl⟩ := Int.eq_ofNat_of_zero_le h0
  have hj : j < ns.length := by omega
  show (ns.map Dt.int)[j]? = _
  rw [List.getElem?_map]
  simp [hj]
end L2
namespace L2
end L2

namespace L2
open PySem PySem.Spec PyProof.Rows PySem.SeqAt

def Itd (lo : Int) (n : Nat) : It := ⟨fun i _ => i < n, fun i H x H' => H' = H ∧ x = .int (lo - i), fun i _ => n ≤ i⟩
theorem turn_rangeD {P : Program} {w : World} {K : PySem.W.Frag} {tg : Expr} (it : Addr) (lo : Int) (n : Nat) : Turn P w K tg (Itd lo n) [it] it (fun i h => IsRangeIter h it (lo + (i : Nat) * (-1)) ((n : Int) - (i : Nat)) (-1)) where
  mem := by simp
  obj := fun i h st b hb => by
    have e : b = it := by simpa using hb
    subst e
    exact ⟨_, st, fun v z => by
      have z' : Data.fields _ = Data.cell v := z
      cases z'⟩
  keep := fun i h h' st k => k it (by simp) _ st
  item := by
    intro X hP hw hK hc i pins s σ H E I hf st hg
    subst hP hw hK
    obtain ⟨f0, f1, f2, f3, f4, f5⟩ := hf it (by simp)
    have W := Walks.range (prog := X.prog) (w := X.w) (I.ok.hd hc) it lo (-1) n
    refine W.item i s _ _ hg st fun v h' tk hv st' kk => ?_
    obtain ⟨t, rfl⟩ := hv
    have I1 : Inv X pins σ H { s with heap := h', toks := tk } := I.turned (fun b o hb e => kk b o (by simpa using hb) e) f0 f1 f3 f4 f5
    refine ⟨_, rfl, go_of (s := { s with heap := h', toks := tk }) (n := "range_iterator") st' rfl rfl (by decide) ⟨.int (lo - i), H, I1, ⟨t, ?_⟩, ⟨rfl, rfl⟩, st', fun b hb => (hf b hb).1⟩⟩
    have e : lo + (i : Int) * (-1) = lo - i := by omega
    rw [e]
  done := by
    intro X hP hw hK hc i pins s σ H E I hf st hg
    subst hP hw hK
    obtain ⟨f0, f1, f2, f3, f4, f5⟩ := hf it (by simp)
    exact wpAny_pyNext_range_end (I.ok.hd hc) st (by have : n ≤ i := hg; omega) fun h' eb => ⟨rfl, I.turned (t' := s.toks) (fun b o hb e => eb b o hb e) f0 f1 f3 f4 f5⟩
  self := fun _ _ _ _ _ st h => wpAny_pyIter_rangeiter st h
section
variable {X : Cx} {a b c e : Expr} {es : List Expr} {ta tb te : DTE} {tl : DTA} {pos : Pos}
theorem rangeSize_down (a b : Int) : Builtin.Range.rangeSize a b (-1) = if a > b then a - b else 0 := by
  unfold Builtin.Range.rangeSize
  simp only [show ¬ ((-1 : Int) > 0) by decide, if_false, Int.neg_neg, Int.ediv_one]
  split <;> omega
theorem small_down {a b : Int} (ha : -(2 ^ 62) ≤ a) (ha' : a < 2 ^ 62) (hb : -(2 ^ 62) ≤ b) (hb' : b < 2 ^ 62) : Builtin.Range.small a b (-1) = true := by
  unfold Builtin.Range.small
  rw [rangeSize_down]
  simp only [Builtin.Range.rangeFitsLong, Bool.and_eq_true, Bool.or_eq_true, decide_eq_true_eq, beq_iff_eq, show ¬ ((-1 : Int) > 0) by decide, if_false]
  split <;> omega
def iRng3 (ta : TA) : TI := fun σ H R => ta σ H fun vs H1 => ∃ i j : Int, vs = [.int i, .int j, .int (-1)] ∧ (-(2 ^ 62) ≤ i ∧ i < 2 ^ 62 ∧ -(2 ^ 62) ≤ j ∧ j < 2 ^ 62) ∧ R (Itd i (i - j).toNat) H1
theorem pi_range3 {tg : Expr} {ta : TA} {p : Pos} (hg : Gl X "range") (hm : X.mg "range" = none) (ha : PA X [a, b, c] ta) (hs : starEach [a, b, c] X.env = (false, eval a X.env) :: starEach [b, c] X.env := by rfl) (hpl : (backTo pos (starEach [b, c] X.env)).any (·.1) = false := by rfl) :
    PI X tg (.Call (.Name "range" p) [a, b, c] [] pos) (iRng3 ta) := by
  intro pins s σ H R I h
  refine Call_ (ld_blt I hg hm boot_range (PyProof.Rows.callWith_type1 (thn (ha pos pins s σ H _ I h) fun us s1 ⟨vs, H1, I1, r1, q1⟩ => ?_) hs hpl))
  obtain ⟨i, j, e, ⟨q1, q2, q3, q4⟩, q⟩ := q1
  subst e
  cases r1 with
  | cons r rr =>
    cases rr with
    | cons r' rr =>
      cases rr with
      | cons r'' rr =>
        cases rr
        obtain ⟨t, rfl⟩ := r
        obtain ⟨t', rfl⟩ := r'
        obtain ⟨t'', rfl⟩ := r''
        refine call_range_3 (by decide) ?_ (.inl (PyProof.noPylong_small (by decide)))
        refine wpAny_pyIter_range (IsRange.new ..) (small_down q1 q2 q3 q4) ?_
        have I2 : Inv X pins σ H1 { s1 with heap := s1.heap.push { cls := .type "range", data := .fields #[.int i t, .int j t', .int (-1) t''] }, toks := s1.toks } := I1.kept fun b o e => Heap.get?_push_of_some _ e
        refine ⟨(s1.heap.push { cls := .type "range", data := .fields #[.int i t, .int j t', .int (-1) t''] }).objs.size, [(s1.heap.push { cls := .type "range", data := .fields #[.int i t, .int j t', .int (-1) t''] }).objs.size], _, _, H1, rfl,
          I2.kept (t' := s1.toks) fun b o e => Heap.get?_push_of_some _ e, turn_rangeD _ i (i - j).toNat, ?_, fun b hb => ?_, q⟩
        · have e1 : i + ((0 : Nat) : Int) * (-1) = i := by simp
          have e2 : (((i - j).toNat : Nat) : Int) - ((0 : Nat) : Int) = Builtin.Range.rangeSize i j (-1) := by rw [rangeSize_down]; split <;> omega
          show IsRangeIter _ _ (i + ((0 : Nat) : Int) * (-1)) ((((i - j).toNat : Nat) : Int) - ((0 : Nat) : Int)) (-1)
          rw [e1, e2]
          exact Heap.get?_push_size _ rfl
        · have e : b = (s1.heap.push { cls := .type "range", data := .fields #[.int i t, .int j t', .int (-1) t''] }).objs.size := by simpa using hb
          subst e
          exact I2.fpOk (Nat.le_refl _) (I2.hok.fresh (Nat.le_refl _))
def downs (hi : Int) (n : Nat) : List Dt := (List.range n).map fun i => .int (hi - (i : Nat))
def diRng3 (tl : DTA) : DTI := fun ρ Q => tl ρ fun ds => match ds with
  | [.int i, .int j, .int k] => k = -1 ∧ (-(2 ^ 62) ≤ i ∧ i < 2 ^ 62 ∧ -(2 ^ 62) ≤ j ∧ j < 2 ^ 62) ∧ Q (downs i (i - j).toNat)
  | _ => False
theorem mt_bits : MtR X "int.bit_length" (fun x xs H Q => ∃ i, x = .int i ∧ xs = [] ∧ Q (.int (Builtin.Int.intBits i)) H) := by
  intro pins s σ H x xs v us Q I rx rs ⟨i, e, e2, q⟩
  subst e e2
  cases rs
  obtain ⟨t, rfl⟩ := rx
  exact call_int_bit_length ⟨.int _, H, I.tok _, ⟨_, rfl⟩, q⟩
def dBits (ta : DTE) : DTE := fun ρ Q => ta ρ fun d => match d with
  | .int i => Q (.int (Builtin.Int.intBits i))
  | _ => False
theorem de_bits {apos : Pos} (ha : DE X a ta) (hbase : attributeBase a "bit_length" X.env (eval a X.env) = eval a X.env := by rfl) (hline : (apos.endLine == pos.line) = true := by rfl) : DE X (.Call (.Attribute a "bit_length" apos) [] [] pos) (dBits ta) where
  mono := fun hq h => ha.mono (fun d h => by
    split at h
    · exact hq _ h
    · exact h.elim) h
  pe := (pe_bm0 PySem.F.plainAttrs_int PySem.F.slot_int_bit_length PySem.F.type_int_bit_length mt_bits ha.pe hbase hline).imp fun σ H Q ⟨B, F, O, ρ, R, h⟩ => ⟨B, F, O, ρ, R, ha.mono (fun d h v H1 s1 r1 => by
    split at h
    · rw [rp_int.mp r1]
      exact ⟨rfl, _, rfl, rfl, h _ H1 s1 (rp_int.mpr rfl)⟩
    · exact h.elim) h⟩

def FnVal (P : Program) (w : World) (K : PySem.W.Frag) (mg : Str → Option Value) (base : Heap) (k : Nat) (a : Addr) (sp : DSp) : Prop :=
  ∃ fd ps, FnOk P w K mg base CX0 k a fd ps (lSp K sp) ∧ Binds K fd ps [] ∧ PySem.W.keepIn K (.ref a) = true
def dCallV (P : Program) (w : World) (K : PySem.W.Frag) (mg : Str → Option Value) (base : Heap) (k : Nat) (tf : DTE) (tl : DTA) : DTE := fun ρ Q => tf ρ fun d => match d with
  | .fn a => PySem.W.keepIn K (.ref a) = true ∧ tl ρ fun ds => ∃ sp, MonoSp sp ∧ FnVal P w K mg base k a sp ∧ sp ds Q
  | _ => False
def lF (K : PySem.W.Frag) (t : DTA) : TE := fun σ H Q => ∃ B F O ρ, Rep K B F O H σ ρ ∧ t ρ fun ds => ∀ p H' vs, Same H H' → H' p = some (.lst vs) → p ∉ F ++ O → RpL K (mask (F ++ O) H') ds vs → Q (.ref p) H'
def dOf (t : DTA) : DTE := fun ρ Q => t ρ fun ds => Q (.lst ds)
def dLstF (tl : DTA) : DTA := fun ρ Q => tl ρ fun ds => ds.length ≤ sizeLine ∧ Q ds
def dSliceF (te : DTE) (tl th : DTO) : DTA := fun ρ Q => te ρ fun d => tl ρ fun lo => th ρ fun hi => match d with
  | .lst ds => Q (cutD ds lo hi)
  | _ => False
def dCatF (t u : DTA) : DTA := fun ρ Q => t ρ fun xs => u ρ fun ys => xs.length + ys.length ≤ sizeLine ∧ Q (xs ++ ys)
end
end L2

namespace L2
open PySem PySem.Spec PyProof.Rows PySem.SeqAt
section
variable {X : Cx} {elt iter : Expr} {x : Str} {px : Pos} {ifs : List Expr} {scope : Scope} {pos : Pos} {N : List Str} {sl : List Nat} {wi : TI} {tt : TT} {te : TE}
def dSetC (i : Nat) (sl : List Nat) (ti : DTI) (tt : DTT) (te : DTE) : DTS := fun D ρ => dComp sl ti tt te ρ fun d => D.nx (ρ.set i (some (.is d)))
end

section
variable {prog : Program} {w : World} {A : Around} {E : Value → Shared → Prop} {s : Shared}
end
section
variable {X : Cx} {es : List Expr} {pos : Pos}
def dgLst (n : Nat) (gs : DTGs) : DTG := fun d ρ Q => match d with
  | .lst ds => ds.length = n ∧ gs ds ρ Q
  | _ => False
end
end L2
namespace L2
end L2
namespace L2
end L2

namespace L2
open PySem PySem.Spec PyProof.Rows PySem.SeqAt

section
variable {X : Cx} {pins : List (Addr × Obj)} {σ : St} {H : Hp} {s : Shared} {h' : Heap} {a dx C U f fI : Addr} {φ ψ : Heap → Prop}
end
end L2

namespace L2
open PySem PySem.Spec PyProof.Rows PySem.SeqAt

structure DEndsX where
  d : DEnds
  ex : DEnv → Dt → Prop
abbrev DTSX := DEndsX → DEnv → Prop
abbrev DTEX := DEnv → (Dt → Prop) → (Dt → Prop) → Prop
section
variable {X : Cx} {a b c e : Expr} {es : List Expr} {st : Stmt} {sts sa sb : List Stmt} {t u : DTSX} {ts us : DTS} {te : DTEX} {tA : DTT} {tl : DTA} {pos : Pos}
def dQuiet (t : DTS) : DTSX := fun D ρ => t D.d ρ
def dNextX : DTSX := fun D ρ => D.d.nx ρ
def dSeqX (t u : DTSX) : DTSX := fun D ρ => t ⟨{ D.d with nx := u D }, D.ex⟩ ρ
def dIfX (c : DTT) (t u : DTSX) : DTSX := fun D ρ => c ρ fun k => if k = true then t D ρ else u D ρ
def dDropX (te : DTEX) : DTSX := fun D ρ => te ρ (fun _ => D.d.nx ρ) (D.ex ρ)
def dRetX (te : DTEX) : DTSX := fun D ρ => te ρ D.d.rt (D.ex ρ)
def dAsgX (te : DTEX) (g : DTG) : DTSX := fun D ρ => te ρ (fun d => g d ρ D.d.nx) (D.ex ρ)
abbrev DSpX := List Dt → (Dt → Prop) → (Dt → Prop) → Prop
def dCallX (sp : DSpX) (tl : DTA) : DTEX := fun ρ Q E => tl ρ fun ds => sp ds Q E
def dRaise (c : Str) (ns : List Str) (tl : DTA) : DTSX := fun D ρ => tl ρ fun ds => ds.length = ns.length ∧ ds.length ≤ 1000 ∧ D.ex ρ (.exc c ns ds)
end

section
variable {P : Program} {w : World} {K : PySem.W.Frag} {mg : Str → Option Value} {base : Heap}
end
end L2

namespace L2
open PySem PySem.Spec PyProof.Rows PySem.SeqAt

section
variable {X : Cx} {pins : List (Addr × Obj)} {σ : St} {H : Hp} {s : Shared}
end

def Under (K : PySem.W.Frag) (mg : Str → Option Value) (c T : Str) : Prop := ∀ C U, PySem.W.nsIn K mainGlobals c = some (some (.ref C)) → XC K C U → mg T = some (.ref U)
section
variable {X : Cx} {tb : DTSX} {ts : DTS} {pos tp hp : Pos} {T n : Str} {U : Addr} {body suite : List Stmt} {b₀ : Stmt}
def xcatch (K : PySem.W.Frag) (mg : Str → Option Value) (T : Str) (j : Nat) (ts : DTS) (D : DEnds) (ρ : DEnv) (x : Dt) : Prop := match x with
  | .exc c ns ds => Under K mg c T ∧ ts { nx := fun ρ2 => D.nx (ρ2.set j none), rt := fun _ => False } (ρ.set j (some (.is (.exc c ns ds))))
  | _ => False
def dTry (K : PySem.W.Frag) (mg : Str → Option Value) (T : Str) (j : Nat) (tb : DTSX) (ts : DTS) : DTSX := fun D ρ => tb ⟨D.d, xcatch K mg T j ts D.d⟩ ρ
end
end L2

namespace L2
open PySem PySem.Spec PyProof.Rows PySem.SeqAt

def SubX (K : PySem.W.Frag) (c : Str) (A : Addr) (b : Bool) : Prop := ∀ C, PySem.W.nsIn K mainGlobals c = some (some (.ref C)) → PySem.W.kitOne K (.ref C) (.ref A) = some b
def SubXs (K : PySem.W.Frag) (c : Str) (As : List Addr) (b : Bool) : Prop := ∀ C, PySem.W.nsIn K mainGlobals c = some (some (.ref C)) → PySem.W.kitAny K (.ref C) (As.map .ref) = some b
def NoAt (K : PySem.W.Frag) (c f : Str) : Prop := ∀ C, PySem.W.nsIn K mainGlobals c = some (some (.ref C)) → PySem.W.findIn K (.ref C) f = some none
section
variable {X : Cx} {a b c e : Expr} {es : List Expr} {ta tb te : DTE} {tl : DTA} {pos : Pos}
def dIsx (K : PySem.W.Frag) : DL := fun ds Q => match ds with
  | [.exc c _ _, .fn A] => ∃ v, SubX K c A v ∧ Q (.bl v)
  | _ => False
def dIsxs (K : PySem.W.Frag) : DL := fun ds Q => match ds with
  | [.exc c _ _, .tup es] => ∃ As v, es = As.map .fn ∧ SubXs K c As v ∧ Q (.bl v)
  | _ => False
def dIsv (ta : DTE) : DTE := fun ρ Q => ta ρ fun d => match d with
  | .exc _ _ _ => Q (.bl true)
  | _ => False
def dXfld (K : PySem.W.Frag) (te : DTE) (f : Str) : DTE := fun ρ Q => te ρ fun d => match d with
  | .exc c ns ds => NoAt K c f ∧ ∃ v, (ns.zip ds).lookup f = some v ∧ Q v
  | _ => False
def dCalm (t : DTSX) : DTS := fun D ρ => t ⟨D, fun _ _ => False⟩ ρ
end
end L2

namespace L2
open PySem PySem.Spec PyProof.Rows PySem.SeqAt

section
variable {K : PySem.W.Frag} {mg : Str → Option Value} {c T f : Str} {C U A : Addr} {cd : ClassData}
end
end L2

namespace L2
open PySem PySem.Spec PyProof.Rows PySem.SeqAt

theorem mask_updIn {O : List Addr} {H : Hp} {a : Addr} {o : HO} (h : a ∈ O) : mask O (upd H a o) = mask O H := by
  funext b
  by_cases q : b ∈ O
  · rw [mask_in q, mask_in q]
  · rw [mask_out q, mask_out q, upd_ne (a := a) (fun z => q (by rw [z]; exact h))]
theorem mask_new {F O : List Addr} {H : Hp} {p : Addr} {o : HO} (h : H p = none) : mask (F ++ (p :: O)) (upd H p o) = mask (F ++ O) H := by
  funext b
  by_cases e : b = p
  · subst e
    rw [mask_in (List.mem_append_right _ List.mem_cons_self)]
    by_cases q : b ∈ F ++ O
    · rw [mask_in q]
    · rw [mask_out q, h]
  · by_cases q : b ∈ F ++ O
    · rw [mask_in q, mask_in]
      rcases List.mem_append.mp q with q | q
      · exact List.mem_append_left _ q
      · exact List.mem_append_right _ (List.mem_cons_of_mem _ q)
    · rw [mask_out q, mask_out, upd_ne e]
      intro z
      rcases List.mem_append.mp z with z | z
      · exact q (List.mem_append_left _ z)
      · rcases List.mem_cons.mp z with z | z
        · exact e z
        · exact q (List.mem_append_right _ z)
section
variable {K : PySem.W.Frag} {B : Hp} {F O : List Addr} {H : Hp} {σ : St} {ρ : DEnv}
theorem Rep.newOwn (r : Rep K B F O H σ ρ) (i : Nat) {p : Addr} {ds : List Dt} {xs : List V} (hp : H p = none) (h : RpL K (mask (F ++ O) H) ds xs) : Rep K B F (p :: O) (upd H p (.lst xs)) (σ.set i (some (.ref p))) (ρ.set i (some (.own ds))) := by
  have hl := r.len
  have nF : p ∉ F := fun z => r.th p (List.mem_append_left _ z) hp
  have nO : p ∉ O := fun z => r.th p (List.mem_append_right _ z) hp
  have em := mask_new (F := F) (O := O) (o := .lst xs) hp
  refine ⟨by simpa using hl, r.base.trans (Same.upd hp), fun a h => ?_, fun a h e => ?_, fun j d q => ?_, fun j es q => ?_, fun j k es es' a h1 h2 h3 h4 => ?_, fun j ks q => ?_, fun j k es es' a h1 h2 h3 h4 => ?_, r.rawSet fun _ z => by cases z⟩
  · rcases List.mem_cons.mp h with rfl | h
    · cases q : B a with
      | none => rfl
      | some o => rw [r.base a o q] at hp; cases hp
    · exact r.fr a h
  · by_cases z : a = p
    · rw [z, upd_same] at e; cases e
    · rw [upd_ne z] at e
      refine r.th a ?_ e
      rcases List.mem_append.mp h with h | h
      · exact List.mem_append_left _ h
      · exact List.mem_append_right _ ((List.mem_cons.mp h).resolve_left z)
  · by_cases hj : j = i
    · subst hj
      by_cases hk : j < ρ.length
      · rw [List.getElem?_set_self hk] at q; cases q
      · rw [List.getElem?_eq_none (by simpa using hk)] at q; cases q
    · rw [List.getElem?_set_ne (Ne.symm hj)] at q ⊢
      rw [em]; exact r.is j d q
  · by_cases hj : j = i
    · subst hj
      by_cases hk : j < ρ.length
      · rw [List.getElem?_set_self hk] at q; cases q
        exact ⟨p, xs, List.getElem?_set_self (by omega), List.mem_cons_self, nF, upd_same, by rw [em]; exact h⟩
      · rw [List.getElem?_eq_none (by simpa using hk)] at q; cases q
    · rw [List.getElem?_set_ne (Ne.symm hj)] at q ⊢
      obtain ⟨a, ys, h1, h2, h3, h4, h5⟩ := r.own j es q
      exact ⟨a, ys, h1, List.mem_cons_of_mem _ h2, h3, by rw [upd_ne (a := p) (fun z => nO (by rw [← z]; exact h2))]; exact h4, by rw [em]; exact h5⟩
  · have other : ∀ (m : Nat) es, m ≠ i → (ρ.set i (some (.own ds)))[m]? = some (some (.own es)) → (σ.set i (some (.ref p)))[m]? = some (some (.ref p)) → False := fun m es hm q1 q2 => by
      rw [List.getElem?_set_ne (Ne.symm hm)] at q1 q2
      obtain ⟨b, _, e1, e2, _⟩ := r.own m es q1
      rw [e1] at q2
      cases q2
      exact nO e2
    by_cases hj : j = i
    · by_cases hk : k = i
      · rw [hj, hk]
      · subst hj
        have : a = p := by
          rw [List.getElem?_set_self (by
            have := (List.getElem?_eq_some_iff.mp h1).1
            simp at this; omega)] at h3
          cases h3; rfl
        subst this
        exact (other k es' hk h2 h4).elim
    · by_cases hk : k = i
      · subst hk
        have : a = p := by
          rw [List.getElem?_set_self (by
            have := (List.getElem?_eq_some_iff.mp h2).1
            simp at this; omega)] at h4
          cases h4; rfl
        subst this
        exact (other j es hj h1 h3).elim
      · rw [List.getElem?_set_ne (Ne.symm hj)] at h1 h3
        rw [List.getElem?_set_ne (Ne.symm hk)] at h2 h4
        exact r.inj j k es es' a h1 h2 h3 h4
  · have hj : j ≠ i := fun z => by
      subst z
      by_cases hk : j < ρ.length
      · rw [List.getElem?_set_self hk] at q; cases q
      · rw [List.getElem?_eq_none (by simpa using hk)] at q; cases q
    rw [List.getElem?_set_ne (Ne.symm hj)] at q ⊢
    obtain ⟨a, ys, h1, h2, h3, h4, h5⟩ := r.tab j ks q
    exact ⟨a, ys, h1, List.mem_cons_of_mem _ h2, h3, by rw [upd_ne (a := p) (fun z => nO (by rw [← z]; exact h2))]; exact h4, by rw [em]; exact h5⟩
  · have back : ∀ (m : Nat) ks, (ρ.set i (some (.own ds)))[m]? = some (some (.tab ks)) → m ≠ i ∧ ρ[m]? = some (some (.tab ks)) := fun m ks q => by
      have hm : m ≠ i := fun z => by
        subst z
        by_cases hk : m < ρ.length
        · rw [List.getElem?_set_self hk] at q; cases q
        · rw [List.getElem?_eq_none (by simpa using hk)] at q; cases q
      rw [List.getElem?_set_ne (Ne.symm hm)] at q; exact ⟨hm, q⟩
    obtain ⟨n1, q1⟩ := back j _ h1
    obtain ⟨n2, q2⟩ := back k _ h2
    rw [List.getElem?_set_ne (Ne.symm n1)] at h3
    rw [List.getElem?_set_ne (Ne.symm n2)] at h4
    exact r.tinj j k es es' a q1 q2 h3 h4
theorem Rep.putOwn (r : Rep K B F O H σ ρ) {i : Nat} {a : Addr} {ds es : List Dt} {xs ys : List V} (hi : ρ[i]? = some (some (.own ds))) (hs : σ[i]? = some (some (.ref a))) (ha : a ∈ O) (hH : H a = some (.lst xs)) (h : RpL K (mask (F ++ O) H) es ys) :
    Rep K B F O (upd H a (.lst ys)) σ (ρ.set i (some (.own es))) := by
  have em : mask (F ++ O) (upd H a (.lst ys)) = mask (F ++ O) H := mask_updIn (List.mem_append_right _ ha)
  have hk : i < ρ.length := (List.getElem?_eq_some_iff.mp hi).1
  refine ⟨by simpa using r.len, fun b o e => ?_, r.fr, fun b hb e => ?_, fun j d q => ?_, fun j ks q => ?_, fun j k es' es'' b h1 h2 h3 h4 => ?_, fun j ks q => ?_, fun j k es' es'' b h1 h2 h3 h4 => ?_, fun j v q => r.raw j v (raw_back (fun _ z => by cases z) q).2⟩
  · rw [upd_ne fun z => by rw [z, r.fr a ha] at e; cases e]; exact r.base b o e
  · by_cases z : b = a
    · rw [z, upd_same] at e; cases e
    · rw [upd_ne z] at e; exact r.th b hb e
  · have hj : j ≠ i := fun z => by subst z; rw [List.getElem?_set_self hk] at q; cases q
    rw [List.getElem?_set_ne (Ne.symm hj)] at q
    rw [em]; exact r.is j d q
  · by_cases hj : j = i
    · subst hj
      rw [List.getElem?_set_self hk] at q; cases q
      obtain ⟨b, _, e1, e2, e3, _⟩ := r.own j ds hi
      rw [hs] at e1; cases e1
      exact ⟨a, ys, hs, ha, e3, upd_same, by rw [em]; exact h⟩
    · rw [List.getElem?_set_ne (Ne.symm hj)] at q
      obtain ⟨b, zs, e1, e2, e3, e4, e5⟩ := r.own j ks q
      have nb : b ≠ a := fun z => by subst z; exact hj (r.inj j i ks ds b q hi e1 hs)
      exact ⟨b, zs, e1, e2, e3, by rw [upd_ne nb]; exact e4, by rw [em]; exact e5⟩
  · have back : ∀ (m : Nat) ks, (ρ.set i (some (.own es)))[m]? = some (some (.own ks)) → ∃ ks', ρ[m]? = some (some (.own ks')) := fun m ks q => by
      by_cases hm : m = i
      · subst hm; exact ⟨ds, hi⟩
      · rw [List.getElem?_set_ne (Ne.symm hm)] at q; exact ⟨ks, q⟩
    obtain ⟨_, q1⟩ := back j es' h1
    obtain ⟨_, q2⟩ := back k es'' h2
    exact r.inj j k _ _ b q1 q2 h3 h4
  · have hj : j ≠ i := fun z => by subst z; rw [List.getElem?_set_self hk] at q; cases q
    rw [List.getElem?_set_ne (Ne.symm hj)] at q
    obtain ⟨b, zs, e1, e2, e3, e4, e5⟩ := r.tab j ks q
    have nb : b ≠ a := fun z => by rw [z, hH] at e4; cases e4
    exact ⟨b, zs, e1, e2, e3, by rw [upd_ne nb]; exact e4, by rw [em]; exact e5⟩
  · have back : ∀ (m : Nat) ks, (ρ.set i (some (.own es)))[m]? = some (some (.tab ks)) → ρ[m]? = some (some (.tab ks)) := fun m ks q => by
      have hm : m ≠ i := fun z => by subst z; rw [List.getElem?_set_self hk] at q; cases q
      rw [List.getElem?_set_ne (Ne.symm hm)] at q; exact q
    exact r.tinj j k _ _ b (back j _ h1) (back k _ h2) h3 h4
end
section
variable {X : Cx} {a b c e : Expr} {es : List Expr} {st : Stmt} {ta tb te : DTE} {tl : DTA} {t : DTS} {pos : Pos}
def dOwn (i : Nat) (tl : DTA) : DTS := fun D ρ => tl ρ fun ds => ds.length ≤ sizeLine ∧ D.nx (ρ.set i (some (.own ds)))
theorem ds_own (i : Nat) {x : Str} {pos' lp : Pos} (hN : X.N.Nodup) (ha : DA X es tl) (hi : X.N[i]? = some x := by rfl) (hx : Loc X.env.scope x := by first | exact Or.inl rfl | exact Or.inr rfl) (hs : swapsWith (.List es lp) (some (.Name x pos')) pos.line X.env = pure false := by rfl)
    (hf : X.fn x = true ∨ X.env.scope.names.lookup x = some .local := by first | exact .inl rfl | exact .inr rfl | assumption) : DS X (.Assign [.Name x pos'] (.List es lp) pos) (dOwn i tl) where
  mono := fun hd h => ha.mono (fun ds ⟨h1, h2⟩ => ⟨h1, hd.nx _ h2⟩) h
  ps := (ps_set hN hi hx (pe_lst ha.pa) hs hf).imp fun D σ H ⟨B, F, O, ρ, R, h⟩ => ⟨B, F, O, ρ, R, ha.mono (fun ds ⟨h1, h2⟩ vs H1 s1 r1 => ⟨by rw [r1.len]; exact h1, fun p hp => h2 (p :: O) _ _ ((R.same s1).newOwn i hp r1)⟩) h⟩
def ownAt (ρ : DEnv) (j : Nat) (k : List Dt → Prop) : Prop := match ρ[j]? with
  | some (some (.own ds)) => k ds
  | _ => False
theorem ownAt.mono {ρ : DEnv} {j : Nat} {k k' : List Dt → Prop} (hk : ∀ ds, k ds → k' ds) (h : ownAt ρ j k) : ownAt ρ j k' := by
  unfold ownAt at h ⊢
  split at h
  · exact hk _ h
  · exact h.elim
theorem ownAt.get {ρ : DEnv} {j : Nat} {k : List Dt → Prop} (h : ownAt ρ j k) : ∃ ds, ρ[j]? = some (some (.own ds)) ∧ k ds := by
  unfold ownAt at h
  split at h
  · rename_i ds e; exact ⟨ds, e, h⟩
  · exact h.elim
def dIxO (j : Nat) (tb : DTE) : DTE := fun ρ Q => ownAt ρ j fun ds => tb ρ fun k => match k with
  | .int i => match ixL i ds with
    | some v => Q v
    | none => False
  | _ => False
def dSetO (j : Nat) (te tb : DTE) : DTS := fun D ρ => te ρ fun d => ownAt ρ j fun ds => tb ρ fun k => match k with
  | .int i => (0 ≤ i ∧ i < ds.length) ∧ D.nx (ρ.set j (some (.own (ds.set i.toNat d))))
  | _ => False
def dAppO (j : Nat) (te : DTE) : DTS := fun D ρ => ownAt ρ j fun ds => te ρ fun d => ds.length < sizeLine ∧ D.nx (ρ.set j (some (.own (ds ++ [d]))))
def dFrz (j : Nat) (t : DTS) : DTS := fun D ρ => ownAt ρ j fun ds => t D (ρ.set j (some (.is (.lst ds))))
def dLenO (j : Nat) : DTE := fun ρ Q => ownAt ρ j fun ds => Q (.int ds.length)
theorem de_leno (j : Nat) {x : Str} {p px : Pos} (hm : X.mg "len" = none) (hN : X.N[j]? = some x := by rfl) (hv : Vis X.env.scope x := by first | exact Or.inl rfl | exact Or.inr (Or.inl rfl) | exact Or.inr (Or.inr rfl)) (hd : (x == ("__debug__" : Str)) = false := by decide)
    (hcd : (x == ("__classdict__" : Str)) = false := by decide) (hg : Gl X "len" := by rfl) (hst : starEach [.Name x px] X.env = (false, eval (.Name x px) X.env) :: starEach [] X.env := by rfl) (hpl : (backTo pos (starEach [] X.env)).any (·.1) = false := by rfl) : DE X (.Call (.Name "len" p) [.Name x px] [] pos) (dLenO j) where
  mono := fun hq h => h.mono fun ds h => hq _ h
  pe := (pe_callB call_len_seq hg hm PySem.boot_len (pa_cons (pe_var hN hv hd hcd) pa_nil hst) (he := hst) (hpl := hpl)).imp fun σ H Q ⟨B, F, O, ρ, R, h⟩ => by
    obtain ⟨ds, e1, h⟩ := h.get
    obtain ⟨a, xs, h1, h2, h3, h4, h5⟩ := R.own j ds e1
    exact ⟨_, h1, a, xs, rfl, .inl (SqL.of h4), by rw [h5.len]; exact h _ H (Same.refl H) (rp_int.mpr rfl)⟩
def dCatT : D2 := fun a b Q => match a with
  | .tup xs => match b with
    | .tup ys => (xs ≠ [] ∧ xs.length + ys.length ≤ sizeLine) ∧ Q (.tup (xs ++ ys))
    | _ => False
  | _ => False
end
end L2

namespace L2
open PySem PySem.Spec PyProof.Rows
section chain3
variable {X : Cx} {a b c e : Expr} {ta tb tc te : TE} {pos : Pos}
end chain3
def dChain3 (t t' t2 : D2) (ta tb tc te : DTE) : DTT := fun ρ Q => ta ρ fun a => tb ρ fun b => t a b fun z => match z with
  | .bl k => if k = true then tc ρ fun c => t' b c fun z => match z with
    | .bl k => if k = true then te ρ fun e => t2 c e fun z => match z with
      | .bl k => Q k
      | _ => False
      else Q false
    | _ => False
    else Q false
  | _ => False
section
variable {X : Cx} {a b c e : Expr} {ta tb tc te : DTE} {pos : Pos}
end
end L2

namespace L2
open PySem PySem.Spec PyProof.Rows PySem.W
theorem weight_mem {n : Int} : ∀ {ns : List Int}, n ∈ ns → WData.weight (.int n) ≤ WData.weightAll (ns.map WData.int)
  | [], h => nomatch h
  | m :: ns, h => by
    rw [List.map_cons, WData.weightAll]
    rcases List.mem_cons.mp h with e | e
    · subst e; omega
    · have := weight_mem e; omega
theorem long_of {ns : List Int} (h : WData.layableAll [WData.list (ns.map WData.int)] = true) : ∀ n ∈ ns, Bt 1048576 n := fun n hn => by
  have h1 : WData.weight (WData.list (ns.map WData.int)) ≤ 2 ^ 20 := by
    simp only [WData.layableAll, List.all_cons, List.all_nil, Bool.and_true, WData.layable, Bool.and_eq_true, decide_eq_true_eq] at h
    exact h.2
  rw [WData.weight] at h1
  have h2 := weight_mem hn
  rw [WData.weight] at h2
  refine intBits_le_iff.mp ?_
  have e : Builtin.Int.intBits n = if n == 0 then 0 else n.natAbs.log2 + 1 := rfl
  rw [e]
  omega
theorem attach_callB {l : OpenLaw} {n : Nat} {q : Program} {loose : List Str} {XP : (Str → Option Value) → Heap → Prop} {YP : World → Heap → Prop} {d : DefRec}
    (hn : l.most = some n) (hdf : d.params.defaults = [])
    (call : ∀ (w : World) (s₀ s₁ : Shared) (mg mb : Str → Option Value) (fa : Addr) (o : Obj) (pm cd doc : Value) (a : Addr) (vs : List Value) (ns : List Int),
      Ground q loose [] XP w s₀ mg mb s₁.heap → YP w s₁.heap → mg d.name = some (.ref fa) →
      s₁.heap.get? a = some { cls := .type "list", data := .seq vs.toArray } → IntsAre vs ns → ns.length ≤ n → (∀ n ∈ ns, Bt 1048576 n) → s₁.gens = #[] →
      codeAny (model l.prog w) callerA (.call (.ref fa) ⟨[.ref a], []⟩) (fun r s' => r = .ok (.ret (.bool true)) ∧ OldK s₁.heap s'.heap ∧ s'.os = s₁.os ∧ AllBare s'.gens) s₁) :
    WalkO q loose XP YP l.row.toRowW d [] (fun f vs => PySem.call f vs) := by
  intro w s₀ s₁ mg mb G Y fa o pm cd doc dV kV ho hd hcd hD hmg hg args vals as hpre hlay hrd hwl hlo
  obtain rfl : dV = .none := Dflts.none hD hdf
  obtain rfl : kV = .none := Dflts.noKw hD
  obtain ⟨a, vs, ns, rfl, rfl, hobj, hints, hlen⟩ := Att.script_of hn hpre hwl
  refine enter_call (codeAny_mono (call w s₀ s₁ mg mb fa o pm cd doc a vs ns G Y hmg hobj hints hlen (long_of hlay) hg) fun r s' hq => ?_)
  obtain ⟨rfl, h2, h3, h4⟩ := hq
  exact ⟨.inl ⟨.bool true, .bool true, [], rfl, fun _ => rfl, .bool true, Att.post_true l _, fun _ => ⟨List.Pairwise.nil, fun _ hm => (nomatch hm)⟩⟩, h2, h3, h4⟩
end L2

namespace L2
open PySem PySem.Spec PyProof.Rows
variable {X : Cx} {a b : Expr} {ta tb : DTE} {pos : Pos}
def dIn : D2 := fun a b Q => ∃ (i : Int) (ns : List Int), a = .int i ∧ b = .lst (ns.map Dt.int) ∧ Q (.bl (decide (i ∈ ns)))
def dAugI (i : Nat) (te : DTE) : DTS := fun D ρ => match ρ[i]? with
  | some (some (.is (.int a))) => te ρ fun d => match d with
    | .int b => D.nx (ρ.set i (some (.is (.int (a + b)))))
    | _ => False
  | _ => False
def dPar3 (i j k : Nat) (tl : DTA) : DTS := fun D ρ => tl ρ fun ds => match ds with
  | [d, e, f] => D.nx (((ρ.set i (some (.is d))).set j (some (.is e))).set k (some (.is f)))
  | _ => False
theorem dFor_open {ti : DTI} {g : DTG} {tb : DTS} {D : DEnds} {ρ : DEnv} (h : ti ρ fun items => dFor (fun _ R => R items) g tb D ρ) : dFor ti g tb D ρ := h
end L2

namespace L2
open PySem PySem.Spec PyProof.Rows PySem.SeqAt

mutual
def Dt.noL : Nat → Dt → Bool
  | _, .non => true
  | _, .bl _ => true
  | _, .int _ => true
  | _, .str _ => true
  | 0, _ => false
  | n + 1, .tup ds => Dt.noLs n ds
  | _, _ => false
def Dt.noLs : Nat → List Dt → Bool
  | _, [] => true
  | n, d :: ds => Dt.noL n d && Dt.noLs n ds
end
theorem noLs_c {n : Nat} {d : Dt} {r : List Dt} : Dt.noLs n (d :: r) = (Dt.noL n d && Dt.noLs n r) := by rw [Dt.noLs]
theorem noLs_n {n : Nat} : Dt.noLs n [] = true := by rw [Dt.noLs]
theorem noL_i {n : Nat} {i : Int} : Dt.noL n (.int i) = true := by cases n <;> rw [Dt.noL] <;> simp
theorem noL_t {n : Nat} {r : List Dt} : Dt.noL (n + 1) (.tup r) = Dt.noLs n r := by rw [Dt.noL]
def Keep (M M' : Hp) : Prop := ∀ b o, M b = some o → (∀ xs, o ≠ .lst xs) → M' b = some o
mutual
theorem rp_noL {K : PySem.W.Frag} {M M' : Hp} (k : Keep M M') : ∀ (n : Nat) (d : Dt) (v : V), d.noL n = true → Rp K M d v → Rp K M' d v
  | _, .non, _, _, r => by rw [rp_non] at r ⊢; exact r
  | _, .bl _, _, _, r => by rw [rp_bl] at r ⊢; exact r
  | _, .int _, _, _, r => by rw [rp_int] at r ⊢; exact r
  | _, .str _, _, _, r => by rw [rp_str] at r ⊢; exact r
  | 0, .tup _, _, h, _ => by simp [Dt.noL] at h
  | n + 1, .tup ds, _, h, r => by
    rw [noL_t] at h
    obtain ⟨a, xs, e, q, r⟩ := rp_tup.mp r
    refine rp_tup.mpr ⟨a, xs, e, ?_, rpl_noL k n ds xs h r⟩
    rcases q with (q | ⟨o, q⟩) | q
    · exact .inl (.inl (k _ _ q fun _ => by simp))
    · exact .inl (.inr ⟨o, k _ _ q fun _ => by simp⟩)
    · exact .inr q
  | 0, .lst _, _, h, _ => by simp [Dt.noL] at h
  | _ + 1, .lst _, _, h, _ => by simp [Dt.noL] at h
  | 0, .fn _, _, h, _ => by simp [Dt.noL] at h
  | _ + 1, .fn _, _, h, _ => by simp [Dt.noL] at h
  | 0, .exc _ _ _, _, h, _ => by simp [Dt.noL] at h
  | _ + 1, .exc _ _ _, _, h, _ => by simp [Dt.noL] at h
  | 0, .obj _ _ _, _, h, _ => by simp [Dt.noL] at h
  | _ + 1, .obj _ _ _, _, h, _ => by simp [Dt.noL] at h
theorem rpl_noL {K : PySem.W.Frag} {M M' : Hp} (k : Keep M M') : ∀ (n : Nat) (ds : List Dt) (vs : List V), Dt.noLs n ds = true → RpL K M ds vs → RpL K M' ds vs
  | _, [], _, _, r => by rw [rpl_nil] at r ⊢; exact r
  | n, d :: ds, _, h, r => by
    rw [noLs_c, Bool.and_eq_true] at h
    obtain ⟨v, w, rfl, r1, r2⟩ := rpl_cons.mp r
    exact rpl_cons.mpr ⟨v, w, rfl, rp_noL k n d v h.1 r1, rpl_noL k n ds w h.2 r2⟩
end
def isLst : Option HO → Bool
  | some (.lst _) => true
  | _ => false
def lists (H : Hp) (n : Nat) : List Addr := (List.range n).filter fun a => isLst (H a)
section
variable {X : Cx} {a b c e : Expr} {es : List Expr} {st : Stmt} {ta tb te : DTE} {tl : DTA} {tA : DTT} {t : DTS} {pos : Pos}
def dFresh (i : Nat) (sp : DSp) (tl : DTA) : DTS := fun D ρ => tl ρ fun ds => Dt.noLs 4 ds = true ∧ sp ds fun d => ∃ ks, d = .lst ks ∧ (∃ r, Dt.tup r ∈ ks) ∧ Dt.noLs 4 ks = true ∧ D.nx (ρ.set i (some (.own ks)))
def dLendT (j : Nat) (t : DTT) : DTT := fun ρ Q => ownAt ρ j fun ds => t (ρ.set j (some (.is (.lst ds)))) Q
def dCopyO (j : Nat) : DTE := fun ρ Q => ownAt ρ j fun ds => Q (.lst ds)
end
end L2

namespace L2
open PySem PySem.Spec PyProof.Rows PySem.W PySem.Builtin PySem.Builtin.ObjectAttr

section
variable {prog : Program} {w : World} {A : Around} {E : Value → Shared → Prop} {s : Shared} {K : PySem.W.Frag} {C U x dx : Addr} {name : Str} {v : Value}
end
section
variable {X : Cx} {pins : List (Addr × Obj)} {σ : St} {H : Hp} {s : Shared} {h' : Heap} {a dx C U f fI : Addr}
end
end L2
namespace L2
open PySem PySem.Spec PyProof.Rows PySem.SeqAt

abbrev DTAX := DEnv → (List Dt → Prop) → (Dt → Prop) → Prop
section
variable {X : Cx} {e : Expr} {es : List Expr} {te : DTEX} {tl : DTA} {tx : DTAX} {pos : Pos}
def dConsX (te : DTEX) (tl : DTA) : DTAX := fun ρ Q E => te ρ (fun d => tl ρ fun ds => Q (d :: ds)) E
def dCallA (sp : DSp) (tx : DTAX) : DTEX := fun ρ Q E => tx ρ (fun ds => sp ds Q) E
end
end L2

namespace L2
open PySem PySem.Spec PyProof.Rows
section
variable {prog : Program} {w : World} {A : Around} {I S : Addr} {fp wr : List Addr} {n : Nat} {P : Nat → Value → Prop} {St : Nat → Heap → Prop} {bt : Nat → Nat → Bool} {R : Result → Shared → Prop}
end
variable {X : Cx}
end L2

namespace L2
open PySem PySem.Spec PyProof.Rows
variable {X : Cx}
end L2

namespace L2
open PySem PySem.Spec PyProof.Rows PySem.SeqAt

section
variable {X : Cx} {a b c e o : Expr} {es : List Expr} {ta tb te : DTE} {tl : DTA} {pos apos : Pos}
end
end L2

namespace L2
open PySem PySem.Spec PyProof.Rows PySem.SeqAt

section
variable {K : PySem.W.Frag} {B : Hp} {F O : List Addr} {H : Hp} {σ : St} {ρ : DEnv} {x : Addr}
end
section
variable {X : Cx} {e e1 e2 e3 : Expr} {es : List Expr} {te1 te2 te3 : DTE} {tl : DTA} {pos apos : Pos}
end
section
variable {X : Cx} {e o : Expr} {es : List Expr} {te : DTE} {tl : DTA} {pos apos : Pos}
end
end L2

namespace L2
open PySem PySem.Spec PyProof.Rows
section
open PySem.SeqAt PySem.AutoSeq1 PySem.MeetsSeq PySem.MeetsSeq2 PySem.MeetsSeq3
end
section
variable {prog : Program} {w : World} {A : Around} {E : Value → Shared → Prop} {s : Shared}
end
end L2
namespace L2
open PySem PySem.Spec PyProof.Rows PySem.SeqAt
section
variable {X : Cx}
end
end L2

namespace L2
open PySem PySem.Spec PyProof.Rows PySem.SeqAt
section
variable {X : Cx} {a b : Expr} {ta tb : DTE} {pos : Pos}
end
end L2

namespace L2
open PySem PySem.Spec PyProof.Rows PySem.SeqAt
section
variable {X : Cx} {e : Expr} {te : DTE}
end
end L2

namespace L2
open PySem PySem.Spec PyProof.Rows PySem.SeqAt
section
variable {P : Program} {w : World} {A : Around} {E : Value → Shared → Prop} {s : Shared}
end
section
variable {X : Cx} {tg : Expr} {pins : List (Addr × Obj)} {σ : St} {H : Hp} {s : Shared} {g : Heap}
end
end L2

namespace L2
open PySem PySem.Spec PyProof.Rows PySem.SeqAt
section
variable {X : Cx} {tg : Expr}
end
section
variable {X : Cx} {elt iter : Expr} {x : Str} {N : List Str} {sl : List Nat} {scope : Scope} {px pos : Pos}
end
end L2

namespace L2
open PySem PySem.Spec PyProof.Rows
section
variable {prog : Program} {w : World} {A : Around}
end
variable {X : Cx}
end L2

namespace L2
open PySem PySem.Spec PyProof.Rows
variable {X : Cx}
end L2

namespace L2
open PySem PySem.Spec PyProof.Rows
open PySem.W (KasT kas_asc kas_desc kas_tail3 kas_descPart kas_count kas_place kas_bin kas_sort kas_rev)
section
variable {n : Nat}
end
section
variable {prog : Program} {w : World} {A : Around} {E : Value → Shared → Prop} {s : Shared}
end
variable {X : Cx}
end L2

namespace L2
open PySem PySem.Spec PyProof.Rows
open PySem.W (KasT kas_asc kas_desc kas_tail3 kas_descPart kas_count kas_place kas_bin kas_sort kas_rev)
structure StrictO (bt : Nat → Nat → Bool) : Prop where
  asy : ∀ i j, bt i j = true → bt j i = false
  neg : ∀ i j k, bt j i = false → bt k j = false → bt k i = false
abbrev gt (p : Array Nat) (i : Nat) : Nat := p.getD i 0
section
variable {bt : Nat → Nat → Bool} (O : StrictO bt)
end
end L2
namespace L2
open PySem PySem.Spec PyProof.Rows
end L2

namespace L2
open PySem PySem.Spec PyProof.Rows PySem.SeqAt
section
variable {X : Cx} {e : Expr} {te : DTE} {pos : Pos}
end
end L2
namespace L2
open PySem
end L2

namespace L2
open PySem PySem.Spec PyProof.Rows
open PySem.W (KasT kas_sort)
section
variable {prog : Program} {w : World} {A : Around} {E : Value → Shared → Prop} {s : Shared}
end
section
variable {X : Cx}
end
end L2

namespace L2
open PySem PySem.Spec PyProof.Rows
variable {X : Cx}
end L2

namespace L2
open PySem PySem.Spec PyProof.Rows PySem.SeqAt
variable {X : Cx}
end L2

namespace L2
open PySem PySem.Spec PyProof.Rows PySem.SeqAt
section
variable {P : Program} {w : World}
end
section
variable {X : Cx} {pins : List (Addr × Obj)} {σ : St} {H : Hp} {s : Shared} {a b : Addr} {ks : List (List Int)} {xs : List (List Key × Addr × Value)} {A : Around} {E : Value → Shared → Prop} {k : List Int}
end
section
variable {K : PySem.W.Frag} {B : Hp} {F O : List Addr} {H : Hp} {σ : St} {ρ : DEnv}
end
section
variable {X : Cx} {e : Expr} {te : DTE} {pos : Pos}
end
end L2

namespace L2
open PySem PySem.Spec PyProof.Rows
variable {X : Cx} {a b : Expr} {ta tb : DTE} {pos : Pos}
end L2

namespace L2
open PySem PySem.Spec PyProof.Rows PySem.SeqAt
section
variable {X : Cx} {k : Nat} {f C : Addr} {fd : FuncData} {ps : List Str} {sp : Sp} {x : Str} {p pos : Pos} {e : Expr} {es : List Expr} {t : TA}
end
section
variable {X : Cx} {o e : Expr} {es : List Expr} {tl : DTA} {te : DTEX} {pos : Pos}
end
section
variable {X : Cx} {es : List Expr} {pos : Pos}
end
end L2

namespace L2
open PySem PySem.Spec PyProof.Rows PySem.SeqAt
section
variable {X : Cx} {e o : Expr} {es : List Expr} {t : TA} {pos apos : Pos}
end
section
variable {X : Cx} {e o a b : Expr} {es : List Expr} {te : DTE} {tl : DTA} {tx : DTEX} {tb : DTE} {pos apos : Pos}
end
end L2

namespace L2
open PySem PySem.Spec PyProof.Rows PySem.SeqAt
section
variable {X : Cx} {C U fI : Addr} {e : Expr} {es : List Expr} {p pos : Pos} {t : TA} {tl : DTA}
end
end L2

namespace L2
open PySem PySem.Spec PyProof.Rows PySem.SeqAt
section
variable {P : Program} {w : World} {H : Hp} {h h' : Heap} {a : Addr} {o : HO}
end
section
variable {X : Cx} {C U : Addr} {e : Expr} {es : List Expr} {p pos : Pos} {t : TA} {tl : DTA} {c : Str} {bm : List Value}
end
section
variable {K : PySem.W.Frag} {c : Str} {C U A : Addr} {cd : ClassData}
end
section
variable {t1 t2 t3 t4 u : DTS} {D : DEnds} {ρ : DEnv}
theorem seq_cut3 (S : DEnv → Prop) (h1 : ∀ N : DEnv → Prop, (∀ ρ', S ρ' → N ρ') → dSeq t1 (dSeq t2 t3) { D with nx := N } ρ) (h2 : ∀ ρ', S ρ' → u D ρ') : dSeq t1 (dSeq t2 (dSeq t3 u)) D ρ := h1 (u D) h2
end
end L2

namespace L2
open PySem PySem.Spec PyProof.Rows PySem.SeqAt
section
variable {X : Cx} {iter elt : Expr} {px pos : Pos} {scope : Scope} {x : Str} {N : List Str} {sl : List Nat} {tx : DTEX} {de : DTE} {ti : DTI}
end
end L2

namespace L2
open PySem PySem.Spec PyProof.Rows PySem.SeqAt
section
variable {X : Cx} {a : Expr} {ta : DTE} {pos : Pos}
end
end L2
namespace L2
open PySem PySem.Spec PyProof.Rows PySem.SeqAt
section
variable {X : Cx} {e : Expr} {te : DTE}
end
end L2

namespace L2
open PySem
namespace Tb
def Rs (xs : Array Nat) : Prop := ∀ i k, i < k → k < xs.size → xs.getD i 0 < xs.getD k 0
structure Ok (t : SetTable) (n : Nat) : Prop where
  rs : Rs t.place
  sz : t.place.size = n
  le : ∀ k, k < t.place.size → t.place.getD k 0 ≤ t.mask
  nd : t.dummies = #[]
  lt : n ≤ t.mask
set_option maxRecDepth 1000000 in
set_option maxRecDepth 1000000 in
set_option maxRecDepth 1000000 in
set_option maxRecDepth 1000000 in
set_option maxRecDepth 1000000 in
set_option maxRecDepth 1000000 in
def lp (mask : Nat) : Nat → Nat × Nat → Nat × Nat
  | 0, x => x
  | n + 1, x => lp mask n (SetTable.leap mask x.1 x.2)
end Tb
end L2

namespace L2
open PySem
namespace Tb
structure PI (t : SetTable) (p : SetTable.Probe) : Prop where
  i : p.i ≤ t.mask
  j : p.j + p.more ≤ t.mask
  d : p.dummy = none
end Tb
end L2

namespace L2
open PySem
namespace Tb
end Tb
end L2

namespace L2
open PySem PySem.Spec PyProof.Rows PySem.SeqAt
section
variable {prog : Program} {w : World} {A : Around} {E : Value → Shared → Prop} {s : Shared} {h : Heap} {r : List Int} {b : Addr}
end
end L2

namespace L2
open PySem PySem.Spec PyProof.Rows PySem.SeqAt
section
variable {prog : Program} {w : World} {A : Around} {E : Value → Shared → Prop} {s : Shared}
set_option maxHeartbeats 3200000 in
end
end L2

namespace L2
open PySem PySem.Spec PyProof.Rows PySem.SeqAt
section
variable {X : Cx} {e : Expr} {te : DTE} {pos : Pos}
end
end L2
namespace L2
open PySem
end L2

namespace L2
open PySem PySem.Spec PyProof.Rows PySem.SeqAt
section
variable {prog : Program} {w : World} {A : Around} {E : Value → Shared → Prop} {s : Shared} {a I : Addr} {es : Array (Int × Value)} {ep i : Nat} {t : SetTable}
end
end L2

namespace L2
open PySem PySem.Spec PyProof.Rows PySem.SeqAt
section
variable {prog : Program} {w : World} {A : Around} {E : Value → Shared → Prop} {s : Shared} {a : Addr} {es : Array (Int × Value)} {ep : Nat} {t : SetTable}
set_option maxHeartbeats 3200000 in
end
end L2

namespace L2
open PySem PySem.Spec PyProof.Rows PySem.SeqAt
section
variable {prog : Program} {w : World} {A : Around} {E : Value → Shared → Prop} {s : Shared}
end
end L2

namespace L2
open PySem PySem.Spec PyProof.Rows PySem.SeqAt
section
variable {prog : Program} {w : World} {A : Around} {E : Value → Shared → Prop} {s : Shared}
set_option maxHeartbeats 3200000 in
end
end L2

namespace L2
open PySem PySem.Spec PyProof.Rows PySem.SeqAt
section
variable {X : Cx} {e : Expr} {te : DTE} {pos : Pos}
end
end L2

namespace L2
open PySem PySem.Spec PyProof.Rows PySem.SeqAt
section
variable {K : PySem.W.Frag} {B : Hp} {F O O1 : List Addr} {H H1 : Hp} {σ σ' : St} {ρ ρ' : DEnv} {i : Nat} {ds : List Dt} {a : Addr} {xs : List V}
end
section
variable {X : Cx} {e : Expr} {es : List Expr} {st : Stmt} {te : DTE} {tl : DTA} {tA tA' : DTT} {t t' : DTS} {pos : Pos}
end
end L2

namespace L2
open PySem PySem.Spec PyProof.Rows PySem.SeqAt
section
variable {X : Cx} {e : Expr} {es : List Expr} {te : DTE} {tl : DTA} {pos : Pos}
end
end L2

namespace L2
open PySem PySem.Spec PyProof.Rows PySem.SeqAt
section
variable {prog : Program} {w : World} {A : Around} {E : Value → Shared → Prop} {s : Shared}
end
section
variable {X : Cx} {e : Expr} {te : DTE} {pos : Pos}
end
end L2

namespace L2
open PySem PySem.Spec PyProof.Rows
variable {X : Cx} {a b : Expr} {ta tb : DTE} {pos : Pos}
end L2

namespace L2
open PySem PySem.Spec PyProof.Rows
variable {X : Cx} {pos : Pos}
end L2

namespace L2
open PySem PySem.Spec PyProof.Rows PySem.SeqAt
def isLs : Option HO → Bool
  | some (.lst _) => true
  | some (.frz _ (.lst _)) => true
  | _ => false
def KeepT (M M' : Hp) : Prop := ∀ b o, M b = some o → isLs (some o) = false → M' b = some o
mutual
theorem rp_noT {K : PySem.W.Frag} {M M' : Hp} (k : KeepT M M') : ∀ (n : Nat) (d : Dt) (v : V), d.noL n = true → Rp K M d v → Rp K M' d v
  | _, .non, _, _, r => by rw [rp_non] at r ⊢; exact r
  | _, .bl _, _, _, r => by rw [rp_bl] at r ⊢; exact r
  | _, .int _, _, _, r => by rw [rp_int] at r ⊢; exact r
  | _, .str _, _, _, r => by rw [rp_str] at r ⊢; exact r
  | 0, .tup _, _, h, _ => by simp [Dt.noL] at h
  | n + 1, .tup ds, _, h, r => by
    rw [noL_t] at h
    obtain ⟨a, xs, e, q, r⟩ := rp_tup.mp r
    refine rp_tup.mpr ⟨a, xs, e, ?_, rpl_noT k n ds xs h r⟩
    rcases q with (q | ⟨o, q⟩) | q
    · exact .inl (.inl (k _ _ q rfl))
    · exact .inl (.inr ⟨o, k _ _ q rfl⟩)
    · exact .inr q
  | 0, .lst _, _, h, _ => by simp [Dt.noL] at h
  | _ + 1, .lst _, _, h, _ => by simp [Dt.noL] at h
  | 0, .fn _, _, h, _ => by simp [Dt.noL] at h
  | _ + 1, .fn _, _, h, _ => by simp [Dt.noL] at h
  | 0, .exc _ _ _, _, h, _ => by simp [Dt.noL] at h
  | _ + 1, .exc _ _ _, _, h, _ => by simp [Dt.noL] at h
  | 0, .obj _ _ _, _, h, _ => by simp [Dt.noL] at h
  | _ + 1, .obj _ _ _, _, h, _ => by simp [Dt.noL] at h
theorem rpl_noT {K : PySem.W.Frag} {M M' : Hp} (k : KeepT M M') : ∀ (n : Nat) (ds : List Dt) (vs : List V), Dt.noLs n ds = true → RpL K M ds vs → RpL K M' ds vs
  | _, [], _, _, r => by rw [rpl_nil] at r ⊢; exact r
  | n, d :: ds, _, h, r => by
    rw [noLs_c, Bool.and_eq_true] at h
    obtain ⟨v, w, rfl, r1, r2⟩ := rpl_cons.mp r
    exact rpl_cons.mpr ⟨v, w, rfl, rp_noT k n d v h.1 r1, rpl_noT k n ds w h.2 r2⟩
end
section
variable {K : PySem.W.Frag} {B : Hp} {F F' O : List Addr} {H : Hp} {σ : St} {ρ : DEnv}
end
section
variable {X : Cx} {st : Stmt} {sts : List Stmt} {t u : DTS}
end
section
variable {X : Cx} {pins : List (Addr × Obj)} {σ : St} {H : Hp} {s : Shared}
end
section
variable {X : Cx}
end
section
variable {X : Cx} {sts : List Stmt} {u : DTS}
end
section
variable {X : Cx} {a b : Expr} {pos : Pos}
end
end L2

namespace L2
open PySem PySem.Spec PyProof.Rows PySem.SeqAt
def funAt (f : Addr) (o : Obj) (h : Heap) : Prop := h.get? f = some o
def recAt (c : Addr) (q : Str) (h : Heap) : Prop := h.CodeRec (.ref c) q
theorem funAt_stay {f : Addr} {o : Obj} (h1 h2 : Heap) (x : funAt f o h1) (k : ∀ u, h1.get? f = some u → h2.get? f = some u) : funAt f o h2 := k _ x
theorem recAt_stay {c : Addr} {q : Str} (h1 h2 : Heap) (x : recAt c q h1) (k : ∀ u, h1.get? c = some u → h2.get? c = some u) : recAt c q h2 := by
  obtain ⟨c', o, vs, t, e, g, r⟩ := x
  cases e
  exact ⟨c, o, vs, t, rfl, k _ g, r⟩
section
variable {X : Cx} {pins : List (Addr × Obj)} {σ : St} {H : Hp} {s : Shared}
theorem Inv.forgetX (I : Inv X pins σ H s) (xs : List Addr) (hx : ∀ a ∈ xs, ∃ φ, H a = some (.ext φ)) : Inv X pins σ (mask xs H) s := by
  have no : ∀ {b : Addr}, H b = none → mask xs H b = none := fun {b} e => by
    by_cases z : b ∈ xs
    · exact mask_in z
    · rw [mask_out z]; exact e
  have out : ∀ {b : Addr} {u : HO}, H b = some u → (∀ φ, u ≠ .ext φ) → mask xs H b = some u := fun {b u} e n => by
    rw [mask_out]
    · exact e
    · intro z
      obtain ⟨φ, q⟩ := hx b z
      rw [e] at q
      exact n φ (Option.some.inj q)
  refine ⟨I.ok, I.os, I.bare, ⟨I.base.keep, I.base.slot, fun b u e n h => no (I.base.free b u e n h), I.base.there, fun b ys e => out (I.base.tups b ys e) (by simp), fun b u v e => out (I.base.frzs b u v e) (by simp), fun b ps e => ?_⟩, I.loc, I.cell, no I.free, fun x c e => no (I.freeC x c e), fun p hp => ?_, fun b u e => ?_, I.len⟩
  · obtain ⟨more, q⟩ := I.base.tbls b ps e
    exact ⟨more, out q (by simp)⟩
  · obtain ⟨h1, h2, h3⟩ := I.pin p hp
    exact ⟨h1, no h2, h3⟩
  · exact (I.hok b u (mask_some e).2).stay (fun _ _ _ q => q) (fun c q => out q (by simp)) fun c ys q => out q (by simp)
end
def baseX (h base : Heap) (xs : List Addr) : Heap := hidT h fun b => if (base.get? b).isSome = true ∨ b ∈ xs then none else some (.rng 0 0)
theorem baseX_low {h base : Heap} {xs : List Addr} (k : ∀ b o, base.get? b = some o → h.get? b = some o) {b : Addr} {o : Obj} (e : base.get? b = some o) : (baseX h base xs).get? b = some o :=
  hidT_get (k b o e) (if_pos (.inl (by rw [e]; rfl)))
theorem baseX_more {h base : Heap} {xs : List Addr} {b : Addr} {o : Obj} (hb : b ∈ xs) (e : h.get? b = some o) : (baseX h base xs).get? b = some o := hidT_get e (if_pos (.inr hb))
theorem of_baseX {h base : Heap} {xs : List Addr} {b : Addr} {o : Obj} (e : (baseX h base xs).get? b = some o) : h.get? b = some o ∧ ((base.get? b).isSome = true ∨ b ∈ xs) := by
  obtain ⟨h1, h2⟩ := of_hidT e
  refine ⟨h1, ?_⟩
  by_cases z : (base.get? b).isSome = true ∨ b ∈ xs
  · exact z
  · rw [if_neg z] at h2; cases h2
theorem Mod.keeps {K : PySem.W.Frag} {mg : Str → Option Value} {base h : Heap} (m : Mod K mg base) (k : ∀ b o, base.get? b = some o → h.get? b = some o) : Mod K mg h :=
  ⟨m.kin.keeps k, m.glob.keeps k, let ⟨mb, h1, h2⟩ := m.blt; ⟨mb, h1.keeps k, h2⟩, m.nolimit.keeps k⟩
theorem funs_more {h base base' : Heap} : ∀ {l : List Env}, (∀ L ∈ frs l, base.get? L = none → base'.get? L = none) → h.FunFrames base l → h.FunFrames base' l
  | [], _, _ => trivial
  | env :: l, k, ⟨h1, ⟨L, o, h2, h3, h4⟩, h5⟩ => by
    have e : frs (env :: l) = L :: frs l := by
      show List.filterMap _ (env :: l) = _
      rw [List.filterMap_cons, h2]
      rfl
    rw [e] at k
    exact ⟨h1, ⟨L, o, h2, k L (.head _) h3, h4⟩, funs_more (fun L' h => k L' (.tail _ h)) h5⟩
section
variable {X : Cx} {pins : List (Addr × Obj)} {σ : St} {H : Hp} {s : Shared}
theorem Inv.env0X (I : Inv X pins σ H s) {xs : List Addr} (hn : ∀ b ∈ xs, H b = none) (hf : ∀ b ∈ xs, b ∉ frs X.stack) : Env0 X.prog X.w X.K X.mg (baseX s.heap X.base xs) X.A X.stack s H := by
  have e := I.env0
  have k : ∀ b o, X.base.get? b = some o → s.heap.get? b = some o := fun b o q => (e.bs b o q).1
  refine ⟨e.frames, e.mod.keeps fun b o q => baseX_low k q, fun b o q => ?_, Nat.le_of_eq (hidT_size _ _), funs_more (fun L hL n => ?_) e.funs, e.frf, e.hok, e.bare⟩
  · obtain ⟨h1, h2⟩ := of_baseX q
    refine ⟨h1, h2.elim (fun z => ?_) (hn b)⟩
    obtain ⟨o', q'⟩ := Option.isSome_iff_exists.mp z
    exact (e.bs b o' q').2
  · cases q : (baseX s.heap X.base xs).get? L with
    | none => rfl
    | some o =>
      rcases (of_baseX q).2 with z | z
      · rw [n] at z; cases z
      · exact absurd hL (hf L z)
theorem Inv.madeF {P c' : Addr} {ps more : Array Value} {h' : Heap} {o : Obj} {q : Str} {tk : Nat} (I : Inv X pins σ H s) (hP : H P = some (.tbl ps)) (hx : Heap.ExtBut P s.heap h') (hge : s.heap.objs.size ≤ c') (hlt : c' < h'.objs.size) (hrec : h'.CodeRec (.ref c') q)
    (htb : h'.get? P = some { cls := .none, data := .fields (ps ++ more) }) (ho : o.isFreed = false) :
    Inv X pins σ (upd (upd (upd H P (.tbl (ps ++ more))) c' (.ext (recAt c' q))) h'.objs.size (.ext (funAt h'.objs.size o))) { s with heap := h'.push o, toks := tk } := by
  have sz : s.heap.objs.size ≤ h'.objs.size := Nat.le_trans hge (Nat.le_of_lt hlt)
  have old : ∀ {b : Addr} {u : Obj}, s.heap.get? b = some u → b ≠ c' ∧ b ≠ h'.objs.size := fun {b u} e => by
    have z := Heap.lt_size e
    exact ⟨Nat.ne_of_lt (Nat.lt_of_lt_of_le z hge), Nat.ne_of_lt (Nat.lt_of_lt_of_le z sz)⟩
  have trk : ∀ {b : Addr} {u : HO}, H b = some u → b ≠ c' ∧ b ≠ h'.objs.size := fun {b u} e => by
    have z := I.hok.lt e
    exact ⟨Nat.ne_of_lt (Nat.lt_of_lt_of_le z hge), Nat.ne_of_lt (Nat.lt_of_lt_of_le z sz)⟩
  have nP : ∀ {b : Addr}, H b = none → b ≠ P := fun e z => by rw [z, hP] at e; cases e
  have far : ∀ {b : Addr}, b ≠ P → b ≠ c' → b ≠ h'.objs.size → upd (upd (upd H P (.tbl (ps ++ more))) c' (.ext (recAt c' q))) h'.objs.size (.ext (funAt h'.objs.size o)) b = H b := fun h1 h2 h3 => by rw [upd_ne h3, upd_ne h2, upd_ne h1]
  have kp : ∀ b u, b ≠ P → s.heap.get? b = some u → (h'.push o).get? b = some u := fun b u n e => Heap.get?_push_of_some _ (hx b u n e)
  have hPo := trk hP
  refine I.step (g' := s.gens) (d' := s.drawn) (ch := []) (fun _ z => nomatch z) (fun b u _ _ _ e n => kp b u (nP n) e) (fun b u _ _ _ e n => ⟨u.slots, kp b u (nP n) e⟩) (fun b u _ e n => ?_) (fun b u _ e => ?_) (fun b ys e => ?_) (fun b u v e => ?_) (fun b pz e => ?_) (fun m hm => ?_) (fun b u e => ?_) I.bare
  · rw [far (nP n) (old e).1 (old e).2]; exact n
  · by_cases z : b = P
    · subst z; exact ⟨_, Heap.get?_push_of_some _ htb⟩
    · exact ⟨u, kp b u z e⟩
  · rw [far (fun z => by rw [z, hP] at e; cases e) (trk e).1 (trk e).2]; exact e
  · rw [far (fun z => by rw [z, hP] at e; cases e) (trk e).1 (trk e).2]; exact e
  · by_cases z : b = P
    · subst z
      rw [hP] at e
      cases e
      exact ⟨more, by rw [upd_ne hPo.2, upd_ne hPo.1, upd_same]⟩
    · exact ⟨#[], by rw [far z (trk e).1 (trk e).2, e, Array.append_empty]⟩
  · obtain ⟨u, es, ep, e, r⟩ := hm
    exact ⟨u, es, ep, kp _ u (nP I.free) e, r⟩
  · by_cases z1 : b = h'.objs.size
    · subst z1
      rw [upd_same] at e
      cases e
      have g := Heap.get?_push_size h' ho
      exact ⟨g, ⟨o, g⟩, funAt_stay⟩
    · rw [upd_ne z1] at e
      by_cases z2 : b = c'
      · subst z2
        rw [upd_same] at e
        cases e
        have g := hrec.push o
        obtain ⟨c2, oc, vs, t, e2, g2, r2⟩ := id g
        cases e2
        exact ⟨g, ⟨oc, g2⟩, recAt_stay⟩
      · rw [upd_ne z2] at e
        by_cases z3 : b = P
        · subst z3
          rw [upd_same] at e
          cases e
          exact Heap.get?_push_of_some _ htb
        · rw [upd_ne z3] at e
          refine (I.hok b u e).stay (fun c v hc g => kp c v ?_ g) (fun c g => ?_) fun c ys g => ?_
          · rcases hc with rfl | hc
            · exact z3
            · intro z; rw [z, hP] at hc; cases hc
          · rw [far (fun z => by rw [z, hP] at g; cases g) (trk g).1 (trk g).2]; exact g
          · rw [far (fun z => by rw [z, hP] at g; cases g) (trk g).1 (trk g).2]; exact g
end
end L2

namespace L2
open PySem PySem.Spec PyProof.Rows PySem.SeqAt
structure LamAt (X : Cx) (c P : Addr) : Prop where
  code : X.env.code = .ref c
  hd : PySem.W.CodeHd X.base c P
  bm : ∃ bm ob, X.mg "__builtins__" = some (.ref bm) ∧ bm ≠ builtinsNs ∧ X.base.get? bm = some ob ∧ ob.cls = .type "module" ∧ ob.dict = some builtinsNs ∧ ob.data = .plain
structure Clos (X : Cx) (scope : Scope) (cl : List (Str × Addr)) : Prop where
  up : ∀ n c, cl.lookup n = some c → X.env.cells.lookup n = some c
  has : ∀ n, (n, NameKind.free) ∈ scope.names → ∃ c, cl.lookup n = some c
abbrev lamO (q : Str) (params : Arguments) (body : Expr) (scope : Scope) (cl : List (Str × Addr)) (pm : Value) (c' : Addr) (ctv : Value) : Obj := PySem.W.kla_obj "<lambda>" q params body scope cl pm c' ctv
def tLam (X : Cx) (P : Addr) (pos : Pos) (params : Arguments) (body : Expr) (scope : Scope) : TE := fun _ H Q => ∃ ps, H P = some (.tbl ps) ∧ TriplesOk ps.toList ∧ ∀ cl, Clos X scope cl → ∀ pm,
  ((codeAmong pos ps.toList = none ∧ ∀ f c' ctv, H f = none → H c' = none → f ≠ c' → Q (.ref f) (upd (upd (upd H P (.tbl (ps ++ #[rawInt pos.line, rawInt pos.col, .ref c']))) c' (.ext (recAt c' (X.env.qual ++ "<lambda>")))) f (.ext (funAt f (lamO (X.env.qual ++ "<lambda>") params body scope cl pm c' ctv))))) ∨
   (∃ c', codeAmong pos ps.toList = some (.ref c') ∧ H c' = some (.ext (recAt c' (X.env.qual ++ "<lambda>"))) ∧ ∀ f ctv, H f = none → Q (.ref f) (upd H f (.ext (funAt f (lamO (X.env.qual ++ "<lambda>") params body scope cl pm c' ctv))))))
section
variable {X : Cx}
theorem pe_lam {c P : Addr} {params : Arguments} {body : Expr} {scope : Scope} {pos : Pos} (L : LamAt X c P) (hdef : defaultsOf params X.env = ([], []) := by rfl) (hfr : ∀ y ∈ scope.names, y.2 = .free → X.env.kindOf y.1 = some .cell) :
    PE X (.Lambda params body scope pos) (tLam X P pos params body scope) := by
  intro pins s σ H Q I h
  obtain ⟨ps, hP, ht, h⟩ := h
  obtain ⟨cl, hcl, c1, c2⟩ := closure_of (env := X.env) (scope := scope) fun y hy hf => I.ok.has y.1 (.inl (hfr y hy hf))
  have kb : ∀ b o, X.base.get? b = some o → s.heap.get? b = some o := fun b o q => (I.bs b o q).1
  have nb : ∀ b o, X.base.get? b = some o → b ≠ P := fun b o q z => by
    have := (I.bs b o q).2
    rw [z, hP] at this
    cases this
  have hg := I.ok.mod.glob.keeps kb
  obtain ⟨go, ges, gep, ge, gd, _⟩ := id I.ok.mod.glob
  have hgP : mainGlobals ≠ P := nb _ _ ge
  obtain ⟨bm, ob, b1, b2, b3, b4, b5, b6⟩ := L.bm
  have hB : s.heap.BuiltinsAt X.mg P := ⟨bm, ob, b1, b2, (fun z => by rw [z, ge] at b3; cases b3; rw [gd] at b6; cases b6), nb _ _ b3, kb _ _ b3, b4, b5, b6⟩
  have hPo : s.heap.get? P = some (PySem.W.tabObj ps) := I.hok P _ hP
  refine PySem.W.kla_eval hdef ?_
  rcases h cl ⟨c1, c2⟩ ((X.mg "__name__").getD .none) with ⟨hn, q⟩ | ⟨c', hn, hc', q⟩
  · refine PySem.W.kla_makeFunction (mg := X.mg) hcl I.ok.glob hg L.code (L.hd.keeps kb) hPo ht hn hgP hB fun c' ctv h' tk hx hge hlt hrec htb => ?_
    have I' := I.madeF (more := #[rawInt pos.line, rawInt pos.col, .ref c']) (tk := tk) (o := lamO (X.env.qual ++ "<lambda>") params body scope cl ((X.mg "__name__").getD .none) c' ctv) hP hx hge hlt hrec htb rfl
    exact ⟨.ref h'.objs.size, _, I', rfl, q _ c' ctv (I.hok.fresh (Nat.le_trans hge (Nat.le_of_lt hlt))) (I.hok.fresh hge) (Nat.ne_of_gt hlt)⟩
  · refine PySem.W.kla_makeFunctionHit (mg := X.mg) (cv := .ref c') hcl I.ok.glob hg L.code (L.hd.keeps kb) hPo ht hn hB fun ctv h' tk hk hsz => ?_
    have g := Heap.get?_push_size h' (o := lamO (X.env.qual ++ "<lambda>") params body scope cl ((X.mg "__name__").getD .none) c' ctv) rfl
    exact ⟨.ref h'.objs.size, _, I.laid (t' := tk) (fun b u e => Heap.get?_push_of_some _ (hk b u e)) hsz (show ObjOk X.prog X.w _ _ _ (.ext _) from ⟨g, ⟨_, g⟩, funAt_stay⟩), rfl, q _ ctv (I.hok.fresh hsz)⟩
end
def cxL (P : Program) (w : World) (K : PySem.W.Frag) (mg : Str → Option Value) (base : Heap) (N : List Str) (qual : Str) (scope : Scope) (f : Addr) (cd : Value) (cl : List (Str × Addr)) (A : Around) (outer : List Env) (s : Shared) (H : Hp) : Cx where
  prog := P
  w := w
  K := K
  mg := mg
  base := base
  A := A.deeper (PySem.W.envX qual scope s.heap.objs.size f cd cl)
  N := N
  s₀ := s
  H₀ := H
  env := PySem.W.envX qual scope s.heap.objs.size f cd cl
  outer := outer
  stack := PySem.W.envX qual scope s.heap.objs.size f cd cl :: outer
  ex := []
  calm := true
  fn := fun _ => false
  pn := []
  xe := fun _ _ => False
structure Lam (base : Heap) (f : Addr) (q : Str) (params : Arguments) (body : Expr) (scope : Scope) (cl : List (Str × Addr)) (pm : Value) (c' : Addr) (ctv : Value) (fr : List Str) (ws : List V) : Prop where
  fn : base.get? f = some (lamO q params body scope cl pm c' ctv)
  inj : ∀ x y c, cl.lookup x = some c → cl.lookup y = some c → x = y
  has : ∀ n, (n, NameKind.free) ∈ scope.names → ∃ c, cl.lookup n = some c
  cell : ∀ x c, cl.lookup x = some c → ∃ v, base.IsCell c v
  val : ∀ (i : Nat) x w, fr[i]? = some x → ws[i]? = some w → scope.names.lookup x = some .free ∧ ∃ a u, cl.lookup x = some a ∧ base.IsCell a (some u) ∧ RelV w u
theorem inv_startL {P : Program} {w : World} {K : PySem.W.Frag} {mg : Str → Option Value} {base : Heap} {q : Str} {params : Arguments} {body : Expr} {scope : Scope} {f c' : Addr} {cl : List (Str × Addr)} {pm ctv : Value} {A : Around} {outer : List Env} {s : Shared} {H : Hp} {x y : Str} {u v : Value} {a b : V} {fr : List Str} {ws : List V} {h₁ : Heap} {tk : Nat}
    (L : Lam base f q params body scope cl pm c' ctv fr ws) (hd : A.handled = none) (e0 : Env0 P w K mg base A outer s H) (ra : RelV a u) (rb : RelV b v) (hxy : (x == y) = false) (hx : scope.names.lookup x = some .local) (hy : scope.names.lookup y = some .local) (hk : scope.kind = .function) (hc : ∀ z ∈ scope.names, z.2 ≠ .cell) (hl : ws.length = fr.length)
    (hns : h₁.Ns s.heap.objs.size fun z => [(x, u), (y, v)].reverse.lookup z) (hsb : Heap.SameBut s.heap.objs.size (s.heap.push { cls := .type "frame", data := .dict #[] }) h₁) :
    Inv (cxL P w K mg base (x :: y :: fr) q scope f (.ref c') cl A outer s H) [] (some a :: some b :: ws.map some) H { s with heap := h₁, toks := tk } := by
  have kp : ∀ b o, s.heap.get? b = some o → h₁.get? b = some o := fun b o e => hsb.extBut b o (Nat.ne_of_lt (Heap.lt_size e)) (Heap.get?_push_of_some _ e)
  have cellK : ∀ {c : Addr} {z : Option Value}, base.IsCell c z → h₁.IsCell c z ∧ H c = none := fun {c z} ⟨o, e, d⟩ => ⟨⟨o, kp c o (e0.bs c o e).1, d⟩, (e0.bs c o e).2⟩
  refine ⟨⟨e0.mod, hk, rfl, rfl, Nat.le_refl _, L.inj, fun z hz => ?_, fun z c h => (by cases h), fun _ => hd, Around.frames_deeper e0.frames, .inr ⟨rfl, rfl⟩, fun b z => (nomatch z), e0.bs, e0.bsz, fun b _ _ z => (nomatch z), fun b z => (nomatch z), e0.funs, e0.frf⟩,
    rfl, e0.bare, Un.kept kp, ⟨_, hns, fun i z t h1 h2 h3 => ?_⟩, fun z c h => ?_, e0.hok.fresh (Nat.le_refl _), fun z c h => ?_, fun p hp => (nomatch hp), e0.hok.kept kp, ?_⟩
  · have hz : scope.names.lookup z = some .cell ∨ scope.names.lookup z = some .free := hz
    rcases hz with hz | hz
    · exact absurd rfl (hc _ (PySem.mem_of_lookup hz))
    · exact L.has z (PySem.mem_of_lookup hz)
  · cases i with
    | zero =>
      cases h1; cases h2
      refine ⟨u, ra, .inl ⟨hx, ?_⟩⟩
      show List.lookup x [(y, v), (x, u)] = some u
      rw [List.lookup_cons, hxy]
      simp [List.lookup_cons]
    | succ i => cases i with
      | zero =>
        cases h1; cases h2
        refine ⟨v, rb, .inl ⟨hy, ?_⟩⟩
        show List.lookup y [(y, v), (x, u)] = some v
        simp [List.lookup_cons]
      | succ i =>
        have h1 : fr[i]? = some z := h1
        have h2 : (ws.map some)[i]? = some (some t) := h2
        rw [List.getElem?_map] at h2
        cases e : ws[i]? with
        | none => rw [e] at h2; cases h2
        | some t' =>
          rw [e] at h2; cases h2
          obtain ⟨k1, ac, uu, k2, k3, k4⟩ := L.val i z t h1 e
          exact ⟨uu, k4, .inr ⟨.inr k1, ac, k2, (cellK k3).1⟩⟩
  · obtain ⟨z', e⟩ := L.cell z c h
    exact ⟨z', (cellK e).1⟩
  · obtain ⟨z', e⟩ := L.cell z c h
    exact (cellK e).2
  · show (some a :: some b :: ws.map some).length = (x :: y :: fr).length
    simp [hl]
theorem lam_ok {P : Program} {w : World} {K : PySem.W.Frag} {mg : Str → Option Value} {base : Heap} {q : Str} {params : Arguments} {body : Expr} {scope : Scope} {f c' : Addr} {cl : List (Str × Addr)} {pm ctv : Value} {x y : Str} {fr : List Str} {ws : List V} {k : Nat} {sp : Sp}
    (L : Lam base f q params body scope cl pm c' ctv fr ws) (hxy : (x == y) = false) (hx : scope.names.lookup x = some .local) (hy : scope.names.lookup y = some .local) (hk : scope.kind = .function) (hc : ∀ z ∈ scope.names, z.2 ≠ .cell) (hl : ws.length = fr.length) (hco : scope.isCoroutine = false) (hgen : scope.isGenerator = false)
    (len : ∀ vs H Q E, sp vs H Q E → vs.length = 2) (hrec : ∀ vs H Q E, sp vs H Q E → H c' = some (.ext (recAt c' q)))
    (hbody : ∀ (A : Around) (outer : List Env) (s : Shared) (H : Hp) (a b : V) (Q : VK) (E : XK), Room k (A.deeper (PySem.W.envX q scope s.heap.objs.size f (.ref c') cl)) → sp [a, b] H Q E →
      ∃ t, PE (cxL P w K mg base (x :: y :: fr) q scope f (.ref c') cl A outer s H) body t ∧ t (some a :: some b :: ws.map some) H Q) :
    FnOk P w K mg base CX0 (k + 1) f (PySem.W.kla_fn "<lambda>" q params body scope cl pm (.ref c') ctv) [x, y] sp := by
  refine ⟨len, fun A outer s H args us vs Q E hr e0 hb r hsp => ?_⟩
  have l2 := len _ _ _ _ hsp
  match vs, l2, r with
  | [a, b], _, r =>
    obtain ⟨u, us1, rfl, ra, r1⟩ : ∃ u us1, us = u :: us1 ∧ RelV a u ∧ Vals [b] us1 := by cases r with | cons h t => exact ⟨_, _, rfl, h, t⟩
    obtain ⟨v, us2, rfl, rb, r2⟩ : ∃ v us2, us1 = v :: us2 ∧ RelV b v ∧ Vals [] us2 := by cases r1 with | cons h t => exact ⟨_, _, rfl, h, t⟩
    obtain rfl : us2 = [] := by cases r2; rfl
    have kb : ∀ b o, base.get? b = some o → s.heap.get? b = some o := fun b o e => (e0.bs b o e).1
    have lim : s.heap.NoLimit := e0.mod.nolimit.keeps kb
    refine PySem.W.kla_callFunE hr.depth (kb _ _ L.fn) rfl hco hgen rfl (e0.hok c' _ (hrec _ _ _ _ hsp)).1 (hb _ _ _ _ ?_)
    refine wpAny_newFunctionEnv hc (fun z hz => ?_) (fun h₁ hns hsb => ⟨lim.fresh _ hsb, ?_⟩) hk
    · simp only [List.zip_cons_cons, List.zip_nil_right, List.mem_cons, List.not_mem_nil, or_false] at hz
      rcases hz with rfl | rfl
      · exact hx
      · exact hy
    · obtain ⟨t, ht, hq⟩ := hbody A outer s H a b Q E (hr.deeper _) hsp
      have I := inv_startL (tk := s.toks + ([x, y].zip [u, v]).length) L hr.hd e0 ra rb hxy hx hy hk hc hl hns hsb
      show codeAny _ _ (.expr body (PySem.W.envX q scope s.heap.objs.size f (.ref c') cl)) _ _
      refine PySem.W.kla_codeExpr (wpAny_mono (ht [] _ _ H Q I hq) (fun z s' ⟨d, H', J, rd, qd⟩ => ?_) fun _ _ z => False.elim z)
      exact ⟨d, H', J.os, J.bare, J.base, J.hok, rd, qd⟩
end L2

namespace L2
open PySem PySem.Spec PyProof.Rows PySem.SeqAt
section
variable {X : Cx} {e : Expr} {es : List Expr} {t : TA} {pos : Pos}
def tCallF (X : Cx) (k j : Nat) (t : TA) : TE := fun σ H Q => ∃ f o fd, σ[j]? = some (some (.ref f)) ∧ X.base.get? f = some o ∧ o.data = .func fd ∧ t σ H fun vs H1 => ∃ ps sp, FnOk X.prog X.w X.K X.mg X.base CX0 k f fd ps sp ∧ Binds X.K fd ps [] ∧ sp vs H1 Q E0
theorem pe_callF {k : Nat} (j : Nat) {x : Str} {p : Pos} (hr : Room k X.A) (ha : PA X (e :: es) t) (hN : X.N[j]? = some x := by rfl) (hv : Vis X.env.scope x := by first | exact Or.inl rfl | exact Or.inr (Or.inl rfl) | exact Or.inr (Or.inr rfl)) (hd : (x == ("__debug__" : Str)) = false := by decide)
    (hcd : (x == ("__classdict__" : Str)) = false := by decide) (he : starEach (e :: es) X.env = (false, eval e X.env) :: starEach es X.env := by rfl) (hpl : (backTo pos (starEach es X.env)).any (·.1) = false := by rfl) :
    PE X (.Call (.Name x p) (e :: es) [] pos) (tCallF X k j t) := by
  intro pins s σ H Q I h
  obtain ⟨f, o, fd, h1, h2, h3, h⟩ := h
  refine wpAny_Call_Name_kw (thn (pe_var hN hv hd hcd pins s σ H (fun v H1 => v = .ref f ∧ H1 = H) I ⟨_, h1, rfl, rfl⟩) ?_)
  rintro u s1 ⟨v, H1, I1, r1, rfl, rfl⟩
  cases (show u = Value.ref f from r1)
  have hk : PySem.W.keepIn ((f, o) :: X.K) (.ref f) = true := by
    obtain ⟨c, d, dt, sl⟩ := o
    cases h3
    unfold PySem.W.keepIn
    simp [List.lookup_cons]
  have kin : ∀ {s' : Shared} {σ' : St} {H' : Hp}, Inv X pins σ' H' s' → PySem.W.Frag.In ((f, o) :: X.K) s'.heap := fun {s' σ' H'} J b u q => by
    rw [List.lookup_cons] at q
    split at q
    · rename_i z
      cases q
      rw [eq_of_beq z]
      exact (J.bs f o h2).1
    · exact J.kIn b u q
  refine PySem.W.callWith_K (K := (f, o) :: X.K) (h₀ := s1.heap) (kin I1) hk (thn (ha pos pins s1 σ H1 _ I1 h) fun us s2 ⟨vs, H2, I2, r, q⟩ => ⟨kin I2, ?_⟩) he hpl
  obtain ⟨ps, sp, G, hb, q⟩ := q
  exact run_fn (dvs := []) G hr hb .nil pass0 I2 r (by rw [List.append_nil]; exact q)
end
def plainD : Dt → Prop
  | .int _ => True
  | .str _ => True
  | .bl _ => True
  | .fn _ => True
  | _ => False
def valV : Dt → V
  | .int i => .int i
  | .str x => .str x
  | .bl b => .bl b
  | .fn a => .ref a
  | _ => .non
theorem rp_plain {K : PySem.W.Frag} {M : Hp} {d : Dt} {v : V} (h : plainD d) : Rp K M d v ↔ v = valV d := by
  cases d with
  | int i => exact rp_int
  | str x => exact rp_str
  | bl b => exact rp_bl
  | fn a => exact rp_fn
  | non => exact h.elim
  | tup _ => exact h.elim
  | lst _ => exact h.elim
  | exc _ _ _ => exact h.elim
  | obj _ _ _ => exact h.elim
def plainE : Option En → Option V → Prop
  | none, _ => True
  | some (.is d), v => plainD d ∧ v = some (valV d)
  | _, _ => False
def PlainF : DEnv → St → Prop
  | [], [] => True
  | e :: ρ, v :: σ => plainE e v ∧ PlainF ρ σ
  | _, _ => False
theorem PlainF.len : ∀ {ρ : DEnv} {σ : St}, PlainF ρ σ → σ.length = ρ.length
  | [], [], _ => rfl
  | [], _ :: _, h => h.elim
  | _ :: _, [], h => h.elim
  | _ :: _, _ :: _, h => by rw [List.length_cons, List.length_cons, PlainF.len h.2]
theorem PlainF.get : ∀ {ρ : DEnv} {σ : St} {i : Nat} {x : En}, PlainF ρ σ → ρ[i]? = some (some x) → ∃ d, x = .is d ∧ plainD d ∧ σ[i]? = some (some (valV d))
  | [], [], _, _, _, e => by simp at e
  | [], _ :: _, _, _, h, _ => h.elim
  | _ :: _, [], _, _, h, _ => h.elim
  | e :: ρ, v :: σ, 0, x, h, q => by
    cases q
    cases x with
    | is d =>
      obtain ⟨⟨h1, h2⟩, _⟩ := h
      exact ⟨d, rfl, h1, by rw [h2]; rfl⟩
    | own _ => exact h.1.elim
    | tab _ => exact h.1.elim
    | raw _ => exact h.1.elim
  | e :: ρ, v :: σ, i + 1, x, h, q => PlainF.get (i := i) h.2 q
def spPow (P : Program) (w : World) (K : PySem.W.Frag) (mg : Str → Option Value) (base : Heap) (k : Nat) : Sp := fun vs H Q _ => ∃ (val : Nat → Dt) (S : Nat → Hp → Prop) (n : Nat) (f : Addr) (o : Obj) (fd : FuncData) (ps : List Str) (sp : Sp) (d1 : Dt),
  vs = [valV (val 1), .int (n : Int), .ref f, valV d1] ∧ (∀ i, plainD (val i)) ∧ plainD d1 ∧ n.log2 < 2 ^ 60 ∧ base.get? f = some o ∧ o.data = .func fd ∧ FnOk P w K mg base CX0 k f fd ps sp ∧ Binds K fd ps [] ∧ S 0 H ∧ (∀ c H H', S c H → Same H H' → S c H') ∧
  (∀ i j c H R, 1 ≤ i → 1 ≤ j → i + j ≤ n → c < 2 * n.log2 → S c H → (∀ H', S (c + 1) H' → R (valV (val (i + j))) H') → sp [valV (val i), valV (val j)] H R E0) ∧
  (n = 0 → ∀ H', S 0 H' → Q (valV d1) H') ∧ (0 < n → ∀ c H', c ≤ 2 * n.log2 → S c H' → Q (valV (val n)) H')
end L2

namespace L2
open PySem PySem.Spec PyProof.Rows PySem.SeqAt
def spLam (val : Nat → Dt) (S : Nat → Hp → Prop) (n : Nat) : Sp := fun vs H R _ => ∃ i j c, (1 ≤ i ∧ 1 ≤ j ∧ i + j ≤ n ∧ c < 2 * n.log2) ∧ vs = [valV (val i), valV (val j)] ∧ S c H ∧ ∀ H', S (c + 1) H' → R (valV (val (i + j))) H'
section
variable {X : Cx} {pins : List (Addr × Obj)} {σ : St} {H : Hp} {s : Shared}
theorem run_pow {k kl : Nat} {fP f c' : Addr} {fdP : FuncData} {pw : List Str} {q x y : Str} {params : Arguments} {body : Expr} {scope : Scope} {cl : List (Str × Addr)} {pm ctv : Value} {fr : List Str} {ws : List V} {val : Nat → Dt} {S : Nat → Hp → Prop} {n : Nat} {d1 : Dt} {us : List Value} {Q : VK}
    (PM : ∀ base', Mod X.K X.mg base' → FnOk X.prog X.w X.K X.mg base' CX0 k fP fdP pw (spPow X.prog X.w X.K X.mg base' kl)) (hbP : Binds X.K fdP pw []) (hr : Room k X.A) (hfn : ∀ z, X.fn z = true)
    (I : Inv X pins σ H s) (hf : H f = some (.ext (funAt f (lamO q params body scope cl pm c' ctv)))) (C : Clos X scope cl)
    (hw : ∀ (i : Nat) z, fr[i]? = some z → scope.names.lookup z = some .free ∧ ∃ (j : Nat) (w : V), X.N[j]? = some z ∧ ws[i]? = some w ∧ σ[j]? = some (some w) ∧ X.env.kindOf z = some .cell)
    (hl : ∀ base', Lam base' f q params body scope cl pm c' ctv fr ws → FnOk X.prog X.w X.K X.mg base' CX0 kl f (PySem.W.kla_fn "<lambda>" q params body scope cl pm (.ref c') ctv) [x, y] (spLam val S n))
    (hbL : Binds X.K (PySem.W.kla_fn "<lambda>" q params body scope cl pm (.ref c') ctv) [x, y] [])
    (r : Vals [valV (val 1), .int (n : Int), .ref f, valV d1] us) (pl : ∀ i, plainD (val i)) (p1 : plainD d1) (hn : n.log2 < 2 ^ 60) (s0 : S 0 (mask [f] H)) (sm : ∀ c H H', S c H → Same H H' → S c H')
    (q0 : n = 0 → ∀ H', S 0 H' → Q (valV d1) H') (q1 : 0 < n → ∀ c H', c ≤ 2 * n.log2 → S c H' → Q (valV (val n)) H') :
    wpAny (model X.prog X.w) X.A (call (.ref fP) us) (EP X pins σ Q) X.xe s := by
  have I2 : Inv X pins σ (mask [f] H) s := I.forgetX [f] fun a ha => by rw [List.mem_singleton.mp ha]; exact ⟨_, hf⟩
  have ofn : s.heap.get? f = some (lamO q params body scope cl pm c' ctv) := (I.hok f _ hf).1
  obtain ⟨xs, exs⟩ : ∃ xs, f :: cl.filterMap (fun p => cl.lookup p.1) = xs := ⟨_, rfl⟩
  have inF : f ∈ xs := by rw [← exs]; exact .head _
  have inC : ∀ {z : Str} {c : Addr}, cl.lookup z = some c → c ∈ xs := fun {z c} e => by
    rw [← exs]
    exact .tail _ (List.mem_filterMap.mpr ⟨(z, c), PySem.mem_of_lookup e, e⟩)
  have cn : ∀ {z : Str} {c : Addr}, cl.lookup z = some c → H c = none ∧ c ∉ frs X.stack := fun {z c} e => by
    have u := C.up z c e
    refine ⟨I.freeC z c u, fun m => ?_⟩
    rcases List.mem_cons.mp (I.stkSub c m) with m | m
    · exact I.cne z c u m
    · obtain ⟨_, o, ho, _⟩ := I.ok.funs.mem m
      exact absurd (Nat.lt_of_lt_of_le (Heap.lt_size ho) (I.ok.cab z c (hfn z) u)) (Nat.lt_irrefl _)
  have nf : ∀ b ∈ xs, mask [f] H b = none ∧ b ∉ frs X.stack := fun b hb => by
    rw [← exs] at hb
    rcases List.mem_cons.mp hb with rfl | hb
    · refine ⟨mask_in (.head _), fun z => ?_⟩
      have := I.stkFree b z
      rw [hf] at this
      cases this
    · obtain ⟨⟨z, c0⟩, _, e⟩ := List.mem_filterMap.mp hb
      obtain ⟨h1, h2⟩ := cn e
      refine ⟨?_, h2⟩
      by_cases m : b ∈ [f]
      · exact mask_in m
      · rw [mask_out m]; exact h1
  have E0' := I2.env0X (xs := xs) (fun b hb => (nf b hb).1) fun b hb => (nf b hb).2
  have L : Lam (baseX s.heap X.base xs) f q params body scope cl pm c' ctv fr ws := by
    refine ⟨baseX_more inF ofn, fun a b c h1 h2 => I.ok.inj a b c (C.up _ _ h1) (C.up _ _ h2), C.has, fun z c e => ?_, fun i z w h1 h2 => ?_⟩
    · obtain ⟨v, o, ho, hd⟩ := I.cell z c (C.up _ _ e)
      exact ⟨v, o, baseX_more (inC e) ho, hd⟩
    · obtain ⟨k1, j, w', k2, k3, k4, k5⟩ := hw i z h1
      rw [h2] at k3
      cases k3
      refine ⟨k1, ?_⟩
      obtain ⟨c, hc⟩ := C.has z (PySem.mem_of_lookup k1)
      obtain ⟨m, _, hl⟩ := I.loc
      obtain ⟨u, ru, lu⟩ := hl j z w k2 k4 (.inr (.inl k5))
      rcases lu with ⟨z1, _⟩ | ⟨_, c2, e2, o, ho, hd⟩
      · rw [k5] at z1; cases z1
      · rw [C.up _ _ hc] at e2
        cases e2
        exact ⟨c, u, hc, ⟨o, baseX_more (inC hc) ho, hd⟩, ru⟩
  have hlen : us.length = pw.length := by
    have := (PM _ E0'.mod).len [valV (val 1), .int (n : Int), .ref f, valV d1] (mask [f] H) Q E0 ⟨val, S, n, f, _, _, _, _, d1, rfl, pl, p1, hn, L.fn, rfl, hl _ L, hbL, s0, sm, fun i j c H' R h1 h2 h3 h6 h4 h5 => ⟨i, j, c, ⟨h1, h2, h3, h6⟩, rfl, h4, h5⟩, q0, q1⟩
    rw [← r.length]
    exact this
  refine wpAny_call (codeAny_mono ((PM _ E0'.mod).run X.A X.stack s (mask [f] H) ⟨us, []⟩ us [valV (val 1), .int (n : Int), .ref f, valV d1] Q E0 hr E0' ?_ r ⟨val, S, n, f, _, _, _, _, d1, rfl, pl, p1, hn, L.fn, rfl, hl _ L, hbL, s0, sm, fun i j c H' R h1 h2 h3 h6 h4 h5 => ⟨i, j, c, ⟨h1, h2, h3, h6⟩, rfl, h4, h5⟩, q0, q1⟩) fun res s' hq => ?_)
  · have := hbP s us I.kIn (by rw [List.append_nil]; exact hlen)
    rw [List.append_nil] at this
    exact this
  · cases res with
    | error e => exact (pass0 (X := X)) pins σ _ s e s' I2 hq
    | ok fl =>
      cases fl with
      | ret u => exact I2.after hq
      | next => exact False.elim hq
      | brk => exact False.elim hq
      | cont => exact False.elim hq
end
end L2

namespace L2
open PySem PySem.Spec PyProof.Rows PySem.SeqAt
abbrev Tabs := List (Addr × List (Pos × Str))
def Am (pos : Pos) (q : Str) (ps : Array Value) (H : Hp) : Prop := codeAmong pos ps.toList = none ∨ ∃ c, codeAmong pos ps.toList = some (.ref c) ∧ H c = some (.ext (recAt c q))
def TbI (tabs : Tabs) (H : Hp) : Prop := ∀ p ∈ tabs, ∃ ps, H p.1 = some (.tbl ps) ∧ TriplesOk ps.toList ∧ ∀ l ∈ p.2, Am l.1 l.2 ps H
theorem TbI.mono {tabs : Tabs} {H H' : Hp} (t : TbI tabs H) (s : Same H H') : TbI tabs H' := fun p hp => by
  obtain ⟨ps, h1, h2, h3⟩ := t p hp
  exact ⟨ps, s _ _ h1, h2, fun l hl => (h3 l hl).imp id fun ⟨c, e1, e2⟩ => ⟨c, e1, s _ _ e2⟩⟩
def SameT (tabs : Tabs) (H H' : Hp) : Prop := ∀ b o, H b = some o → (∀ p ∈ tabs, p.1 ≠ b) → H' b = some o
theorem SameT.refl {tabs : Tabs} (H : Hp) : SameT tabs H H := fun _ _ e _ => e
theorem SameT.trans {tabs : Tabs} {H H1 H2 : Hp} (a : SameT tabs H H1) (b : SameT tabs H1 H2) : SameT tabs H H2 := fun c o e n => b c o (a c o e n) n
theorem Same.t {tabs : Tabs} {H H' : Hp} (s : Same H H') : SameT tabs H H' := fun b o e _ => s b o e
theorem among_app {pos : Pos} {l c : Nat} {v : Value} : ∀ {xs : List Value}, TriplesOk xs → codeAmong pos (xs ++ [rawInt l, rawInt c, v]) = (codeAmong pos xs).or (if ((l : Int) == pos.line && (c : Int) == pos.col) = true then some v else none)
  | [], _ => by
    show (if _ then _ else _) = _
    unfold codeAmong
    split <;> rfl
  | .int a t :: .int b t' :: w :: r, h => by
    have ih := among_app (pos := pos) (l := l) (c := c) (v := v) (xs := r) h
    show codeAmong pos (.int a t :: .int b t' :: w :: (r ++ _)) = _
    unfold codeAmong
    split
    · rfl
    · exact ih
theorem triples_app {l c : Nat} {v : Value} : ∀ {xs : List Value}, TriplesOk xs → TriplesOk (xs ++ [rawInt l, rawInt c, v])
  | [], _ => trivial
  | .int _ _ :: .int _ _ :: _ :: r, h => triples_app (xs := r) h
theorem TbI.made {tabs : Tabs} {H : Hp} {P c' : Addr} {ps : Array Value} {pos : Pos} {q : Str} (t : TbI tabs H) (hP : H P = some (.tbl ps)) (ht : TriplesOk ps.toList) (hc : H c' = none) (hq : ∀ p ∈ tabs, p.1 = P → ∀ l ∈ p.2, l.1.line = pos.line → l.1.col = pos.col → l.2 = q) :
    TbI tabs (upd (upd H P (.tbl (ps ++ #[rawInt pos.line, rawInt pos.col, .ref c']))) c' (.ext (recAt c' q))) := fun p hp => by
  obtain ⟨pz, h1, h2, h3⟩ := t p hp
  have nc : ∀ {b : Addr} {u : HO}, H b = some u → b ≠ c' := fun e z => by rw [z, hc] at e; cases e
  have nP : ∀ {b : Addr} {φ : Heap → Prop}, H b = some (.ext φ) → b ≠ P := fun e z => by rw [z, hP] at e; cases e
  by_cases z : p.1 = P
  · rw [z, hP] at h1
    cases h1
    refine ⟨_, by rw [z, upd_ne (nc hP), upd_same], by rw [Array.toList_append]; exact triples_app ht, fun l hl => ?_⟩
    unfold Am
    rw [Array.toList_append, among_app ht]
    rcases h3 l hl with e | ⟨c, e1, e2⟩
    · rw [e, Option.none_or]
      split
      · rename_i y
        simp only [Bool.and_eq_true, beq_iff_eq] at y
        refine .inr ⟨c', rfl, ?_⟩
        rw [hq p hp z l hl (by omega) (by omega), upd_same]
      · exact .inl rfl
    · exact .inr ⟨c, by rw [e1]; rfl, by rw [upd_ne (nc e2), upd_ne (nP e2)]; exact e2⟩
  · refine ⟨pz, by rw [upd_ne (nc h1), upd_ne z]; exact h1, h2, fun l hl => (h3 l hl).imp id fun ⟨c, e1, e2⟩ => ⟨c, e1, by rw [upd_ne (nc e2), upd_ne (nP e2)]; exact e2⟩⟩
def lDT (K : PySem.W.Frag) (tabs : Tabs) (B₀ : Hp) (F : List Addr) (D : Ends) : DEnds where
  nx := fun ρ' => ∀ B O' σ' H', Rep K B F O' H' σ' ρ' → SameT tabs B₀ B → TbI tabs B → D.nx σ' H'
  rt := fun d => ∀ v H', SameT tabs B₀ H' → TbI tabs H' → Rp K (mask F H') d v → D.rt v H'
  bk := fun ρ' => ∀ B O' σ' H', Rep K B F O' H' σ' ρ' → SameT tabs B₀ B → TbI tabs B → D.bk σ' H'
  ct := fun ρ' => ∀ B O' σ' H', Rep K B F O' H' σ' ρ' → SameT tabs B₀ B → TbI tabs B → D.ct σ' H'
def lST (X : Cx) (tabs : Tabs) (t : DTS) : TS := fun D σ H => ∃ B₀ B F O ρ, Rep X.K B F O H σ ρ ∧ SameT tabs B₀ B ∧ TbI tabs B ∧ (∀ p ∈ tabs, p.1 ∈ F) ∧ t (lDT X.K tabs B₀ F D) ρ
structure DSsT (X : Cx) (tabs : Tabs) (sts : List Stmt) (t : DTS) : Prop where
  mono : ∀ {ρ D D'}, DEnds.le D D' → t D ρ → t D' ρ
  ps : PSs X sts (lST X tabs t)
section
variable {X : Cx} {tabs : Tabs} {st : Stmt} {sts : List Stmt} {t u : DTS}
theorem le_tab {K : PySem.W.Frag} {B₀ B : Hp} {F : List Addr} {D : Ends} (s : SameT tabs B₀ B) (ti : TbI tabs B) : DEnds.le (lDT K tabs B₀ F D) (lD K B F D) :=
  ⟨fun _ q O' σ' H' R' => q B O' σ' H' R' s ti, fun _ q v H' s' r => q v H' (s.trans s'.t) (ti.mono s') r, fun _ q O' σ' H' R' => q B O' σ' H' R' s ti, fun _ q O' σ' H' R' => q B O' σ' H' R' s ti⟩
theorem dssT_of (h : DSs X sts t) : DSsT X tabs sts t := ⟨h.mono, h.ps.imp fun D σ H ⟨B₀, B, F, O, ρ, R, s, ti, _, q⟩ => ⟨B, F, O, ρ, R, h.mono (le_tab s ti) q⟩⟩
theorem dssT_cons (h1 : DS X st t) (h2 : DSsT X tabs sts u) : DSsT X tabs (st :: sts) (dSeq t u) where
  mono := fun hd h => h1.mono (le_nx hd fun ρ q => h2.mono hd q) h
  ps := (pss_cons h1.ps h2.ps).imp fun D σ H ⟨B₀, B, F, O, ρ, R, s, ti, m, h⟩ => ⟨B, F, O, ρ, R, h1.mono (D := { lDT X.K tabs B₀ F D with nx := u (lDT X.K tabs B₀ F D) }) ⟨fun ρ' q O' σ' H' R' => ⟨B₀, B, F, O', ρ', R', s, ti, m, q⟩, (le_tab s ti).rt, (le_tab s ti).bk, (le_tab s ti).ct⟩ h⟩
end
section
variable {X : Cx} {e : Expr} {es : List Expr} {t : TA} {pos : Pos}
def tPow (X : Cx) (kl : Nat) (params : Arguments) (body : Expr) (scope : Scope) (x y : Str) (fr : List Str) (t : TA) : TE := fun σ H Q => t σ H fun vs H1 => ∃ (q : Str) (f c' : Addr) (cl : List (Str × Addr)) (pm ctv : Value) (ws : List V) (val : Nat → Dt) (S : Nat → Hp → Prop) (n : Nat) (d1 : Dt),
  vs = [valV (val 1), .int (n : Int), .ref f, valV d1] ∧ H1 f = some (.ext (funAt f (lamO q params body scope cl pm c' ctv))) ∧ Clos X scope cl ∧
  (∀ (i : Nat) z, fr[i]? = some z → scope.names.lookup z = some .free ∧ ∃ (j : Nat) (w : V), X.N[j]? = some z ∧ ws[i]? = some w ∧ σ[j]? = some (some w) ∧ X.env.kindOf z = some .cell) ∧
  (∀ base', Lam base' f q params body scope cl pm c' ctv fr ws → FnOk X.prog X.w X.K X.mg base' CX0 kl f (PySem.W.kla_fn "<lambda>" q params body scope cl pm (.ref c') ctv) [x, y] (spLam val S n)) ∧
  Binds X.K (PySem.W.kla_fn "<lambda>" q params body scope cl pm (.ref c') ctv) [x, y] [] ∧ (∀ i, plainD (val i)) ∧ plainD d1 ∧ n.log2 < 2 ^ 60 ∧ S 0 (mask [f] H1) ∧ (∀ c H H', S c H → Same H H' → S c H') ∧
  (n = 0 → ∀ H', S 0 H' → Q (valV d1) H') ∧ (0 < n → ∀ c H', c ≤ 2 * n.log2 → S c H' → Q (valV (val n)) H')
theorem pe_pow {k kl : Nat} {fP : Addr} {fdP : FuncData} {pw fr : List Str} {params : Arguments} {body : Expr} {scope : Scope} {x y nm : Str} {p : Pos}
    (PM : ∀ base', Mod X.K X.mg base' → FnOk X.prog X.w X.K X.mg base' CX0 k fP fdP pw (spPow X.prog X.w X.K X.mg base' kl)) (hbP : Binds X.K fdP pw []) (hr : Room k X.A) (hfn : ∀ z, X.fn z = true) (hg : Gl X nm) (hm : X.mg nm = some (.ref fP)) (hk : PySem.W.keepIn X.K (.ref fP) = true)
    (ha : PA X (e :: es) t) (hdb : (nm == ("__debug__" : Str)) = false := by decide) (he : starEach (e :: es) X.env = (false, eval e X.env) :: starEach es X.env := by rfl) (hpl : (backTo pos (starEach es X.env)).any (·.1) = false := by rfl) :
    PE X (.Call (.Name nm p) (e :: es) [] pos) (tPow X kl params body scope x y fr t) := by
  intro pins s σ H Q I h
  refine wpAny_Call_Name_kw (ld_glob I hg hm ?_ hdb)
  refine PySem.W.callWith_K (h₀ := X.base) I.ok.mod.kin hk (thn (ha pos pins s σ H _ I h) fun us s1 ⟨vs, H1, I1, r, q⟩ => ⟨I1.kIn, ?_⟩) he hpl
  obtain ⟨q, f, c', cl, pm, ctv, ws, val, S, n, d1, rfl, hf, C, hw, hl, hbL, pl, p1, hn, s0, sm, q0, q1⟩ := q
  exact run_pow PM hbP hr hfn I1 hf C hw hl hbL r pl p1 hn s0 sm q0 q1
end
end L2

namespace L2
open PySem PySem.Spec PyProof.Rows PySem.SeqAt
section
variable {K : PySem.W.Frag} {B B' : Hp} {F O : List Addr} {H H' : Hp} {σ : St} {ρ : DEnv}
theorem Rep.shift (r : Rep K B F O H σ ρ) {ms : List Addr} (hm : ∀ a ∈ ms, a ∈ F ∧ H' a ≠ none) (s : ∀ b o, H b = some o → b ∉ ms → H' b = some o) (hb : Same B' H') (hf : ∀ a ∈ O, B' a = none) : Rep K B' F O H' σ ρ := by
  have sk : Same (mask (F ++ O) H) (mask (F ++ O) H') := fun b o e => by
    obtain ⟨n, e⟩ := mask_some e
    rw [mask_out n]
    exact s b o e fun z => n (List.mem_append_left _ (hm b z).1)
  refine ⟨r.len, hb, hf, fun a h e => ?_, fun i d e => ?_, fun i ds e => ?_, r.inj, fun i ks e => ?_, r.tinj, r.raw⟩
  · by_cases z : a ∈ ms
    · exact (hm a z).2 e
    · have := r.th a h
      cases q : H a with
      | none => exact this q
      | some o => rw [s a o q z] at e; cases e
  · obtain ⟨v, h1, h2⟩ := r.is i d e
    exact ⟨v, h1, h2.mono sk⟩
  · obtain ⟨a, xs, h1, h2, h3, h4, h5⟩ := r.own i ds e
    exact ⟨a, xs, h1, h2, h3, s _ _ h4 fun z => h3 (hm a z).1, h5.mono sk⟩
  · obtain ⟨a, xs, h1, h2, h3, h4, h5⟩ := r.tab i ks e
    exact ⟨a, xs, h1, h2, h3, s _ _ h4 fun z => h3 (hm a z).1, h5.mono sk⟩
structure Grown (tabs : Tabs) (P f c' : Addr) (q : Str) (o : Obj) (B B' H Hc : Hp) : Prop where
  t : TbI tabs B'
  s : SameT tabs B B'
  b : Same B' Hc
  c : Hc c' = some (.ext (recAt c' q))
  p : Hc P ≠ none
  k : ∀ a u, H a = some u → a ≠ P → Hc a = some u
  o : ∀ a, B a = none → H a ≠ none → B' a = none
end
section
variable {X : Cx} {tabs : Tabs}
theorem lam_grown {P : Addr} {lpos : Pos} {params : Arguments} {body : Expr} {scope : Scope} {B H : Hp} {σ : St} {Q : VK} {q : Str} {ls : List (Pos × Str)} (eq : X.env.qual ++ "<lambda>" = q) (ti : TbI tabs B) (sB : Same B H) (hP : (P, ls) ∈ tabs) (hl : (lpos, q) ∈ ls)
    (hq : ∀ p ∈ tabs, p.1 = P → ∀ l ∈ p.2, l.1.line = lpos.line → l.1.col = lpos.col → l.2 = q)
    (h : ∀ f c' cl pm ctv B' H1, Clos X scope cl → H1 f = some (.ext (funAt f (lamO q params body scope cl pm c' ctv))) → Grown tabs P f c' q (lamO q params body scope cl pm c' ctv) B B' H (mask [f] H1) → Q (.ref f) H1) : tLam X P lpos params body scope σ H Q := by
  subst eq
  obtain ⟨ps, hB, ht, am⟩ := ti (P, ls) hP
  have hB : B P = some (.tbl ps) := hB
  refine ⟨ps, sB _ _ hB, ht, fun cl C pm => ?_⟩
  rcases am (lpos, X.env.qual ++ "<lambda>") hl with e | ⟨c', e, hc⟩
  · refine .inl ⟨e, fun f c' ctv nf nc ne => h f c' cl pm ctv (upd (upd B P (.tbl (ps ++ #[rawInt lpos.line, rawInt lpos.col, .ref c']))) c' (.ext (recAt c' (X.env.qual ++ "<lambda>")))) _ C upd_same ?_⟩
    have Bc : B c' = none := by
      cases z : B c' with
      | none => rfl
      | some o => rw [sB _ _ z] at nc; cases nc
    have Pf : P ≠ f := fun z => by rw [← z, sB _ _ hB] at nf; cases nf
    have Pc : P ≠ c' := fun z => by rw [← z, sB _ _ hB] at nc; cases nc
    have off : ∀ {a : Addr}, a ≠ f → ∀ {G : Hp} {u : HO}, mask [f] (upd G f u) a = G a := fun {a} na {G u} => by rw [mask_out (by simpa using na), upd_ne na]
    refine ⟨ti.made hB ht Bc hq, fun b o z n => ?_, fun b o z => ?_, ?_, ?_, fun a u z n => ?_, fun a z n => ?_⟩
    · have nb : b ≠ c' := fun y => by rw [y, Bc] at z; cases z
      rw [upd_ne nb, upd_ne fun y => n (P, ls) hP y.symm]; exact z
    · have nf' : b ≠ f := fun y => by
        subst y
        rw [upd_ne ne, upd_ne (Ne.symm Pf)] at z
        rw [sB _ _ z] at nf; cases nf
      rw [off nf']
      by_cases y : b = c'
      · subst y; rw [upd_same] at z ⊢; exact z
      · rw [upd_ne y] at z ⊢
        by_cases y' : b = P
        · subst y'; rw [upd_same] at z ⊢; exact z
        · rw [upd_ne y'] at z ⊢; exact sB _ _ z
    · rw [off (Ne.symm ne), upd_same]
    · rw [off Pf, upd_ne Pc, upd_same]; simp
    · have n1 : a ≠ f := fun y => by rw [y, nf] at z; cases z
      have n2 : a ≠ c' := fun y => by rw [y, nc] at z; cases z
      rw [off n1, upd_ne n2, upd_ne n]; exact z
    · have n2 : a ≠ c' := fun y => by rw [y, nc] at n; exact n rfl
      have n3 : a ≠ P := fun y => by rw [y, hB] at z; cases z
      rw [upd_ne n2, upd_ne n3]; exact z
  · refine .inr ⟨c', e, sB _ _ hc, fun f ctv nf => h f c' cl pm ctv B _ C upd_same ?_⟩
    have em : mask [f] (upd H f (.ext (funAt f (lamO (X.env.qual ++ "<lambda>") params body scope cl pm c' ctv)))) = H := by
      funext a
      by_cases z : a = f
      · subst z; rw [mask_in (.head _), nf]
      · rw [mask_out (by simpa using z), upd_ne z]
    rw [em]
    exact ⟨ti, SameT.refl B, sB, sB _ _ hc, by rw [sB _ _ hB]; simp, fun a u z _ => z, fun a z _ => z⟩
end
theorem rpl_ones {K : PySem.W.Frag} {M : Hp} : ∀ c : Nat, RpL K M (List.replicate c (Dt.int 1)) (List.replicate c (V.int 1))
  | 0 => RpL.nil
  | c + 1 => RpL.cons (rp_int.mpr rfl) (rpl_ones c)
section
variable {X : Cx} {tabs : Tabs} {sts : List Stmt} {u : DTS} {e1 e2 e4 : Expr} {t1 t2 : DTE} {pos : Pos}
def dPowA (i : Nat) (sl : List Nat) (t1 t2 : DTE) (ok : List V → (Nat → Dt) → Nat → Prop) (d1 : Dt) (u : DTS) : DTS := fun D ρ => t1 ρ fun a => t2 ρ fun b => ∃ (val : Nat → Dt) (n : Nat) (ds : List Dt), a = val 1 ∧ b = .int (n : Int) ∧ (∀ i, plainD (val i)) ∧ n.log2 < 2 ^ 60 ∧
  (sl.map fun j => ρ[j]?) = ds.map (fun d => some (some (.is d))) ∧ (∀ d ∈ ds, plainD d) ∧ ok (ds.map valV) val n ∧ u D (ρ.set i (some (.is (if n = 0 then d1 else val n))))
theorem dssT_powA (i : Nat) (sl : List Nat) {k kl : Nat} {fP c P : Addr} {fdP : FuncData} {pw fr : List Str} {params : Arguments} {body : Expr} {scope : Scope} {x y nm z q : Str} {p pz lpos cpos : Pos} {ls : List (Pos × Str)} {ok : List V → (Nat → Dt) → Nat → Prop} {d1 : Dt}
    (PM : ∀ base', Mod X.K X.mg base' → FnOk X.prog X.w X.K X.mg base' CX0 k fP fdP pw (spPow X.prog X.w X.K X.mg base' kl)) (hbP : Binds X.K fdP pw []) (hr : Room k X.A) (hfn : ∀ z, X.fn z = true) (hm : X.mg nm = some (.ref fP)) (hk : PySem.W.keepIn X.K (.ref fP) = true)
    (L : LamAt X c P) (eq : X.env.qual ++ "<lambda>" = q) (hP : (P, ls) ∈ tabs) (hl : (lpos, q) ∈ ls) (hq : ∀ p ∈ tabs, p.1 = P → ∀ l ∈ p.2, l.1.line = lpos.line → l.1.col = lpos.col → l.2 = q)
    (hN : X.N.Nodup) (h1 : DE X e1 t1) (h2 : DE X e2 t2) (h4 : PE X e4 (tC (valV d1))) (p1 : plainD d1)
    (hfree : ∀ y ∈ scope.names, y.2 = .free → X.env.kindOf y.1 = some .cell) (hfr : fr.map some = sl.map (fun j => X.N[j]?)) (hfs : ∀ y ∈ fr, scope.names.lookup y = some .free)
    (hlam : ∀ (f c' : Addr) cl pm ctv base' ws val S n, Lam base' f q params body scope cl pm c' ctv fr ws → ok ws val n → (∀ c H, S c H → H c' = some (.ext (recAt c' q))) → (∀ c H H', S c H → Same H H' → S (c + 1) H') → FnOk X.prog X.w X.K X.mg base' CX0 kl f (PySem.W.kla_fn "<lambda>" q params body scope cl pm (.ref c') ctv) [x, y] (spLam val S n))
    (hbL : ∀ cl pm c' ctv, Binds X.K (PySem.W.kla_fn "<lambda>" q params body scope cl pm (.ref c') ctv) [x, y] [])
    (rest : DSsT X tabs sts u)
    (hg : Gl X nm := by rfl) (hi : X.N[i]? = some z := by rfl) (hx : Loc X.env.scope z := by first | exact Or.inl rfl | exact Or.inr rfl) (hdb : (nm == ("__debug__" : Str)) = false := by decide) (hdef : defaultsOf params X.env = ([], []) := by rfl)
    (he1 : starEach [e1, e2, .Lambda params body scope lpos, e4] X.env = (false, eval e1 X.env) :: starEach [e2, .Lambda params body scope lpos, e4] X.env := by rfl) (he2 : starEach [e2, .Lambda params body scope lpos, e4] X.env = (false, eval e2 X.env) :: starEach [.Lambda params body scope lpos, e4] X.env := by rfl)
    (he3 : starEach [.Lambda params body scope lpos, e4] X.env = (false, eval (.Lambda params body scope lpos) X.env) :: starEach [e4] X.env := by rfl) (he4 : starEach [e4] X.env = (false, eval e4 X.env) :: starEach [] X.env := by rfl)
    (hpl : (backTo cpos (starEach [e2, .Lambda params body scope lpos, e4] X.env)).any (·.1) = false := by rfl)
    (hsw : swapsWith (.Call (.Name nm p) [e1, e2, .Lambda params body scope lpos, e4] [] cpos) (some (.Name z pz)) pos.line X.env = pure false := by rfl)
    (hf : X.fn z = true ∨ X.env.scope.names.lookup z = some .local := by first | exact .inl rfl | exact .inr rfl | assumption) :
    DSsT X tabs (.Assign [.Name z pz] (.Call (.Name nm p) [e1, e2, .Lambda params body scope lpos, e4] [] cpos) pos :: sts) (dPowA i sl t1 t2 ok d1 u) where
  mono := fun hd h => h1.mono (fun a h => h2.mono (fun b ⟨val, n, ds, k1, k2, k3, k4, k5, k6, k7, k8⟩ => ⟨val, n, ds, k1, k2, k3, k4, k5, k6, k7, rest.mono hd k8⟩) h) h
  ps := (pss_cons (ps_set hN hi hx (pe_pow (kl := kl) (params := params) (body := body) (scope := scope) (x := x) (y := y) (fr := fr) PM hbP hr hfn hg hm hk (pa_cons h1.pe (pa_cons h2.pe (pa_cons (pe_lam L hdef hfree) (pa_cons h4 pa_nil he4) he3) he2) he1) hdb he1 hpl) hsw hf) rest.ps).imp fun D σ H ⟨B₀, B, F, O, ρ, R, s, ti, m, h⟩ => by
    refine ⟨B, F, O, ρ, R, h1.mono (fun a h v1 H1 s1 r1 => ?_) h⟩
    refine ⟨B, F, O, ρ, R.same s1, h2.mono (fun b h v2 H2 s2 r2 => ?_) h⟩
    obtain ⟨val, n, ds, rfl, rfl, pl, hn, hds, hpd, hok, h⟩ := h
    rw [rp_int.mp r2, (rp_plain (pl 1)).mp r1]
    have R2 := (R.same s1).same s2
    refine lam_grown eq ti (R2.base) hP hl hq fun f c' cl pm ctv B' H3 C hf3 G => ?_
    have lF : ∀ {d : Dt} {H' : Hp}, plainD d → Same (mask [f] H3) H' → u (lDT X.K tabs B₀ F D) (ρ.set i (some (.is d))) → lST X tabs u D (σ.set i (some (valV d))) H' := fun {d H'} pd sh hu => by
      have R3 : Rep X.K B' F O H' σ ρ := R2.shift (ms := [P]) (fun a ha => ?_) (fun b o e nb => sh _ _ (G.k b o e (by simpa using nb))) (G.b.trans sh) fun a ha => G.o a (R2.fr a ha) (R2.th a (List.mem_append_right _ ha))
      · exact ⟨B₀, B', F, O, _, R3.set i ((rp_plain pd).mpr rfl), s.trans G.s, G.t, m, hu⟩
      · rw [List.mem_singleton.mp ha]
        refine ⟨m (P, ls) hP, fun z => ?_⟩
        cases w : mask [f] H3 P with
        | none => exact G.p w
        | some o => rw [sh _ _ w] at z; cases z
    refine ⟨q, f, c', cl, pm, ctv, ds.map valV, val, fun _ H' => Same (mask [f] H3) H', n, d1, rfl, hf3, C, fun i' w hw => ?_, fun base' La => hlam f c' cl pm ctv base' _ val _ n La hok (fun c H' sh => sh _ _ G.c) fun c H' H'' s1 s2 => s1.trans s2, hbL cl pm c' ctv, pl, p1, hn, Same.refl _, fun c H' H'' s1 s2 => s1.trans s2, fun n0 H' sh => ?_, fun n0 c H' _ sh => ?_⟩
    · refine ⟨hfs w (List.mem_of_getElem? hw), ?_⟩
      have e1 := congrArg (fun l => l[i']?) hfr
      simp only [List.getElem?_map, hw] at e1
      cases ej : sl[i']? with
      | none => rw [ej] at e1; cases e1
      | some j =>
        rw [ej] at e1
        have e1 : some w = X.N[j]? := Option.some.inj e1
        have e2 := congrArg (fun l => l[i']?) hds
        simp only [List.getElem?_map, ej] at e2
        cases ed : ds[i']? with
        | none => rw [ed] at e2; cases e2
        | some d =>
          rw [ed] at e2
          have e2 : ρ[j]? = some (some (.is d)) := Option.some.inj e2
          obtain ⟨v, k1, k2⟩ := R2.is j d e2
          rw [(rp_plain (hpd d (List.mem_of_getElem? ed))).mp k2] at k1
          refine ⟨j, valV d, e1.symm, by rw [List.getElem?_map, ed]; rfl, k1, hfree (w, .free) (PySem.mem_of_lookup (hfs w (List.mem_of_getElem? hw))) rfl⟩
    · rw [if_pos n0] at h
      exact lF p1 sh h
    · rw [if_neg (by omega)] at h
      exact lF (pl n) sh h
def dPowB (i j : Nat) (t1 t2 : DTE) (ok : (Nat → Dt) → Nat → Prop) (d1 : Dt) (u : DTS) : DTS := fun D ρ => t1 ρ fun a => t2 ρ fun b => ∃ (val : Nat → Dt) (n : Nat), a = val 1 ∧ b = .int (n : Int) ∧ (∀ i, plainD (val i)) ∧ n.log2 < 500 ∧
  ρ[j]? = some (some (.own [])) ∧ ok val n ∧ ∀ c, c ≤ 2 * n.log2 → u D ((ρ.set j (some (.own (List.replicate c (.int 1))))).set i (some (.is (if n = 0 then d1 else val n))))
theorem dssT_powB (i j : Nat) {k kl : Nat} {fP c P : Addr} {fdP : FuncData} {pw : List Str} {params : Arguments} {body : Expr} {scope : Scope} {x y nm z q : Str} {p pz lpos cpos : Pos} {ls : List (Pos × Str)} {ok : (Nat → Dt) → Nat → Prop} {w : Str} {d1 : Dt}
    (PM : ∀ base', Mod X.K X.mg base' → FnOk X.prog X.w X.K X.mg base' CX0 k fP fdP pw (spPow X.prog X.w X.K X.mg base' kl)) (hbP : Binds X.K fdP pw []) (hr : Room k X.A) (hfn : ∀ z, X.fn z = true) (hm : X.mg nm = some (.ref fP)) (hk : PySem.W.keepIn X.K (.ref fP) = true)
    (L : LamAt X c P) (eq : X.env.qual ++ "<lambda>" = q) (hP : (P, ls) ∈ tabs) (hl : (lpos, q) ∈ ls) (hq : ∀ p ∈ tabs, p.1 = P → ∀ l ∈ p.2, l.1.line = lpos.line → l.1.col = lpos.col → l.2 = q)
    (hN : X.N.Nodup) (h1 : DE X e1 t1) (h2 : DE X e2 t2) (h4 : PE X e4 (tC (valV d1))) (p1 : plainD d1)
    (hfree : ∀ y ∈ scope.names, y.2 = .free → X.env.kindOf y.1 = some .cell) (hw : X.N[j]? = some w) (hfs : scope.names.lookup w = some .free)
    (hlam : ∀ (f c' a : Addr) cl pm ctv base' val (S : Nat → Hp → Prop) n, Lam base' f q params body scope cl pm c' ctv [w] [.ref a] → ok val n → n.log2 < 500 → (∀ c H, S c H → H c' = some (.ext (recAt c' q)) ∧ H a = some (.lst (List.replicate c (.int 1))) ∧ ∀ H', (∀ b o, H b = some o → b ≠ a → H' b = some o) → H' a = some (.lst (List.replicate (c + 1) (.int 1))) → S (c + 1) H') → FnOk X.prog X.w X.K X.mg base' CX0 kl f (PySem.W.kla_fn "<lambda>" q params body scope cl pm (.ref c') ctv) [x, y] (spLam val S n))
    (hbL : ∀ cl pm c' ctv, Binds X.K (PySem.W.kla_fn "<lambda>" q params body scope cl pm (.ref c') ctv) [x, y] [])
    (rest : DSsT X tabs sts u)
    (hg : Gl X nm := by rfl) (hi : X.N[i]? = some z := by rfl) (hx : Loc X.env.scope z := by first | exact Or.inl rfl | exact Or.inr rfl) (hdb : (nm == ("__debug__" : Str)) = false := by decide) (hdef : defaultsOf params X.env = ([], []) := by rfl)
    (he1 : starEach [e1, e2, .Lambda params body scope lpos, e4] X.env = (false, eval e1 X.env) :: starEach [e2, .Lambda params body scope lpos, e4] X.env := by rfl) (he2 : starEach [e2, .Lambda params body scope lpos, e4] X.env = (false, eval e2 X.env) :: starEach [.Lambda params body scope lpos, e4] X.env := by rfl)
    (he3 : starEach [.Lambda params body scope lpos, e4] X.env = (false, eval (.Lambda params body scope lpos) X.env) :: starEach [e4] X.env := by rfl) (he4 : starEach [e4] X.env = (false, eval e4 X.env) :: starEach [] X.env := by rfl)
    (hpl : (backTo cpos (starEach [e2, .Lambda params body scope lpos, e4] X.env)).any (·.1) = false := by rfl)
    (hsw : swapsWith (.Call (.Name nm p) [e1, e2, .Lambda params body scope lpos, e4] [] cpos) (some (.Name z pz)) pos.line X.env = pure false := by rfl)
    (hf : X.fn z = true ∨ X.env.scope.names.lookup z = some .local := by first | exact .inl rfl | exact .inr rfl | assumption) :
    DSsT X tabs (.Assign [.Name z pz] (.Call (.Name nm p) [e1, e2, .Lambda params body scope lpos, e4] [] cpos) pos :: sts) (dPowB i j t1 t2 ok d1 u) where
  mono := fun hd h => h1.mono (fun a h => h2.mono (fun b ⟨val, n, k1, k2, k3, k4, k5, k6, k7⟩ => ⟨val, n, k1, k2, k3, k4, k5, k6, fun c hc => rest.mono hd (k7 c hc)⟩) h) h
  ps := (pss_cons (ps_set hN hi hx (pe_pow (kl := kl) (params := params) (body := body) (scope := scope) (x := x) (y := y) (fr := [w]) PM hbP hr hfn hg hm hk (pa_cons h1.pe (pa_cons h2.pe (pa_cons (pe_lam L hdef hfree) (pa_cons h4 pa_nil he4) he3) he2) he1) hdb he1 hpl) hsw hf) rest.ps).imp fun D σ H ⟨B₀, B, F, O, ρ, R, s, ti, m, h⟩ => by
    refine ⟨B, F, O, ρ, R, h1.mono (fun a h v1 H1 s1 r1 => ?_) h⟩
    refine ⟨B, F, O, ρ, R.same s1, h2.mono (fun b h v2 H2 s2 r2 => ?_) h⟩
    obtain ⟨val, n, rfl, rfl, pl, hn, hj, hok, h⟩ := h
    rw [rp_int.mp r2, (rp_plain (pl 1)).mp r1]
    have R2 := (R.same s1).same s2
    obtain ⟨a, xs, o1, o2, o3, o4, o5⟩ := R2.own j [] hj
    obtain rfl := rpl_nil.mp o5
    have aP : a ≠ P := fun z => by rw [z] at o3; exact o3 (m (P, ls) hP)
    refine lam_grown eq ti (R2.base) hP hl hq fun f c' cl pm ctv B' H3 C hf3 G => ?_
    have a0 : mask [f] H3 a = some (.lst []) := G.k a _ o4 aP
    have ca : c' ≠ a := fun z => by rw [← z, G.c] at a0; cases a0
    have lF : ∀ {d : Dt} {H' : Hp} {c : Nat}, plainD d → (∀ b o, mask [f] H3 b = some o → b ≠ a → H' b = some o) → H' a = some (.lst (List.replicate c (.int 1))) → u (lDT X.K tabs B₀ F D) ((ρ.set j (some (.own (List.replicate c (.int 1))))).set i (some (.is d))) → lST X tabs u D (σ.set i (some (valV d))) H' := fun {d H' c} pd sh ha hu => by
      have R3 : Rep X.K B' F O (upd H' a (.lst [])) σ ρ := by
        refine R2.shift (ms := [P]) (fun b hb => ?_) (fun b o e nb => ?_) (fun b o e => ?_) fun b hb => G.o b (R2.fr b hb) (R2.th b (List.mem_append_right _ hb))
        · rw [List.mem_singleton.mp hb]
          refine ⟨m (P, ls) hP, fun z => ?_⟩
          rw [upd_ne (Ne.symm aP)] at z
          cases w : mask [f] H3 P with
          | none => exact G.p w
          | some o => rw [sh _ _ w (Ne.symm aP)] at z; cases z
        · have k := G.k b o e (by simpa using nb)
          by_cases z : b = a
          · subst z; rw [upd_same, ← a0, k]
          · rw [upd_ne z]; exact sh _ _ k z
        · have k := G.b b o e
          by_cases z : b = a
          · subst z; rw [upd_same, ← a0, k]
          · rw [upd_ne z]; exact sh _ _ k z
      have R4 := R3.putOwn (es := List.replicate c (.int 1)) (ys := List.replicate c (.int 1)) hj o1 o2 upd_same (rpl_ones c)
      have eu : upd (upd H' a (.lst [])) a (.lst (List.replicate c (.int 1))) = H' := by
        funext b
        by_cases z : b = a
        · subst z; rw [upd_same, ha]
        · rw [upd_ne z, upd_ne z]
      rw [eu] at R4
      exact ⟨B₀, B', F, O, _, R4.set i ((rp_plain pd).mpr rfl), s.trans G.s, G.t, m, hu⟩
    refine ⟨q, f, c', cl, pm, ctv, [.ref a], val, fun c H' => (∀ b o, mask [f] H3 b = some o → b ≠ a → H' b = some o) ∧ H' a = some (.lst (List.replicate c (.int 1))), n, d1, rfl, hf3, C, fun i' w' hw' => ?_, fun base' La => hlam f c' a cl pm ctv base' val _ n La hok hn fun c H' ⟨k1, k2⟩ => ⟨k1 _ _ G.c ca, k2, fun H'' l1 l2 => ⟨fun b o e nb => l1 b o (k1 b o e nb) nb, l2⟩⟩, hbL cl pm c' ctv, pl, p1, Nat.lt_of_lt_of_le hn (by decide), ⟨fun b o e _ => e, a0⟩, fun c H' H'' ⟨k1, k2⟩ s2 => ⟨fun b o e nb => s2 _ _ (k1 b o e nb), s2 _ _ k2⟩, fun n0 H' ⟨k1, k2⟩ => ?_, fun n0 c H' hc ⟨k1, k2⟩ => ?_⟩
    · cases i' with
      | zero =>
        cases hw'
        exact ⟨hfs, j, .ref a, hw, rfl, o1, hfree (w, .free) (PySem.mem_of_lookup hfs) rfl⟩
      | succ i' => simp at hw'
    · have := h 0 (Nat.zero_le _)
      rw [if_pos n0] at this
      exact lF p1 k1 k2 this
    · have := h c hc
      rw [if_neg (by omega)] at this
      exact lF (pl n) k1 k2 this
end
end L2

namespace L2
open PySem PySem.Spec PyProof.Rows PySem.SeqAt
def lSpT (K : PySem.W.Frag) (tabs : Tabs) (sp : DSp) : Sp := fun vs H Q _ => ∃ F ds, (∀ a ∈ F, H a ≠ none) ∧ (∀ p ∈ tabs, p.1 ∈ F) ∧ TbI tabs H ∧ RpL K (mask F H) ds vs ∧ sp ds fun d => ∀ v H', SameT tabs H H' → TbI tabs H' → Rp K (mask F H') d v → Q v H'
def CodeOf (K : PySem.W.Frag) (f c : Addr) : Prop := ∀ o fd, K.lookup f = some o → o.data = .func fd → fd.code = .ref c
section
variable {P : Program} {w : World} {K : PySem.W.Frag} {mg : Str → Option Value} {base : Heap}
theorem Fun.okT {x qual : Str} {st : Stmt} {f c : Addr} {fd : FuncData} {N ps : List Str} {k : Nat} {sp : DSp} {tabs : Tabs} (F : Fun K x qual st f fd) (hc : CodeOf K f c) (S : FnScope N ps (defScope st)) (len : ∀ ds Q, sp ds Q → ds.length = ps.length)
    (hbody : ∀ (A : Around) (outer : List Env) (s : Shared) (H : Hp) (E : XK), Room k (A.deeper (envOfC qual (defScope st) s.heap.objs.size f (.ref c))) →
      ∃ t, DSsT (cxOf CX0 P w K mg base N qual (defScope st) f (.ref c) A outer s H E).nox tabs (defBody st) t ∧ ∀ ds Q, sp ds Q → t { nx := fun _ => Q .non, rt := Q } (dstart N ds)) : FnOk P w K mg base CX0 (k + 1) f fd ps (lSpT K tabs sp) := by
  obtain ⟨oc, od, kV, doc, pm, an, cdv, ct, osl, rfl, lk, hcd⟩ := F.ex
  obtain rfl : cdv = .ref c := hc _ _ lk rfl
  refine fn_of lk hcd S (fun vs H Q E ⟨F, ds, _, _, _, r, h⟩ => by rw [r.len]; exact len _ _ h) fun A outer s H vs Q E hr ⟨F', ds, hF, hm, ti, r, h⟩ => ?_
  obtain ⟨t, T, q⟩ := hbody A outer s H E hr
  refine ⟨_, T.ps.nox, H, H, F', [], dstart N ds, rep_start hF r, SameT.refl H, ti, hm, T.mono (D := { nx := fun _ => ∀ v H', SameT tabs H H' → TbI tabs H' → Rp K (mask F' H') .non v → Q v H', rt := fun d => ∀ v H', SameT tabs H H' → TbI tabs H' → Rp K (mask F' H') d v → Q v H' }) ⟨?_, ?_, fun _ z => False.elim z, fun _ z => False.elim z⟩ (q ds _ h)⟩
  · exact fun ρ z B O' σ' H' R' s' t' => z .non H' (s'.trans R'.base.t) (t'.mono R'.base) (rp_non.mpr rfl)
  · exact fun d z v H' s' t' r' => z v H' s' t' r'
end
def noOwn : Option En → Option En
  | some (.is d) => some (.is d)
  | _ => none
theorem rep_noOwn {K : PySem.W.Frag} {B H : Hp} {F O : List Addr} {σ : St} {ρ : DEnv} (r : Rep K B F O H σ ρ) : Rep K B (F ++ O) [] H σ (ρ.map noOwn) := by
  have back : ∀ (i : Nat) (y : En), (ρ.map noOwn)[i]? = some (some y) → ∃ d, ρ[i]? = some (some (.is d)) ∧ y = .is d := fun i y e => by
    rw [List.getElem?_map] at e
    cases q : ρ[i]? with
    | none => rw [q] at e; cases e
    | some x =>
      rw [q] at e
      have e : noOwn x = some y := Option.some.inj e
      unfold noOwn at e
      split at e
      · cases e; exact ⟨_, rfl, rfl⟩
      · cases e
  refine ⟨by rw [List.length_map]; exact r.len, r.base, fun a h => (nomatch h), fun a h => r.th a (by simpa using h), fun i d e => ?_, fun i ds e => ?_, fun i j ds es a e => ?_, fun i ks e => ?_, fun i j ks ls a e => ?_, fun i v e => ?_⟩
  · obtain ⟨d', h1, h2⟩ := back i _ e
    cases h2
    rw [List.append_nil]
    exact r.is i d h1
  · obtain ⟨_, _, h2⟩ := back i _ e; cases h2
  · obtain ⟨_, _, h2⟩ := back i _ e; cases h2
  · obtain ⟨_, _, h2⟩ := back i _ e; cases h2
  · obtain ⟨_, _, h2⟩ := back i _ e; cases h2
  · obtain ⟨_, _, h2⟩ := back i _ e; cases h2
section
variable {X : Cx} {tabs : Tabs} {e : Expr} {es : List Expr} {tl : DTA} {pos : Pos}
theorem call_step {B H : Hp} {F : List Addr} {σ : St} {ρ : DEnv} {sp : DSp} {Q : VK} {es : List Expr} (m : MonoSp sp) (ha : DA X es tl) (R : Rep X.K B F [] H σ ρ) (ti : TbI tabs B) (hm : ∀ p ∈ tabs, p.1 ∈ F)
    (h : tl ρ fun ds => sp ds fun d => ∀ v H', Rep X.K H' F [] H' σ ρ → SameT tabs B H' → TbI tabs H' → Rp X.K (mask F H') d v → Q v H') : tCall (lSpT X.K tabs sp) [] E0 (lA X.K tl) σ H Q := by
  refine ⟨B, F, [], ρ, R, ha.mono (fun ds z vs H1 s1 r1 => ?_) h⟩
  have R1 := R.same s1
  refine ⟨F, ds, fun a h => R1.th a (by simpa using h), hm, ti.mono R1.base, ?_, m _ _ _ (fun d z v H' s' t' r' => z v H' (R1.shift (ms := tabs.map (·.1)) (fun a ha => ?_) (fun b o e n => s' b o e fun p hp z => n (by rw [← z]; exact List.mem_map_of_mem hp)) (Same.refl H') fun a h => (nomatch h)) ((R1.base.t).trans s') t' r') z⟩
  · rw [List.append_nil] at r1 ⊢
    exact r1
  · obtain ⟨p, hp, rfl⟩ := List.mem_map.mp ha
    obtain ⟨ps, h1, _⟩ := t' p hp
    exact ⟨hm p hp, by rw [h1]; simp⟩
def dRet3 (sp : DSp) (t1 t2 t3 : DTA) : DTS := fun D ρ => t1 (ρ.map noOwn) fun ds => sp ds fun d => d = .bl true ∧ t2 (ρ.map noOwn) fun ds => sp ds fun d => d = .bl true ∧ t3 (ρ.map noOwn) fun ds => sp ds fun d => d = .bl true ∧ D.rt (.bl true)
theorem dssT_ret3 {k : Nat} {f : Addr} {fd : FuncData} {ps : List Str} {sp : DSp} {nm : Str} {x1 y1 x2 y2 x3 y3 : Expr} {p1 p2 p3 q1 q2 q3 bp : Pos} {t1 t2 t3 : DTA} (m : MonoSp sp) (G : FnOk X.prog X.w X.K X.mg X.base CX0 k f fd ps (lSpT X.K tabs sp)) (hr : Room k X.A) (hmg : X.mg nm = some (.ref f)) (hk : PySem.W.keepIn X.K (.ref f) = true) (hb : Binds X.K fd ps [])
    (h1 : DA X [x1, y1] t1) (h2 : DA X [x2, y2] t2) (h3 : DA X [x3, y3] t3) (hg : Gl X nm := by rfl) (hdb : (nm == ("__debug__" : Str)) = false := by decide)
    (a1 : starEach [x1, y1] X.env = (false, eval x1 X.env) :: starEach [y1] X.env := by rfl) (b1 : (backTo q1 (starEach [y1] X.env)).any (·.1) = false := by rfl) (a2 : starEach [x2, y2] X.env = (false, eval x2 X.env) :: starEach [y2] X.env := by rfl) (b2 : (backTo q2 (starEach [y2] X.env)).any (·.1) = false := by rfl)
    (a3 : starEach [x3, y3] X.env = (false, eval x3 X.env) :: starEach [y3] X.env := by rfl) (b3 : (backTo q3 (starEach [y3] X.env)).any (·.1) = false := by rfl) :
    DSsT X tabs [.Return (some (.BoolOp .And [.Call (.Name nm p1) [x1, y1] [] q1, .Call (.Name nm p2) [x2, y2] [] q2, .Call (.Name nm p3) [x3, y3] [] q3] bp)) pos] (dRet3 sp t1 t2 t3) where
  mono := fun hd h => h1.mono (fun ds h => m _ _ _ (fun d ⟨e, h⟩ => ⟨e, h2.mono (fun ds h => m _ _ _ (fun d ⟨e, h⟩ => ⟨e, h3.mono (fun ds h => m _ _ _ (fun d ⟨e, h⟩ => ⟨e, hd.rt _ h⟩) h) h⟩) h) h⟩) h) h
  ps := (pss_one (ps_ret (pe_and (pe_call G hr hg hmg hk hb .nil pass0 h1.pa hdb a1 b1) (pe_and (pe_call G hr hg hmg hk hb .nil pass0 h2.pa hdb a2 b2) (pe_one (pe_call G hr hg hmg hk hb .nil pass0 h3.pa hdb a3 b3)))))).imp fun D σ H ⟨B₀, B, F, O, ρ, R, s, ti, hm, h⟩ => by
    have R0 := rep_noOwn R
    have hm' : ∀ p ∈ tabs, p.1 ∈ F ++ O := fun p hp => List.mem_append_left _ (hm p hp)
    refine call_step m h1 R0 ti hm' (h1.mono (fun ds h => m _ _ _ (fun d ⟨e, h⟩ v H1 R1 s1 t1 r1 => ?_) h) h)
    subst e
    refine ⟨true, rp_bl.mp r1, ?_⟩
    rw [if_pos rfl]
    refine call_step m h2 R1 t1 hm' (h2.mono (fun ds h => m _ _ _ (fun d ⟨e, h⟩ v H2 R2 s2 t2 r2 => ?_) h) h)
    subst e
    refine ⟨true, rp_bl.mp r2, ?_⟩
    rw [if_pos rfl]
    refine call_step m h3 R2 t2 hm' (h3.mono (fun ds h => m _ _ _ (fun d ⟨e, h⟩ v H3 R3 s3 t3 r3 => ?_) h) h)
    subst e
    exact h v H3 (((s.trans s1).trans s2).trans s3) t3 (rp_bl.mpr (rp_bl.mp r3))
end
def noTabK : PySem.W.Frag → Bool
  | [] => true
  | (_, o) :: K => (match o.cls, o.data with
    | .none, .fields _ => false
    | _, _ => true) && noTabK K
theorem noTabK_of {a : Addr} {o : Obj} {ps : Array Value} : ∀ {K : PySem.W.Frag}, noTabK K = true → K.lookup a = some o → o = { cls := .none, data := .fields ps } → False
  | [], _, e, _ => by simp at e
  | (b, u) :: K, h, e, z => by
    rw [noTabK, Bool.and_eq_true] at h
    rw [List.lookup_cons] at e
    split at e
    · cases e
      rw [z] at h
      exact absurd h.1 (by simp)
    · exact noTabK_of h.2 e z
def spLawT : DSp := spec (fun ns : List Int => [.lst (ns.map Dt.int)]) (fun ns => ns.length ≤ 63) fun _ d => d = .bl true
end L2

namespace L2
open PySem PySem.Spec PyProof.Rows PySem.SeqAt
theorem law_callT {P : Program} {w : World} {K : PySem.W.Frag} {mg mb : Str → Option Value} {k : Nat} {fa a c1 P1 c2 P2 : Addr} {l1 l2 : List (Pos × Str)} {fd : FuncData} {x : Str} {s₁ : Shared} {vs : List Value} {ns : List Int}
    (KX : K.In s₁.heap) (hns : s₁.heap.Ns mainGlobals mg) (hb : s₁.heap.Ns builtinsNs mb) (hbb : ∀ x : Str, x ≠ "__name__" → mb x = bootBuiltins x) (hlim : s₁.heap.NoLimit) (hg : s₁.gens = #[])
    (ha : s₁.heap.get? a = some { cls := .type "list", data := .seq vs.toArray }) (hi : IntsAre vs ns) (hl : ns.length ≤ 63) (hr : Room k callerA) (noT : noTabK K = true) (T1 : s₁.heap.TableAt c1 P1 #[]) (T2 : s₁.heap.TableAt c2 P2 #[])
    (F : ∀ base : Heap, K.In base → base.Ns mainGlobals mg → (∀ b o, s₁.heap.get? b = some o → o.cls ≠ .type "list" → o.cls ≠ .none → base.get? b = some o) → FnOk P w K mg base CX0 k fa fd [x] (lSpT K [(P1, l1), (P2, l2)] spLawT))
    (hbind : ∀ (s : Shared) (u : Value), BindsTo s fd ⟨[u], []⟩ [(x, u)]) :
    codeAny (model P w) callerA (.call (.ref fa) ⟨[.ref a], []⟩) (fun r s' => r = .ok (.ret (.bool true)) ∧ OldK s₁.heap s'.heap ∧ s'.os = s₁.os ∧ AllBare s'.gens) s₁ := by
  have rv := vals_ints hi
  have lenV := hi.length
  have hz : ns.length ≤ sizeLine := Nat.le_trans hl (by decide)
  have a1 : a ≠ P1 := fun z => by rw [z, T1.2] at ha; cases ha
  have a2 : a ≠ P2 := fun z => by rw [z, T2.2] at ha; cases ha
  have core : ∀ scr : Option HO, (scr = none ∨ (scr = some (.frz { cls := .type "list", data := .seq vs.toArray } (.lst (ns.map V.int))) ∧ K.lookup a = none)) → (∀ H : Hp, H a = scr → SqL K H a (ns.map V.int)) →
      codeAny (model P w) callerA (.call (.ref fa) ⟨[.ref a], []⟩) (fun r s' => r = .ok (.ret (.bool true)) ∧ OldK s₁.heap s'.heap ∧ s'.os = s₁.os ∧ AllBare s'.gens) s₁ := by
    intro scr hs hS
    obtain ⟨H, eH⟩ : ∃ H : Hp, H = fun b => if b = P1 ∨ b = P2 then some (.tbl #[]) else if b = a then scr else none := ⟨_, rfl⟩
    have HP : ∀ {b : Addr}, b = P1 ∨ b = P2 → H b = some (.tbl #[]) := fun h => by rw [eH]; exact if_pos h
    have Ha : H a = scr := by rw [eH]; show (if _ then _ else _) = _; rw [if_neg (by rintro (z | z); exact a1 z; exact a2 z), if_pos rfl]
    have Hn : ∀ {b : Addr}, ¬ (b = P1 ∨ b = P2) → b ≠ a → H b = none := fun h n => by rw [eH]; show (if _ then _ else _) = _; rw [if_neg h, if_neg n]
    have tabO : ∀ {b : Addr}, b = P1 ∨ b = P2 → s₁.heap.get? b = some { cls := .none, data := .fields #[] } := fun h => by
      rcases h with rfl | rfl
      · exact T1.2
      · exact T2.2
    have hok : HOk P w H s₁.heap := fun b u e => by
      by_cases z : b = P1 ∨ b = P2
      · rw [HP z] at e; cases e
        exact tabO z
      · by_cases y : b = a
        · subst y
          rw [Ha] at e
          rcases hs with hs | ⟨hs, _⟩
          · rw [hs] at e; cases e
          · rw [hs] at e; cases e
            exact ⟨ha, by rw [List.length_map]; exact hz, vs, _, rv, ha⟩
        · rw [Hn z y] at e; cases e
    have base_of : ∀ {b : Addr} {o : Obj}, s₁.heap.get? b = some o → H b = none → (hidT s₁.heap H).get? b = some o := fun e n => hidT_get e n
    have noA : ∀ {b : Addr} {o : Obj}, s₁.heap.get? b = some o → o.cls ≠ .type "list" → o.cls ≠ .none → H b = none := fun {b o} e n1 n2 => by
      refine Hn (fun z => ?_) fun z => ?_
      · rw [tabO z] at e; cases e; exact n2 rfl
      · rw [z, ha] at e; cases e; exact n1 rfl
    have noD : ∀ {b : Addr} {o : Obj} {es : Array DictEntry} {ep : Nat}, s₁.heap.get? b = some o → o.data = .dict es ep → H b = none := fun {b o es ep} e d => by
      refine Hn (fun z => ?_) fun z => ?_
      · rw [tabO z] at e; cases e; cases d
      · rw [z, ha] at e; cases e
        have d' : Data.seq vs.toArray _ = Data.dict es ep := d
        cases d'
    have nsK : ∀ {b : Addr} {m : Str → Option Value}, s₁.heap.Ns b m → (hidT s₁.heap H).Ns b m := fun {b m} ⟨o, es, ep, e, d, r⟩ => ⟨o, es, ep, base_of e (noD e d), d, r⟩
    have hKb : K.In (hidT s₁.heap H) := fun b o e => base_of (KX b o e) (by
      by_cases z : b = P1 ∨ b = P2
      · have := KX b o e
        rw [tabO z] at this
        exact (noTabK_of noT e (Option.some.inj this).symm).elim
      · by_cases y : b = a
        · subst y
          rw [Ha]
          rcases hs with hs | ⟨_, hk⟩
          · exact hs
          · rw [hk] at e; cases e
        · exact Hn z y)
    have hM : Mod K mg (hidT s₁.heap H) := ⟨hKb, nsK hns, ⟨mb, nsK hb, hbb⟩, let ⟨mc, h1, h2⟩ := hlim; ⟨mc, nsK h1, h2⟩⟩
    have e0 : Env0 P w K mg (hidT s₁.heap H) callerA [] s₁ H := ⟨rfl, hM, fun b o e => of_hidT e, Nat.le_of_eq (hidT_size _ _), trivial, fun b hb => absurd (show b ∈ ([] : List Addr) from hb) (by simp), hok, .of_eq hg⟩
    have hm : ∀ p ∈ ([(P1, l1), (P2, l2)] : Tabs), p.1 = P1 ∨ p.1 = P2 := fun p hp => by
      simp only [List.mem_cons, List.not_mem_nil, or_false] at hp
      rcases hp with rfl | rfl
      · exact .inl rfl
      · exact .inr rfl
    have start : lSpT K [(P1, l1), (P2, l2)] spLawT [.ref a] H (fun v _ => v = .bl true) E0 := by
      refine ⟨[P1, P2], [.lst (ns.map Dt.int)], fun b hb => ?_, fun p hp => by rcases hm p hp with z | z <;> simp [z], fun p hp => ⟨#[], HP (hm p hp), trivial, fun l _ => .inl rfl⟩, RpL.cons (rp_ints (hS _ ?_) (RpL.ints ns)) RpL.nil, ns, rfl, hl, fun d e v H' _ _ r => ?_⟩
      · rw [HP (by simpa using hb)]; simp
      · rw [mask_out (by simpa using ⟨a1, a2⟩)]; exact Ha
      · subst e; exact rp_bl.mp r
    refine codeAny_mono ((F _ hKb (nsK hns) fun b o e n1 n2 => base_of e (noA e n1 n2)).run callerA [] s₁ H ⟨[.ref a], []⟩ [.ref a] [.ref a] _ _ hr e0 (hbind s₁ (.ref a)) (.cons rfl .nil) start) fun r s' h => ?_
    cases r with
    | error e => exact False.elim h
    | ok fl =>
      cases fl with
      | next => exact False.elim h
      | brk => exact False.elim h
      | cont => exact False.elim h
      | ret u =>
        obtain ⟨v, H', os, bare, un, hok', r', q⟩ := h
        have q' : v = .bl true := q
        subst q'
        obtain rfl : u = Value.bool true := r'
        refine ⟨rfl, ⟨fun b o e => ?_, fun b o e => un.there b o e (by simp)⟩, os, bare⟩
        by_cases z : b = P1 ∨ b = P2
        · obtain ⟨more, e2⟩ := un.tbls b #[] (HP z)
          have e3 : s'.heap.get? b = some { cls := .none, data := .fields (#[] ++ more) } := hok' b _ e2
          have eo : o = { cls := .none, data := .fields #[] } := Option.some.inj (e.symm.trans (tabO z))
          refine .inr (.inl ⟨?_, by rw [eo], #[], more, by rw [eo], by rw [e3, eo]⟩)
          rcases z with rfl | rfl
          · exact T1.isCodeTable
          · exact T2.isCodeTable
        · by_cases y : b = a
          · subst y
            rcases hs with hs | ⟨hs, _⟩
            · exact .inl (un.keep b o e (by rw [Ha, hs]) (by intro z; exact absurd (show b ∈ ([] : List Addr) from z) (by simp)) (by simp))
            · have z2 := un.frzs b _ _ (Ha.trans hs)
              obtain ⟨e2, _⟩ := hok' b _ z2
              rw [ha] at e; cases e
              exact .inl e2
          · exact .inl (un.keep b o e (Hn z y) (by intro z; exact absurd (show b ∈ ([] : List Addr) from z) (by simp)) (by simp))
  cases hk : K.lookup a with
  | some o =>
    have e := KX a o hk
    rw [ha] at e
    cases e
    exact core none (.inl rfl) fun H _ => .inr ⟨_, vs.toArray, _, hk, rfl, rfl, rfl, by rw [List.size_toArray, lenV]; exact hz, by simpa using rv⟩
  | none => exact core _ (.inr ⟨rfl, hk⟩) fun H e => .inl (.inr ⟨_, e⟩)
def BmAt (mg : Str → Option Value) (base : Heap) : Prop := ∃ bm ob, mg "__builtins__" = some (.ref bm) ∧ bm ≠ builtinsNs ∧ base.get? bm = some ob ∧ ob.cls = .type "module" ∧ ob.dict = some builtinsNs ∧ ob.data = .plain
theorem walk_ofT {l : PySem.W.OpenLaw} {k : Nat} {q : Program} {loose : List Str} {XP : (Str → Option Value) → Heap → Prop} {YP : World → Heap → Prop} {d : DefRec} {K : Params → PySem.W.Frag} {x n1 n2 : Str} {l1 l2 : List (Pos × Str)}
    (hn : l.most = some 63) (hdf : d.params.defaults = []) (hr : Room k callerA) (hY : ∀ (w : World) (h : Heap), YP w h → (K w.params).In h) (noT : ∀ w : World, noTabK (K w.params) = true)
    (r1 : (recsOf q).any (fun d => d.name == n1) = true) (r2 : (recsOf q).any (fun d => d.name == n2) = true)
    (F : ∀ (w : World) (mg : Str → Option Value) (fa : Addr) (h : Heap) (c1 P1 c2 P2 : Addr), (K w.params).In h → h.Ns mainGlobals mg → mg d.name = some (.ref fa) → (∀ f, mg n1 = some (.ref f) → CodeOf (K w.params) f c1) → (∀ f, mg n2 = some (.ref f) → CodeOf (K w.params) f c2) →
      ∃ fd : FuncData, (∀ (s : Shared) (u : Value), BindsTo s fd ⟨[u], []⟩ [(x, u)]) ∧
        ∀ base : Heap, (K w.params).In base → base.Ns mainGlobals mg → PySem.W.CodeHd base c1 P1 → PySem.W.CodeHd base c2 P2 → BmAt mg base → FnOk l.prog w (K w.params) mg base CX0 k fa fd [x] (lSpT (K w.params) [(P1, l1), (P2, l2)] spLawT)) :
    PySem.W.WalkO q loose XP YP l.row.toRowW d [] (fun f vs => PySem.call f vs) := by
  refine attach_callB hn hdf fun w s₀ s₁ mg mb fa o pm cd doc a vs ns G Y hmg hobj hints hlen _ hg => ?_
  have KX := hY w _ Y
  have get : ∀ {n : Str}, (recsOf q).any (fun d => d.name == n) = true → ∃ c P, s₁.heap.IsCode c P #[] ∧ s₁.heap.TableAt c P #[] ∧ ∀ f, mg n = some (.ref f) → CodeOf (K w.params) f c := fun {n} hr => by
    obtain ⟨d', hd', e⟩ := List.any_eq_true.mp hr
    have e := eq_of_beq e
    obtain ⟨a', o', fd, c, P, h1, h2, h3, h4, h5, h6⟩ := G.T.tab d' hd'
    refine ⟨c, P, h5, h6, fun f hf o2 fd2 k1 k2 => ?_⟩
    rw [← e, h1] at hf
    cases hf
    have := KX _ _ k1
    rw [h2] at this
    cases this
    rw [h3] at k2
    cases k2
    exact h4
  obtain ⟨c1, P1, i1, t1, k1⟩ := get r1
  obtain ⟨c2, P2, i2, t2, k2⟩ := get r2
  obtain ⟨fd, hb, hF⟩ := F w mg fa _ c1 P1 c2 P2 KX G.T.g hmg k1 k2
  refine law_callT KX G.T.g G.T.b G.T.builtins G.T.nolimit hg hobj hints hlen hr (noT w) t1 t2 (fun base kb nb hbase => hF base kb nb ?_ ?_ ?_) hb
  · obtain ⟨o, vs, file, tf, flags, tg, inF, text, tt, e1, e2, r⟩ := PySem.W.CodeHd.of i1 t1
    exact ⟨o, vs, file, tf, flags, tg, inF, text, tt, hbase _ _ e1 (by rw [e2]; decide) (by rw [e2]; decide), e2, r⟩
  · obtain ⟨o, vs, file, tf, flags, tg, inF, text, tt, e1, e2, r⟩ := PySem.W.CodeHd.of i2 t2
    exact ⟨o, vs, file, tf, flags, tg, inF, text, tt, hbase _ _ e1 (by rw [e2]; decide) (by rw [e2]; decide), e2, r⟩
  · obtain ⟨bm, ob, b1, b2, b3, b4, b5, b6⟩ := G.T.bmain
    exact ⟨bm, ob, b1, b2, hbase _ _ b3 (by rw [b4]; decide) (by rw [b4]; decide), b4, b5, b6⟩
end L2

namespace L2
open PySem PySem.Spec PyProof.Rows PySem.SeqAt
def plains (ρ : DEnv) : Prop := ∀ (i : Nat) x, ρ[i]? = some (some x) → ∃ d, x = .is d ∧ plainD d
structure PlainR (ρ : DEnv) (σ : St) : Prop where
  len : σ.length = ρ.length
  get : ∀ (i : Nat) x, ρ[i]? = some (some x) → ∃ d, x = .is d ∧ plainD d ∧ σ[i]? = some (some (valV d))
theorem PlainR.rep {K : PySem.W.Frag} {H : Hp} {ρ : DEnv} {σ : St} (h : PlainR ρ σ) : Rep K H [] [] H σ ρ := by
  refine ⟨h.len, Same.refl H, fun a z => (nomatch z), fun a z => (nomatch z), fun i d e => ?_, fun i ds e => ?_, fun i j ds es a e => ?_, fun i ks e => ?_, fun i j ks ls a e => ?_, fun i v e => ?_⟩
  · obtain ⟨d', h1, h2, h3⟩ := h.get i _ e
    cases h1
    exact ⟨_, h3, (rp_plain h2).mpr rfl⟩
  · obtain ⟨d', h1, _⟩ := h.get i _ e; cases h1
  · obtain ⟨d', h1, _⟩ := h.get i _ e; cases h1
  · obtain ⟨d', h1, _⟩ := h.get i _ e; cases h1
  · obtain ⟨d', h1, _⟩ := h.get i _ e; cases h1
  · obtain ⟨d', h1, _⟩ := h.get i _ e; cases h1
theorem Rep.plainR {K : PySem.W.Frag} {B H : Hp} {F O : List Addr} {ρ : DEnv} {σ : St} (r : Rep K B F O H σ ρ) (h : plains ρ) : PlainR ρ σ := ⟨r.len, fun i x e => by
  obtain ⟨d, rfl, pd⟩ := h i x e
  obtain ⟨v, h1, h2⟩ := r.is i d e
  rw [(rp_plain pd).mp h2] at h1
  exact ⟨d, rfl, pd, h1⟩⟩
theorem PlainR.set {ρ : DEnv} {σ : St} (h : PlainR ρ σ) (i : Nat) {d : Dt} (pd : plainD d) : PlainR (ρ.set i (some (.is d))) (σ.set i (some (valV d))) := ⟨by rw [List.length_set, List.length_set]; exact h.len, fun j x e => by
  by_cases z : i = j
  · subst z
    have hi : i < ρ.length := by
      have := (List.getElem?_eq_some_iff.mp e).1
      rwa [List.length_set] at this
    rw [List.getElem?_set_self hi] at e
    cases e
    exact ⟨d, rfl, pd, List.getElem?_set_self (by rw [h.len]; exact hi)⟩
  · rw [List.getElem?_set_ne z] at e ⊢
    exact h.get j x e⟩
theorem PlainR.off {ρ : DEnv} {σ : St} (h : PlainR ρ σ) (i : Nat) : PlainR (ρ.set i none) σ := ⟨by rw [List.length_set]; exact h.len, fun j x e => by
  by_cases z : i = j
  · subst z
    have hi : i < ρ.length := by
      have := (List.getElem?_eq_some_iff.mp e).1
      rwa [List.length_set] at this
    rw [List.getElem?_set_self hi] at e
    cases e
  · rw [List.getElem?_set_ne z] at e
    exact h.get j x e⟩
theorem PlainF.r {ρ : DEnv} {σ : St} (h : PlainF ρ σ) : PlainR ρ σ := ⟨h.len, fun _ _ e => h.get e⟩
theorem rpl_plain2 {K : PySem.W.Frag} {M : Hp} {a b : Dt} {vs : List V} (pa : plainD a) (pb : plainD b) (h : RpL K M [a, b] vs) : vs = [valV a, valV b] := by
  obtain ⟨v, r, rfl, h1, h2⟩ := rpl_cons.mp h
  obtain ⟨u, r', rfl, h3, h4⟩ := rpl_cons.mp h2
  rw [rpl_nil.mp h4, (rp_plain pa).mp h1, (rp_plain pb).mp h3]
theorem plains_nil : plains [] := fun i x e => by simp at e
theorem plains_cons {d : Dt} {ρ : DEnv} (pd : plainD d) (h : plains ρ) : plains (some (.is d) :: ρ) := fun i x e => by
  cases i with
  | zero => cases e; exact ⟨d, rfl, pd⟩
  | succ i => exact h i x e
theorem plains_none {ρ : DEnv} (h : plains ρ) : plains (none :: ρ) := fun i x e => by
  cases i with
  | zero => cases e
  | succ i => exact h i x e
def repS (x : Str) (n : Nat) : Str := ⟨(List.replicate n x.cps).foldl (· ++ ·) #[]⟩
theorem foldl_app (x : Array Nat) : ∀ (n : Nat) (a : Array Nat), (List.replicate n x).foldl (· ++ ·) a = a ++ (List.replicate n x).foldl (· ++ ·) #[]
  | 0, a => by simp
  | n + 1, a => by
    rw [List.replicate_succ, List.foldl_cons, List.foldl_cons, foldl_app x n (a ++ x), foldl_app x n (#[] ++ x), Array.append_assoc]
    simp
theorem repS_succ (x : Str) (n : Nat) : (repS x (n + 1)).cps = x.cps ++ (repS x n).cps := by
  unfold repS
  rw [List.replicate_succ, List.foldl_cons, foldl_app]
  simp
theorem repS_add (x : Str) : ∀ i j : Nat, repS x (i + j) = repS x i ++ repS x j
  | 0, j => by
    show repS x (0 + j) = (⟨#[] ++ (repS x j).cps⟩ : Str)
    rw [Nat.zero_add]
    simp
  | i + 1, j => by
    have h := congrArg Str.cps (repS_add x i j)
    have h : (repS x (i + j)).cps = (repS x i).cps ++ (repS x j).cps := h
    show repS x (i + 1 + j) = (⟨(repS x (i + 1)).cps ++ (repS x j).cps⟩ : Str)
    have e : i + 1 + j = (i + j) + 1 := by omega
    rw [e]
    have k := repS_succ x (i + j)
    rw [h, ← Array.append_assoc, ← repS_succ] at k
    rw [← k]
theorem repS_one (x : Str) : repS x 1 = x := by
  unfold repS
  simp
theorem repS_len (x : Str) : ∀ n : Nat, (repS x n).length = n * x.length
  | 0 => by show (#[] : Array Nat).size = _; simp
  | n + 1 => by
    have h : (repS x n).cps.size = n * x.cps.size := repS_len x n
    show (repS x (n + 1)).cps.size = (n + 1) * x.cps.size
    rw [repS_succ, Array.size_append, h, Nat.succ_mul, Nat.add_comm]
section
variable {X : Cx} {a b : Expr} {ta tb : DTE} {pos : Pos}
theorem op_mul_str : OpR X (binaryOp .Mult) (fun x y H Q => ∃ i n, x = .str i ∧ y = .int n ∧ 0 ≤ n ∧ n ≤ 1000 ∧ i.length ≤ 1000 ∧ Q (.str (repS i n.toNat)) H) := by
  intro pins s σ H x y v u Q I rx ry h
  obtain ⟨i, n, rfl, rfl, h0, h1, h2, q⟩ := h
  obtain ⟨t, rfl⟩ := rx
  obtain ⟨t', rfl⟩ := ry
  have sm : i.length * n.toNat ≤ 1000 * 1000 := Nat.mul_le_mul h2 (by omega)
  have big : 1000 * 1000 ≤ sizeLine := by decide
  refine P.mul_str (by rw [decide_eq_false (by omega), decide_eq_false (by omega)]; rfl) (fun hn _ => ?_) (fun _ _ => decide_eq_false (by omega)) ?_
  · have n1 : 1 ≤ n := by omega
    have k : 9223372036854775 ≤ (2 ^ 63 - 1 : Int) / n := by
      rw [Int.le_ediv_iff_mul_le (by omega)]
      omega
    omega
  · split
    · rename_i hn
      obtain rfl : n = 0 := by omega
      exact ⟨by decide, .str (repS i 0), H, I.tok _, ⟨_, rfl⟩, q⟩
    · split
      · rename_i hn hz
        have e : repS i n.toNat = i := by
          rcases (Bool.or_eq_true _ _).mp hz with z | z
          · rw [show n = 1 from eq_of_beq z]
            exact repS_one i
          · have l0 : i.length = 0 := eq_of_beq z
            have c0 : i.cps = #[] := Array.eq_empty_of_size_eq_zero l0
            have l1 : (repS i n.toNat).cps = #[] := Array.eq_empty_of_size_eq_zero (by
              have := repS_len i n.toNat
              rw [l0, Nat.mul_zero] at this
              exact this)
            obtain ⟨ic⟩ := i
            show (⟨(repS ⟨ic⟩ n.toNat).cps⟩ : Str) = _
            rw [l1]
            exact congrArg Str.mk c0.symm
        rw [e] at q
        exact ⟨.str i, H, I, ⟨_, rfl⟩, q⟩
      · refine ⟨?_, .str (repS i n.toNat), H, I.tok _, ⟨_, rfl⟩, q⟩
        show (repS i n.toNat).length ≤ sizeLine
        rw [repS_len, Nat.mul_comm]
        omega
def dMulS : D2 := fun a b Q => ∃ (i : Str) (n : Int), a = .str i ∧ b = .int n ∧ 0 ≤ n ∧ n ≤ 1000 ∧ i.length ≤ 1000 ∧ Q (.str (repS i n.toNat))
theorem sem_mulS {K : PySem.W.Frag} : Sem2 K (fun x y H Q => ∃ i n, x = .str i ∧ y = .int n ∧ 0 ≤ n ∧ n ≤ 1000 ∧ i.length ≤ 1000 ∧ Q (.str (repS i n.toNat)) H) dMulS where
  mono := fun hq ⟨i, n, h1, h2, h3, h4, h5, h6⟩ => ⟨i, n, h1, h2, h3, h4, h5, hq _ h6⟩
  ok := fun O H a b x y Q _ ra rb ⟨i, n, h1, h2, h3, h4, h5, h6⟩ => by
    subst h1 h2
    exact ⟨i, n, rp_str.mp ra, rp_int.mp rb, h3, h4, h5, h6 _ H (Same.refl H) (rp_str.mpr rfl)⟩
theorem de_mulS (ha : DE X a ta) (hb : DE X b tb) : DE X (.BinOp a .Mult b pos) (dOp dMulS ta tb) := de_op op_mul_str sem_mulS ha hb
end
end L2

namespace My
open PySem L2
abbrev sp_law : DSp := spLaw
abbrev I4 := Int × Int × Int × Int
abbrev I2 := Int × Int
abbrev t4 (p : I4) : Dt := T4 p.1 p.2.1 p.2.2.1 p.2.2.2
abbrev t2 (p : I2) : Dt := T2 p.1 p.2
abbrev I3 := Int × Int × Int
abbrev t3 (p : I3) : Dt := T3 p.1 p.2.1 p.2.2
def val (f : I3) (p : I2) : Int := f.1 * p.1 * p.1 + f.2.1 * p.1 * p.2 + f.2.2 * p.2 * p.2
def g3 (f : I3) : Nat := Int.gcd ((Int.gcd f.1 f.2.1 : Nat) : Int) f.2.2
theorem cut_ints (ns : List Int) (lo hi : Option Int) : ∃ cs : List Int, cutD (ns.map Dt.int) lo hi = cs.map Dt.int ∧ cs.length ≤ ns.length := by
  refine ⟨(ns.drop (HT.sIx (ns.map Dt.int).length 0 lo)).take (HT.sIx (ns.map Dt.int).length (ns.map Dt.int).length hi - HT.sIx (ns.map Dt.int).length 0 lo), by unfold cutD; rw [List.map_take, List.map_drop], ?_⟩
  rw [List.length_take, List.length_drop]; omega
theorem fm_range (x : Int) {m : Int} (h : 0 < m) : 0 ≤ x.fmod m ∧ x.fmod m < m := ⟨Int.fmod_nonneg_of_pos x h, Int.fmod_lt_of_pos x h⟩
end My




namespace My
open PySem L2
/-! the reading of a body over data, by computation -/
local macro_rules | `(tactic| walk_at "rd1") => `(tactic| dsimp only [dRet, dRetN, dSeq, dNext, dIf, dNever, dDrop, dAsg, dgName, dgTup, dgLst, dSetC, dgNil, dgCons, dPar2, dPar3, dAugI, dIn, dOp, dUn, dVar, dC, dIx, ixt0, ixt1, ixt2, ixt3, ixl0, ixl1, ixl2, ixl3, dAdd, dSub, dMul, dMod, dDiv, dPow, dShl, dShr, dI, dI0, dB0, dLt, dLe, dGt, dGe, dEq, dNe, dIs, dNot, dAnd, dOr, dNeg, dTst, dTNot, dTAnd, dTOr, dIfE, dNil, dCons, dTup, dLst, dCall, dCB, dLen, dAbs, dMax, dMin, dInt1, dIsi, dSlice, dNoPart, dPart, dChain, dChain3, dTrue, inner, diSeq, diTup, diRng1, diRng2, diRng3, dBits, dOf, dLstF, dSliceF, dCatF, dCallV, dQuiet, dNextX, dSeqX, dIfX, dDropX, dRetX, dAsgX, dCallX, dRaise, dTry, xcatch, dIsx, dIsxs, dIsv, dXfld, dCalm, dOwn, dIxO, dSetO, dAppO, dFrz, dLenO, ownAt, dCatT, dFresh, dLendT, dCopyO, dConsX, dCallA, 
  List.length_cons, List.length_nil, List.getElem?_cons_zero, List.getElem?_cons_succ, List.set_cons_zero, List.set_cons_succ, Nat.reduceAdd, List.map_cons, List.map_nil, Option.join_some])
local macro_rules | `(tactic| walk_at "rd2") => `(tactic| simp only [isB_t, isB_f, isB_i, isB_n, isB_tu, isB_l, isN_n, isN_i, isN_b, isN_t, isN_l, nf_i, nf_b, nf_n, nf_t, nf_l, nf_s, isT_tt, isT_ll, isT_ii, isT_bi, isT_ib, isT_bb, isT_tn, isT_in, isT_it, isT_bt, eq_ii, eq_bb, eq_ss, eq_nn, eq_ni, eq_nt, eq_tn, eq_tt, eq_ll, eqs_nn, eqs_cc, eqs_nc, eqs_cn, flat_i, flat_b, flat_n, flat_t8, flat_l8, flat_t7, flat_l7, flat_t6, flats_n, flats_c, if_true, if_false, Bool.and_true, Bool.true_and, Bool.false_and, Bool.and_false, Bool.not_true, Bool.not_false, Bool.false_eq_true, true_and, and_true, ite_true, ite_false, List.length_map])
local macro_rules | `(tactic| walk_at "rd") => `(tactic| ((try walk_at "rd1"); (try walk_at "rd2")))
local macro_rules | `(tactic| walk_at "go") => `(tactic| ((try simp only [dstart_c, dstart_n, dstart_e]); walk_at "rd"))
/-! sizes -/
local macro_rules | `(tactic| walk_at "bts") => `(tactic| first | assumption | (with_reducible apply Bt.mul <;> walk_at "bts") | (with_reducible apply Bt.add <;> walk_at "bts") | (with_reducible apply Bt.sub <;> walk_at "bts") | (with_reducible apply Bt.neg <;> walk_at "bts") | exact Bt.of_abs (n := 1) (by decide) | exact Bt.of_abs (n := 8) (by decide) | exact Bt.of_abs (n := 400) (by decide))
local macro_rules | `(tactic| walk_at "bt") => `(tactic| exact Bt.le (by walk_at "bts") (by decide))
local macro_rules | `(tactic| walk_at "mul") => `(tactic| exact Bt.mulOk (by walk_at "bts") (by walk_at "bts") (by decide) (by decide))
local macro_rules | `(tactic| walk_at "muls") => `(tactic| repeat (refine ⟨by first | walk_at "mul" | exact size_ok (by decide) | decide | exact ⟨by decide, by decide⟩, ?_⟩))

def top (i : Nat) : Stmt := PySem.Challenge.pw_formcycle_k03_powered.main.body.getD i (.Pass ⟨0, 0, 0, 0⟩)
abbrev s_powered : Stmt := top 1
theorem sc_powered : FnScope ["thing", "count", "put", "first", "came", "place"] ["thing", "count", "put", "first"] (defScope s_powered) := ⟨rfl, rfl, rfl, by decide +kernel, rfl, by decide +kernel, by decide +kernel⟩
abbrev s__law_cell : Stmt := top 3
theorem sc__law_cell : FnScope ["_law_script", "_law_k"] ["_law_script", "_law_k"] (defScope s__law_cell) := ⟨rfl, rfl, rfl, by decide +kernel, rfl, by decide +kernel, by decide +kernel⟩
abbrev s__law_whole : Stmt := top 4
theorem sc__law_whole : FnScope ["_law_found"] ["_law_found"] (defScope s__law_whole) := ⟨rfl, rfl, rfl, by decide +kernel, rfl, by decide +kernel, by decide +kernel⟩
abbrev s__law_count : Stmt := top 5
theorem sc__law_count : FnScope ["_law_script", "_law_count_here", "_law_cell_here"] ["_law_script"] (defScope s__law_count) := ⟨rfl, rfl, rfl, by decide +kernel, rfl, by decide +kernel, by decide +kernel⟩
abbrev s__law_rests : Stmt := top 6
theorem sc__law_rests : FnScope ["_law_script", "_law_count_here", "_law_many", "_law_thing", "_law_due", "_law_k", "_law_found"] ["_law_script", "_law_count_here"] (defScope s__law_rests) := ⟨rfl, rfl, rfl, by decide +kernel, rfl, by decide +kernel, by decide +kernel⟩
abbrev s_law : Stmt := top 7
theorem sc_law : FnScope ["_law_script", "_law_count_here", "_law_number", "_law_calls", "_law_found", "_law_some", "_law_told"] ["_law_script"] (defScope s_law) := ⟨rfl, rfl, rfl, by decide +kernel, rfl, by decide +kernel, by decide +kernel⟩
structure Txt (K : PySem.W.Frag) (mg : Str → Option Value) : Prop where
  t_powered : ∃ f fd, FnT K mg "powered" s_powered ["thing", "count", "put", "first"] f fd
  t__law_cell : ∃ f fd, FnT K mg "_law_cell" s__law_cell ["_law_script", "_law_k"] f fd
  t__law_whole : ∃ f fd, FnT K mg "_law_whole" s__law_whole ["_law_found"] f fd
  t__law_count : ∃ f fd, FnT K mg "_law_count" s__law_count ["_law_script"] f fd
  t__law_rests : ∃ f fd, FnT K mg "_law_rests" s__law_rests ["_law_script", "_law_count_here"] f fd
  t_law : ∃ f fd, FnT K mg "law" s_law ["_law_script"] f fd
  z_bool : mg "bool" = none
  z_int : mg "int" = none
  z_isinstance : mg "isinstance" = none
  z_len : mg "len" = none
  z_range : mg "range" = none
  z_str : mg "str" = none
abbrev sp__law_cell : DSp := specF (fun p : List Int × Int => [.lst (p.1.map Dt.int), .int p.2]) (fun p => 0 ≤ p.2) fun p => .int (p.1.getD p.2.toNat 0)
theorem cell_of {Q : Dt → Prop} (ns : List Int) (k : Int) (h : 0 ≤ k) (q : Q (.int (ns.getD k.toNat 0))) : sp__law_cell [.lst (ns.map Dt.int), .int k] Q := specF_of (ns, k) h q
theorem ok__law_cell {P : Program} {w : World} {K : PySem.W.Frag} {mg : Str → Option Value} {base : Heap} (T : Txt K mg)
    : Pm P w K mg base 1 "_law_cell" s__law_cell ["_law_script", "_law_k"] sp__law_cell := by
  obtain ⟨f, fd, F⟩ := T.t__law_cell
  refine ⟨f, fd, F, F.fn.okD sc__law_cell (fun ds Q ⟨p, e, _⟩ => by rw [e]; rfl) fun cdv A outer s H E hr => ⟨_, (dss_cons (ds_if (dt_lt (dv 1) (de_len T.z_len (da_cons (dv 0) da_nil))) (dss_one (ds_ret (de_sub_ix (dv 0) (dv 1)))) dss_nil) (dss_one (ds_ret de_int))), fun ds Q h => ?_⟩⟩
  obtain ⟨⟨ns, k⟩, rfl, h0, q⟩ := h
  walk_at "go"
  by_cases hk : k < ns.length
  · simp only [decide_eq_true hk, ix_ints h0 hk, if_true]
    exact q _ rfl
  · simp only [decide_eq_false hk]
    have e : ns.getD k.toNat 0 = 0 := by
      have : ns.length ≤ k.toNat := by have h0' : 0 ≤ k := h0; omega
      simp [this]
    have q' := q _ rfl
    dsimp only at q'
    rw [e] at q'
    exact q'

abbrev sp__law_whole : DSp := specF (fun n : Int => [.int n]) (fun _ => True) fun _ => .bl true
theorem ok__law_whole {P : Program} {w : World} {K : PySem.W.Frag} {mg : Str → Option Value} {base : Heap} (T : Txt K mg)
    : Pm P w K mg base 1 "_law_whole" s__law_whole ["_law_found"] sp__law_whole := by
  obtain ⟨f, fd, F⟩ := T.t__law_whole
  refine ⟨f, fd, F, F.fn.okD sc__law_whole (fun ds Q ⟨p, e, _⟩ => by rw [e]; rfl) fun cdv A outer s H E hr => ⟨_, (dss_one (ds_ret (de_and (de_isi T.z_isinstance T.z_int isi_int (dv 0)) (de_one (de_not (de_isi T.z_isinstance T.z_bool isi_bool (dv 0))))))), fun ds Q h => ?_⟩⟩
  obtain ⟨n, rfl, _, q⟩ := h
  have q' : Q (.bl true) := q _ rfl
  walk_at "go"
  exact q'
abbrev sp__law_count : DSp := spec (fun ns : List Int => [.lst (ns.map Dt.int)]) (fun ns => ns.length ≤ 63) fun _ d => ∃ n : Nat, d = .int (n : Nat) ∧ n < 10 ^ 40
theorem ok__law_count {P : Program} {w : World} {K : PySem.W.Frag} {mg : Str → Option Value} {base : Heap} (T : Txt K mg)
    (G__law_cell : Pm P w K mg base 1 "_law_cell" s__law_cell ["_law_script", "_law_k"] sp__law_cell)
    : Pm P w K mg base 2 "_law_count" s__law_count ["_law_script"] sp__law_count := by
  obtain ⟨f, fd, F⟩ := T.t__law_count
  refine ⟨f, fd, F, F.fn.okD sc__law_count (fun ds Q ⟨p, e, _⟩ => by rw [e]; rfl) fun cdv A outer s H E hr => ⟨_, (dss_cons (ds_set 1 sc__law_count.nd de_int) (dss_cons (ds_for PassesOwn.never rfl (di_lst (de_slice (dv 0) dp_none (dp_some de_int))) (dg_name 2 sc__law_count.nd) (dss_one (ds_set 1 sc__law_count.nd (de_mod (de_add (de_mul (dv 1) de_int) (dv 2)) (de_pow de_int de_int))))) (dss_cons (ds_if (dt_eq hr.units (de_mod (de_callP spec_mono G__law_cell (hr.mono (by decide)) rfl (da_cons (dv 0) (da_cons de_int da_nil))) de_int) de_int) (dss_one (ds_ret (de_mod (dv 1) de_int))) dss_nil) (dss_one (ds_ret (dv 1)))))), fun ds Q h => ?_⟩⟩
  obtain ⟨ns, rfl, hn, q⟩ := h
  have q : ∀ d, (∃ n : Nat, d = .int (n : Nat) ∧ n < 10 ^ 40) → Q d := q
  obtain ⟨cs, ecs, hcs⟩ := cut_ints ns none (some 63)
  walk_at "go"
  refine dFor_open ?_
  walk_at "rd"
  rw [ecs]
  have big : (0 : Int) < 10 ^ 40 := by decide
  refine dFor_of (cs.map Dt.int) (fun R h => h) (fun _ ρ => ∃ (m : Nat) (z : Option En), ρ = [some (.is (.lst (ns.map Dt.int))), some (.is (.int m)), z] ∧ m < 10 ^ 40) ⟨0, _, rfl, by decide⟩ ?_ ?_
  · rintro k d _ hk ⟨m, z, rfl, hm⟩
    obtain ⟨x, _, rfl⟩ := ints_get hk
    have r := fm_range ((m : Int) * 48271 + x) (m := 10 ^ 40) big
    walk_at "rd"
    refine ⟨IntMulOk.of_right (by decide), ⟨by decide, by decide, by decide⟩, by decide, (((m : Int) * 48271 + x).fmod (10 ^ 40)).toNat, _, by rw [Int.toNat_of_nonneg r.1]; rfl, ?_⟩
    have := r.2
    omega
  · rintro _ ⟨m, z, rfl, hm⟩
    walk_at "rd"
    have r := fm_range (m : Int) (m := 71) (by decide)
    refine cell_of ns 1 (by decide) ⟨by decide, ite2 (fun _ => ⟨by decide, ?_⟩) fun _ => q _ ⟨m, rfl, hm⟩⟩
    refine q _ ⟨((m : Int).fmod 71).toNat, by rw [Int.toNat_of_nonneg r.1], ?_⟩
    have := r.2
    omega
def laE : Stmt → Expr
  | .Assign _ (.Call _ (_ :: _ :: l :: _) _ _) _ => l
  | _ => .Constant .none 0 ⟨0, 0, 0, 0⟩
def laA : Expr → Arguments
  | .Lambda a _ _ _ => a
  | _ => defArgs s_law
def laB : Expr → Expr
  | .Lambda _ b _ _ => b
  | e => e
def laS : Expr → Scope
  | .Lambda _ _ s _ => s
  | _ => defScope s_law
def laP : Expr → Pos
  | .Lambda _ _ _ p => p
  | _ => ⟨0, 0, 0, 0⟩
abbrev la1 : Expr := laE ((defBody s_law).getD 3 (.Pass ⟨0, 0, 0, 0⟩))
abbrev la2 : Expr := laE ((defBody s_law).getD 6 (.Pass ⟨0, 0, 0, 0⟩))
abbrev la3 : Expr := laE ((defBody s__law_rests).getD 5 (.Pass ⟨0, 0, 0, 0⟩))
abbrev qlaw : Str := (("law" : Str) ++ (".<locals>." : Str)) ++ ("<lambda>" : Str)
abbrev qrest : Str := (("_law_rests" : Str) ++ (".<locals>." : Str)) ++ ("<lambda>" : Str)
def lt1 : List (Pos × Str) := [(laP la1, qlaw), (laP la2, qlaw)]
def lt2 : List (Pos × Str) := [(laP la3, qrest)]
theorem bits_pos {n : Nat} (h : 0 < n) : ((Builtin.Int.intBits (n : Int) : Nat) : Int) = (n.log2 : Int) + 1 := by
  have : Builtin.Int.intBits (n : Int) = n.log2 + 1 := by
    unfold Builtin.Int.intBits
    have hb : ((n : Int) == 0) = false := by simp; omega
    rw [hb]; simp
  rw [this]; push_cast; rfl
theorem log_top {n : Nat} (h : 0 < n) : n / 2 ^ n.log2 = 1 := by
  have h1 := Nat.log2_self_le (n := n) (by omega)
  have h2 := Nat.lt_log2_self (n := n)
  have h3 : n < 2 ^ n.log2 * 2 := by rw [← Nat.pow_succ]; exact h2
  refine Nat.div_eq_of_lt_le (by omega) (by omega)
theorem okL_powered {P : Program} {w : World} {K : PySem.W.Frag} {mg : Str → Option Value} {base : Heap} (T : Txt K mg) : ∃ f fd, FnT K mg "powered" s_powered ["thing", "count", "put", "first"] f fd ∧ FnOk P w K mg base CX0 2 f fd ["thing", "count", "put", "first"] (spPow P w K mg base 1) := by
  obtain ⟨f, fd, F⟩ := T.t_powered
  refine ⟨f, fd, F, F.fn.ok sc_powered (fun vs H Q E h => ?_) fun cdv A outer s H vs Q E hr h => ⟨_, pss_cons (ds_if (dt_eq hr.units (dv 1) de_int) (dss_one (ds_ret (dv 3))) dss_nil).ps (pss_cons (ds_set 4 sc_powered.nd (dv 0)).ps (pss_cons (ps_for PassesOwn.never rfl (pi_range3 rfl T.z_range (da_cons (de_sub (de_bits (dv 1)) de_int) (da_cons (de_neg de_int) (da_cons (de_neg de_int) da_nil))).pa) (pg_name (i := 5) sc_powered.nd rfl (Or.inl rfl)) (pss_cons (ps_set (i := 4) sc_powered.nd rfl (Or.inl rfl) (pe_callF (k := 1) 2 hr (da_cons (dv 4) (da_cons (dv 4) da_nil)).pa)) (pss_one (ps_if (dt_eq hr.units (de_mod (de_shr (dv 1) (dv 5)) de_int) de_int).pt (pss_one (ps_set (i := 4) sc_powered.nd rfl (Or.inl rfl) (pe_callF (k := 1) 2 hr (da_cons (dv 4) (da_cons (dv 0) da_nil)).pa))) pss_nil)))) (pss_one (ds_ret (dv 4)).ps))), ?_⟩⟩
  · obtain ⟨val, S, n, f, o, fd, ps, sp, d1, rfl, _⟩ := h
    rfl
  · obtain ⟨val, S, n, f, o, fd, ps, sp, d1, rfl, pl, p1, hn, hf, hd, G, hb, s0, sm, put, q0, q1⟩ := h
    have hρ : ∀ {x : Option En}, (∀ y, x = some y → ∃ d, y = .is d ∧ plainD d) → plains [some (.is (val 1)), some (.is (.int n)), some (.is (.fn f)), some (.is d1), x, none] := fun {x} hx => plains_cons (pl 1) (plains_cons trivial (plains_cons trivial (plains_cons p1 (by
      intro i y e
      cases i with
      | zero => exact hx y (Option.some.inj e)
      | succ i => exact plains_none plains_nil i y e))))
    have P0 : PlainR [some (.is (val 1)), some (.is (.int n)), some (.is (.fn f)), some (.is d1), none, none] (L2.start ["thing", "count", "put", "first", "came", "place"] [valV (val 1), .int (n : Int), .ref f, valV d1]) :=
      PlainF.r (show PlainF _ [some (valV (val 1)), some (.int (n : Int)), some (.ref f), some (valV d1), none, none] from ⟨⟨pl 1, rfl⟩, ⟨trivial, rfl⟩, ⟨trivial, rfl⟩, ⟨p1, rfl⟩, trivial, trivial, trivial⟩)
    refine ⟨H, [], [], _, P0.rep, ?_⟩
    walk_at "rd"
    by_cases h0 : n = 0
    · refine ift (decide_eq_true (by omega)) fun v H' s' r' => ?_
      rw [(rp_plain p1).mp r']
      exact q0 h0 H' (sm _ _ _ s0 s')
    have h0' : 0 < n := by omega
    refine iff' (decide_eq_false (by omega)) fun O1 σ1 H1 R1 => ?_
    have P1 := R1.plainR (hρ fun y e => by cases e)
    have S1 := sm _ _ _ s0 R1.base
    refine ⟨H1, [], [], _, P1.rep, fun O2 σ2 H2 R2 => ?_⟩
    have P2 := R2.plainR (hρ (x := some (.is (val 1))) fun y e => by cases e; exact ⟨_, rfl, pl 1⟩)
    have S2 := sm _ _ _ S1 R2.base
    refine ⟨H2, [], [], _, P2.rep, ?_⟩
    walk_at "rd"
    intro vs H3 s3 r3
    obtain ⟨v1, r, rfl, k1, k2⟩ := rpl_cons.mp r3
    obtain ⟨v2, r, rfl, k3, k4⟩ := rpl_cons.mp k2
    obtain ⟨v3, r, rfl, k5, k6⟩ := rpl_cons.mp k4
    obtain rfl := rpl_nil.mp k6
    rw [rp_int.mp k1, rp_int.mp k3, rp_int.mp k5]
    have eb := bits_pos h0'
    have e1 : (n.log2 : Int) + 1 - 2 = (n.log2 : Int) - 1 := by omega
    have e2 : ((n.log2 : Int) - 1 - -1).toNat = n.log2 := by omega
    refine ⟨_, _, rfl, ⟨by omega, by omega, by decide, by decide⟩, ?_⟩
    rw [eb, e1, e2]
    refine ⟨fun k m σ H => m + k = n.log2 ∧ ∃ c, PlainR [some (.is (val 1)), some (.is (.int n)), some (.is (.fn f)), some (.is d1), some (.is (val (n / 2 ^ (n.log2 - k)))), none] σ ∧ S c H ∧ c ≤ 2 * k, ⟨n.log2, rfl, 0, by rw [Nat.sub_zero, log_top h0']; exact P2, sm _ _ _ S2 s3, Nat.zero_le _⟩, ?_⟩
    rintro k m σ4 H4 ⟨hm, c, P4, S4, hc⟩
    by_cases hk : k < n.log2
    · right
      refine ⟨hk, fun σ' H' => ∃ c, PlainR [some (.is (val 1)), some (.is (.int n)), some (.is (.fn f)), some (.is d1), some (.is (val (n / 2 ^ (n.log2 - (k + 1))))), none] σ' ∧ S c H' ∧ c ≤ 2 * (k + 1), fun σ' H' q => ⟨m - 1, by omega, by omega, q⟩, fun x H5 y => ?_⟩
      obtain ⟨rfl, rfl⟩ := y
      have e1 : n.log2 - k = (n.log2 - (k + 1)) + 1 := by omega
      have e2 : ((n.log2 : Int) - 1 - (k : Int)).toNat = n.log2 - (k + 1) := by omega
      have e3 : n / 2 ^ (n.log2 - (k + 1)) = (n / 2 ^ (n.log2 - k) + n / 2 ^ (n.log2 - k)) + (n / 2 ^ (n.log2 - (k + 1))) % 2 := by
        rw [e1, Nat.pow_succ, ← Nat.div_div_eq_div_mul]; omega
      have e4 : ((n : Int) / 2 ^ (n.log2 - (k + 1))).fmod 2 = (((n / 2 ^ (n.log2 - (k + 1))) % 2 : Nat) : Int) := by
        rw [Int.fmod_eq_emod_of_nonneg _ (by decide)]; push_cast; rfl
      have g1 : 1 ≤ n / 2 ^ (n.log2 - k) := by
        have := Nat.pow_le_pow_right (n := 2) (by decide) (Nat.sub_le n.log2 k)
        have := Nat.log2_self_le (n := n) h0
        exact (Nat.le_div_iff_mul_le (Nat.two_pow_pos _)).mpr (by omega)
      have g2 : n / 2 ^ (n.log2 - (k + 1)) ≤ n := Nat.div_le_self _ _
      have P5 := P4.set 5 (d := .int ((n.log2 : Int) - 1 - (k : Int))) trivial
      have hf5 : (σ4.set 5 (some (valV (.int ((n.log2 : Int) - 1 - (k : Int))))))[2]? = some (some (.ref f)) := by
        obtain ⟨d, hd, _, h3⟩ := P5.get 2 _ rfl
        cases hd
        exact h3
      refine ⟨f, o, fd, hf5, hf, hd, _, [], [], _, P5.rep, fun vs H6 s6 r6 => ?_⟩
      obtain rfl := rpl_plain2 (pl _) (pl _) r6
      refine ⟨ps, sp, G, hb, put _ _ c H6 _ g1 g1 (by omega) (by omega) (sm _ _ _ S4 s6) fun H7 S7 => ?_⟩
      have P7 := P5.set 4 (pl (n / 2 ^ (n.log2 - k) + n / 2 ^ (n.log2 - k)))
      refine ⟨H7, [], [], _, P7.rep, ?_⟩
      walk_at "rd"
      refine ⟨by omega, by decide, fun H8 s8 => ?_⟩
      rw [e2, e4]
      have S8 := sm _ _ _ S7 s8
      refine ite2 (fun hz => ?_) (fun hz => ?_)
      · have hz := of_decide_eq_true hz
        have h1 : n / 2 ^ (n.log2 - (k + 1)) % 2 = 1 := by omega
        have hf7 : ((σ4.set 5 (some (valV (.int ((n.log2 : Int) - 1 - (k : Int)))))).set 4 (some (valV (val (n / 2 ^ (n.log2 - k) + n / 2 ^ (n.log2 - k))))))[2]? = some (some (.ref f)) := by
          obtain ⟨d, hd, _, h3⟩ := P7.get 2 _ rfl
          cases hd
          exact h3
        refine ⟨f, o, fd, hf7, hf, hd, _, [], [], _, P7.rep, fun vs H9 s9 r9 => ?_⟩
        obtain rfl := rpl_plain2 (pl _) (pl _) r9
        refine ⟨ps, sp, G, hb, put _ _ (c + 1) H9 _ (by omega) (by decide) (by omega) (by omega) (sm _ _ _ S8 s9) fun H10 S10 => ?_⟩
        have P10 := (P7.set 4 (pl (n / 2 ^ (n.log2 - k) + n / 2 ^ (n.log2 - k) + 1))).off 5
        rw [h1] at e3
        exact ⟨c + 1 + 1, by rw [e3]; exact P10, S10, by omega⟩
      · have hz : ¬ ((((n / 2 ^ (n.log2 - (k + 1))) % 2 : Nat) : Int) = 1) := fun z => hz (decide_eq_true z)
        have h1 : n / 2 ^ (n.log2 - (k + 1)) % 2 = 0 := by omega
        rw [h1, Nat.add_zero] at e3
        have P8 := P7.off 5
        exact ⟨c + 1, by rw [e3]; exact P8, S8, by omega⟩
    · left
      have ek : k = n.log2 := by omega
      refine ⟨by show n.log2 ≤ k; omega, ?_⟩
      rw [ek, Nat.sub_self, Nat.pow_zero, Nat.div_one] at P4
      refine ⟨H4, [], [], _, P4.rep, fun v H' s' r' => ?_⟩
      rw [(rp_plain (pl n)).mp r']
      exact q1 h0' c H' (by omega) (sm _ _ _ S4 s')
/-- texts put together -/
def ok2 (ws : List V) (val : Nat → Dt) (n : Nat) : Prop := ws = [] ∧ n ≤ 71 ∧ ∃ x : Str, x.length ≤ 3 ∧ val = fun i => .str (repS x i)
theorem lam2_ok {P : Program} {w : World} {K : PySem.W.Frag} {mg : Str → Option Value} {base : Heap} {f c' : Addr} {cl : List (Str × Addr)} {pm ctv : Value} {ws : List V} {val : Nat → Dt} {S : Nat → Hp → Prop} {n : Nat} (L : Lam base f qlaw (laA la2) (laB la2) (laS la2) cl pm c' ctv [] ws) (ok : ok2 ws val n)
    (hrec : ∀ c H, S c H → H c' = some (.ext (recAt c' qlaw))) (hS : ∀ c H H', S c H → Same H H' → S (c + 1) H') : FnOk P w K mg base CX0 1 f (PySem.W.kla_fn "<lambda>" qlaw (laA la2) (laB la2) (laS la2) cl pm (.ref c') ctv) ["_law_left", "_law_right"] (spLam val S n) := by
  obtain ⟨rfl, hn, x, hx, rfl⟩ := ok
  refine lam_ok (k := 0) L (by decide) rfl rfl rfl (by decide +kernel) rfl rfl rfl (fun vs H Q E ⟨i, j, c, _, e, _⟩ => by rw [e]; rfl) (fun vs H Q E ⟨i, j, c, _, _, s, _⟩ => hrec c H s) fun A outer s H a b Q E hr h => ⟨_, pe_op op_add_str (pv 0) (pv 1), ?_⟩
  obtain ⟨i, j, c, ⟨h1, h2, h3, h4⟩, e, s, q⟩ := h
  injection e with e1 e
  injection e with e2 _
  subst e1 e2
  refine ⟨_, rfl, _, rfl, repS x i, repS x j, rfl, rfl, ?_, ?_⟩
  · rw [repS_len, repS_len, ← Nat.add_mul]
    have := Nat.mul_le_mul (show i + j ≤ 71 by omega) hx
    exact Nat.le_trans this (by decide)
  · have := q H (hS c H H s (Same.refl H))
    have this : Q (.str (repS x (i + j))) H := this
    rw [repS_add] at this
    exact this
/-- rests of products -/
def ok3 (ws : List V) (val : Nat → Dt) (_ : Nat) : Prop := ∃ m t : Int, ws = [.int m] ∧ 2 ≤ m ∧ Bt 202 m ∧ val = fun i => .int (t ^ i % m)
theorem lam3_ok {P : Program} {w : World} {K : PySem.W.Frag} {mg : Str → Option Value} {base : Heap} {f c' : Addr} {cl : List (Str × Addr)} {pm ctv : Value} {ws : List V} {val : Nat → Dt} {S : Nat → Hp → Prop} {n : Nat} (L : Lam base f qrest (laA la3) (laB la3) (laS la3) cl pm c' ctv ["_law_many"] ws) (ok : ok3 ws val n)
    (hrec : ∀ c H, S c H → H c' = some (.ext (recAt c' qrest))) (hS : ∀ c H H', S c H → Same H H' → S (c + 1) H') : FnOk P w K mg base CX0 1 f (PySem.W.kla_fn "<lambda>" qrest (laA la3) (laB la3) (laS la3) cl pm (.ref c') ctv) ["_law_one", "_law_other"] (spLam val S n) := by
  obtain ⟨m, t, rfl, h2, bm, rfl⟩ := ok
  refine lam_ok (k := 0) L (by decide) rfl rfl rfl (by decide +kernel) rfl rfl rfl (fun vs H Q E ⟨i, j, c, _, e, _⟩ => by rw [e]; rfl) (fun vs H Q E ⟨i, j, c, _, _, s, _⟩ => hrec c H s) fun A outer s H a b Q E hr h => ⟨_, (de_mod (de_mul (dv 0) (dv 1)) (dv 2)).pe, ?_⟩
  obtain ⟨i, j, c, ⟨h1, h2', h3, h4⟩, e, s, q⟩ := h
  injection e with e1 e
  injection e with e2 _
  subst e1 e2
  have P0 : PlainR [some (.is (.int (t ^ i % m))), some (.is (.int (t ^ j % m))), some (.is (.int m))] [some (.int (t ^ i % m)), some (.int (t ^ j % m)), some (.int m)] := PlainF.r ⟨⟨trivial, rfl⟩, ⟨trivial, rfl⟩, ⟨trivial, rfl⟩, trivial⟩
  have bt : ∀ i : Nat, Bt 202 (t ^ i % m) := fun i => by
    have z0 := Int.emod_nonneg (t ^ i) (show m ≠ 0 by omega)
    have z1 := Int.emod_lt_of_pos (t ^ i) (show 0 < m by omega)
    unfold Bt at *
    omega
  refine ⟨H, [], [], _, P0.rep, ?_⟩
  walk_at "rd"
  refine ⟨(bt i).mulOk (bt j), by omega, fun v H' s' r' => ?_⟩
  rw [rp_int.mp r', Int.fmod_eq_emod_of_nonneg _ (by omega), ← Int.mul_emod, ← Int.pow_add]
  exact q H' (hS c H H' s s')
/-- numbers put together, each time one more in the list -/
def ok1 (val : Nat → Dt) (_ : Nat) : Prop := ∃ x : Int, val = fun i => .int (x * (i : Nat))
theorem lam1_ok {P : Program} {w : World} {K : PySem.W.Frag} {mg : Str → Option Value} {base : Heap} {f c' a : Addr} {cl : List (Str × Addr)} {pm ctv : Value} {val : Nat → Dt} {S : Nat → Hp → Prop} {n : Nat} (L : Lam base f qlaw (laA la1) (laB la1) (laS la1) cl pm c' ctv ["_law_calls"] [.ref a]) (ok : ok1 val n) (hn : n.log2 < 500)
    (hS : ∀ c H, S c H → H c' = some (.ext (recAt c' qlaw)) ∧ H a = some (.lst (List.replicate c (.int 1))) ∧ ∀ H', (∀ b o, H b = some o → b ≠ a → H' b = some o) → H' a = some (.lst (List.replicate (c + 1) (.int 1))) → S (c + 1) H') : FnOk P w K mg base CX0 1 f (PySem.W.kla_fn "<lambda>" qlaw (laA la1) (laB la1) (laS la1) cl pm (.ref c') ctv) ["_law_one", "_law_other"] (spLam val S n) := by
  obtain ⟨x, rfl⟩ := ok
  refine lam_ok (k := 0) L (by decide) rfl rfl rfl (by decide +kernel) rfl rfl rfl (fun vs H Q E ⟨i, j, c, _, e, _⟩ => by rw [e]; rfl) (fun vs H Q E ⟨i, j, c, _, _, s, _⟩ => (hS c H s).1) fun A outer s H a b Q E hr h => ⟨_, pe_ix ix_list (pe_lst (pa_cons (pe_bm PySem.F.plainAttrs_list PySem.F.slot_list_append PySem.F.type_list_append mt_append (pv 2) (pa_cons pe_int pa_nil)) (pa_cons (pe_op op_add (pv 0) (pv 1)) pa_nil))) pe_int (fun _ _ => rfl), ?_⟩
  obtain ⟨i, j, c, ⟨h1, h2, h3, h4⟩, e, s, q⟩ := h
  injection e with e1 e
  injection e with e2 _
  subst e1 e2
  obtain ⟨k1, k2, k3⟩ := hS c H s
  refine ⟨_, rfl, .inl ⟨rfl, _, SqL.of k2⟩, _, _, _, rfl, rfl, k2, ?_, ?_⟩
  · rw [List.length_replicate]
    exact Nat.lt_of_lt_of_le (show c < 1000 by omega) (by decide)
  refine ⟨_, rfl, _, rfl, _, _, rfl, rfl, by show 2 ≤ sizeLine; decide, fun l hl => ⟨l, _, 1, _, rfl, rfl, SqL.of upd_same, rfl, ?_⟩⟩
  have la : a ≠ l := fun z => by rw [← z, upd_same] at hl; cases hl
  have e : x * (i : Int) + x * (j : Int) = x * ((i + j : Nat) : Int) := by push_cast; rw [Int.mul_add]
  show Q (.int (x * (i : Int) + x * (j : Int))) _
  rw [e]
  refine q _ (k3 _ (fun b o hb nb => ?_) ?_)
  · have nl : b ≠ l := fun z => by rw [← z, upd_ne nb, hb] at hl; cases hl
    rw [upd_ne nl, upd_ne nb]; exact hb
  · rw [upd_ne la, upd_same, List.replicate_succ']
theorem apart13 : (laP la1).line ≠ (laP la3).line ∧ (laP la2).line ≠ (laP la3).line := by decide +kernel
theorem free1 : ∀ y ∈ (laS la1).names, y.2 = .free → (defScope s_law).names.lookup y.1 = some .cell := by decide +kernel
theorem free2 : ∀ y ∈ (laS la2).names, y.2 = .free → (defScope s_law).names.lookup y.1 = some .cell := by decide +kernel
theorem free3 : ∀ y ∈ (laS la3).names, y.2 = .free → (defScope s__law_rests).names.lookup y.1 = some .cell := by decide +kernel
theorem hq_rest {P1 P2 P : Addr} : ∀ p ∈ ([(P1, lt1), (P2, lt2)] : Tabs), p.1 = P → ∀ l ∈ p.2, l.1.line = (laP la3).line → l.1.col = (laP la3).col → l.2 = qrest := fun p hp _ l hl e1 _ => by
  obtain ⟨k1, k2⟩ := apart13
  simp only [List.mem_cons, List.not_mem_nil, or_false] at hp
  rcases hp with rfl | rfl
  · unfold lt1 at hl
    simp only [List.mem_cons, List.not_mem_nil, or_false] at hl
    rcases hl with rfl | rfl
    · exact absurd e1 k1
    · exact absurd e1 k2
  · unfold lt2 at hl
    simp only [List.mem_cons, List.not_mem_nil, or_false] at hl
    rw [hl]
theorem hq_law {P1 P2 P : Addr} {e : Expr} (he : e = la1 ∨ e = la2) : ∀ p ∈ ([(P1, lt1), (P2, lt2)] : Tabs), p.1 = P → ∀ l ∈ p.2, l.1.line = (laP e).line → l.1.col = (laP e).col → l.2 = qlaw := fun p hp _ l hl e1 _ => by
  obtain ⟨k1, k2⟩ := apart13
  simp only [List.mem_cons, List.not_mem_nil, or_false] at hp
  rcases hp with rfl | rfl
  · unfold lt1 at hl
    simp only [List.mem_cons, List.not_mem_nil, or_false] at hl
    rcases hl with rfl | rfl <;> rfl
  · unfold lt2 at hl
    simp only [List.mem_cons, List.not_mem_nil, or_false] at hl
    rw [hl] at e1
    rcases he with rfl | rfl
    · exact absurd e1.symm k1
    · exact absurd e1.symm k2
theorem pow_all {P : Program} {w : World} {K : PySem.W.Frag} {mg : Str → Option Value} (T : Txt K mg) : ∃ f fd, FnT K mg "powered" s_powered ["thing", "count", "put", "first"] f fd ∧ ∀ base, FnOk P w K mg base CX0 2 f fd ["thing", "count", "put", "first"] (spPow P w K mg base 1) := by
  obtain ⟨f, fd, F⟩ := T.t_powered
  refine ⟨f, fd, F, fun base => ?_⟩
  obtain ⟨f', fd', F', G⟩ := okL_powered (P := P) (w := w) (base := base) T
  have e := F'.mg.symm.trans F.mg
  cases e
  have e := F'.fn.uniq F.fn
  subst e
  exact G
abbrev sp__law_rests : DSp := spec (fun p : List Int × Nat => [.lst (p.1.map Dt.int), .int p.2]) (fun p => p.2 ≤ 71) fun _ d => d = .bl true
theorem okT_rests {P : Program} {w : World} {K : PySem.W.Frag} {mg : Str → Option Value} {base : Heap} {P1 P2 c2 : Addr} (T : Txt K mg)
    (G__law_cell : Pm P w K mg base 1 "_law_cell" s__law_cell ["_law_script", "_law_k"] sp__law_cell) (G__law_whole : Pm P w K mg base 1 "_law_whole" s__law_whole ["_law_found"] sp__law_whole)
    (hc2 : ∀ f, mg "_law_rests" = some (.ref f) → CodeOf K f c2) (hd2 : PySem.W.CodeHd base c2 P2) (hbm : BmAt mg base) :
    ∃ f fd, FnT K mg "_law_rests" s__law_rests ["_law_script", "_law_count_here"] f fd ∧ FnOk P w K mg base CX0 4 f fd ["_law_script", "_law_count_here"] (lSpT K [(P1, lt1), (P2, lt2)] sp__law_rests) := by
  obtain ⟨f, fd, F⟩ := T.t__law_rests
  obtain ⟨fP, fdP, FP, PM⟩ := pow_all (P := P) (w := w) T
  refine ⟨f, fd, F, F.fn.okT (hc2 f F.mg) sc__law_rests (fun ds Q ⟨p, e, _⟩ => by rw [e]; rfl) fun A outer s H E hr => ⟨_, (dssT_cons (ds_set 2 sc__law_rests.nd (de_add de_int (de_mod (de_callP spec_mono G__law_cell (hr.mono (by decide)) rfl (da_cons (dv 0) (da_cons de_int da_nil))) (de_pow de_int de_int)))) (dssT_cons (ds_set 3 sc__law_rests.nd (de_mod (de_callP spec_mono G__law_cell (hr.mono (by decide)) rfl (da_cons (dv 0) (da_cons de_int da_nil))) (dv 2))) (dssT_cons (ds_if (dt_eq hr.units (de_mod (de_callP spec_mono G__law_cell (hr.mono (by decide)) rfl (da_cons (dv 0) (da_cons de_int da_nil))) de_int) de_int) (dss_one (ds_set 3 sc__law_rests.nd de_int)) dss_nil) (dssT_cons (ds_set 4 sc__law_rests.nd de_int) (dssT_cons (ds_for PassesOwn.never rfl (di_rng1 rfl T.z_range (da_cons (dv 1) da_nil)) (dg_name 5 sc__law_rests.nd) (dss_one (ds_set 4 sc__law_rests.nd (de_mod (de_mul (dv 4) (dv 3)) (dv 2)))))
    (dssT_powA 6 [2] (fr := ["_law_many"]) (d1 := .int 1) (ok := ok3) (x := "_law_one") (y := "_law_other") (q := qrest) (fun base' _ => PM base') FP.bd (hr.mono (by decide)) (fun _ => rfl) FP.mg FP.fn.kp ⟨rfl, hd2, hbm⟩ rfl (.tail _ (.head _)) (.head _) hq_rest sc__law_rests.nd (dv 3) (dv 1) pe_int trivial free3 rfl (by intro y hy; rw [List.mem_singleton.mp hy]; rfl) (fun f c' cl pm ctv base' ws val S n L ok h1 h2 => lam3_ok L ok h1 h2) (fun cl pm c' ctv => .all fun us hl => match us, hl with | [_, _], _ => rfl)
    (dssT_of (dss_one (ds_ret (de_and (de_callP spec_mono G__law_whole (hr.mono (by decide)) rfl (da_cons (dv 6) da_nil)) (de_one (de_eq hr.units (dv 6) (dv 4))))))))))))), fun ds Q h => ?_⟩⟩
  obtain ⟨⟨ns, n⟩, rfl, hn, q⟩ := h
  have hn : n ≤ 71 := hn
  have q' : Q (.bl true) := q _ rfl
  simp only [dstart_c, dstart_n, dstart_e]
  have sixty : (0 : Int) < 10 ^ 60 := by decide
  refine seq_cut3 (fun ρ => ∃ m t : Int, (2 ≤ m ∧ Bt 202 m ∧ 0 ≤ t ∧ t < m) ∧ ρ = [some (.is (.lst (ns.map Dt.int))), some (.is (.int n)), some (.is (.int m)), some (.is (.int t)), none, none, none]) (fun N hN => ?_) ?_
  · have r1 := fm_range (ns.getD (Int.toNat 4) 0) (m := 10 ^ 60) sixty
    have bm : Bt 202 (2 + (ns.getD (Int.toNat 4) 0).fmod (10 ^ 60)) := Bt.of (by omega) (by omega)
    have r2 := fm_range (ns.getD (Int.toNat 5) 0) (m := 2 + (ns.getD (Int.toNat 4) 0).fmod (10 ^ 60)) (by omega)
    walk_at "rd"
    refine cell_of ns 4 (by decide) ⟨⟨by decide, by decide, by decide⟩, by decide, cell_of ns 5 (by decide) ⟨by show 2 + (ns.getD (Int.toNat 4) 0).fmod (10 ^ 60) ≠ 0; omega, cell_of ns 6 (by decide) ⟨by decide, ite2 (fun _ => ?_) fun _ => ?_⟩⟩⟩
    · exact hN _ ⟨_, 0, ⟨by omega, bm, by decide, by omega⟩, rfl⟩
    · exact hN _ ⟨_, _, ⟨by omega, bm, r2.1, r2.2⟩, rfl⟩
  rintro _ ⟨m, t, ⟨m2, bm, t0, tm⟩, rfl⟩
  have bt : ∀ i : Nat, Bt 202 (t ^ i % m) := fun i => by
    have z0 := Int.emod_nonneg (t ^ i) (show m ≠ 0 by omega)
    have z1 := Int.emod_lt_of_pos (t ^ i) (show 0 < m by omega)
    unfold Bt at *
    omega
  have btt : Bt 202 t := by unfold Bt at *; omega
  have one : t ^ 0 % m = 1 := by rw [Int.pow_zero]; exact Int.emod_eq_of_lt (by decide) (by omega)
  walk_at "rd"
  refine dFor_open ?_
  walk_at "rd"
  refine ⟨by omega, ?_⟩
  rw [Int.toNat_natCast]
  refine dFor_of (ups 0 n) (fun R h => h) (fun k ρ => ∃ z : Option En, ρ = [some (.is (.lst (ns.map Dt.int))), some (.is (.int n)), some (.is (.int m)), some (.is (.int t)), some (.is (.int (t ^ k % m))), z, none]) ⟨none, by rw [one]⟩ ?_ ?_
  · rintro k d _ hk ⟨z, rfl⟩
    walk_at "rd"
    refine ⟨(bt k).mulOk btt, by omega, some (.is d), ?_⟩
    have e : (t ^ k % m * t) % m = t ^ (k + 1) % m := by
      rw [Int.pow_succ, Int.mul_emod, Int.emod_emod_of_dvd _ (Int.dvd_refl m), ← Int.mul_emod]
    rw [Int.fmod_eq_emod_of_nonneg _ (by omega), e]
  · rintro _ ⟨z, rfl⟩
    rw [ups_len]
    unfold dPowA
    walk_at "rd"
    refine ⟨fun i => .int (t ^ i % m), n, [.int m], ?_, rfl, fun i => trivial, ?_, rfl, ?_, ⟨m, t, rfl, m2, bm, rfl⟩, ?_⟩
    · show Dt.int t = Dt.int (t ^ 1 % m)
      rw [Int.pow_one, Int.emod_eq_of_lt t0 tm]
    · have := Nat.log2_le_self n
      omega
    · intro d hd
      rw [List.mem_singleton.mp hd]
      trivial
    · have e : (if n = 0 then Dt.int 1 else Dt.int (t ^ n % m)) = Dt.int (t ^ n % m) := by
        by_cases h0 : n = 0
        · rw [if_pos h0, h0, one]
        · rw [if_neg h0]
      rw [e]
      walk_at "rd"
      exact specF_of (t ^ n % m) trivial (ift rfl q')
theorem repS_all {x : Str} {p : Nat → Bool} (h : x.cps.all p = true) : ∀ n, (repS x n).cps.all p = true
  | 0 => by
    unfold repS
    simp
  | n + 1 => by
    rw [repS_succ, Array.all_append, h, repS_all h n]
    rfl
theorem so_of {x : Str} (h : PyData.strOk x = true) (k : Nat) : (PyData.str (repS x k)).canLay0 = true := by
  rw [PyData.canLay0]
  exact repS_all h k
theorem some_of {i : Int} (h0 : 0 ≤ i) (h1 : i < 3) : ∃ y : Str, ixD i (.lst [.str "a", .str "ab", .str "bca"]) = some (.str y) ∧ y.length ≤ 3 ∧ ∀ k, (PyData.str (repS y k)).canLay0 = true := by
  have : i = 0 ∨ i = 1 ∨ i = 2 := by omega
  rcases this with rfl | rfl | rfl
  · exact ⟨"a", rfl, by decide, so_of (by decide +kernel)⟩
  · exact ⟨"ab", rfl, by decide, so_of (by decide +kernel)⟩
  · exact ⟨"bca", rfl, by decide, so_of (by decide +kernel)⟩
theorem ok_law {P : Program} {w : World} {K : PySem.W.Frag} {mg : Str → Option Value} {base : Heap} {P1 P2 c1 c2 : Addr} (T : Txt K mg)
    (G__law_cell : Pm P w K mg base 1 "_law_cell" s__law_cell ["_law_script", "_law_k"] sp__law_cell) (G__law_whole : Pm P w K mg base 1 "_law_whole" s__law_whole ["_law_found"] sp__law_whole) (G__law_count : Pm P w K mg base 2 "_law_count" s__law_count ["_law_script"] sp__law_count)
    (hc1 : ∀ f, mg "law" = some (.ref f) → CodeOf K f c1) (hc2 : ∀ f, mg "_law_rests" = some (.ref f) → CodeOf K f c2) (hd1 : PySem.W.CodeHd base c1 P1) (hd2 : PySem.W.CodeHd base c2 P2) (hbm : BmAt mg base) :
    ∃ f fd, FnT K mg "law" s_law ["_law_script"] f fd ∧ FnOk P w K mg base CX0 5 f fd ["_law_script"] (lSpT K [(P1, lt1), (P2, lt2)] spLawT) := by
  obtain ⟨f, fd, F⟩ := T.t_law
  obtain ⟨fP, fdP, FP, PM⟩ := pow_all (P := P) (w := w) T
  obtain ⟨fR, fdR, FR, GR⟩ := okT_rests (P1 := P1) (P2 := P2) T G__law_cell G__law_whole hc2 hd2 hbm
  refine ⟨f, fd, F, F.fn.okT (hc1 f F.mg) sc_law (fun ds Q ⟨p, e, _⟩ => by rw [e]; rfl) fun A outer s H E hr => ⟨_, (dssT_cons (ds_set 1 sc_law.nd (de_callP spec_mono G__law_count (hr.mono (by decide)) rfl (da_cons (dv 0) da_nil))) (dssT_cons (ds_set 2 sc_law.nd (de_sub (de_mod (de_callP spec_mono G__law_cell (hr.mono (by decide)) rfl (da_cons (dv 0) (da_cons de_int da_nil))) (de_add (de_mul de_int (de_pow de_int de_int)) de_int)) (de_pow de_int de_int))) (dssT_cons (ds_own 3 sc_law.nd da_nil)
    (dssT_powB 4 3 (w := "_law_calls") (d1 := .int 0) (ok := ok1) (x := "_law_one") (y := "_law_other") (q := qlaw) (fun base' _ => PM base') FP.bd (hr.mono (by decide)) (fun _ => rfl) FP.mg FP.fn.kp ⟨rfl, hd1, hbm⟩ rfl (.head _) (.head _) (hq_law (.inl rfl)) sc_law.nd (dv 2) (dv 1) pe_int trivial free1 rfl rfl (fun f c' a cl pm ctv base' val S n L ok h1 h2 => lam1_ok L ok h1 h2) (fun cl pm c' ctv => .all fun us hl => match us, hl with | [_, _], _ => rfl)
    (dssT_cons (ds_if (DW.dt (dw_or (dt_not (dt_val (de_callP spec_mono G__law_whole (hr.mono (by decide)) rfl (da_cons (dv 4) da_nil)))) (dw_or (dt_ne hr.units (dv 4) (de_mul (dv 2) (dv 1))) (dw_or1 (dt_gt (de_leno 3 T.z_len) (de_mul de_int (de_bits (dv 1)))))))) (dss_one (ds_ret de_bl)) dss_nil) (dssT_cons (ds_set 5 sc_law.nd (de_sub_ix (de_lst (da_cons de_str (da_cons de_str (da_cons de_str da_nil)))) (de_mod (de_callP spec_mono G__law_cell (hr.mono (by decide)) rfl (da_cons (dv 0) (da_cons de_int da_nil))) de_int)))
    (dssT_powA 6 [] (fr := []) (d1 := .str "") (ok := ok2) (x := "_law_left") (y := "_law_right") (q := qlaw) (fun base' _ => PM base') FP.bd (hr.mono (by decide)) (fun _ => rfl) FP.mg FP.fn.kp ⟨rfl, hd1, hbm⟩ rfl (.head _) (.tail _ (.head _)) (hq_law (.inr rfl)) sc_law.nd (dv 5) (de_mod (dv 1) de_int) pe_str trivial free2 rfl (fun y hy => (nomatch hy)) (fun f c' cl pm ctv base' ws val S n L ok h1 h2 => lam2_ok L ok h1 h2) (fun cl pm c' ctv => .all fun us hl => match us, hl with | [_, _], _ => rfl)
    (dssT_cons (ds_if (DW.dt (dw_or (dt_not (dt_val (de_isi T.z_isinstance T.z_str isi_str (dv 6)))) (dw_or1 (dt_ne hr.units (dv 6) (de_mulS (dv 5) (de_mod (dv 1) de_int)))))) (dss_one (ds_ret de_bl)) dss_nil)
    (dssT_ret3 spec_mono GR (hr.mono (by decide)) FR.mg FR.fn.kp FR.bd (da_cons (dv 0) (da_cons (de_mod (dv 1) de_int) da_nil)) (da_cons (dv 0) (da_cons de_int da_nil)) (da_cons (dv 0) (da_cons de_int da_nil))))))))))), fun ds Q h => ?_⟩⟩
  obtain ⟨ns, rfl, hn, q⟩ := h
  have hn : ns.length ≤ 63 := hn
  have q' : Q (.bl true) := q _ rfl
  simp only [dstart_c, dstart_n, dstart_e]
  have sixty : (0 : Int) < 2 * 10 ^ 60 + 1 := by decide
  refine seq_cut3 (fun ρ => ∃ (n : Nat) (x : Int), (n < 10 ^ 40 ∧ Bt 202 x) ∧ ρ = [some (.is (.lst (ns.map Dt.int))), some (.is (.int n)), some (.is (.int x)), some (.own []), none, none, none]) (fun N hN => ?_) ?_
  · have r1 := fm_range (ns.getD (Int.toNat 2) 0) (m := 2 * 10 ^ 60 + 1) sixty
    walk_at "rd"
    refine spec_of ns hn ?_
    rintro _ ⟨n, rfl, hn40⟩
    walk_at "rd"
    refine cell_of ns 2 (by decide) ⟨⟨by decide, by decide, by decide⟩, IntMulOk.of_left (by decide), by decide, ⟨by decide, by decide, by decide⟩, Nat.zero_le _, hN _ ⟨n, _, ⟨hn40, ?_⟩, rfl⟩⟩
    have e : (10 : Int) ^ Int.toNat 60 = 10 ^ 60 := rfl
    rw [e]
    exact Bt.of (by omega) (by omega)
  rintro _ ⟨n, x, ⟨hn40, bx⟩, rfl⟩
  have hlog : n.log2 < 200 := by
    by_cases h0 : n = 0
    · rw [h0]; decide
    · exact (Nat.log2_lt h0).mpr (Nat.lt_trans hn40 (by decide))
  have bn : Bt 202 (n : Int) := Bt.of (by omega) (by omega)
  have r71 := fm_range (n : Int) (m := 71) (by decide)
  obtain ⟨k71, e71⟩ : ∃ k : Nat, (n : Int).fmod 71 = (k : Nat) := ⟨((n : Int).fmod 71).toNat, by rw [Int.toNat_of_nonneg r71.1]⟩
  unfold dPowB
  walk_at "rd"
  refine ⟨fun i => .int (x * (i : Nat)), n, ?_, rfl, fun i => trivial, by omega, ⟨x, rfl⟩, fun c hc => ?_⟩
  · show Dt.int x = Dt.int (x * ((1 : Nat) : Int))
    rw [Int.natCast_one, Int.mul_one]
  have e : (if n = 0 then Dt.int 0 else Dt.int (x * (n : Nat))) = Dt.int (x * (n : Nat)) := by
    by_cases h0 : n = 0
    · rw [if_pos h0, h0, Int.natCast_zero, Int.mul_zero]
    · rw [if_neg h0]
  dsimp only
  rw [e]
  clear e
  have hb : 2 * n.log2 ≤ 2 * Builtin.Int.intBits (n : Int) := by
    by_cases h0 : n = 0
    · rw [h0]; decide
    · have := bits_pos (n := n) (by omega)
      omega
  refine specF_of (x * (n : Nat)) trivial (iff' rfl ⟨bx.mulOk bn, flat_i, iff' (by rw [eq_ii, decide_eq_true rfl]; rfl) ⟨IntMulOk.of_left (by decide), iff' (decide_eq_false ?_) ⟨size_ok (by decide), cell_of ns 3 (by decide) ⟨by decide, ?_⟩⟩⟩⟩)
  · rw [List.length_replicate]
    omega
  have r3 := fm_range (ns.getD (Int.toNat 3) 0) (m := 3) (by decide)
  obtain ⟨y, ey, hy, so⟩ := some_of r3.1 r3.2
  rw [ey]
  unfold dPowA
  walk_at "rd"
  have k70 : k71 ≤ 71 := by omega
  rw [e71]
  have es : (if k71 = 0 then Dt.str "" else Dt.str (repS y k71)) = Dt.str (repS y k71) := by
    by_cases h0 : k71 = 0
    · rw [if_pos h0, h0]; rfl
    · rw [if_neg h0]
  refine ⟨by decide, fun i => .str (repS y i), k71, [], ?_, rfl, fun i => trivial, ?_, rfl, fun d hd => (nomatch hd), ⟨rfl, k70, y, hy, rfl⟩, ?_⟩
  · show Dt.str y = Dt.str (repS y 1)
    rw [repS_one]
  · have := Nat.log2_le_self k71
    omega
  dsimp only
  rw [es]
  refine ⟨rfl, iff' rfl ⟨by decide, y, (k71 : Int), rfl, rfl, by omega, by omega, by omega, ?_⟩⟩
  rw [Int.toNat_natCast]
  have fl : Dt.flat 8 (.str (repS y k71)) = true := by rw [Dt.flat]; exact so k71
  have eqs : (Dt.str (repS y k71)).eq (.str (repS y k71)) = true := by rw [Dt.eq]; exact beq_self_eq_true _
  refine ⟨⟨fl, fl⟩, iff' (by rw [eqs]; rfl) ?_⟩
  unfold dRet3
  simp only [List.map_cons, List.map_nil, noOwn]
  walk_at "rd"
  rw [e71]
  refine ⟨by decide, spec_of (ns, k71) k70 ?_⟩
  rintro _ rfl
  refine ⟨rfl, spec_of (ns, 0) (Nat.zero_le _) ?_⟩
  rintro _ rfl
  refine ⟨rfl, spec_of (ns, 1) (by show 1 ≤ 71; decide) ?_⟩
  rintro _ rfl
  exact ⟨rfl, q'⟩
set_option maxHeartbeats 8000000 in
theorem all_mk {l : PySem.W.OpenLaw} {w : World} {K : PySem.W.Frag} {h : Heap} {mg : Str → Option Value} {fa cc1 PP1 cc2 PP2 : Addr} (X : K.In h) (G : h.Ns mainGlobals mg) (hfa : mg "law" = some (.ref fa)) (hc1 : ∀ f, mg "law" = some (.ref f) → CodeOf K f cc1) (hc2 : ∀ f, mg "_law_rests" = some (.ref f) → CodeOf K f cc2)
    {f0 : Addr} {od0 an0 : Option Addr} {sl0 : Array (Option Value)} {oc0 kV0 dc0 pm0 cd0 ct0 : Value}
    (a0 : PySem.W.nsIn K mainGlobals "powered" = some (some (.ref f0))) (l0 : K.lookup f0 = some ⟨oc0, od0, .func (PySem.W.fnOf "powered" "powered" (defArgs s_powered) (defBody s_powered) (defScope s_powered) .none kV0 dc0 pm0 an0 cd0 ct0), sl0⟩) (c0 : PySem.W.codeIn K cd0 "powered" = true) (k0 : PySem.W.keepIn K (.ref f0) = true)
    {f1 : Addr} {od1 an1 : Option Addr} {sl1 : Array (Option Value)} {oc1 kV1 dc1 pm1 cd1 ct1 : Value}
    (a1 : PySem.W.nsIn K mainGlobals "_law_cell" = some (some (.ref f1))) (l1 : K.lookup f1 = some ⟨oc1, od1, .func (PySem.W.fnOf "_law_cell" "_law_cell" (defArgs s__law_cell) (defBody s__law_cell) (defScope s__law_cell) .none kV1 dc1 pm1 an1 cd1 ct1), sl1⟩) (c1 : PySem.W.codeIn K cd1 "_law_cell" = true) (k1 : PySem.W.keepIn K (.ref f1) = true)
    {f2 : Addr} {od2 an2 : Option Addr} {sl2 : Array (Option Value)} {oc2 kV2 dc2 pm2 cd2 ct2 : Value}
    (a2 : PySem.W.nsIn K mainGlobals "_law_whole" = some (some (.ref f2))) (l2 : K.lookup f2 = some ⟨oc2, od2, .func (PySem.W.fnOf "_law_whole" "_law_whole" (defArgs s__law_whole) (defBody s__law_whole) (defScope s__law_whole) .none kV2 dc2 pm2 an2 cd2 ct2), sl2⟩) (c2 : PySem.W.codeIn K cd2 "_law_whole" = true) (k2 : PySem.W.keepIn K (.ref f2) = true)
    {f3 : Addr} {od3 an3 : Option Addr} {sl3 : Array (Option Value)} {oc3 kV3 dc3 pm3 cd3 ct3 : Value}
    (a3 : PySem.W.nsIn K mainGlobals "_law_count" = some (some (.ref f3))) (l3 : K.lookup f3 = some ⟨oc3, od3, .func (PySem.W.fnOf "_law_count" "_law_count" (defArgs s__law_count) (defBody s__law_count) (defScope s__law_count) .none kV3 dc3 pm3 an3 cd3 ct3), sl3⟩) (c3 : PySem.W.codeIn K cd3 "_law_count" = true) (k3 : PySem.W.keepIn K (.ref f3) = true)
    {f4 : Addr} {od4 an4 : Option Addr} {sl4 : Array (Option Value)} {oc4 kV4 dc4 pm4 cd4 ct4 : Value}
    (a4 : PySem.W.nsIn K mainGlobals "_law_rests" = some (some (.ref f4))) (l4 : K.lookup f4 = some ⟨oc4, od4, .func (PySem.W.fnOf "_law_rests" "_law_rests" (defArgs s__law_rests) (defBody s__law_rests) (defScope s__law_rests) .none kV4 dc4 pm4 an4 cd4 ct4), sl4⟩) (c4 : PySem.W.codeIn K cd4 "_law_rests" = true) (k4 : PySem.W.keepIn K (.ref f4) = true)
    {f5 : Addr} {od5 an5 : Option Addr} {sl5 : Array (Option Value)} {oc5 kV5 dc5 pm5 cd5 ct5 : Value}
    (a5 : PySem.W.nsIn K mainGlobals "law" = some (some (.ref f5))) (l5 : K.lookup f5 = some ⟨oc5, od5, .func (PySem.W.fnOf "law" "law" (defArgs s_law) (defBody s_law) (defScope s_law) .none kV5 dc5 pm5 an5 cd5 ct5), sl5⟩) (c5 : PySem.W.codeIn K cd5 "law" = true) (k5 : PySem.W.keepIn K (.ref f5) = true)
    (z_bool : PySem.W.nsIn K mainGlobals "bool" = some none)
    (z_int : PySem.W.nsIn K mainGlobals "int" = some none)
    (z_isinstance : PySem.W.nsIn K mainGlobals "isinstance" = some none)
    (z_len : PySem.W.nsIn K mainGlobals "len" = some none)
    (z_range : PySem.W.nsIn K mainGlobals "range" = some none)
    (z_str : PySem.W.nsIn K mainGlobals "str" = some none)
    : ∃ fd : FuncData, (∀ (s : Shared) (v : Value), BindsTo s fd ⟨[v], []⟩ [("_law_script", v)]) ∧ ∀ base : Heap, K.In base → base.Ns mainGlobals mg → PySem.W.CodeHd base cc1 PP1 → PySem.W.CodeHd base cc2 PP2 → BmAt mg base → FnOk l.prog w K mg base CX0 5 fa fd ["_law_script"] (lSpT K [(PP1, lt1), (PP2, lt2)] spLawT) := by
  have e := hfa.symm.trans (PySem.W.mg_of X G a5)
  cases e
  have F0 := fun_mk (st := s_powered) l0 c0 k0
  have F1 := fun_mk (st := s__law_cell) l1 c1 k1
  have F2 := fun_mk (st := s__law_whole) l2 c2 k2
  have F3 := fun_mk (st := s__law_count) l3 c3 k3
  have F4 := fun_mk (st := s__law_rests) l4 c4 k4
  have F5 := fun_mk (st := s_law) l5 c5 k5
  have T : Txt K mg := {
    t_powered := ⟨_, _, F0, PySem.W.mg_of X G a0, F0.binds (ps := ["thing", "count", "put", "first"]) fun _ _ _ _ _ _ us hl => match us, hl with | [_, _, _, _], _ => rfl⟩
    t__law_cell := ⟨_, _, F1, PySem.W.mg_of X G a1, F1.binds (ps := ["_law_script", "_law_k"]) fun _ _ _ _ _ _ us hl => match us, hl with | [_, _], _ => rfl⟩
    t__law_whole := ⟨_, _, F2, PySem.W.mg_of X G a2, F2.binds (ps := ["_law_found"]) fun _ _ _ _ _ _ us hl => match us, hl with | [_], _ => rfl⟩
    t__law_count := ⟨_, _, F3, PySem.W.mg_of X G a3, F3.binds (ps := ["_law_script"]) fun _ _ _ _ _ _ us hl => match us, hl with | [_], _ => rfl⟩
    t__law_rests := ⟨_, _, F4, PySem.W.mg_of X G a4, F4.binds (ps := ["_law_script", "_law_count_here"]) fun _ _ _ _ _ _ us hl => match us, hl with | [_, _], _ => rfl⟩
    t_law := ⟨_, _, F5, PySem.W.mg_of X G a5, F5.binds (ps := ["_law_script"]) fun _ _ _ _ _ _ us hl => match us, hl with | [_], _ => rfl⟩
    z_bool := PySem.W.mg_none_of X G z_bool
    z_int := PySem.W.mg_none_of X G z_int
    z_isinstance := PySem.W.mg_none_of X G z_isinstance
    z_len := PySem.W.mg_none_of X G z_len
    z_range := PySem.W.mg_none_of X G z_range
    z_str := PySem.W.mg_none_of X G z_str
  }
  refine ⟨PySem.W.fnOf "law" "law" (defArgs s_law) (defBody s_law) (defScope s_law) .none kV5 dc5 pm5 an5 cd5 ct5, fun s v => .of_eq rfl, fun base kb nb hd1 hd2 hbm => ?_⟩
  have g__law_cell := ok__law_cell (P := l.prog) (w := w) (base := base) T 
  have g__law_whole := ok__law_whole (P := l.prog) (w := w) (base := base) T 
  have g__law_count := ok__law_count (P := l.prog) (w := w) (base := base) T g__law_cell
  have g_law := ok_law (P := l.prog) (w := w) (base := base) T g__law_cell g__law_whole g__law_count hc1 hc2 hd1 hd2 hbm
  obtain ⟨f, fd, FT, GG⟩ := g_law
  have e1 := FT.mg.symm.trans (PySem.W.mg_of X G a5)
  cases e1
  have e2 := FT.fn.uniq F5
  subst e2
  exact GG
theorem walk {l : PySem.W.OpenLaw} {q : Program} {loose : List Str} {XP : (Str → Option Value) → Heap → Prop} {YP : World → Heap → Prop} {d : DefRec} {K : Params → PySem.W.Frag} (hn : l.most = some 63) (hdf : d.params.defaults = []) (hY : ∀ (w : World) (h : Heap), YP w h → (K w.params).In h)
    (noT : ∀ w : World, noTabK (K w.params) = true) (r1 : (PyProof.Rows.recsOf q).any (fun d => d.name == "law") = true) (r2 : (PyProof.Rows.recsOf q).any (fun d => d.name == "_law_rests") = true)
    (F : ∀ (w : World) (mg : Str → Option Value) (fa : Addr) (h : Heap) (cc1 PP1 cc2 PP2 : Addr), (K w.params).In h → h.Ns mainGlobals mg → mg d.name = some (.ref fa) → (∀ f, mg "law" = some (.ref f) → CodeOf (K w.params) f cc1) → (∀ f, mg "_law_rests" = some (.ref f) → CodeOf (K w.params) f cc2) →
      ∃ fd : FuncData, (∀ (s : Shared) (u : Value), BindsTo s fd ⟨[u], []⟩ [("_law_script", u)]) ∧ ∀ base : Heap, (K w.params).In base → base.Ns mainGlobals mg → PySem.W.CodeHd base cc1 PP1 → PySem.W.CodeHd base cc2 PP2 → BmAt mg base → FnOk l.prog w (K w.params) mg base CX0 5 fa fd ["_law_script"] (lSpT (K w.params) [(PP1, lt1), (PP2, lt2)] spLawT)) :
    PySem.W.WalkO q loose XP YP l.row.toRowW d [] (fun f vs => PySem.call f vs) :=
  L2.walk_ofT (k := 5) (x := "_law_script") (n1 := "law") (n2 := "_law_rests") hn hdf ⟨rfl, by decide, by decide⟩ hY noT r1 r2 F
end My
open PySem PySem.W PyProof.Rows
set_option maxRecDepth 100000 in
set_option maxHeartbeats 0 in
theorem PySem.Challenge.cw_formcycle_k03_powered_holds : PySem.Challenge.rw_formcycle_k03_powered.Holds := by
  w_on; o_law; k_head; (case hw => w_witness2)
  k_fill
  refine My.walk (l := PySem.Challenge.rw_formcycle_k03_powered) rfl rfl (fun w h Y => PySem.W.km_in_of Y) ?noT ?r1 ?r2 ?F
  (case noT => intro w; kernel_rfl)
  (case r1 => kernel_rfl)
  (case r2 => kernel_rfl)
  case F =>
    intro w mg fa h cc1 PP1 cc2 PP2 KX G hmg hc1 hc2
    refine' My.all_mk KX G hmg hc1 hc2 ?a0 ?l0 ?c0 ?k0 ?a1 ?l1 ?c1 ?k1 ?a2 ?l2 ?c2 ?k2 ?a3 ?l3 ?c3 ?k3 ?a4 ?l4 ?c4 ?k4 ?a5 ?l5 ?c5 ?k5 ?z_bool ?z_int ?z_isinstance ?z_len ?z_range ?z_str
    (case a0 => k_is)
    (case l0 => k_is)
    (case c0 => k_is)
    (case k0 => k_is)
    (case a1 => k_is)
    (case l1 => k_is)
    (case c1 => k_is)
    (case k1 => k_is)
    (case a2 => k_is)
    (case l2 => k_is)
    (case c2 => k_is)
    (case k2 => k_is)
    (case a3 => k_is)
    (case l3 => k_is)
    (case c3 => k_is)
    (case k3 => k_is)
    (case a4 => k_is)
    (case l4 => k_is)
    (case c4 => k_is)
    (case k4 => k_is)
    (case a5 => k_is)
    (case l5 => k_is)
    (case c5 => k_is)
    (case k5 => k_is)
    (case z_bool => k_is)
    (case z_int => k_is)
    (case z_isinstance => k_is)
    (case z_len => k_is)
    (case z_range => k_is)
    (case z_str => k_is)

