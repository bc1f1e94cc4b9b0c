import PyProof.Rows.All
import Wide.All
import OpenK.AllK
import Wide.FinOn
import Lean
import PyProof.EqAt
import PyProof.EqKinds
import PyProof.TupleCall
import PySem.Challenge.RW_tailyard_k42_whole_few_rooms
set_option Elab.async false
set_option linter.all false
set_option maxRecDepth 100000
namespace L2
open PySem PySem.Spec PyProof.Rows
/-- a key: an int or a str -/
abbrev Key := Sum Int Str
def keyIs : Key → Value → Bool
  | .inl k, v => Value.isInt k v
  | .inr x, v => Value.isStrOf x v
def keyH (w : World) : Key → Int
  | .inl k => hashInt k
  | .inr x => hashStr w x
theorem keyIs_shape : ∀ {k : Key} {v : Value}, keyIs k v = true → (∃ i t, k = Sum.inl i ∧ v = Value.int i t) ∨ (∃ x t, k = Sum.inr x ∧ v = Value.str x t)
  | .inl i, v, h => by
    obtain ⟨t, e⟩ := Value.isInt_shape (k := i) (v := v) h
    exact .inl ⟨i, t, rfl, e⟩
  | .inr x, v, h => by
    obtain ⟨t, e⟩ := Value.isStrOf_shape (x := x) (v := v) h
    exact .inr ⟨x, t, rfl, e⟩
theorem keyIs_int (i : Int) (t : Tok) : keyIs (.inl i) (.int i t) = true := by simp [keyIs, Value.isInt]
theorem keyIs_str (x : Str) (t : Tok) : keyIs (.inr x) (.str x t) = true := by simp [keyIs, Value.isStrOf]
theorem key_ll (a b : Int) : decide ((Sum.inl a : Key) = Sum.inl b) = (a == b) := by
  by_cases e : a = b
  · subst e; simp
  · have h : ¬ (Sum.inl a : Key) = Sum.inl b := fun q => e (Sum.inl.inj q)
    rw [decide_eq_false h]
    exact (beq_eq_false_iff_ne.mpr e).symm
theorem key_rr (a b : Str) : decide ((Sum.inr a : Key) = Sum.inr b) = decide (a = b) := by
  by_cases e : a = b
  · subst e; simp
  · have h : ¬ (Sum.inr a : Key) = Sum.inr b := fun q => e (Sum.inr.inj q)
    rw [decide_eq_false h, decide_eq_false e]
theorem key_lr (a : Int) (b : Str) : decide ((Sum.inl a : Key) = Sum.inr b) = false := decide_eq_false (fun q => nomatch q)
theorem key_rl (a : Str) (b : Int) : decide ((Sum.inr a : Key) = Sum.inl b) = false := decide_eq_false (fun q => nomatch q)

def mixKind (prog : Program) (w : World) : PySem.KeyKind prog w Key where
  is := keyIs
  hash := keyH w
  inj := fun v a b ha hb => by
    rcases keyIs_shape ha with ⟨i, t, rfl, rfl⟩ | ⟨x, t, rfl, rfl⟩
    · rcases keyIs_shape hb with ⟨j, u, rfl, e⟩ | ⟨y, u, rfl, e⟩
      · injection e with e1 _; rw [e1]
      · exact nomatch e
    · rcases keyIs_shape hb with ⟨j, u, rfl, e⟩ | ⟨y, u, rfl, e⟩
      · exact nomatch e
      · injection e with e1 _; rw [e1]
  byValue := fun k v h => by
    rcases keyIs_shape h with ⟨i, t, rfl, rfl⟩ | ⟨x, t, rfl, rfl⟩ <;> rfl
  pyHash := fun hv h => by
    rcases keyIs_shape hv with ⟨i, t, rfl, rfl⟩ | ⟨x, t, rfl, rfl⟩
    · exact wpAny_pyHash_int h
    · exact wpAny_pyHash_str h
  eqBool := fun hu hv h => by
    rcases keyIs_shape hu with ⟨i, t, rfl, rfl⟩ | ⟨x, t, rfl, rfl⟩
    · rcases keyIs_shape hv with ⟨j, u, rfl, rfl⟩ | ⟨y, u, rfl, rfl⟩
      · rw [key_ll] at h; exact wpAny_eqBool_int h
      · rw [key_lr] at h; exact SeqAt.EqAt.int_str i t y u _ _ _ _ h
    · rcases keyIs_shape hv with ⟨j, u, rfl, rfl⟩ | ⟨y, u, rfl, rfl⟩
      · rw [key_rl] at h; exact SeqAt.EqAt.str_int x t j u _ _ _ _ h
      · rw [key_rr] at h; exact wpAny_eqBool_str h
  «strs» := fun k x t v h => by
    rcases keyIs_shape h with ⟨i, u, rfl, e⟩ | ⟨y, u, rfl, e⟩
    · exact nomatch e
    · injection e with e1 _
      subst e1
      cases v <;> rfl

theorem mixKind_int (prog : Program) (w : World) (i : Int) (t : Tok) : (mixKind prog w).is (.inl i) (.int i t) = true := keyIs_int i t
theorem mixKind_str (prog : Program) (w : World) (x : Str) (t : Tok) : (mixKind prog w).is (.inr x) (.str x t) = true := keyIs_str x t
end L2
namespace L2
open PySem PySem.Spec PyProof.Rows
/-- a value, without the heap -/
inductive V where
  | non | bl (b : Bool) | int (i : Int) | str (x : Str) | byt (b : Array UInt8) | flt (b : UInt64) | ref (a : Addr) | ty (n : String)
  deriving DecidableEq

def RelV : V → Value → Prop
  | .non, u => u = Value.none
  | .bl b, u => u = Value.bool b
  | .int i, u => ∃ t, u = Value.int i t
  | .str x, u => ∃ t, u = Value.str x t
  | .byt b, u => ∃ t, u = Value.bytes b t
  | .flt b, u => ∃ t, u = Value.float b t
  | .ref a, u => u = Value.ref a
  | .ty n, u => u = Value.type n

abbrev Vals : List V → List Value → Prop := Paired RelV
theorem Vals.length {xs : List V} {us : List Value} (r : Vals xs us) : xs.length = us.length := Paired.length r
theorem Vals.get : ∀ {xs : List V} {us : List Value} {i : Nat} {x : V}, Vals xs us → xs[i]? = some x → ∃ u, us[i]? = some u ∧ RelV x u
  | _, _, _, _, .nil, e => by simp at e
  | _, _, 0, _, .cons r _, e => by simp at e; subst e; exact ⟨_, rfl, r⟩
  | _, _, i + 1, x, .cons _ t, e => by
    obtain ⟨u, h1, h2⟩ := Vals.get (i := i) (x := x) t (by simpa using e)
    exact ⟨u, by simpa using h1, h2⟩
theorem Vals.append : ∀ {xs ys : List V} {us ws : List Value}, Vals xs us → Vals ys ws → Vals (xs ++ ys) (us ++ ws)
  | _, _, _, _, .nil, s => s
  | _, _, _, _, .cons r t, s => .cons r (Vals.append t s)
def RelO : Option V → Option Value → Prop
  | some v, some u => RelV v u
  | none, none => True
  | _, _ => False
def KV {κ : Type} : List (κ × V) → List (κ × Value) → Prop := Paired fun (p : κ × V) (q : κ × Value) => p.1 = q.1 ∧ RelV p.2 q.2

/-- a key of a dict (00_mix): an int or a text -/
def kV : Key → V
  | .inl i => .int i
  | .inr x => .str x

/-- what stands at a tracked address -/
inductive HO where
  /-- a list -/
  | lst (xs : List V)
  /-- a tuple (never changes) -/
  | tup (xs : List V)
  /-- a dict whose keys are ints and texts; one whose keys are tuples of ints and texts (the empty one is both) -/
  | dK (kvs : List (Key × V)) | dT (kvs : List (List Key × V))
  /-- a set of ints: its members, its size -/
  | set (S : Int → Bool) (n : Nat)
  /-- an instance of the class at C, its dict at dx, its attributes -/
  | ins (C dx : Addr) (fs : List (Str × V))
  /-- the dict of the instance at x -/
  | own (x : Addr)
  /-- the dict of an exception -/
  | xd (fs : List (Str × V))
  /-- a bound method, f of x -/
  | met (f x : Addr)
  /-- a range object lo, lo + 1, .. below hi -/
  | rng (lo hi : Int)
  /-- a thing that is known to the object (the script; a dict while a loop walks it): read, never written while it is so -/
  | frz (o : Obj) (u : HO)
  /-- a code object's table -/
  | tbl (ps : Array Value)
  /-- any other thing, by what is true of its one object (a def of one's own: SetO a S n := HO.ext fun h => ..) -/
  | ext (φ : Heap → Prop)

abbrev Hp := Addr → Option HO
def upd (H : Hp) (a : Addr) (o : HO) : Hp := fun b => if b = a then some o else H b
theorem upd_same {H : Hp} {a : Addr} {o : HO} : upd H a o a = some o := by unfold upd; rw [if_pos rfl]
theorem upd_ne {H : Hp} {a b : Addr} {o : HO} (h : b ≠ a) : upd H a o b = H b := by unfold upd; rw [if_neg h]
theorem upd_upd {H : Hp} {a : Addr} {o u : HO} : upd (upd H a o) a u = upd H a u := by
  funext b; unfold upd; split <;> rfl
/-- two objects of different content stand apart -/
theorem ne_of {H : Hp} {a b : Addr} {o u : HO} (h : H a = some o) (h' : H b = some u) (d : o ≠ u) : a ≠ b := by
  intro e; subst e; rw [h] at h'; exact d (Option.some.inj h')
theorem ne_of_none {H : Hp} {a b : Addr} {o : HO} (h : H a = some o) (h' : H b = none) : a ≠ b := by
  intro e; subst e; rw [h] at h'; cases h'

section
variable (P : Program) (w : World)
def ObjOk (H : Hp) (h : Heap) (a : Addr) : HO → Prop
  | .lst xs => xs.length ≤ sizeLine ∧ ∃ (its : List Value) (n : Nat), Vals xs its ∧ h.get? a = some { cls := .type "list", data := .seq its.toArray n }
  | .tup xs => xs.length ≤ sizeLine ∧ ∃ its : List Value, Vals xs its ∧ IsTup h a its.toArray
  | .dK kvs => kvs.length ≤ sizeLine ∧ (a == sysModules) = false ∧ ∃ vs, KV kvs vs ∧ h.DictOf (mixKind P w) a vs
  | .dT kvs => kvs.length ≤ sizeLine ∧ (a == sysModules) = false ∧ ∃ xs : List (List Key × Addr × Value),
      Paired (fun (p : List Key × V) (q : List Key × Addr × Value) => p.1 = q.1 ∧ H q.2.1 = some (.tup (p.1.map kV)) ∧ RelV p.2 q.2.2) kvs xs ∧
      ∃ o es ep, h.get? a = some o ∧ o.ExactDict ∧ o.data = .dict es ep ∧ es.toList = xs.map (entryOfKey (tupleKind (mixKind P w))) ∧ (xs.map (·.1)).Nodup
  | .set S n => h.SetOf (intKind P w) a S n
  | .ins C dx fs => H dx = some (.own a) ∧ fs.length ≤ 1000 ∧ dx ≠ a ∧ h.get? a = some (PySem.W.instObj C dx) ∧
      ∃ mA, h.Ns1 dx mA ∧ (∀ f, RelO (fs.lookup f) (mA f)) ∧ PySem.Within mA (fs.map (·.1))
  | .own _ => ∃ o, h.get? a = some o
  | .xd fs => ∃ mA, h.Ns1 a mA ∧ ∀ f, RelO (fs.lookup f) (mA f)
  | .rng lo hi => ∃ t u v, h.get? a = some { cls := .type "range", data := .fields #[.int lo t, .int hi u, .int 1 v] }
  | .frz o u => h.get? a = some o ∧ ObjOk H h a u
  | .tbl ps => h.get? a = some { cls := .none, data := .fields ps }
  | .met f x => h.get? a = some (PySem.W.methodObj (.ref f) (.ref x))
  | .ext φ => φ h ∧ (∃ o, h.get? a = some o) ∧ ∀ h1 h2 : Heap, φ h1 → (∀ o, h1.get? a = some o → h2.get? a = some o) → φ h2
/-- the abstract heap is held -/
def HOk (H : Hp) (h : Heap) : Prop := ∀ a o, H a = some o → ObjOk P w H h a o
end
section
variable {P : Program} {w : World} {H H' : Hp} {h h' : Heap} {a : Addr} {o : HO}
theorem ObjOk.lt (x : ObjOk P w H h a o) : a < h.objs.size := by
  cases o with
  | lst xs => obtain ⟨_, _, _, _, e⟩ := x; exact Heap.lt_size e
  | tup xs => obtain ⟨_, _, _, p⟩ := x; exact p.lt
  | dK kvs => obtain ⟨_, _, _, _, o, _, _, e, _⟩ := x; exact Heap.lt_size e
  | dT kvs => obtain ⟨_, _, _, _, o, _, _, e, _⟩ := x; exact Heap.lt_size e
  | set S n => obtain ⟨o, _, _, _, e, _⟩ := x; exact Heap.lt_size e
  | ins C dx fs => obtain ⟨_, _, _, e, _⟩ := x; exact Heap.lt_size e
  | own y => obtain ⟨_, e⟩ := x; exact Heap.lt_size e
  | xd fs => obtain ⟨_, ⟨_, _, _, e, _⟩, _⟩ := x; exact Heap.lt_size e
  | rng lo hi => obtain ⟨_, _, _, e⟩ := x; exact Heap.lt_size e
  | frz ob u => obtain ⟨e, _⟩ := x; exact Heap.lt_size e
  | tbl ps => exact Heap.lt_size (show h.get? a = some _ from x)
  | met f y => exact Heap.lt_size (show h.get? a = some _ from x)
  | ext φ => obtain ⟨_, ⟨_, e⟩, _⟩ := x; exact Heap.lt_size e
theorem Paired.mapP {α β : Type} {F G : α → β → Prop} : ∀ {l₁ : List α} {l₂ : List β}, Paired F l₁ l₂ → (∀ a b, F a b → G a b) → Paired G l₁ l₂
  | _, _, .nil, _ => .nil
  | _, _, .cons r t, f => .cons (f _ _ r) (Paired.mapP t f)
/-- what an object's description leans on: its own object, its own dict, the tuples -/
theorem ObjOk.stay (x : ObjOk P w H h a o) (k : ∀ b u, (b = a ∨ H b = some (.own a)) → h.get? b = some u → h'.get? b = some u)
    (ho : ∀ b, H b = some (.own a) → H' b = some (.own a)) (ht : ∀ b xs, H b = some (.tup xs) → H' b = some (.tup xs)) : ObjOk P w H' h' a o := by
  induction o with
  | lst xs => obtain ⟨z, its, n, r, e⟩ := x; exact ⟨z, its, n, r, k _ _ (.inl rfl) e⟩
  | tup xs => obtain ⟨z, its, r, ob, e, c⟩ := x; exact ⟨z, its, r, ob, k _ _ (.inl rfl) e, c⟩
  | dK kvs => obtain ⟨z, y, vs, r, ob, es, ep, e, c⟩ := x; exact ⟨z, y, vs, r, ob, es, ep, k _ _ (.inl rfl) e, c⟩
  | dT kvs =>
    obtain ⟨z, y, xs, r, ob, es, ep, e, c⟩ := x
    exact ⟨z, y, xs, Paired.mapP r fun p q z => ⟨z.1, ht _ _ z.2.1, z.2.2⟩, ob, es, ep, k _ _ (.inl rfl) e, c⟩
  | set S n => obtain ⟨ob, es, ep, t, e, c⟩ := x; exact ⟨ob, es, ep, t, k _ _ (.inl rfl) e, c⟩
  | ins C dx fs =>
    obtain ⟨d, z, ne, e, mA, ⟨od, es, ep, e2, c⟩, r⟩ := x
    exact ⟨ho _ d, z, ne, k _ _ (.inl rfl) e, mA, ⟨od, es, ep, k _ _ (.inr d) e2, c⟩, r⟩
  | own y => obtain ⟨ob, e⟩ := x; exact ⟨ob, k _ _ (.inl rfl) e⟩
  | xd fs => obtain ⟨mA, ⟨od, es, ep, e, c⟩, r⟩ := x; exact ⟨mA, ⟨od, es, ep, k _ _ (.inl rfl) e, c⟩, r⟩
  | rng lo hi => obtain ⟨t, u, v, e⟩ := x; exact ⟨t, u, v, k _ _ (.inl rfl) e⟩
  | frz ob u ih => obtain ⟨e, q⟩ := x; exact ⟨k _ _ (.inl rfl) e, ih q⟩
  | tbl ps =>
    have e : h.get? a = some { cls := .none, data := .fields ps } := x
    show h'.get? a = some { cls := .none, data := .fields ps }
    exact k a _ (.inl rfl) e
  | met f y =>
    have e : h.get? a = some (PySem.W.methodObj (.ref f) (.ref y)) := x
    show h'.get? a = some (PySem.W.methodObj (.ref f) (.ref y))
    exact k a _ (.inl rfl) e
  | ext φ => obtain ⟨p, ⟨o, e⟩, st⟩ := x; exact ⟨st _ _ p fun o q => k _ _ (.inl rfl) q, ⟨o, k _ _ (.inl rfl) e⟩, st⟩
theorem HOk.lt (x : HOk P w H h) (e : H a = some o) : a < h.objs.size := (x a o e).lt
theorem HOk.fresh (x : HOk P w H h) (e : h.objs.size ≤ a) : H a = none := by
  cases q : H a with
  | none => rfl
  | some u => exact absurd (Nat.lt_of_lt_of_le (x.lt q) e) (Nat.lt_irrefl _)
/-- every object of the heap is kept -/
theorem HOk.kept (x : HOk P w H h) (k : ∀ b u, h.get? b = some u → h'.get? b = some u) : HOk P w H h' := fun a o e =>
  (x a o e).stay (fun b u _ q => k b u q) (fun _ q => q) fun _ _ q => q
/-- a new object is laid and tracked -/
theorem HOk.laid (x : HOk P w H h) (k : ∀ b u, h.get? b = some u → h'.get? b = some u) (hp : h.objs.size ≤ a) (new : ObjOk P w (upd H a o) h' a o) : HOk P w (upd H a o) h' := fun b u e => by
  have hn := x.fresh hp
  by_cases hb : b = a
  · subst hb; rw [upd_same] at e; cases e; exact new
  · rw [upd_ne hb] at e
    exact (x b u e).stay (fun c v _ q => k c v q) (fun c q => by rw [upd_ne (ne_of_none q hn)]; exact q) fun c xs q => by rw [upd_ne (ne_of_none q hn)]; exact q
end
/-- what may be read as u: it is u, or a known u -/
def Rd (H : Hp) (a : Addr) (u : HO) : Prop := H a = some u ∨ ∃ o, H a = some (.frz o u)
theorem Rd.ok {P : Program} {w : World} {H : Hp} {h : Heap} {a : Addr} {u : HO} (r : Rd H a u) (x : HOk P w H h) : ObjOk P w H h a u := by
  rcases r with r | ⟨o, r⟩
  · exact x a u r
  · obtain ⟨_, q⟩ := x a _ r
    exact q
/-- what may be written -/
def Mut : Option HO → Prop
  | some (.lst _) => True
  | some (.dK _) => True
  | some (.dT _) => True
  | some (.set _ _) => True
  | some (.ins _ _ _) => True
  | some (.ext _) => True
  | _ => False
section
variable {P : Program} {w : World} {H : Hp} {h h' : Heap} {x e : Addr} {o' : HO}
/-- the object at e is changed: x itself, or the dict of the instance x -/
theorem HOk.write (ok : HOk P w H h) (mu : Mut (H x)) (he : e = x ∨ H e = some (.own x)) (k : ∀ b u, b ≠ e → h.get? b = some u → h'.get? b = some u) (heo : ∃ u, h'.get? e = some u)
    (new : ObjOk P w (upd H x o') h' x o') : HOk P w (upd H x o') h' := fun b u q => by
  have nown : ∀ c y, H c = some (.own y) → c ≠ x := fun c y r z => by subst z; rw [r] at mu; exact mu
  have ntup : ∀ c xs, H c = some (.tup xs) → c ≠ x := fun c xs r z => by subst z; rw [r] at mu; exact mu
  by_cases hb : b = x
  · subst hb; rw [upd_same] at q; cases q; exact new
  · rw [upd_ne hb] at q
    by_cases hbe : b = e
    · have q' : H b = some (.own x) := by
        rcases he with z | z
        · exact absurd (hbe.trans z) hb
        · rw [hbe]; exact z
      rw [q] at q'; cases q'
      obtain ⟨v, hv⟩ := heo
      exact ⟨v, by rw [hbe]; exact hv⟩
    · refine (ok b u q).stay (fun c v hc r => k c v ?_ r) (fun c r => by rw [upd_ne (nown c b r)]; exact r) fun c xs r => by rw [upd_ne (ntup c xs r)]; exact r
      rcases hc with rfl | hc
      · exact hbe
      · rintro rfl
        rcases he with z | z
        · exact nown c b hc z
        · rw [hc] at z; cases z; exact hb rfl
end
structure Un (fs ex : List Addr) (H H' : Hp) (h h' : Heap) : Prop where
  keep : ∀ b o, h.get? b = some o → H b = none → b ∉ fs → b ∉ ex → h'.get? b = some o
  slot : ∀ b o, h.get? b = some o → H b = none → b ∈ fs → b ∉ ex → ∃ sl, h'.get? b = some { o with slots := sl }
  free : ∀ b o, h.get? b = some o → H b = none → b ∉ ex → H' b = none
  there : ∀ b o, h.get? b = some o → b ∉ ex → ∃ o', h'.get? b = some o'
  tups : ∀ b xs, H b = some (.tup xs) → H' b = some (.tup xs)
  frzs : ∀ b o u, H b = some (.frz o u) → H' b = some (.frz o u)
  tbls : ∀ b ps, H b = some (.tbl ps) → ∃ more, H' b = some (.tbl (ps ++ more))
section
variable {fs fs' ex ex' : List Addr} {H H1 H2 : Hp} {h h1 h2 h' : Heap} {a x e : Addr} {o : HO}
theorem Un.any (u : Un fs ex H H1 h h1) {b : Addr} {ob : Obj} (q : h.get? b = some ob) (n : H b = none) (hx : b ∉ ex) : ∃ sl, h1.get? b = some { ob with slots := sl } := by
  by_cases hb : b ∈ fs
  · exact u.slot b ob q n hb hx
  · exact ⟨ob.slots, u.keep b ob q n hb hx⟩
theorem Un.kept (k : ∀ b u, h.get? b = some u → h'.get? b = some u) : Un fs ex H H h h' :=
  ⟨fun b ob q _ _ _ => k b ob q, fun b ob q _ _ _ => ⟨ob.slots, k b ob q⟩, fun _ _ _ n _ => n, fun b ob q _ => ⟨ob, k b ob q⟩, fun _ _ q => q, fun _ _ _ q => q, fun _ ps q => ⟨#[], by rw [q]; simp⟩⟩
theorem Un.refl : Un fs ex H H h h := Un.kept fun _ _ q => q
theorem Un.laid (k : ∀ b u, h.get? b = some u → h'.get? b = some u) (hp : h.objs.size ≤ a) (hn : H a = none) : Un fs ex H (upd H a o) h h' where
  keep := fun b u q _ _ _ => k b u q
  slot := fun b u q _ _ _ => ⟨u.slots, k b u q⟩
  free := fun b u q n _ => by rw [upd_ne (Nat.ne_of_lt (Nat.lt_of_lt_of_le (Heap.lt_size q) hp))]; exact n
  there := fun b u q _ => ⟨u, k b u q⟩
  tups := fun b xs q => by rw [upd_ne (ne_of_none q hn)]; exact q
  frzs := fun b u xs q => by rw [upd_ne (ne_of_none q hn)]; exact q
  tbls := fun b ps q => ⟨#[], by rw [upd_ne (ne_of_none q hn), q]; simp⟩
theorem Un.write (mu : Mut (H x)) (he : e = x ∨ H e = some (.own x)) (k : ∀ b u, b ≠ e → h.get? b = some u → h'.get? b = some u) (heo : ∃ u, h'.get? e = some u) : Un fs ex H (upd H x o) h h' := by
  have hx : ∀ b, H b = none → b ≠ x := fun b n z => by subst z; rw [n] at mu; exact mu
  have hb : ∀ b, H b = none → b ≠ e := fun b n z => by
    subst z
    rcases he with r | r
    · exact hx b n r
    · rw [n] at r; cases r
  have hm : ∀ b u, H b = some u → ¬ Mut (some u) → b ≠ x := fun b u q nm z => by subst z; rw [q] at mu; exact nm mu
  refine ⟨fun b u q n _ _ => k b u (hb b n) q, fun b u q n _ _ => ⟨u.slots, k b u (hb b n) q⟩, fun b u q n _ => by rw [upd_ne (hx b n)]; exact n, fun b u q _ => ?_,
    fun b xs q => by rw [upd_ne (hm b _ q fun z => z)]; exact q, fun b u xs q => by rw [upd_ne (hm b _ q fun z => z)]; exact q, fun b ps q => ⟨#[], by rw [upd_ne (hm b _ q fun z => z), q]; simp⟩⟩
  by_cases hbe : b = e
  · subst hbe; exact heo
  · exact ⟨u, k b u hbe q⟩
end
def trk (h : Heap) (H : Hp) : List Addr := (List.range h.objs.size).filter fun a => (H a).isSome
def hidT (h : Heap) (H : Hp) : Heap := PySem.W.hideAll h (trk h H)
theorem hidT_size (h : Heap) (H : Hp) : (hidT h H).objs.size = h.objs.size := PySem.W.hideAll_size _ _
theorem hidT_get {h : Heap} {H : Hp} {b : Addr} {o : Obj} (e : h.get? b = some o) (n : H b = none) : (hidT h H).get? b = some o :=
  PySem.W.hideAll_get _ e fun hm => by
    have q : (H b).isSome = true := (List.mem_filter.mp hm).2
    rw [n] at q; simp at q
theorem of_hidT {h : Heap} {H : Hp} {b : Addr} {o : Obj} (e : (hidT h H).get? b = some o) : h.get? b = some o ∧ H b = none := by
  have e' : h.get? b = some o := PySem.W.of_hideAll (trk h H) e
  refine ⟨e', ?_⟩
  cases q : H b with
  | none => rfl
  | some x =>
    have hm : b ∈ trk h H := List.mem_filter.mpr ⟨List.mem_range.mpr (Heap.lt_size e'), by simp [q]⟩
    have z : (hidT h H).get? b = none := PySem.W.hideAll_none (trk h H) hm
    rw [z] at e; cases e

end L2
namespace L2
open PySem PySem.Spec PyProof.Rows
/-- the module's facts, over the base: the heap at the law's entry without what is tracked there -/
structure Mod (K : PySem.W.Frag) (mg : Str → Option Value) (base : Heap) : Prop where
  kin : K.In base
  glob : base.Ns mainGlobals mg
  blt : ∃ mb, base.Ns builtinsNs mb ∧ ∀ x : Str, x ≠ "__name__" → mb x = bootBuiltins x
  nolimit : base.NoLimit

/-- the context: a def's body (or a comprehension's block) running. base: fixed through the whole law; s₀, H₀: the entry; outer: the frames whose slots others may change (a def's callers); stack: all frames that run;
   ex: iterators that were made ahead of the entry and are walked here (a comprehension's); fn: the names whose cells were made at the entry (a def: all; a comprehension's block: its own); calm: not within an except suite; pn: pins that every state bears; xe: what is wanted of an exception that leaves the code -/
structure Cx where
  prog : Program
  w : World
  K : PySem.W.Frag
  mg : Str → Option Value
  base : Heap
  A : Around
  N : List Str
  s₀ : Shared
  H₀ : Hp
  env : Env
  outer : List Env
  stack : List Env
  ex : List Addr
  fn : Str → Bool
  calm : Bool
  pn : List (Addr × Obj)
  xe : Value → Shared → Prop
/-- the callers' frames -/
def frs (l : List Env) : List Addr := l.filterMap (·.frame)
abbrev Cx.fs (X : Cx) : List Addr := frs X.outer

def Vis (sc : Scope) (x : Str) : Prop := sc.names.lookup x = some .local ∨ sc.names.lookup x = some .cell ∨ sc.names.lookup x = some .free
def Loc (sc : Scope) (x : Str) : Prop := sc.names.lookup x = some .local ∨ sc.names.lookup x = some .cell
def Look (env : Env) (h : Heap) (m : Str → Option Value) (x : Str) (u : Value) : Prop :=
  (env.kindOf x = some .local ∧ m x = some u) ∨ ((env.kindOf x = some .cell ∨ env.kindOf x = some .free) ∧ ∃ c, env.cells.lookup x = some c ∧ h.IsCell c (some u))

structure Cx.Ok (X : Cx) : Prop where
  mod : Mod X.K X.mg X.base
  kind : X.env.scope.kind = .function
  glob : X.env.globals = mainGlobals
  blt : X.env.builtins = builtinsNs
  above : X.s₀.heap.objs.size ≤ X.env.locals
  inj : ∀ x y c, X.env.cells.lookup x = some c → X.env.cells.lookup y = some c → x = y
  has : ∀ x, (X.env.kindOf x = some .cell ∨ X.env.kindOf x = some .free) → ∃ c, X.env.cells.lookup x = some c
  cab : ∀ x c, X.fn x = true → X.env.cells.lookup x = some c → X.s₀.heap.objs.size ≤ c
  hd : X.calm = true → X.A.handled = none
  frames : X.A.frames = some X.stack
  stk : X.stack = X.outer ∨ (X.stack = X.env :: X.outer ∧ X.env.frame = some X.env.locals)
  exf : ∀ b ∈ X.ex, b ≠ X.env.locals ∧ ∀ x c, X.env.cells.lookup x = some c → c ≠ b
  bs : ∀ b o, X.base.get? b = some o → X.s₀.heap.get? b = some o ∧ X.H₀ b = none
  bsz : X.base.objs.size ≤ X.s₀.heap.objs.size
  noex : ∀ b o, X.base.get? b = some o → b ∉ X.ex
  exfs : ∀ b ∈ X.ex, b ∉ X.fs
  funs : X.s₀.heap.FunFrames X.base X.outer
  frf : ∀ b ∈ X.fs, X.H₀ b = none

structure Inv (X : Cx) (pins : List (Addr × Obj)) (σ : List (Option V)) (H : Hp) (s : Shared) : Prop where
  ok : X.Ok
  os : s.os = X.s₀.os
  bare : AllBare s.gens
  base : Un X.fs X.ex X.H₀ H X.s₀.heap s.heap
  loc : ∃ m, s.heap.Ns X.env.locals m ∧ ∀ (i : Nat) (x : Str) (v : V), X.N[i]? = some x → σ[i]? = some (some v) → Vis X.env.scope x → ∃ u, RelV v u ∧ Look X.env s.heap m x u
  cell : ∀ x c, X.env.cells.lookup x = some c → ∃ v, s.heap.IsCell c v
  free : H X.env.locals = none
  freeC : ∀ x c, X.env.cells.lookup x = some c → H c = none
  pin : ∀ p ∈ X.pn ++ pins, s.heap.get? p.1 = some p.2 ∧ H p.1 = none ∧ p.1 ≠ X.env.locals ∧ p.1 ∉ X.fs ∧ ∀ v, p.2.data ≠ .cell v
  hok : HOk X.prog X.w H s.heap
  len : σ.length = X.N.length

section
variable {X : Cx} {pins : List (Addr × Obj)} {σ : List (Option V)} {H H' : Hp} {s : Shared} {h' : Heap}
theorem Cx.Ok.nofr (ok : X.Ok) {b : Addr} {o : Obj} (e : X.base.get? b = some o) : b ∉ X.fs := fun hb => by
  have := (ok.funs.mem hb).1
  rw [e] at this; cases this
theorem Inv.bs (I : Inv X pins σ H s) : ∀ b o, X.base.get? b = some o → s.heap.get? b = some o ∧ H b = none := fun b o e =>
  ⟨I.base.keep b o (I.ok.bs b o e).1 (I.ok.bs b o e).2 (I.ok.nofr e) (I.ok.noex b o e), I.base.free b o (I.ok.bs b o e).1 (I.ok.bs b o e).2 (I.ok.noex b o e)⟩
theorem Inv.bk (I : Inv X pins σ H s) : ∀ b o, X.base.get? b = some o → s.heap.get? b = some o := fun b o e => (I.bs b o e).1
theorem Inv.mod (I : Inv X pins σ H s) : Mod X.K X.mg X.base := I.ok.mod
theorem Inv.kIn (I : Inv X pins σ H s) : X.K.In s.heap := I.ok.mod.kin.keeps I.bk
theorem Inv.lt (I : Inv X pins σ H s) : X.env.locals < s.heap.objs.size := let ⟨_, hn, _⟩ := I.loc; hn.lt
theorem Inv.sz (I : Inv X pins σ H s) : X.s₀.heap.objs.size ≤ s.heap.objs.size := Nat.le_trans I.ok.above (Nat.le_of_lt I.lt)
theorem Inv.nofs (I : Inv X pins σ H s) {a : Addr} (h : s.heap.objs.size ≤ a) : a ∉ X.fs := fun hb => by
  obtain ⟨_, o, ho, _⟩ := I.ok.funs.mem hb
  exact absurd (Nat.lt_of_lt_of_le (Heap.lt_size ho) (Nat.le_trans I.sz h)) (Nat.lt_irrefl _)
theorem Inv.cne (I : Inv X pins σ H s) : ∀ x c, X.env.cells.lookup x = some c → c ≠ X.env.locals := fun x c e z => by
  obtain ⟨v, o, ho, hd⟩ := I.cell x c e
  obtain ⟨m, ⟨o', es, ep, ho', hd', _⟩, _⟩ := I.loc
  rw [z, ho'] at ho; cases ho; rw [hd'] at hd; cases hd
theorem Inv.funs (I : Inv X pins σ H s) : s.heap.FunFrames X.base X.outer := by
  have all : ∀ (l : List Env), (∀ b ∈ frs l, b ∈ X.fs) → X.s₀.heap.FunFrames X.base l → s.heap.FunFrames X.base l := by
    intro l
    induction l with
    | nil => intro _ _; trivial
    | cons env r ih =>
      intro hs hl
      obtain ⟨hk, ⟨L, o, hf, hn, ho, hd⟩, hr⟩ := hl
      have hL : L ∈ X.fs := hs L (by unfold frs; rw [List.filterMap_cons, hf]; exact List.mem_cons_self)
      obtain ⟨sl, e⟩ := I.base.slot L o ho (I.ok.frf L hL) hL fun z => I.ok.exfs L z hL
      exact ⟨hk, ⟨L, _, hf, hn, e, hd⟩, ih (fun b hb => hs b (by unfold frs; rw [List.filterMap_cons, hf]; exact List.mem_cons_of_mem _ hb)) hr⟩
  exact all X.outer (fun _ hb => hb) I.ok.funs

/-- the frames that run, for a call -/
theorem Inv.stack (I : Inv X pins σ H s) : s.heap.FunFrames X.base X.stack := by
  rcases I.ok.stk with e | ⟨e, hf⟩
  · rw [e]; exact I.funs
  · rw [e]
    obtain ⟨m, hn, _⟩ := I.loc
    refine .cons (by rw [I.ok.kind]; decide) hf hn ?_ I.funs
    exact Heap.get?_none_of_le (Nat.le_trans I.ok.bsz I.ok.above)
theorem Inv.stkSub (I : Inv X pins σ H s) : ∀ b ∈ frs X.stack, b ∈ X.env.locals :: X.fs := fun b hb => by
  rcases I.ok.stk with e | ⟨e, hf⟩
  · rw [e] at hb; exact List.mem_cons_of_mem _ hb
  · rw [e] at hb
    unfold frs at hb
    rw [List.filterMap_cons, hf] at hb
    exact hb
theorem Inv.stkFree (I : Inv X pins σ H s) : ∀ b ∈ frs X.stack, H b = none := fun b hb => by
  rcases List.mem_cons.mp (I.stkSub b hb) with e | hb
  · rw [e]; exact I.free
  · obtain ⟨_, o, ho, _⟩ := I.ok.funs.mem hb
    exact I.base.free b o ho (I.ok.frf b hb) fun z => I.ok.exfs b z hb

/-- THE STEP: the untracked objects but the frame and the records at ch are kept (the callers' frames up to slots), the frame's map is kept, the new abstract heap is held -/
theorem Inv.step {g' : Array GenState} {t' : Nat} {d' : Drawn} {ch : List Addr} (I : Inv X pins σ H s)
    (hch : ∀ b ∈ ch, (b ∈ X.ex ∨ X.s₀.heap.objs.size ≤ b) ∧ b ≠ X.env.locals ∧ (∀ x c, X.env.cells.lookup x = some c → c ≠ b) ∧ ∀ p ∈ X.pn ++ pins, p.1 ≠ b)
    (keep : ∀ b o, b ≠ X.env.locals → b ∉ X.fs → b ∉ ch → s.heap.get? b = some o → H b = none → h'.get? b = some o)
    (slot : ∀ b o, b ≠ X.env.locals → b ∈ X.fs → b ∉ ch → s.heap.get? b = some o → H b = none → ∃ sl, h'.get? b = some { o with slots := sl }) (free : ∀ b o, b ∉ ch → s.heap.get? b = some o → H b = none → H' b = none)
    (there : ∀ b o, b ∉ ch → s.heap.get? b = some o → ∃ o', h'.get? b = some o')
    (tups : ∀ b xs, H b = some (.tup xs) → H' b = some (.tup xs)) (frzs : ∀ b o u, H b = some (.frz o u) → H' b = some (.frz o u)) (tbls : ∀ b ps, H b = some (.tbl ps) → ∃ more, H' b = some (.tbl (ps ++ more)))
    (ns : ∀ m, s.heap.Ns X.env.locals m → h'.Ns X.env.locals m) (hok : HOk X.prog X.w H' h') (hg : AllBare g') :
    Inv X pins σ H' { s with heap := h', gens := g', drawn := d', toks := t' } := by
  have neL : ∀ b o, X.s₀.heap.get? b = some o → b ≠ X.env.locals := fun b o e => Nat.ne_of_lt (Nat.lt_of_lt_of_le (Heap.lt_size e) I.ok.above)
  have neC : ∀ b o, X.s₀.heap.get? b = some o → b ∉ X.ex → b ∉ ch := fun b o e hx hb => by
    rcases (hch b hb).1 with z | z
    · exact hx z
    · exact absurd (Nat.lt_of_lt_of_le (Heap.lt_size e) z) (Nat.lt_irrefl _)
  have cellK : ∀ x c, X.env.cells.lookup x = some c → ∀ v, s.heap.IsCell c v → h'.IsCell c v := fun x c e v ⟨o, ho, hd⟩ => by
    have nch : c ∉ ch := fun z => (hch c z).2.2.1 x c e rfl
    by_cases hc : c ∈ X.fs
    · obtain ⟨sl, q⟩ := slot c o (I.cne x c e) hc nch ho (I.freeC x c e)
      exact ⟨_, q, hd⟩
    · exact ⟨o, keep c o (I.cne x c e) hc nch ho (I.freeC x c e), hd⟩
  refine ⟨I.ok, I.os, hg, ⟨fun b o e n hb hx => ?_, fun b o e n hb hx => ?_, fun b o e n hx => ?_, fun b o e hx => ?_, fun b xs e => tups b xs (I.base.tups b xs e), fun b o xs e => frzs b o xs (I.base.frzs b o xs e), fun b ps e => ?_⟩, ?_, fun x c e => ?_, ?_, fun x c e => ?_, fun p hp => ?_, hok, I.len⟩
  · exact keep b o (neL b o e) hb (neC b o e hx) (I.base.keep b o e n hb hx) (I.base.free b o e n hx)
  · obtain ⟨sl, e1⟩ := I.base.slot b o e n hb hx
    obtain ⟨sl', e2⟩ := slot b _ (neL b o e) hb (neC b o e hx) e1 (I.base.free b o e n hx)
    exact ⟨sl', e2⟩
  · obtain ⟨o', e1⟩ := I.base.there b o e hx
    exact free b o' (neC b o e hx) e1 (I.base.free b o e n hx)
  · obtain ⟨o', e1⟩ := I.base.there b o e hx
    exact there b o' (neC b o e hx) e1
  · obtain ⟨m1, e1⟩ := I.base.tbls b ps e
    obtain ⟨m2, e2⟩ := tbls b _ e1
    exact ⟨m1 ++ m2, by rw [e2, Array.append_assoc]⟩
  · obtain ⟨m, hn, hl⟩ := I.loc
    refine ⟨m, ns m hn, fun i x v e1 e2 e3 => ?_⟩
    obtain ⟨u, r, l⟩ := hl i x v e1 e2 e3
    refine ⟨u, r, ?_⟩
    rcases l with l | ⟨k, c, e, z⟩
    · exact .inl l
    · exact .inr ⟨k, c, e, cellK x c e _ z⟩
  · obtain ⟨v, z⟩ := I.cell x c e
    exact ⟨v, cellK x c e v z⟩
  · obtain ⟨m, ⟨o, _, _, ho, _⟩, _⟩ := I.loc
    exact free _ o (fun z => (hch _ z).2.1 rfl) ho I.free
  · obtain ⟨v, o, ho, hd⟩ := I.cell x c e
    exact free c o (fun z => (hch c z).2.2.1 x c e rfl) ho (I.freeC x c e)
  · obtain ⟨e, n, ne, nf, d⟩ := I.pin p hp
    have nch : p.1 ∉ ch := fun z => (hch p.1 z).2.2.2 p hp rfl
    exact ⟨keep p.1 p.2 ne nf nch e n, free p.1 p.2 nch e n, ne, nf, d⟩
/-- .. where the frame's own object is kept too -/
theorem Inv.un {t' : Nat} (I : Inv X pins σ H s) (u : Un X.fs [] H H' s.heap h') (hok : HOk X.prog X.w H' h') : Inv X pins σ H' { s with heap := h', toks := t' } := by
  obtain ⟨m, ⟨o, es, ep, ho, r⟩, _⟩ := id I.loc
  obtain ⟨sl, hL⟩ := u.any ho I.free (by simp)
  exact I.step (g' := s.gens) (d' := s.drawn) (ch := []) (fun _ z => nomatch z) (fun b o _ hb _ e n => u.keep b o e n hb (by simp)) (fun b o _ hb _ e n => u.slot b o e n hb (by simp)) (fun b o _ e n => u.free b o e n (by simp)) (fun b o _ e => u.there b o e (by simp)) u.tups u.frzs u.tbls (fun m' hm => by
    obtain ⟨o', es', ep', ho', r'⟩ := hm
    rw [ho] at ho'; cases ho'
    exact ⟨_, es', ep', hL, r'⟩) hok I.bare
/-- behind a call (or a comprehension's block): the slots of this frame may have changed too, the records at ch may have turned -/
theorem Inv.call {g' : Array GenState} {t' : Nat} {d' : Drawn} {ch : List Addr} (I : Inv X pins σ H s) (u : Un (frs X.stack) ch H H' s.heap h') (hok : HOk X.prog X.w H' h') (hg : AllBare g')
    (hch : ∀ b ∈ ch, (b ∈ X.ex ∨ X.s₀.heap.objs.size ≤ b) ∧ b ≠ X.env.locals ∧ (∀ x c, X.env.cells.lookup x = some c → c ≠ b) ∧ ∀ p ∈ X.pn ++ pins, p.1 ≠ b) :
    Inv X pins σ H' { s with heap := h', gens := g', drawn := d', toks := t' } := by
  obtain ⟨m, ⟨o, es, ep, ho, r⟩, _⟩ := id I.loc
  obtain ⟨sl, hL⟩ := u.any ho I.free fun z => (hch _ z).2.1 rfl
  exact I.step (ch := ch) hch (fun b o hL hb hc e n => u.keep b o e n (fun z => (List.mem_cons.mp (I.stkSub b z)).elim hL hb) hc) (fun b o _ _ hc e n => u.any e n hc) (fun b o hc e n => u.free b o e n hc) (fun b o hc e => u.there b o e hc) u.tups u.frzs u.tbls (fun m' hm => by
    obtain ⟨o', es', ep', ho', r'⟩ := hm
    rw [ho] at ho'; cases ho'
    exact ⟨_, es', ep', hL, r'⟩) hok hg
/-- an untracked record of ours (an iterator) has turned -/
theorem Inv.turned {t' : Nat} {it : Addr} (I : Inv X pins σ H s) (k : ∀ b o, b ≠ it → s.heap.get? b = some o → h'.get? b = some o) (hn : H it = none) (hL : it ≠ X.env.locals)
    (h1 : it ∈ X.ex ∨ X.s₀.heap.objs.size ≤ it) (h2 : ∀ x c, X.env.cells.lookup x = some c → c ≠ it) (h3 : ∀ p ∈ X.pn ++ pins, p.1 ≠ it) : Inv X pins σ H { s with heap := h', toks := t' } := by
  have nit : ∀ b u, H b = some u → b ≠ it := fun b u e z => by rw [z, hn] at e; cases e
  refine I.step (g' := s.gens) (d' := s.drawn) (ch := [it]) (fun b hb => ?_) (fun b o _ _ hc e _ => k b o (fun z => hc (by simp [z])) e) (fun b o _ _ hc e _ => ⟨o.slots, k b o (fun z => hc (by simp [z])) e⟩) (fun _ _ _ _ n => n)
    (fun b o hc e => ⟨o, k b o (fun z => hc (by simp [z])) e⟩) (fun _ _ e => e) (fun _ _ _ e => e) (fun b ps e => ⟨#[], by rw [e]; simp⟩) (fun m hm => ?_) (fun b u e => ?_) I.bare
  · have e : b = it := by simpa using hb
    subst e
    exact ⟨h1, hL, h2, h3⟩
  · obtain ⟨o, es, ep, ho, r⟩ := hm
    exact ⟨o, es, ep, k _ o (Ne.symm hL) ho, r⟩
  · refine (I.hok b u e).stay (fun c v hc q => k c v ?_ q) (fun _ q => q) fun _ _ q => q
    rcases hc with z | z
    · rw [z]; exact nit b u e
    · exact nit c _ z
theorem Inv.tok (I : Inv X pins σ H s) (t : Nat) : Inv X pins σ H { s with toks := t } := I.un (h' := s.heap) (t' := t) Un.refl I.hok
/-- all objects kept -/
theorem Inv.kept {t' : Nat} (I : Inv X pins σ H s) (k : ∀ b u, s.heap.get? b = some u → h'.get? b = some u) : Inv X pins σ H { s with heap := h', toks := t' } := I.un (Un.kept k) (I.hok.kept k)
/-- a new object laid and tracked -/
theorem Inv.laid {a : Addr} {o : HO} {t' : Nat} (I : Inv X pins σ H s) (k : ∀ b u, s.heap.get? b = some u → h'.get? b = some u) (hp : s.heap.objs.size ≤ a) (new : ObjOk X.prog X.w (upd H a o) h' a o) :
    Inv X pins σ (upd H a o) { s with heap := h', toks := t' } := I.un (Un.laid k hp (I.hok.fresh hp)) (I.hok.laid k hp new)
/-- an object written -/
theorem Inv.write {x e : Addr} {o : HO} {t' : Nat} (I : Inv X pins σ H s) (mu : Mut (H x)) (he : e = x ∨ H e = some (.own x)) (k : ∀ b u, b ≠ e → s.heap.get? b = some u → h'.get? b = some u) (heo : ∃ u, h'.get? e = some u)
    (new : ObjOk X.prog X.w (upd H x o) h' x o) : Inv X pins σ (upd H x o) { s with heap := h', toks := t' } := I.un (Un.write mu he k heo) (I.hok.write mu he k heo new)
theorem Inv.pins_of {pins' : List (Addr × Obj)} (I : Inv X pins σ H s) (h : ∀ p ∈ pins', s.heap.get? p.1 = some p.2 ∧ H p.1 = none ∧ p.1 ≠ X.env.locals ∧ p.1 ∉ X.fs ∧ ∀ v, p.2.data ≠ .cell v) : Inv X pins' σ H s :=
  ⟨I.ok, I.os, I.bare, I.base, I.loc, I.cell, I.free, I.freeC, fun p hp => (List.mem_append.mp hp).elim (fun z => I.pin p (List.mem_append_left _ z)) (h p), I.hok, I.len⟩

theorem nodup_ix {N : List Str} (hN : N.Nodup) {i j : Nat} {x : Str} (a : N[i]? = some x) (b : N[j]? = some x) : i = j := by
  obtain ⟨h1, e1⟩ := List.getElem?_eq_some_iff.mp a
  obtain ⟨h2, e2⟩ := List.getElem?_eq_some_iff.mp b
  exact (List.getElem_inj hN).mp (e1.trans e2.symm)

/-- a name is stored; what changed -/
theorem store_ok2 {M : Model} {A : Around} {E : Value → Shared → Prop} {i : Nat} {x : Str} {v : V} {u : Value} {Q : Unit → Shared → Prop} (I : Inv X pins σ H s) (hN : X.N.Nodup) (hi : X.N[i]? = some x) (hx : Loc X.env.scope x) (r : RelV v u)
    (h : ∀ s', Inv X pins (σ.set i (some v)) H s' → (∃ a, Heap.SameBut a s.heap s'.heap ∧ (a = X.env.locals ∨ X.env.cells.lookup x = some a)) → Q () s') (hf : X.fn x = true ∨ X.env.scope.names.lookup x = some .local := by first | exact .inl rfl | exact .inr rfl | assumption) : wpAny M A (storeName X.env x u) Q E s := by
  obtain ⟨m, hn, hl⟩ := id I.loc
  have hcls : (X.env.scope.kind == .class || (X.env.scope.kind == .module && X.env.locals != X.env.globals)) = false := by rw [I.ok.kind]; rfl
  have hiσ : i < σ.length := by rw [I.len]; exact (List.getElem?_eq_some_iff.mp hi).1
  have cne := I.cne
  have tracked : ∀ {a : Addr} {h' : Heap}, (∃ o, s.heap.get? a = some o ∧ H a = none) → Heap.SameBut a s.heap h' → HOk X.prog X.w H h' := fun {a h'} ha hs b ob e => by
    obtain ⟨_, _, hfree⟩ := ha
    refine (I.hok b ob e).stay (fun c w' hc q => (hs.2 c ?_).trans q) (fun _ q => q) fun _ _ q => q
    rintro rfl
    rcases hc with rfl | hc
    · rw [hfree] at e; cases e
    · rw [hfree] at hc; cases hc
  rcases hx with hk | hk
  · refine wpAny_storeName_local hk hn (fun h' hn' hs => ?_) hcls
    obtain ⟨oL, _, _, hoL, _⟩ := id hn
    refine h _ ⟨I.ok, I.os, I.bare, ⟨fun b o e n hb hx => ?_, fun b o e n hb hx => ?_, I.base.free, fun b o e hx => ?_, I.base.tups, I.base.frzs, I.base.tbls⟩, ⟨_, hn', fun j y v' e1 e2 e3 => ?_⟩, fun y c e => ?_, I.free, I.freeC, fun p hp => ?_, tracked ⟨oL, hoL, I.free⟩ hs, by simpa using I.len⟩ ⟨_, hs, .inl rfl⟩
    · exact (hs.2 b (Nat.ne_of_lt (Nat.lt_of_lt_of_le (Heap.lt_size e) I.ok.above))).trans (I.base.keep b o e n hb hx)
    · obtain ⟨sl, e1⟩ := I.base.slot b o e n hb hx
      exact ⟨sl, (hs.2 b (Nat.ne_of_lt (Nat.lt_of_lt_of_le (Heap.lt_size e) I.ok.above))).trans e1⟩
    · obtain ⟨o', e1⟩ := I.base.there b o e hx
      exact ⟨o', (hs.2 b (Nat.ne_of_lt (Nat.lt_of_lt_of_le (Heap.lt_size e) I.ok.above))).trans e1⟩
    · by_cases hj : j = i
      · subst hj
        rw [hi] at e1; cases e1
        rw [List.getElem?_set_self hiσ] at e2
        cases e2
        exact ⟨u, r, .inl ⟨hk, by simp⟩⟩
      · rw [List.getElem?_set_ne (Ne.symm hj)] at e2
        obtain ⟨u', r', q⟩ := hl j y v' e1 e2 e3
        refine ⟨u', r', ?_⟩
        rcases q with ⟨k, e⟩ | ⟨k, c, e, z⟩
        · refine .inl ⟨k, ?_⟩
          have : y ≠ x := fun e => hj (nodup_ix hN e1 (e ▸ hi))
          simp [this, e]
        · exact .inr ⟨k, c, e, z.sameBut hs (cne y c e)⟩
    · obtain ⟨w', z⟩ := I.cell y c e
      exact ⟨w', z.sameBut hs (cne y c e)⟩
    · obtain ⟨e, n, ne, nf, d⟩ := I.pin p hp
      exact ⟨(hs.2 p.1 ne).trans e, n, ne, nf, d⟩
  · have hfn : X.fn x = true := by
      rcases hf with z | z
      · exact z
      · rw [z] at hk; cases hk
    obtain ⟨c, hc⟩ := I.ok.has x (.inl hk)
    obtain ⟨w', z⟩ := I.cell x c hc
    refine wpAny_storeName_cell I.ok.kind hk hc z (fun h' hc' hs => ?_)
    obtain ⟨oc, hoc, hocd⟩ := id z
    refine h { s with heap := h' } ⟨I.ok, I.os, I.bare, ⟨fun b o e n hb hx => ?_, fun b o e n hb hx => ?_, I.base.free, fun b o e hx => ?_, I.base.tups, I.base.frzs, I.base.tbls⟩, ⟨m, hn.sameBut hs (Ne.symm (cne x c hc)), fun j y v' e1 e2 e3 => ?_⟩, fun y c' e => ?_, I.free, I.freeC, fun p hp => ?_, tracked ⟨oc, hoc, I.freeC x c hc⟩ hs, by simpa using I.len⟩ ⟨c, hs, .inr hc⟩
    · exact (hs.2 b (Nat.ne_of_lt (Nat.lt_of_lt_of_le (Heap.lt_size e) (I.ok.cab x c hfn hc)))).trans (I.base.keep b o e n hb hx)
    · obtain ⟨sl, e1⟩ := I.base.slot b o e n hb hx
      exact ⟨sl, (hs.2 b (Nat.ne_of_lt (Nat.lt_of_lt_of_le (Heap.lt_size e) (I.ok.cab x c hfn hc)))).trans e1⟩
    · obtain ⟨o', e1⟩ := I.base.there b o e hx
      exact ⟨o', (hs.2 b (Nat.ne_of_lt (Nat.lt_of_lt_of_le (Heap.lt_size e) (I.ok.cab x c hfn hc)))).trans e1⟩
    · by_cases hj : j = i
      · subst hj
        rw [hi] at e1; cases e1
        rw [List.getElem?_set_self hiσ] at e2
        cases e2
        exact ⟨u, r, .inr ⟨.inl hk, c, hc, hc'⟩⟩
      · rw [List.getElem?_set_ne (Ne.symm hj)] at e2
        obtain ⟨u', r', q⟩ := hl j y v' e1 e2 e3
        refine ⟨u', r', ?_⟩
        rcases q with q | ⟨k, c', e, z'⟩
        · exact .inl q
        · refine .inr ⟨k, c', e, z'.sameBut hs ?_⟩
          rintro rfl
          exact hj (nodup_ix hN e1 (I.ok.inj _ _ _ e hc ▸ hi))
    · by_cases hcc : c' = c
      · subst hcc; exact ⟨_, hc'⟩
      · obtain ⟨w2, z2⟩ := I.cell y c' e
        exact ⟨w2, z2.sameBut hs hcc⟩
    · obtain ⟨e, n, ne, nf, d⟩ := I.pin p hp
      refine ⟨(hs.2 p.1 ?_).trans e, n, ne, nf, d⟩
      intro q
      rw [q, hoc] at e
      have q' : oc = p.2 := Option.some.inj e
      exact d w' (by rw [← q']; exact hocd)
theorem store_ok {M : Model} {A : Around} {E : Value → Shared → Prop} {i : Nat} {x : Str} {v : V} {u : Value} {Q : Unit → Shared → Prop} (I : Inv X pins σ H s) (hN : X.N.Nodup) (hi : X.N[i]? = some x) (hx : Loc X.env.scope x) (r : RelV v u)
    (h : ∀ s', Inv X pins (σ.set i (some v)) H s' → Q () s') (hf : X.fn x = true ∨ X.env.scope.names.lookup x = some .local := by first | exact .inl rfl | exact .inr rfl | assumption) : wpAny M A (storeName X.env x u) Q E s :=
  store_ok2 I hN hi hx r (fun s' I' _ => h s' I') hf
/-- behind a call or a block, the state as it is -/
theorem Inv.call' {s' : Shared} {ch : List Addr} (I : Inv X pins σ H s) (ho : s'.os = s.os) (u : Un (frs X.stack) ch H H' s.heap s'.heap) (hok : HOk X.prog X.w H' s'.heap) (hg : AllBare s'.gens)
    (hch : ∀ b ∈ ch, (b ∈ X.ex ∨ X.s₀.heap.objs.size ≤ b) ∧ b ≠ X.env.locals ∧ (∀ x c, X.env.cells.lookup x = some c → c ≠ b) ∧ ∀ p ∈ X.pn ++ pins, p.1 ≠ b) : Inv X pins σ H' s' := by
  obtain ⟨h', g', d', t', o'⟩ := s'
  have e : o' = s.os := ho
  subst e
  exact I.call (g' := g') (t' := t') (d' := d') u hok hg hch
end
/-- an exception: its class, its own dict's address (where it has one), the abstract heap behind it -/
abbrev XK := Value → Option Addr → Hp → Prop
abbrev St := List (Option V)
abbrev VK := V → Hp → Prop
/-- an expression's reading; a test's; an argument list's -/
abbrev TE := St → Hp → VK → Prop
abbrev TT := St → Hp → (Bool → Hp → Prop) → Prop
abbrev TA := St → Hp → (List V → Hp → Prop) → Prop
/-- what is wanted behind a statement -/
structure Ends where
  nx : St → Hp → Prop
  rt : VK
  bk : St → Hp → Prop := fun _ _ => False
  ct : St → Hp → Prop := fun _ _ => False
abbrev TS := Ends → St → Hp → Prop

def EP (X : Cx) (pins : List (Addr × Obj)) (σ : St) (Q : VK) (u : Value) (s' : Shared) : Prop := ∃ v H', Inv X pins σ H' s' ∧ RelV v u ∧ Q v H'
def TP (X : Cx) (pins : List (Addr × Obj)) (σ : St) (Q : Bool → Hp → Prop) (b : Bool) (s' : Shared) : Prop := ∃ H', Inv X pins σ H' s' ∧ Q b H'
def AP (X : Cx) (pins : List (Addr × Obj)) (σ : St) (Q : List V → Hp → Prop) (us : List Value) (s' : Shared) : Prop := ∃ vs H', Inv X pins σ H' s' ∧ Vals vs us ∧ Q vs H'
def SP (X : Cx) (pins : List (Addr × Obj)) (D : Ends) (f : Flow) (s' : Shared) : Prop :=
  match f with
  | .next => ∃ σ' H', Inv X pins σ' H' s' ∧ D.nx σ' H'
  | .brk => ∃ σ' H', Inv X pins σ' H' s' ∧ D.bk σ' H'
  | .cont => ∃ σ' H', Inv X pins σ' H' s' ∧ D.ct σ' H'
  | .ret u => ∃ v σ' H', Inv X pins σ' H' s' ∧ RelV v u ∧ D.rt v H'

def PE (X : Cx) (e : Expr) (t : TE) : Prop :=
  ∀ (pins : List (Addr × Obj)) (s : Shared) (σ : St) (H : Hp) (Q : VK), Inv X pins σ H s → t σ H Q → wpAny (model X.prog X.w) X.A (eval e X.env) (EP X pins σ Q) X.xe s
def PT (X : Cx) (e : Expr) (t : TT) : Prop :=
  ∀ (pins : List (Addr × Obj)) (s : Shared) (σ : St) (H : Hp) (Q : Bool → Hp → Prop), Inv X pins σ H s → t σ H Q → wpAny (model X.prog X.w) X.A (isTrue e X.env (eval e X.env)) (TP X pins σ Q) X.xe s
/-- a test whatever its 'whole' is (and, or) -/
def PW (X : Cx) (e : Expr) (t : TT) : Prop :=
  ∀ (whole : Sem Value) (pins : List (Addr × Obj)) (s : Shared) (σ : St) (H : Hp) (Q : Bool → Hp → Prop), Inv X pins σ H s → t σ H Q → wpAny (model X.prog X.w) X.A (isTrue e X.env whole) (TP X pins σ Q) X.xe s
theorem PW.pt {X : Cx} {e : Expr} {t : TT} (h : PW X e t) : PT X e t := h _
/-- an argument list (no star), from the left -/
def PA (X : Cx) (es : List Expr) (t : TA) : Prop :=
  ∀ (pos : Pos) (pins : List (Addr × Obj)) (s : Shared) (σ : St) (H : Hp) (Q : List V → Hp → Prop), Inv X pins σ H s → t σ H Q → wpAny (model X.prog X.w) X.A (spliced (backTo pos (starEach es X.env))) (AP X pins σ Q) X.xe s
def PS (X : Cx) (st : Stmt) (t : TS) : Prop :=
  ∀ (pins : List (Addr × Obj)) (s : Shared) (σ : St) (H : Hp) (D : Ends), Inv X pins σ H s → t D σ H → wpAny (model X.prog X.w) X.A (exec st X.env) (SP X pins D) X.xe s
def PSs (X : Cx) (st : List Stmt) (t : TS) : Prop :=
  ∀ (pins : List (Addr × Obj)) (s : Shared) (σ : St) (H : Hp) (D : Ends), Inv X pins σ H s → t D σ H → wpAny (model X.prog X.w) X.A (execs st X.env) (SP X pins D) X.xe s
/-- weaken the end -/
theorem thn {α : Type} {t : Sem α} {Q Q' : α → Shared → Prop} {M : Model} {A : Around} {E : Value → Shared → Prop} {s : Shared} (h : wpAny M A t Q E s) (hQ : ∀ a s, Q a s → Q' a s) : wpAny M A t Q' E s := wpAny_mono h hQ fun _ _ x => x
end L2
namespace L2
open PySem PySem.Spec PyProof.Rows
section
variable {X : Cx}
def tVar (i : Nat) : TE := fun σ H Q => ∃ v, σ[i]? = some (some v) ∧ Q v H
def tC (v : V) : TE := fun _ H Q => Q v H
theorem pe_var {i : Nat} {x : Str} {pos : Pos} (hN : X.N[i]? = some x) (hv : Vis X.env.scope x) (hd : (x == ("__debug__" : Str)) = false := by decide) (hcd : (x == ("__classdict__" : Str)) = false := by decide) : PE X (.Name x pos) (tVar i) := by
  intro pins s σ H Q I h
  obtain ⟨v, e, h⟩ := h
  obtain ⟨m, hn, hl⟩ := I.loc
  obtain ⟨u, r, l⟩ := hl i x v hN e hv
  have fin : EP X pins σ Q u s := ⟨v, H, I, r, h⟩
  rcases l with ⟨hk, hm⟩ | ⟨hk, c, hc, hcell⟩
  · exact wpAny_Name (wpAny_loadName_local I.ok.kind hk hn hm fin) hd
  · rcases hk with hk | hk
    · exact wpAny_Name (wpAny_loadName_cell I.ok.kind hk hc hcell fin) hd
    · exact wpAny_Name (wpAny_loadName_free I.ok.kind hk hc hcell fin hcd) hd
theorem pe_int {i j pos} : PE X (.Constant (.int i) j pos) (tC (.int i)) := fun _ _ _ H _ I h => wpAny_Constant_int ⟨.int i, H, I.tok _, ⟨_, rfl⟩, h⟩
theorem pe_bl {b j pos} : PE X (.Constant (.bool b) j pos) (tC (.bl b)) := fun _ _ _ H _ I h => Constant_bool ⟨.bl b, H, I, rfl, h⟩
theorem pe_str {x j pos} : PE X (.Constant (.str x) j pos) (tC (.str x)) := fun _ _ _ H _ I h => Calls.Constant_str ⟨.str x, H, I.tok _, ⟨_, rfl⟩, h⟩

/-- a global name of the def -/
def Gl (X : Cx) (x : Str) : Prop := X.env.kindOf x = some .globalImplicit
theorem ld_glob {E : Value → Shared → Prop} {pins : List (Addr × Obj)} {s : Shared} {σ : St} {H : Hp} {x : Str} {u : Value} {pos : Pos} {Q : Value → Shared → Prop} (I : Inv X pins σ H s) (hg : Gl X x) (hm : X.mg x = some u) (h : Q u s)
    (hd : (x == ("__debug__" : Str)) = false := by decide) : wpAny (model X.prog X.w) X.A (eval (.Name x pos) X.env) Q E s :=
  Calls.Name_function_global I.ok.kind hg (Calls.loadGlobal_global (by rw [I.ok.glob]; exact I.mod.glob.keeps I.bk) hm h) hd
theorem ld_blt {E : Value → Shared → Prop} {pins : List (Addr × Obj)} {s : Shared} {σ : St} {H : Hp} {x : Str} {u : Value} {pos : Pos} {Q : Value → Shared → Prop} (I : Inv X pins σ H s) (hg : Gl X x) (hm : X.mg x = none) (hv : bootBuiltins x = some u) (h : Q u s)
    (hn : x ≠ "__name__" := by decide) (hd : (x == ("__debug__" : Str)) = false := by decide) : wpAny (model X.prog X.w) X.A (eval (.Name x pos) X.env) Q E s := by
  obtain ⟨mb, h1, h2⟩ := I.mod.blt
  exact Calls.Name_function_global I.ok.kind hg (Calls.loadGlobal_builtin (by rw [I.ok.glob]; exact I.mod.glob.keeps I.bk) hm (by rw [I.ok.blt]; exact h1.keeps I.bk) ((h2 x hn).trans hv) h) hd
variable {a b : Expr} {ta tb : TE} {pos : Pos}
variable {tA tB' : TT} {rest : List Expr}
def tAnd (t u : TT) : TT := fun σ H Q => t σ H fun c H1 => if c = true then u σ H1 Q else Q false H1
def tOr (t u : TT) : TT := fun σ H Q => t σ H fun c H1 => if c = true then Q true H1 else u σ H1 Q
theorem pw_and1 (ha : PT X a tA) : PW X (.BoolOp .And [a] pos) tA := by
  intro wh pins s σ H Q I h
  refine isTrue_and (thn (ha pins s σ H Q I h) fun c s1 e => ?_)
  cases c with
  | true => exact isTrue_and_nil e
  | false => exact e
theorem pw_or1 (ha : PT X a tA) : PW X (.BoolOp .Or [a] pos) tA := by
  intro wh pins s σ H Q I h
  refine isTrue_or (thn (ha pins s σ H Q I h) fun c s1 e => ?_)
  cases c with
  | false => exact isTrue_or_nil e
  | true => exact e
theorem pw_and (ha : PT X a tA) (hb : PW X (.BoolOp .And (b :: rest) pos) tB') : PW X (.BoolOp .And (a :: b :: rest) pos) (tAnd tA tB') := by
  intro wh pins s σ H Q I h
  refine isTrue_and (thn (ha pins s σ H _ I h) fun c s1 ⟨H1, I1, q1⟩ => ?_)
  cases c with
  | true => exact hb wh pins s1 σ H1 Q I1 q1
  | false => exact ⟨H1, I1, q1⟩
theorem pw_or (ha : PT X a tA) (hb : PW X (.BoolOp .Or (b :: rest) pos) tB') : PW X (.BoolOp .Or (a :: b :: rest) pos) (tOr tA tB') := by
  intro wh pins s σ H Q I h
  refine isTrue_or (thn (ha pins s σ H _ I h) fun c s1 ⟨H1, I1, q1⟩ => ?_)
  cases c with
  | true => exact ⟨H1, I1, q1⟩
  | false => exact hb wh pins s1 σ H1 Q I1 q1
/-- .. as values (bools) -/
def tAndV (ta tb : TE) : TE := fun σ H Q => ta σ H fun x H1 => ∃ c, x = .bl c ∧ if c = true then tb σ H1 Q else Q (.bl false) H1
theorem pe_one {op} {t : TE} (h : PE X a t) : PE X (.BoolOp op [a] pos) t := fun pins s σ H Q I hw => BoolOp_one (h pins s σ H Q I hw)
theorem pe_and (ha : PE X a ta) (hb : PE X (.BoolOp .And (b :: rest) pos) tb) : PE X (.BoolOp .And (a :: b :: rest) pos) (tAndV ta tb) := by
  intro pins s σ H Q I h
  refine BoolOp_and (thn (ha pins s σ H _ I h) fun v s1 ⟨x, H1, I1, r1, q1⟩ => ?_)
  obtain ⟨c, rfl, q1⟩ := q1
  cases r1
  refine wpAny_truthy_bool ?_
  cases c with
  | true => exact hb pins s1 σ H1 Q I1 q1
  | false => exact ⟨.bl false, H1, I1, rfl, q1⟩
end
end L2
namespace L2
open PySem PySem.Spec PyProof.Rows
def SqL (K : PySem.W.Frag) (H : Hp) (a : Addr) (xs : List V) : Prop :=
  Rd H a (.lst xs) ∨
    ∃ (o : Obj) (its : Array Value) (n : Nat), K.lookup a = some o ∧ o.cls = .type "list" ∧ o.dict = none ∧ o.data = .seq its n ∧ its.size ≤ sizeLine ∧ Vals xs its.toList
def SqT (K : PySem.W.Frag) (H : Hp) (a : Addr) (xs : List V) : Prop :=
  Rd H a (.tup xs) ∨
    ∃ (o : Obj) (its : Array Value) (n : Nat), K.lookup a = some o ∧ o.cls = .type "tuple" ∧ o.data = .seq its n ∧ its.size ≤ sizeLine ∧ Vals xs its.toList
def absV : Value → Option V
  | .none => some .non
  | .bool b => some (.bl b)
  | .int i _ => some (.int i)
  | .str x _ => some (.str x)
  | .bytes b _ => some (.byt b)
  | .float b _ => some (.flt b)
  | .ref a => some (.ref a)
  | .type n => some (.ty n)
  | _ => none
theorem RelV.abs {x : V} {u : Value} (r : RelV x u) : absV u = some x := by
  cases x with
  | non => cases r; rfl
  | bl _ => cases r; rfl
  | int _ => obtain ⟨t, rfl⟩ := r; rfl
  | str _ => obtain ⟨t, rfl⟩ := r; rfl
  | byt _ => obtain ⟨t, rfl⟩ := r; rfl
  | flt _ => obtain ⟨t, rfl⟩ := r; rfl
  | ref _ => cases r; rfl
  | ty _ => cases r; rfl
theorem RelV.inj {x y : V} {u : Value} (r : RelV x u) (q : RelV y u) : x = y := Option.some.inj (r.abs.symm.trans q.abs)
theorem Vals.inj : ∀ {xs ys : List V} {us : List Value}, Vals xs us → Vals ys us → xs = ys
  | _, _, _, .nil, .nil => rfl
  | _, _, _, .cons r t, .cons r' t' => by rw [r.inj r', Vals.inj t t']
section
variable {X : Cx} {pins : List (Addr × Obj)} {σ : St} {H : Hp} {s : Shared} {a : Addr} {xs ys : List V}
theorem SqL.of {K : PySem.W.Frag} (h : H a = some (.lst xs)) : SqL K H a xs := .inl (.inl h)
theorem SqT.of {K : PySem.W.Frag} (h : H a = some (.tup xs)) : SqT K H a xs := .inl (.inl h)
theorem Inv.list (I : Inv X pins σ H s) (h : SqL X.K H a xs) : ∃ its : List Value, Vals xs its ∧ PlainL s.heap a its.toArray ∧ xs.length ≤ sizeLine := by
  rcases h with h | ⟨o, its, n, hk, hc, hd, hs, hz, r⟩
  · obtain ⟨z, its, n, r, e⟩ := h.ok I.hok
    exact ⟨its, r, ⟨_, n, e, rfl, rfl, rfl⟩, z⟩
  · refine ⟨its.toList, r, ⟨o, n, I.kIn a o hk, hc, hd, by simpa using hs⟩, ?_⟩
    have e := r.length
    simp only [Array.length_toList] at e
    omega
theorem Inv.tuple (I : Inv X pins σ H s) (h : SqT X.K H a xs) : ∃ its : List Value, Vals xs its ∧ IsTup s.heap a its.toArray ∧ xs.length ≤ sizeLine := by
  rcases h with h | ⟨o, its, n, hk, hc, hs, hz, r⟩
  · obtain ⟨z, its, r, p⟩ := h.ok I.hok
    exact ⟨its, r, p, z⟩
  · refine ⟨its.toList, r, ⟨o, I.kIn a o hk, hc, n, by simpa using hs⟩, ?_⟩
    have e := r.length
    simp only [Array.length_toList] at e
    omega
theorem Inv.list_inj (I : Inv X pins σ H s) (h : SqL X.K H a xs) (h' : SqL X.K H a ys) : xs = ys := by
  obtain ⟨its, r, ⟨o, n, e, _, _, d⟩, _⟩ := I.list h
  obtain ⟨its', r', ⟨o', n', e', _, _, d'⟩, _⟩ := I.list h'
  rw [e] at e'; cases e'
  rw [d] at d'
  injection d' with d1 _
  have : its = its' := by simpa using congrArg Array.toList d1
  subst this
  exact r.inj r'
theorem Inv.tuple_inj (I : Inv X pins σ H s) (h : SqT X.K H a xs) (h' : SqT X.K H a ys) : xs = ys := by
  obtain ⟨its, r, ⟨o, e, _, n, d⟩, _⟩ := I.tuple h
  obtain ⟨its', r', ⟨o', e', _, n', d'⟩, _⟩ := I.tuple h'
  rw [e] at e'; cases e'
  rw [d] at d'
  injection d' with d1 _
  have : its = its' := by simpa using congrArg Array.toList d1
  subst this
  exact r.inj r'
end
abbrev Cx.wish (X : Cx) (E : Value → Shared → Prop) : Cx := { X with xe := E }
/-- no exception leaves -/
abbrev Cx.nox (X : Cx) : Cx := X.wish fun _ _ => False
theorem Cx.Ok.wish {X : Cx} (ok : X.Ok) (E : Value → Shared → Prop) : (X.wish E).Ok :=
  ⟨ok.mod, ok.kind, ok.glob, ok.blt, ok.above, ok.inj, ok.has, ok.cab, ok.hd, ok.frames, ok.stk, ok.exf, ok.bs, ok.bsz, ok.noex, ok.exfs, ok.funs, ok.frf⟩
theorem Cx.Ok.unwish {X : Cx} {E : Value → Shared → Prop} (ok : (X.wish E).Ok) : X.Ok :=
  ⟨ok.mod, ok.kind, ok.glob, ok.blt, ok.above, ok.inj, ok.has, ok.cab, ok.hd, ok.frames, ok.stk, ok.exf, ok.bs, ok.bsz, ok.noex, ok.exfs, ok.funs, ok.frf⟩
section
variable {X : Cx} {pins : List (Addr × Obj)} {σ : St} {H : Hp} {s : Shared} {E : Value → Shared → Prop}
theorem Inv.wish (I : Inv X pins σ H s) (E : Value → Shared → Prop) : Inv (X.wish E) pins σ H s := ⟨I.ok.wish E, I.os, I.bare, I.base, I.loc, I.cell, I.free, I.freeC, I.pin, I.hok, I.len⟩
theorem Inv.unwish (I : Inv (X.wish E) pins σ H s) : Inv X pins σ H s := ⟨I.ok.unwish, I.os, I.bare, I.base, I.loc, I.cell, I.free, I.freeC, I.pin, I.hok, I.len⟩
theorem SP.unwish {D : Ends} {f : Flow} {s' : Shared} (h : SP (X.wish E) pins D f s') : SP X pins D f s' := by
  cases f with
  | next => obtain ⟨σ', H', I, q⟩ := h; exact ⟨σ', H', I.unwish, q⟩
  | brk => obtain ⟨σ', H', I, q⟩ := h; exact ⟨σ', H', I.unwish, q⟩
  | cont => obtain ⟨σ', H', I, q⟩ := h; exact ⟨σ', H', I.unwish, q⟩
  | ret u => obtain ⟨v, σ', H', I, r, q⟩ := h; exact ⟨v, σ', H', I.unwish, r, q⟩
theorem PSs.nox {st : List Stmt} {t : TS} (h : PSs X.nox st t) : PSs X st t := fun pins s σ H D I hw =>
  wpAny_mono (h pins s σ H D (I.wish _) hw) (fun _ _ q => q.unwish) fun _ _ z => False.elim z
end
section
variable {X : Cx} {st : Stmt} {rest : List Stmt} {t u : TS} {e : Expr} {te : TE} {pos : Pos}
def tNext : TS := fun D σ H => D.nx σ H
def tSeq (t u : TS) : TS := fun D σ H => t { D with nx := u D } σ H
theorem pss_nil : PSs X [] tNext := fun _ _ σ H _ I h => wpAny_execs_nil ⟨σ, H, I, h⟩
theorem pss_cons (h1 : PS X st t) (h2 : PSs X rest u) : PSs X (st :: rest) (tSeq t u) := by
  intro pins s σ H D I h
  refine wpAny_execs_cons (thn (h1 pins s σ H { D with nx := u D } I h) fun f s1 q => ?_)
  cases f with
  | next =>
    obtain ⟨σ', H', I', q⟩ := q
    exact h2 pins s1 σ' H' D I' q
  | ret v => exact q
  | brk => exact q
  | cont => exact q
theorem pss_one (h1 : PS X st t) : PSs X [st] t := by
  intro pins s σ H D I h
  refine wpAny_execs_cons (thn (h1 pins s σ H D I h) fun f s1 q => ?_)
  cases f with
  | next => exact wpAny_execs_nil q
  | ret v => exact q
  | brk => exact q
  | cont => exact q
/-- in a def's body nothing is shown -/
theorem Inv.quiet {pins : List (Addr × Obj)} {σ : St} {H : Hp} {s : Shared} (I : Inv X pins σ H s) : interactive X.env = false := by simp [interactive, I.ok.kind]
/-- an expression whose value is dropped -/
def tDrop (te : TE) : TS := fun D σ H => te σ H fun _ H1 => D.nx σ H1
theorem ps_expr (he : PE X e te) (hs : swapsWith e none pos.line X.env = pure false := by rfl) : PS X (.Expr e pos) (tDrop te) := by
  intro pins s σ H D I h
  exact wpAny_Expr_any (thn (he pins s σ H _ I h) fun v s1 ⟨x, H1, I1, r1, q1⟩ => ⟨σ, H1, I1, q1⟩) I.quiet hs
def tRet (te : TE) : TS := fun D σ H => te σ H D.rt
theorem ps_ret (he : PE X e te) : PS X (.Return (some e) pos) (tRet te) := by
  intro pins s σ H D I h
  exact wpAny_Return_some (thn (he pins s σ H _ I h) fun v s1 ⟨x, H1, I1, r1, q1⟩ => ⟨x, σ, H1, I1, r1, q1⟩)
def tIfS (c : TT) (t u : TS) : TS := fun D σ H => c σ H fun b H1 => if b = true then t D σ H1 else u D σ H1
theorem ps_if {c : Expr} {a b : List Stmt} {tc : TT} (hc : PT X c tc) (ha : PSs X a t) (hb : PSs X b u) : PS X (.If c a b pos) (tIfS tc t u) := by
  intro pins s σ H D I h
  refine wpAny_If (thn (hc pins s σ H _ I h) fun d s1 ⟨H1, I1, q1⟩ => ?_)
  cases d with
  | true => exact ha pins s1 σ H1 D I1 q1
  | false => exact hb pins s1 σ H1 D I1 q1
end
abbrev TG := V → St → Hp → (St → Hp → Prop) → Prop
abbrev TGs := List V → St → Hp → (St → Hp → Prop) → Prop
def PG (X : Cx) (target : Expr) (t : TG) : Prop :=
  ∀ (pins : List (Addr × Obj)) (s : Shared) (σ : St) (H : Hp) (v : V) (u : Value) (Q : St → Hp → Prop), Inv X pins σ H s → RelV v u → t v σ H Q →
    wpAny (model X.prog X.w) X.A (assign target X.env u) (fun _ s' => ∃ σ' H', Inv X pins σ' H' s' ∧ Q σ' H') X.xe s
/-- several targets, one after another -/
def PGs (X : Cx) (ts : List Expr) (t : TGs) : Prop :=
  ∀ (pins : List (Addr × Obj)) (s : Shared) (σ : St) (H : Hp) (vs : List V) (us : List Value) (Q : St → Hp → Prop), Inv X pins σ H s → Vals vs us → t vs σ H Q →
    wpAny (model X.prog X.w) X.A (assignInOrder ((assignEach ts X.env).map (·.2)) us) (fun _ s' => ∃ σ' H', Inv X pins σ' H' s' ∧ Q σ' H') X.xe s
section
variable {X : Cx} {pos : Pos}
def gName (i : Nat) : TG := fun v σ H Q => Q (σ.set i (some v)) H
theorem pg_name {i : Nat} {x : Str} (hN : X.N.Nodup) (hi : X.N[i]? = some x) (hx : Loc X.env.scope x) (hf : X.fn x = true ∨ X.env.scope.names.lookup x = some .local := by first | exact .inl rfl | exact .inr rfl | assumption) : PG X (.Name x pos) (gName i) := by
  intro pins s σ H v u Q I r h
  exact wpAny_assign_Name (store_ok I hN hi hx r (fun s' I' => ⟨_, H, I', h⟩) hf)
def gNil : TGs := fun vs σ H Q => vs = [] ∧ Q σ H
def gCons (t : TG) (u : TGs) : TGs := fun vs σ H Q => ∃ v r, vs = v :: r ∧ t v σ H fun σ' H' => u r σ' H' Q
theorem pgs_nil : PGs X [] gNil := by
  intro pins s σ H vs us Q I r h
  obtain ⟨e, h⟩ := h
  subst e
  cases r
  exact assignInOrder_nil ⟨σ, H, I, h⟩
theorem pgs_cons {e : Expr} {es : List Expr} {t : TG} {u : TGs} (h1 : PG X e t) (h2 : PGs X es u)
    (hs : (assignEach (e :: es) X.env).map (·.2) = assign e X.env :: (assignEach es X.env).map (·.2) := by rfl) : PGs X (e :: es) (gCons t u) := by
  intro pins s σ H vs us Q I r h
  obtain ⟨v, vr, e1, h⟩ := h
  subst e1
  cases r with
  | cons r rr =>
    rw [hs]
    refine assignInOrder_cons (thn (h1 pins s σ H _ _ _ I r h) fun _ s1 ⟨σ1, H1, I1, q1⟩ => ?_)
    exact h2 pins s1 σ1 H1 _ _ Q I1 rr q1
/-- (a, b, ..) = a tuple of that length -/
def gTup (K : PySem.W.Frag) (n : Nat) (t : TGs) : TG := fun v σ H Q => ∃ a xs, v = .ref a ∧ SqT K H a xs ∧ xs.length = n ∧ t xs σ H Q
theorem pg_tup {es : List Expr} {k : Nat} {t : TGs} {n : Nat} (hc : X.calm = true) (h : PGs X es t)
    (hn : (assignEach es X.env).length = n := by rfl) (hst : (assignEach es X.env).findIdx? (·.1) = none := by rfl) : PG X (.Tuple es k pos) (gTup X.K n t) := by
  intro pins s σ H v u Q I r hw
  obtain ⟨a, xs, e1, hq, hl, hw⟩ := hw
  subst e1
  cases r
  obtain ⟨its, rv, ht, hz⟩ := I.tuple hq
  refine assign_Tuple_tuple (I.ok.hd hc) ht (by simp [hn, ← hl, rv.length]) hst fun h' hx => ?_
  have I1 : Inv X pins σ H { s with heap := h' } := I.kept (t' := s.toks) fun b o e => hx b o (Nat.ne_of_lt (Heap.lt_size e)) e
  exact h pins _ σ H xs _ Q I1 (by simpa using rv) hw
/-- target = value -/
def tAsg (te : TE) (g : TG) : TS := fun D σ H => te σ H fun x H1 => g x σ H1 D.nx
theorem ps_asg {tg e : Expr} {te : TE} {g : TG} (he : PE X e te) (hg : PG X tg g) (hs : swapsWithSole [tg] e pos.line X.env = pure false := by rfl) (hw : swappedStores [tg] e X.env = pure none := by rfl)
    (h1 : (assignEach [tg] X.env).map (·.2) = [assign tg X.env] := by rfl) : PS X (.Assign [tg] e pos) (tAsg te g) := by
  intro pins s σ H D I h
  refine wpAny_Assign_stores (thn (he pins s σ H _ I h) fun v s1 ⟨x, H1, I1, r1, q1⟩ => ?_) hs hw
  rw [h1]
  exact thn (hg pins s1 σ H1 x v _ I1 r1 q1) fun _ s2 q => q
/-- name = value -/
theorem ps_set {i : Nat} {x : Str} {e : Expr} {te : TE} {pos' : Pos} (hN : X.N.Nodup) (hi : X.N[i]? = some x) (hx : Loc X.env.scope x) (he : PE X e te) (hs : swapsWith e (some (.Name x pos')) pos.line X.env = pure false := by rfl) (hf : X.fn x = true ∨ X.env.scope.names.lookup x = some .local := by first | exact .inl rfl | exact .inr rfl | assumption) :
    PS X (.Assign [.Name x pos'] e pos) (tAsg te (gName i)) := by
  intro pins s σ H D I h
  refine wpAny_Assign_Name (thn (he pins s σ H _ I h) fun v s1 ⟨y, H1, I1, r1, q1⟩ => ?_) hs
  exact store_ok I1 hN hi hx r1 (fun s2 I2 => ⟨_, H1, I2, q1⟩) hf
end
section
variable {X : Cx} {pos : Pos}
end
/-- at turn i: it yields x (the heap may grow), or it stops -/
structure It where
  go : Nat → Hp → Prop
  yld : Nat → Hp → V → Hp → Prop
  stop : Nat → Hp → Prop
/-- the iterator's own objects may turn: they are not the frame's, not pinned, younger than the entry (or a comprehension's own) -/
def FpOk (X : Cx) (pins : List (Addr × Obj)) (H : Hp) (b : Addr) : Prop :=
  H b = none ∧ b ≠ X.env.locals ∧ b ∉ X.fs ∧ (b ∈ X.ex ∨ X.s₀.heap.objs.size ≤ b) ∧ (∀ x c, X.env.cells.lookup x = some c → c ≠ b) ∧ ∀ p ∈ X.pn ++ pins, p.1 ≠ b
theorem Inv.fpOk {X : Cx} {pins : List (Addr × Obj)} {σ : St} {H H' : Hp} {s : Shared} {b : Addr} (I : Inv X pins σ H s) (hb : s.heap.objs.size ≤ b) (hn : H' b = none) : FpOk X pins H' b := by
  refine ⟨hn, Nat.ne_of_gt (Nat.lt_of_lt_of_le I.lt hb), I.nofs hb, .inr (Nat.le_trans I.sz hb), fun x c e z => ?_, fun p hp z => ?_⟩
  · obtain ⟨v, q⟩ := I.cell x c e
    exact absurd (Nat.lt_of_lt_of_le q.lt (by rw [z]; exact hb)) (Nat.lt_irrefl _)
  · exact absurd (Nat.lt_of_lt_of_le (Heap.lt_size (I.pin p hp).1) (by rw [z]; exact hb)) (Nat.lt_irrefl _)
structure Turn (P : Program) (w : World) (K : PySem.W.Frag) (tg : Expr) (J : It) (fp : List Addr) (it : Addr) (tn : Nat → Heap → Prop) : Prop where
  mem : it ∈ fp
  obj : ∀ i h, tn i h → ∀ b ∈ fp, ∃ o, h.get? b = some o ∧ ∀ v, o.data ≠ .cell v
  keep : ∀ i h h', tn i h → (∀ b ∈ fp, ∀ o, h.get? b = some o → h'.get? b = some o) → tn i h'
  item : ∀ (X : Cx), X.prog = P → X.w = w → X.K = K → X.calm = true → ∀ (i : Nat) (pins : List (Addr × Obj)) (s : Shared) (σ : St) (H : Hp) (E : Value → Shared → Prop), Inv X pins σ H s → (∀ b ∈ fp, FpOk X pins H b) → tn i s.heap → J.go i H →
    wpAny (model P w) X.A (pyNext (.ref it)) (fun r s1 => ∃ u, r = some u ∧
      wpAny (model P w) X.A (letOwnedTupleGo tg (.ref it) u) (fun _ s2 => ∃ x H', Inv X pins σ H' s2 ∧ RelV x u ∧ J.yld i H x H' ∧ tn (i + 1) s2.heap ∧ ∀ b ∈ fp, H' b = none) E s1) E s
  done : ∀ (X : Cx), X.prog = P → X.w = w → X.K = K → X.calm = true → ∀ (i : Nat) (pins : List (Addr × Obj)) (s : Shared) (σ : St) (H : Hp) (E : Value → Shared → Prop), Inv X pins σ H s → (∀ b ∈ fp, FpOk X pins H b) → tn i s.heap → J.stop i H →
    wpAny (model P w) X.A (pyNext (.ref it)) (fun r s1 => r = none ∧ Inv X pins σ H s1) E s
  self : ∀ (A : Around) (i : Nat) (s : Shared) (Q : Value → Shared → Prop) (E : Value → Shared → Prop), tn i s.heap → Q (.ref it) s → wpAny (model P w) A (pyIter (.ref it)) Q E s
abbrev TI := St → Hp → (It → Hp → Prop) → Prop
/-- an iterator has come -/
def PIE (X : Cx) (pins : List (Addr × Obj)) (σ : St) (tg : Expr) (R : It → Hp → Prop) (itv : Value) (s2 : Shared) : Prop :=
  ∃ (it : Addr) (fp : List Addr) (tn : Nat → Heap → Prop) (J : It) (H' : Hp), itv = .ref it ∧ Inv X pins σ H' s2 ∧ Turn X.prog X.w X.K tg J fp it tn ∧ tn 0 s2.heap ∧ (∀ b ∈ fp, FpOk X pins H' b) ∧ R J H'
def PI (X : Cx) (tg iter : Expr) (wi : TI) : Prop :=
  ∀ (pins : List (Addr × Obj)) (s : Shared) (σ : St) (H : Hp) (R : It → Hp → Prop), Inv X pins σ H s → wi σ H R →
    wpAny (model X.prog X.w) X.A (eval iter X.env) (fun v s1 => wpAny (model X.prog X.w) X.A (pyIter v) (PIE X pins σ tg R) X.xe s1) X.xe s

/-- the step ahead of the store is nothing for an iterator that keeps no tuple -/
theorem go_of {M : Model} {A : Around} {E : Value → Shared → Prop} {s : Shared} {tg : Expr} {it : Addr} {u : Value} {o : Obj} {n : String} {vs : Array Value} {Q : Unit → Shared → Prop} (ho : s.heap.get? it = some o) (hc : o.cls = .type n) (hd : o.data = .fields vs)
    (hn : ["enumerate", "zip", "dict_itemiterator", "dict_reverseitemiterator", "odict_iterator", "itertools.zip_longest", "itertools.pairwise"].contains n = false) (hQ : Q () s) : wpAny M A (letOwnedTupleGo tg (.ref it) u) Q E s := by
  unfold letOwnedTupleGo
  cases tg <;> first
    | exact wpAny_pure hQ
    | (cases u <;> first
        | exact wpAny_pure hQ
        | (refine wpAny_bind (wpAny_load ho ?_)
           rw [hc, hd]
           show wpAny M A (if (["enumerate", "zip", "dict_itemiterator", "dict_reverseitemiterator", "odict_iterator", "itertools.zip_longest", "itertools.pairwise"].contains n && vs[0]? == some (rawInt _)) = true then _ else _) Q E s
           rw [if_neg (by intro h; rw [hn, Bool.false_and] at h; cases h)]
           exact wpAny_pure hQ))

/-- the list at a, as it stands at each turn (a loop may append to it) -/
def Itl (K : PySem.W.Frag) (a : Addr) : It :=
  ⟨fun i H => ∃ xs x, SqL K H a xs ∧ xs[i]? = some x, fun i H x H' => H' = H ∧ ∀ xs, SqL K H a xs → xs[i]? = some x, fun i H => ∃ xs, SqL K H a xs ∧ xs.length ≤ i⟩
def Itt (K : PySem.W.Frag) (a : Addr) : It :=
  ⟨fun i H => ∃ xs x, SqT K H a xs ∧ xs[i]? = some x, fun i H x H' => H' = H ∧ ∀ xs, SqT K H a xs → xs[i]? = some x, fun i H => ∃ xs, SqT K H a xs ∧ xs.length ≤ i⟩
/-- lo, lo + 1, .. (n of them) -/
def Itr (lo : Int) (n : Nat) : It := ⟨fun i _ => i < n, fun i H x H' => H' = H ∧ x = .int (lo + i), fun i _ => n ≤ i⟩
theorem turn_list {P : Program} {w : World} {K : PySem.W.Frag} {tg : Expr} (a it : Addr) : Turn P w K tg (Itl K a) [it] it (fun i h => h.IsListIter it a i) where
  mem := by simp
  obj := fun i h st b hb => by
    have e : b = it := by simpa using hb
    subst e
    obtain ⟨o, e, c, d⟩ := st
    exact ⟨o, e, fun v z => by rw [d] at z; cases z⟩
  keep := fun i h h' st k => st.at fun o e => k it (by simp) o e
  item := by
    intro X hP hw hK hc i pins s σ H E I hf st hg
    subst hP hw hK
    obtain ⟨xs, x, hq, hx⟩ := hg
    obtain ⟨its, rv, p, hz⟩ := I.list hq
    obtain ⟨u, hu, ru⟩ := rv.get hx
    obtain ⟨f0, f1, f2, f3, f4, f5⟩ := hf it (by simp)
    refine wpAny_pyNext_list_item st p.isList (x := u) (by simpa using hu) fun h' st' sb => ?_
    have I1 : Inv X pins σ H { s with heap := h' } := I.turned (t' := s.toks) (fun b o hb e => (sb.2 b hb).trans e) f0 f1 f3 f4 f5
    obtain ⟨o, e, c, d⟩ := id st'
    exact ⟨u, rfl, go_of (s := { s with heap := h' }) e c d (by decide) ⟨x, H, I1, ru, ⟨rfl, fun ys hy => by rw [I.list_inj hy hq]; exact hx⟩, st', fun b hb => (hf b hb).1⟩⟩
  done := by
    intro X hP hw hK hc i pins s σ H E I hf st hg
    subst hP hw hK
    obtain ⟨xs, hq, hx⟩ := hg
    obtain ⟨its, rv, p, hz⟩ := I.list hq
    obtain ⟨f0, f1, f2, f3, f4, f5⟩ := hf it (by simp)
    have hl := rv.length
    exact wpAny_pyNext_list_end (I.ok.hd hc) st p.isList (by simp; omega) fun h' eb => ⟨rfl, I.turned (t' := s.toks) (fun b o hb e => eb b o hb e) f0 f1 f3 f4 f5⟩
  self := fun _ _ _ _ _ st h => wpAny_pyIter_listiter st h
theorem turn_tuple {P : Program} {w : World} {K : PySem.W.Frag} {tg : Expr} (a it : Addr) : Turn P w K tg (Itt K a) [it] it (fun i h => h.IsTupleIter it a i) where
  mem := by simp
  obj := fun i h st b hb => by
    have e : b = it := by simpa using hb
    subst e
    obtain ⟨o, e, c, d⟩ := st
    exact ⟨o, e, fun v z => by rw [d] at z; cases z⟩
  keep := fun i h h' st k => st.at fun o e => k it (by simp) o e
  item := by
    intro X hP hw hK hc i pins s σ H E I hf st hg
    subst hP hw hK
    obtain ⟨xs, x, hq, hx⟩ := hg
    obtain ⟨its, rv, p, hz⟩ := I.tuple hq
    obtain ⟨u, hu, ru⟩ := rv.get hx
    obtain ⟨f0, f1, f2, f3, f4, f5⟩ := hf it (by simp)
    refine wpAny_pyNext_tuple_item st (show s.heap.IsTuple a its.toArray from p) (x := u) (by simpa using hu) fun h' st' sb => ?_
    have I1 : Inv X pins σ H { s with heap := h' } := I.turned (t' := s.toks) (fun b o hb e => (sb.2 b hb).trans e) f0 f1 f3 f4 f5
    obtain ⟨o, e, c, d⟩ := id st'
    exact ⟨u, rfl, go_of (s := { s with heap := h' }) e c d (by decide) ⟨x, H, I1, ru, ⟨rfl, fun ys hy => by rw [I.tuple_inj hy hq]; exact hx⟩, st', fun b hb => (hf b hb).1⟩⟩
  done := by
    intro X hP hw hK hc i pins s σ H E I hf st hg
    subst hP hw hK
    obtain ⟨xs, hq, hx⟩ := hg
    obtain ⟨its, rv, p, hz⟩ := I.tuple hq
    obtain ⟨f0, f1, f2, f3, f4, f5⟩ := hf it (by simp)
    have hl := rv.length
    exact wpAny_pyNext_tuple_end (I.ok.hd hc) st (show s.heap.IsTuple a its.toArray from p) (by simp; omega) fun h' eb => ⟨rfl, I.turned (t' := s.toks) (fun b o hb e => eb b o hb e) f0 f1 f3 f4 f5⟩
  self := fun _ _ _ _ _ st h => wpAny_pyIter_tupleiter st h
theorem turn_range {P : Program} {w : World} {K : PySem.W.Frag} {tg : Expr} (it : Addr) (lo : Int) (n : Nat) : Turn P w K tg (Itr lo n) [it] it (fun i h => IsRangeIter h it (lo + (i : Nat) * 1) ((n : Int) - (i : Nat)) 1) where
  mem := by simp
  obj := fun i h st b hb => by
    have e : b = it := by simpa using hb
    subst e
    exact ⟨_, st, fun v z => by
      have z' : Data.fields _ = Data.cell v := z
      cases z'⟩
  keep := fun i h h' st k => k it (by simp) _ st
  item := by
    intro X hP hw hK hc i pins s σ H E I hf st hg
    subst hP hw hK
    obtain ⟨f0, f1, f2, f3, f4, f5⟩ := hf it (by simp)
    have W := Walks.range (prog := X.prog) (w := X.w) (I.ok.hd hc) it lo 1 n
    refine W.item i s _ _ hg st fun v h' tk hv st' kk => ?_
    obtain ⟨t, rfl⟩ := hv
    have I1 : Inv X pins σ H { s with heap := h', toks := tk } := I.turned (fun b o hb e => kk b o (by simpa using hb) e) f0 f1 f3 f4 f5
    refine ⟨_, rfl, go_of (s := { s with heap := h', toks := tk }) (n := "range_iterator") st' rfl rfl (by decide) ⟨.int (lo + i), H, I1, ⟨t, ?_⟩, ⟨rfl, rfl⟩, st', fun b hb => (hf b hb).1⟩⟩
    rw [Int.mul_one]
  done := by
    intro X hP hw hK hc i pins s σ H E I hf st hg
    subst hP hw hK
    obtain ⟨f0, f1, f2, f3, f4, f5⟩ := hf it (by simp)
    exact wpAny_pyNext_range_end (I.ok.hd hc) st (by have : n ≤ i := hg; omega) fun h' eb => ⟨rfl, I.turned (t' := s.toks) (fun b o hb e => eb b o hb e) f0 f1 f3 f4 f5⟩
  self := fun _ _ _ _ _ st h => wpAny_pyIter_rangeiter st h
end L2
namespace L2
open PySem PySem.Spec PyProof.Rows
section
variable {X : Cx} {tg : Expr}
def iList (K : PySem.W.Frag) (tl : TE) : TI := fun σ H R => tl σ H fun x H1 => ∃ a, x = .ref a ∧ (∃ xs, SqL K H1 a xs) ∧ R (Itl K a) H1
def iTup (K : PySem.W.Frag) (tl : TE) : TI := fun σ H R => tl σ H fun x H1 => ∃ a, x = .ref a ∧ (∃ xs, SqT K H1 a xs) ∧ R (Itt K a) H1
theorem pi_list {l : Expr} {tl : TE} (hl : PE X l tl) : PI X tg l (iList X.K tl) := by
  intro pins s σ H R I h
  refine thn (hl pins s σ H _ I h) fun v s1 ⟨x, H1, I1, r1, q1⟩ => ?_
  obtain ⟨a, e, ⟨xs, hq⟩, q⟩ := q1
  subst e
  cases r1
  obtain ⟨its, rv, p, hz⟩ := I1.list hq
  refine wpAny_pyIter_list p.isList ?_
  refine ⟨s1.heap.objs.size, [s1.heap.objs.size], _, _, H1, rfl, I1.kept (t' := s1.toks) fun b o e => Heap.get?_push_of_some _ e, turn_list a _, ⟨_, Heap.get?_push_size _ rfl, rfl, rfl⟩, fun b hb => ?_, q⟩
  have e : b = s1.heap.objs.size := by simpa using hb
  subst e
  exact I1.fpOk (Nat.le_refl _) (I1.hok.fresh (Nat.le_refl _))
theorem pi_tup {l : Expr} {tl : TE} (hl : PE X l tl) : PI X tg l (iTup X.K tl) := by
  intro pins s σ H R I h
  refine thn (hl pins s σ H _ I h) fun v s1 ⟨x, H1, I1, r1, q1⟩ => ?_
  obtain ⟨a, e, ⟨xs, hq⟩, q⟩ := q1
  subst e
  cases r1
  obtain ⟨its, rv, p, hz⟩ := I1.tuple hq
  refine wpAny_pyIter_tuple (show s1.heap.IsTuple a its.toArray from p) ?_
  refine ⟨s1.heap.objs.size, [s1.heap.objs.size], _, _, H1, rfl, I1.kept (t' := s1.toks) fun b o e => Heap.get?_push_of_some _ e, turn_tuple a _, ⟨_, Heap.get?_push_size _ rfl, rfl, rfl⟩, fun b hb => ?_, q⟩
  have e : b = s1.heap.objs.size := by simpa using hb
  subst e
  exact I1.fpOk (Nat.le_refl _) (I1.hok.fresh (Nat.le_refl _))
/-- a range object just made, walked -/
theorem range_it {pins : List (Addr × Obj)} {σ : St} {H : Hp} {s : Shared} {R : It → Hp → Prop} {E : Value → Shared → Prop} {lo hi : Int} {t u v : Tok} {tk : Nat} (I : Inv X pins σ H s) (h1 : -(2 ^ 62) ≤ lo) (h2 : lo < 2 ^ 62) (h3 : -(2 ^ 62) ≤ hi) (h4 : hi < 2 ^ 62)
    (q : R (Itr lo (hi - lo).toNat) H) : wpAny (model X.prog X.w) X.A (pyIter (.ref s.heap.objs.size)) (PIE X pins σ tg R) E { s with heap := s.heap.push { cls := .type "range", data := .fields #[.int lo t, .int hi u, .int 1 v] }, toks := tk } := by
  refine wpAny_pyIter_range (IsRange.new ..) (small_one h1 h2 h3 h4) ?_
  have I1 : Inv X pins σ H { s with heap := s.heap.push { cls := .type "range", data := .fields #[.int lo t, .int hi u, .int 1 v] }, toks := tk } := I.kept fun b o e => Heap.get?_push_of_some _ e
  refine ⟨(s.heap.push { cls := .type "range", data := .fields #[.int lo t, .int hi u, .int 1 v] }).objs.size, [(s.heap.push { cls := .type "range", data := .fields #[.int lo t, .int hi u, .int 1 v] }).objs.size], _, _, H, rfl,
    I1.kept (t' := tk) fun b o e => Heap.get?_push_of_some _ e, turn_range _ lo (hi - lo).toNat, ?_, fun b hb => ?_, q⟩
  · have e1 : lo + ((0 : Nat) : Int) * 1 = lo := by simp
    have e2 : (((hi - lo).toNat : Nat) : Int) - ((0 : Nat) : Int) = Builtin.Range.rangeSize lo hi 1 := by rw [rangeSize_one]; split <;> omega
    show IsRangeIter _ _ (lo + ((0 : Nat) : Int) * 1) ((((hi - lo).toNat : Nat) : Int) - ((0 : Nat) : Int)) 1
    rw [e1, e2]
    exact Heap.get?_push_size _ rfl
  · have e : b = (s.heap.push { cls := .type "range", data := .fields #[.int lo t, .int hi u, .int 1 v] }).objs.size := by simpa using hb
    subst e
    exact I1.fpOk (Nat.le_refl _) (I1.hok.fresh (Nat.le_refl _))
def iRng1 (ta : TA) : TI := fun σ H R => ta σ H fun vs H1 => ∃ j : Int, vs = [.int j] ∧ -(2 ^ 62) ≤ j ∧ j < 2 ^ 62 ∧ R (Itr 0 j.toNat) H1
theorem pi_range1 {a : Expr} {ta : TA} {p pos : Pos} (hg : Gl X "range") (hm : X.mg "range" = none) (ha : PA X [a] ta) (hs : starEach [a] X.env = [(false, eval a X.env)] := by rfl) : PI X tg (.Call (.Name "range" p) [a] [] pos) (iRng1 ta) := by
  intro pins s σ H R I h
  refine Call_ (ld_blt I hg hm boot_range (PyProof.Rows.callWith_type1 (thn (ha pos pins s σ H _ I h) fun us s1 ⟨vs, H1, I1, r1, q1⟩ => ?_) hs rfl))
  obtain ⟨j, e, q1, q2, q⟩ := q1
  subst e
  cases r1 with
  | cons r rr =>
    cases rr
    obtain ⟨t, rfl⟩ := r
    exact call_range_1 (range_it I1 (by omega) (by omega) q1 q2 (by simpa using q))
/-- W: the invariant by the turn and a measure; N: what the body is to reach -/
def tFor (wi : TI) (g : TG) (tb : TS) : TS := fun D σ H => wi σ H fun J H1 => ∃ W : Nat → Nat → St → Hp → Prop, (∃ m, W 0 m σ H1) ∧ ∀ i m σ H, W i m σ H →
  (J.stop i H ∧ D.nx σ H) ∨ (J.go i H ∧ ∃ N : St → Hp → Prop, (∀ σ' H', N σ' H' → ∃ m', m' < m ∧ W (i + 1) m' σ' H') ∧ ∀ x H', J.yld i H x H' → g x σ H' fun σ2 H2 => tb { D with nx := N, ct := N, bk := D.nx } σ2 H2)
/-- the records at fp as they stand -/
def pinsAt (fp : List Addr) (h : Heap) : List (Addr × Obj) := fp.filterMap fun b => (h.get? b).map fun o => (b, o)
theorem mem_pinsAt {fp : List Addr} {h : Heap} {b : Addr} {o : Obj} (hb : b ∈ fp) (e : h.get? b = some o) : (b, o) ∈ pinsAt fp h := List.mem_filterMap.mpr ⟨b, hb, by rw [e]; rfl⟩
theorem of_pinsAt {fp : List Addr} {h : Heap} {p : Addr × Obj} (hp : p ∈ pinsAt fp h) : p.1 ∈ fp ∧ h.get? p.1 = some p.2 := by
  obtain ⟨b, hb, e⟩ := List.mem_filterMap.mp hp
  cases q : h.get? b with
  | none => rw [q] at e; cases e
  | some o =>
    rw [q] at e
    have e' : (b, o) = p := Option.some.inj e
    subst e'
    exact ⟨hb, q⟩
theorem Inv.pinned {pins : List (Addr × Obj)} {σ : St} {H : Hp} {s : Shared} {fp : List Addr} (I : Inv X pins σ H s) (hf : ∀ b ∈ fp, FpOk X pins H b) (ho : ∀ b ∈ fp, ∃ o, s.heap.get? b = some o ∧ ∀ v, o.data ≠ .cell v) : Inv X (pins ++ pinsAt fp s.heap) σ H s :=
  I.pins_of fun p hp => (List.mem_append.mp hp).elim (fun z => I.pin p (List.mem_append_right _ z)) fun z => by
    obtain ⟨hb, e⟩ := of_pinsAt z
    obtain ⟨f0, f1, f2, _⟩ := hf p.1 hb
    obtain ⟨o, e', d⟩ := ho p.1 hb
    rw [e] at e'; cases e'
    exact ⟨e, f0, f1, f2, d⟩
theorem Inv.unpinned {pins pl : List (Addr × Obj)} {σ : St} {H : Hp} {s : Shared} (I : Inv X (pins ++ pl) σ H s) : Inv X pins σ H s := I.pins_of fun p hp => I.pin p (List.mem_append_right _ (List.mem_append_left _ hp))
theorem ps_for {iter : Expr} {body : List Stmt} {wi : TI} {g : TG} {tb : TS} {pos : Pos} (hp : PassesOwn (model X.prog X.w) X.A X.env X.xe) (hc : X.calm = true) (hi : PI X tg iter wi) (hg : PG X tg g) (hb : PSs X body tb)
    (hs : ∀ x, foldedSetIterable iter X.env x = pure x := by intro _; rfl) : PS X (.For tg iter body [] pos) (tFor wi g tb) := by
  intro pins s σ H D I h
  refine wpAny_For (thn (hi pins s σ H _ I h) fun v s1 h1 => thn h1 fun itv s2 h2 => ?_) hs
  obtain ⟨it, fp, tn, J, H2, e, I2, T, st2, f2, W, ⟨m0, w0⟩, turn⟩ := h2
  subst e
  -- what stays true of the iterator's objects through the loop
  have stat : ∀ {H' : Hp}, (∀ b ∈ fp, H' b = none) → ∀ b ∈ fp, FpOk X pins H' b := fun hn b hb => ⟨hn b hb, (f2 b hb).2⟩
  refine codeAny_forLoop_any (fun n s' => ∃ i σ' H', Inv X pins σ' H' s' ∧ tn i s'.heap ∧ (∀ b ∈ fp, H' b = none) ∧ W i n σ' H') ?_ m0 ⟨0, σ, H2, I2, st2, fun b hb => (f2 b hb).1, w0⟩
  rintro n s3 ⟨i, σ3, H3, I3, st3, fr3, w3⟩
  rcases turn i n σ3 H3 w3 with ⟨stop, qn⟩ | ⟨go, N, hN, step⟩
  · refine wpAny_passesOwn hp (thn (T.done X rfl rfl rfl hc i pins s3 σ3 H3 X.xe I3 (stat fr3) st3 stop) fun r s4 ⟨hr, I4⟩ => ?_)
    subst hr
    exact wpAny_execs_nil ⟨σ3, H3, I4, qn⟩
  · refine wpAny_passesOwn hp (thn (T.item X rfl rfl rfl hc i pins s3 σ3 H3 X.xe I3 (stat fr3) st3 go) fun r s4 ⟨u, hr, h4⟩ => ?_)
    subst hr
    refine wpAny_passesOwn hp (thn h4 fun _ s5 ⟨x, H5, I5, r5, y5, st5, fr5⟩ => ?_)
    have I5' := I5.pinned (stat fr5) (T.obj _ _ st5)
    refine wpAny_passesOwn hp (thn (hg _ s5 σ3 H5 x u _ I5' r5 (step x H5 y5)) fun _ s6 ⟨σ6, H6, I6, q6⟩ => ?_)
    refine wpAny_passesOwn hp (thn (hb _ s6 σ6 H6 _ I6 q6) fun f s7 q7 => ?_)
    have again : ∀ {σ7 : St} {H7 : Hp}, Inv X (pins ++ pinsAt fp s5.heap) σ7 H7 s7 → N σ7 H7 → ∃ m, m < n ∧ ∃ i σ' H', Inv X pins σ' H' s7 ∧ tn i s7.heap ∧ (∀ b ∈ fp, H' b = none) ∧ W i m σ' H' := fun {σ7 H7} I7 n7 => by
      obtain ⟨m', hm, w7⟩ := hN σ7 H7 n7
      refine ⟨m', hm, i + 1, σ7, H7, I7.unpinned, T.keep _ _ _ st5 fun b hb o e => (I7.pin (b, o) (List.mem_append_right _ (List.mem_append_right _ (mem_pinsAt hb e)))).1, fun b hb => ?_, w7⟩
      obtain ⟨o, e, d⟩ := T.obj _ _ st5 b hb
      exact (I7.pin (b, o) (List.mem_append_right _ (List.mem_append_right _ (mem_pinsAt hb e)))).2.1
    cases f with
    | next => obtain ⟨σ7, H7, I7, n7⟩ := q7; exact again I7 n7
    | cont => obtain ⟨σ7, H7, I7, n7⟩ := q7; exact again I7 n7
    | brk => obtain ⟨σ7, H7, I7, q7⟩ := q7; exact ⟨σ7, H7, I7.unpinned, q7⟩
    | ret v => obtain ⟨x7, σ7, H7, I7, r7, q7⟩ := q7; exact ⟨x7, σ7, H7, I7.unpinned, r7, q7⟩
end
theorem for_range {lo : Int} {n : Nat} {g : TG} {tb : TS} {D : Ends} {σ : St} {H : Hp} (Pv : Nat → St → Hp → Prop) (h0 : Pv 0 σ H)
    (hs : ∀ i σ H, i < n → Pv i σ H → g (.int (lo + i)) σ H fun σ2 H2 => tb { D with nx := Pv (i + 1), ct := Pv (i + 1), bk := D.nx } σ2 H2) (hd : ∀ σ H, Pv n σ H → D.nx σ H) :
    ∃ W : Nat → Nat → St → Hp → Prop, (∃ m, W 0 m σ H) ∧ ∀ i m σ H, W i m σ H →
      ((Itr lo n).stop i H ∧ D.nx σ H) ∨ ((Itr lo n).go i H ∧ ∃ N : St → Hp → Prop, (∀ σ' H', N σ' H' → ∃ m', m' < m ∧ W (i + 1) m' σ' H') ∧ ∀ x H', (Itr lo n).yld i H x H' → g x σ H' fun σ2 H2 => tb { D with nx := N, ct := N, bk := D.nx } σ2 H2) := by
  refine ⟨fun i m σ H => m = n - i ∧ i ≤ n ∧ Pv i σ H, ⟨n, by simp, Nat.zero_le _, h0⟩, ?_⟩
  rintro i m σ H ⟨rfl, hi, p⟩
  by_cases hlt : i < n
  · refine .inr ⟨hlt, Pv (i + 1), fun σ' H' p' => ⟨n - (i + 1), by omega, rfl, hlt, p'⟩, fun x H' y => ?_⟩
    obtain ⟨e, y⟩ := y
    subst e y
    exact hs i σ _ hlt p
  · have e : i = n := by omega
    subst e
    exact .inl ⟨Nat.le_refl _, hd σ H p⟩
end L2
namespace L2
open PySem PySem.Spec PyProof.Rows
abbrev R2 := V → V → Hp → VK → Prop
/-- a two-place operation on values: f is binaryOp op, inplaceOp op or compareOp op -/
def OpR (X : Cx) (f : Value → Value → Sem Value) (r : R2) : Prop :=
  ∀ (pins : List (Addr × Obj)) (s : Shared) (σ : St) (H : Hp) (x y : V) (v u : Value) (Q : VK), Inv X pins σ H s → RelV x v → RelV y u → r x y H Q →
    wpAny (model X.prog X.w) X.A (f v u) (EP X pins σ Q) X.xe s
/-- a one-place operation -/
def UnR (X : Cx) (f : Value → Sem Value) (r : V → Hp → VK → Prop) : Prop :=
  ∀ (pins : List (Addr × Obj)) (s : Shared) (σ : St) (H : Hp) (x : V) (v : Value) (Q : VK), Inv X pins σ H s → RelV x v → r x H Q →
    wpAny (model X.prog X.w) X.A (f v) (EP X pins σ Q) X.xe s
/-- a call of a value that is known (a builtin, a type) with values -/
def CallR (X : Cx) (f : Value) (r : List V → Hp → VK → Prop) : Prop :=
  ∀ (pins : List (Addr × Obj)) (s : Shared) (σ : St) (H : Hp) (xs : List V) (us : List Value) (Q : VK), Inv X pins σ H s → Vals xs us → r xs H Q →
    wpAny (model X.prog X.w) X.A (call f us) (EP X pins σ Q) X.xe s
def tOp (r : R2) (ta tb : TE) : TE := fun σ H Q => ta σ H fun x H1 => tb σ H1 fun y H2 => r x y H2 Q
def tUn (r : V → Hp → VK → Prop) (ta : TE) : TE := fun σ H Q => ta σ H fun x H1 => r x H1 Q
/-- ints in, under C, and a value out -/
def rI (C : Int → Int → Prop) (g : Int → Int → V) : R2 := fun x y H Q => ∃ i j, x = .int i ∧ y = .int j ∧ C i j ∧ Q (g i j) H
def rI0 (g : Int → Int → V) : R2 := fun x y H Q => ∃ i j, x = .int i ∧ y = .int j ∧ Q (g i j) H
def rU (g : Int → V) : V → Hp → VK → Prop := fun x H Q => ∃ i, x = .int i ∧ Q (g i) H

section
variable {X : Cx} {a b c : Expr} {ta tb tc : TE} {pos : Pos}
theorem binT (ha : PE X a ta) (hb : PE X b tb) {pins : List (Addr × Obj)} {s : Shared} {σ : St} {H : Hp} {R : V → V → Hp → Prop} (I : Inv X pins σ H s)
    (h : ta σ H fun x H1 => tb σ H1 fun y H2 => R x y H2) {Q : Value → Shared → Prop} {f : Value → Value → Sem Value}
    (hf : ∀ v u s2 x y H2, Inv X pins σ H2 s2 → RelV x v → RelV y u → R x y H2 → wpAny (model X.prog X.w) X.A (f v u) Q X.xe s2) :
    wpAny (model X.prog X.w) X.A (eval a X.env) (fun v s₁ => wpAny (model X.prog X.w) X.A (eval b X.env) (fun u s₂ => wpAny (model X.prog X.w) X.A (f v u) Q X.xe s₂) X.xe s₁) X.xe s := by
  refine thn (ha pins s σ H _ I h) fun v s1 ⟨x, H1, I1, r1, q1⟩ => ?_
  refine thn (hb pins s1 σ H1 _ I1 q1) fun u s2 ⟨y, H2, I2, r2, q2⟩ => ?_
  exact hf v u s2 x y H2 I2 r1 r2 q2

theorem pe_op {op : Operator} {r : R2} (ho : OpR X (binaryOp op) r) (ha : PE X a ta) (hb : PE X b tb) : PE X (.BinOp a op b pos) (tOp r ta tb) := by
  intro pins s σ H Q I h
  exact wpAny_BinOp (binT ha hb I h fun v u s2 x y H2 I2 rx ry q => ho pins s2 σ H2 x y v u Q I2 rx ry q)
theorem pe_un {op : UnaryOp} {r : V → Hp → VK → Prop} (ho : UnR X (unaryOp op) r) (ha : PE X a ta) : PE X (.UnaryOp op a pos) (tUn r ta) := by
  intro pins s σ H Q I h
  exact UnaryOp_ (thn (ha pins s σ H _ I h) fun v s1 ⟨x, H1, I1, r1, q1⟩ => ho pins s1 σ H1 x v Q I1 r1 q1)
theorem opI {f : Value → Value → Sem Value} {C : Int → Int → Prop} {g : Int → Int → Int}
    (rule : ∀ (i j : Int) (t u : Tok) (s : Shared) (Q : Value → Shared → Prop) (E : Value → Shared → Prop), C i j → Q (.int (g i j) s.toks) { s with toks := s.toks + 1 } → wpAny (model X.prog X.w) X.A (f (.int i t) (.int j u)) Q E s) :
    OpR X f (rI C fun i j => .int (g i j)) := by
  intro pins s σ H x y v u Q I rx ry h
  obtain ⟨i, j, rfl, rfl, hc, q⟩ := h
  obtain ⟨t, rfl⟩ := rx
  obtain ⟨t', rfl⟩ := ry
  exact rule i j t t' s _ _ hc ⟨.int (g i j), H, I.tok _, ⟨_, rfl⟩, q⟩
theorem opI0 {f : Value → Value → Sem Value} {g : Int → Int → Int}
    (rule : ∀ (i j : Int) (t u : Tok) (s : Shared) (Q : Value → Shared → Prop) (E : Value → Shared → Prop), Q (.int (g i j) s.toks) { s with toks := s.toks + 1 } → wpAny (model X.prog X.w) X.A (f (.int i t) (.int j u)) Q E s) :
    OpR X f (rI0 fun i j => .int (g i j)) := by
  intro pins s σ H x y v u Q I rx ry h
  obtain ⟨i, j, rfl, rfl, q⟩ := h
  obtain ⟨t, rfl⟩ := rx
  obtain ⟨t', rfl⟩ := ry
  exact rule i j t t' s _ _ ⟨.int (g i j), H, I.tok _, ⟨_, rfl⟩, q⟩
theorem opB0 {f : Value → Value → Sem Value} {g : Int → Int → Bool}
    (rule : ∀ (i j : Int) (t u : Tok) (s : Shared) (Q : Value → Shared → Prop) (E : Value → Shared → Prop), Q (.bool (g i j)) s → wpAny (model X.prog X.w) X.A (f (.int i t) (.int j u)) Q E s) :
    OpR X f (rI0 fun i j => .bl (g i j)) := by
  intro pins s σ H x y v u Q I rx ry h
  obtain ⟨i, j, rfl, rfl, q⟩ := h
  obtain ⟨t, rfl⟩ := rx
  obtain ⟨t', rfl⟩ := ry
  exact rule i j t t' s _ _ ⟨.bl (g i j), H, I, rfl, q⟩

def CDiv (i j : Int) : Prop := 0 < j ∧ j < 1073741824
def CMul (i j : Int) : Prop := (-(2 ^ 64) < i ∧ i < 2 ^ 64) ∨ (-(2 ^ 64) < j ∧ j < 2 ^ 64)
theorem CMul.ok {i j : Int} (h : CMul i j) : IntMulOk i j := by
  rcases h with ⟨h1, h2⟩ | ⟨h1, h2⟩
  · exact .of_left (intBits_le_64 h1 h2)
  · exact .of_right (intBits_le_64 h1 h2)
theorem op_add : OpR X (binaryOp .Add) (rI0 fun i j => .int (i + j)) := opI0 fun _ _ _ _ _ _ _ q => add_int q
theorem op_sub : OpR X (binaryOp .Sub) (rI0 fun i j => .int (i - j)) := opI0 fun _ _ _ _ _ _ _ q => sub_int q
theorem op_mul : OpR X (binaryOp .Mult) (rI CMul fun i j => .int (i * j)) := opI fun _ _ _ _ _ _ _ hc q => mul_int q hc.ok
/-- // by a positive divisor -/
theorem op_fdiv : OpR X (binaryOp .FloorDiv) (rI CDiv fun i j => .int (i / j)) := opI fun i j _ _ _ _ _ hc q => by
  have h1 : (0 : Int) < j := hc.1
  have h2 : j < 1073741824 := hc.2
  exact floordiv_int (by omega) (by rw [Int.fdiv_eq_ediv_of_nonneg i (by omega)]; exact q) (.inl (PyProof.noPylong_small (by omega)))
/-- % by a positive divisor of any size -/
theorem op_mod : OpR X (binaryOp .Mod) (rI (fun _ j => 0 < j) fun i j => .int (i % j)) := opI fun i j _ _ _ _ _ hc q => by
  have h1 : (0 : Int) < j := hc
  exact mod_int' (by omega) (by rw [Int.fmod_eq_emod_of_nonneg i (by omega)]; exact q)
theorem unI {f : Value → Sem Value} {g : Int → Int}
    (rule : ∀ (i : Int) (t : Tok) (s : Shared) (Q : Value → Shared → Prop) (E : Value → Shared → Prop), Q (.int (g i) s.toks) { s with toks := s.toks + 1 } → wpAny (model X.prog X.w) X.A (f (.int i t)) Q E s) :
    UnR X f (rU fun i => .int (g i)) := by
  intro pins s σ H x v Q I rx h
  obtain ⟨i, rfl, q⟩ := h
  obtain ⟨t, rfl⟩ := rx
  exact rule i t s _ _ ⟨.int (g i), H, I.tok _, ⟨_, rfl⟩, q⟩
theorem un_neg : UnR X (unaryOp .USub) (rU fun i => .int (-i)) := unI fun _ _ _ _ _ q => neg_int q
end
/-- the scalars that == tells apart as data does -/
def scal : V → V → Bool
  | .non, .non => true | .non, .int _ => true | .int _, .non => true | .non, .bl _ => true | .bl _, .non => true | .non, .str _ => true | .str _, .non => true
  | .int _, .int _ => true | .bl _, .bl _ => true | .str _, .str _ => true | .byt _, .byt _ => true
  | .int _, .str _ => true | .str _, .int _ => true | .bl _, .str _ => true | .str _, .bl _ => true
  | _, _ => false
def rEq : R2 := fun x y H Q => scal x y = true ∧ Q (.bl (decide (x = y))) H
def rNe : R2 := fun x y H Q => scal x y = true ∧ Q (.bl (!decide (x = y))) H

theorem dec_int {i j : Int} : decide (V.int i = V.int j) = (i == j) := by
  rw [Bool.eq_iff_iff]
  simp
theorem dec_bl {i j : Bool} : decide (V.bl i = V.bl j) = (i == j) := by
  rw [Bool.eq_iff_iff]
  simp
theorem dec_str {i j : Str} : decide (V.str i = V.str j) = (i == j) := by
  rw [Bool.eq_iff_iff]
  simp
theorem dec_byt {i j : Array UInt8} : decide (V.byt i = V.byt j) = (i.toList == j.toList) := by
  rw [Bool.eq_iff_iff]
  cases i
  cases j
  simp

section
variable {X : Cx} {a b c : Expr} {ta tb tc : TE} {pos : Pos}
theorem fin_bl {pins : List (Addr × Obj)} {σ : St} {H : Hp} {s : Shared} {Q : VK} {k k' : Bool} (I : Inv X pins σ H s) (q : Q (.bl k) H) (e : k = k') : EP X pins σ Q (.bool k') s := by
  subst e
  exact ⟨.bl k, H, I, rfl, q⟩
theorem op_eq : OpR X (compareOp .Eq) rEq := by
  intro pins s σ H x y v u Q I rx ry h
  obtain ⟨hs, q⟩ := h
  cases x with
  | non =>
    cases rx
    cases y with
    | non => cases ry; exact PySem.EqNone.eq_none_none (fin_bl I q (by simp))
    | bl j => cases ry; exact PySem.EqNone.eq_none_bool (fin_bl I q (by simp))
    | int j => obtain ⟨t', rfl⟩ := ry; exact PySem.EqNone.eq_none_int (fin_bl I q (by simp))
    | str j => obtain ⟨t', rfl⟩ := ry; exact PySem.EqNone.eq_none_str (fin_bl I q (by simp))
    | _ => exact absurd (show false = true from hs) Bool.false_ne_true
  | bl i =>
    cases rx
    cases y with
    | non => cases ry; exact PySem.EqNone.eq_bool_none (fin_bl I q (by simp))
    | bl j => cases ry; exact eq_bool (fin_bl I q dec_bl)
    | str j => obtain ⟨t', rfl⟩ := ry; exact PySem.EqMixed.eq_bool_str (fin_bl I q (by simp))
    | _ => exact absurd (show false = true from hs) Bool.false_ne_true
  | int i =>
    obtain ⟨t, rfl⟩ := rx
    cases y with
    | non => cases ry; exact PySem.EqNone.eq_int_none (fin_bl I q (by simp))
    | int j => obtain ⟨t', rfl⟩ := ry; exact eq_int (fin_bl I q dec_int)
    | str j => obtain ⟨t', rfl⟩ := ry; exact PySem.EqMixed.eq_int_str (fin_bl I q (by simp))
    | _ => exact absurd (show false = true from hs) Bool.false_ne_true
  | str i =>
    obtain ⟨t, rfl⟩ := rx
    cases y with
    | non => cases ry; exact PySem.EqNone.eq_str_none (fin_bl I q (by simp))
    | bl j => cases ry; exact PySem.EqMixed.eq_str_bool (fin_bl I q (by simp))
    | int j => obtain ⟨t', rfl⟩ := ry; exact PySem.EqMixed.eq_str_int (fin_bl I q (by simp))
    | str j => obtain ⟨t', rfl⟩ := ry; exact eq_str (fin_bl I q dec_str)
    | _ => exact absurd (show false = true from hs) Bool.false_ne_true
  | byt i =>
    obtain ⟨t, rfl⟩ := rx
    cases y with
    | byt j => obtain ⟨t', rfl⟩ := ry; exact PySem.W.eq_bytes (fin_bl I q dec_byt)
    | _ => exact absurd (show false = true from hs) Bool.false_ne_true
  | _ => cases y <;> exact absurd (show false = true from hs) Bool.false_ne_true
theorem op_ne : OpR X (compareOp .NotEq) rNe := by
  intro pins s σ H x y v u Q I rx ry h
  obtain ⟨hs, q⟩ := h
  cases x with
  | non =>
    cases rx
    cases y with
    | non => cases ry; exact PySem.EqNone.ne_none_none (fin_bl I q (by simp))
    | bl j => cases ry; exact PySem.EqNone.ne_none_bool (fin_bl I q (by simp))
    | int j => obtain ⟨t', rfl⟩ := ry; exact PySem.EqNone.ne_none_int (fin_bl I q (by simp))
    | str j => obtain ⟨t', rfl⟩ := ry; exact PySem.EqNone.ne_none_str (fin_bl I q (by simp))
    | _ => exact absurd (show false = true from hs) Bool.false_ne_true
  | bl i =>
    cases rx
    cases y with
    | non => cases ry; exact PySem.EqNone.ne_bool_none (fin_bl I q (by simp))
    | bl j => cases ry; exact ne_bool (fin_bl I q (congrArg not dec_bl))
    | str j => obtain ⟨t', rfl⟩ := ry; exact PySem.EqMixed.ne_bool_str (fin_bl I q (by simp))
    | _ => exact absurd (show false = true from hs) Bool.false_ne_true
  | int i =>
    obtain ⟨t, rfl⟩ := rx
    cases y with
    | non => cases ry; exact PySem.EqNone.ne_int_none (fin_bl I q (by simp))
    | int j => obtain ⟨t', rfl⟩ := ry; exact ne_int (fin_bl I q (congrArg not dec_int))
    | str j => obtain ⟨t', rfl⟩ := ry; exact PySem.EqMixed.ne_int_str (fin_bl I q (by simp))
    | _ => exact absurd (show false = true from hs) Bool.false_ne_true
  | str i =>
    obtain ⟨t, rfl⟩ := rx
    cases y with
    | non => cases ry; exact PySem.EqNone.ne_str_none (fin_bl I q (by simp))
    | bl j => cases ry; exact PySem.EqMixed.ne_str_bool (fin_bl I q (by simp))
    | int j => obtain ⟨t', rfl⟩ := ry; exact PySem.EqMixed.ne_str_int (fin_bl I q (by simp))
    | str j => obtain ⟨t', rfl⟩ := ry; exact ne_str (fin_bl I q (congrArg not dec_str))
    | _ => exact absurd (show false = true from hs) Bool.false_ne_true
  | byt i =>
    obtain ⟨t, rfl⟩ := rx
    cases y with
    | byt j => obtain ⟨t', rfl⟩ := ry; exact PySem.W.ne_bytes (fin_bl I q (congrArg not dec_byt))
    | _ => exact absurd (show false = true from hs) Bool.false_ne_true
  | _ => cases y <;> exact absurd (show false = true from hs) Bool.false_ne_true

theorem op_lt : OpR X (compareOp .Lt) (rI0 fun i j => .bl (decide (i < j))) := opB0 fun _ _ _ _ _ _ _ q => lt_int q
theorem op_gt : OpR X (compareOp .Gt) (rI0 fun i j => .bl (decide (j < i))) := opB0 fun _ _ _ _ _ _ _ q => gt_int q
theorem op_ge : OpR X (compareOp .GtE) (rI0 fun i j => .bl (decide (j ≤ i))) := opB0 fun _ _ _ _ _ _ _ q => ge_int q
theorem nomark (b : Expr) {op : CmpOp} (h : op ≠ .In := by decide) (h2 : op ≠ .NotIn := by decide) : behindInMarks op b = false := by
  have e1 : (op == CmpOp.In) = false := by cases op <;> first | rfl | exact absurd rfl h
  have e2 : (op == CmpOp.NotIn) = false := by cases op <;> first | rfl | exact absurd rfl h2
  cases b <;> simp [behindInMarks, e1, e2]
/-- a comparison as a value; hm: nomark b, or (for in, not in) by with_unfolding_all rfl -/
theorem pe_cmpR {op : CmpOp} {r : R2} (ho : OpR X (compareOp op) r) (ha : PE X a ta) (hb : PE X b tb) (hm : behindInMarks op b = false) : PE X (.Compare a [op] [b] pos) (tOp r ta tb) := by
  intro pins s σ H Q I h
  exact wpAny_Compare1 (binT ha hb I h fun v u s2 x y H2 I2 rx ry q => ho pins s2 σ H2 x y v u Q I2 rx ry q) hm
/-- a reading of a value as a test -/
def tTest (t : TE) : TT := fun σ H Q => t σ H fun x H' => ∃ k, x = .bl k ∧ Q k H'
theorem pt_cmpR {op : CmpOp} {r : R2} (ho : OpR X (compareOp op) r) (ha : PE X a ta) (hb : PE X b tb) (hm : behindInMarks op b = false) : PT X (.Compare a [op] [b] pos) (tTest (tOp r ta tb)) := by
  intro pins s σ H Q I h
  refine wpAny_isTrue_Compare1 (thn (ha pins s σ H _ I h) fun v s1 ⟨x, H1, I1, r1, q1⟩ => thn (hb pins s1 σ H1 _ I1 q1) fun u s2 ⟨y, H2, I2, r2, q2⟩ =>
    thn (ho pins s2 σ H2 x y v u _ I2 r1 r2 q2) fun c s3 ⟨z, H3, I3, r3, k, e, q3⟩ => ?_) hm
  subst e
  cases r3
  exact wpAny_truthy_bool ⟨H3, I3, q3⟩
theorem line63 : (sizeLine : Nat) < 2 ^ 63 := by rw [sizeLine_eq]; decide
theorem op_add_str : OpR X (binaryOp .Add) (fun x y H Q => ∃ i j, x = .str i ∧ y = .str j ∧ i.length + j.length ≤ sizeLine ∧ Q (.str (i ++ j)) H) := by
  intro pins s σ H x y v u Q I rx ry h
  obtain ⟨i, j, rfl, rfl, hz, q⟩ := h
  obtain ⟨t, rfl⟩ := rx
  obtain ⟨t', rfl⟩ := ry
  exact add_str (fun t' tk => ⟨.str (i ++ j), H, I.tok _, ⟨_, rfl⟩, q⟩) hz
theorem vals1 {x : V} {us : List Value} (r : Vals [x] us) : ∃ u, us = [u] ∧ RelV x u := by
  cases r with
  | cons r1 r2 => cases r2; exact ⟨_, rfl, r1⟩
theorem vals2 {x y : V} {us : List Value} (r : Vals [x, y] us) : ∃ u w', us = [u, w'] ∧ RelV x u ∧ RelV y w' := by
  cases r with
  | cons r1 r2 =>
    cases r2 with
    | cons r3 r4 => cases r4; exact ⟨_, _, rfl, r1, r3⟩
theorem call_max2 (hc : X.calm = true) : CallR X (.builtin "max") (fun xs H Q => ∃ i j, xs = [.int i, .int j] ∧ Q (.int (if j > i then j else i)) H) := by
  intro pins s σ H xs us Q I r h
  obtain ⟨i, j, rfl, q⟩ := h
  obtain ⟨u, w', rfl, ⟨t, rfl⟩, ⟨t', rfl⟩⟩ := vals2 r
  refine max_two_ints (I.ok.hd hc) fun h' tk k => ⟨_, H, I.kept k, ?_, q⟩
  by_cases hj : j > i
  · rw [if_pos hj, if_pos hj]; exact ⟨_, rfl⟩
  · rw [if_neg hj, if_neg hj]; exact ⟨_, rfl⟩
end
end L2
namespace L2
open PySem PySem.Spec PyProof.Rows
section
variable {prog : Program} {w : World} {A : Around} {E : Value → Shared → Prop} {s : Shared} {K : PySem.W.Frag} {x dx C f : Addr} {mA : Str → Option Value} {name : Str} {v : Value}
end
theorem RelO.some_of {v : V} {o : Option Value} (r : RelO (some v) o) : ∃ u, o = some u ∧ RelV v u := by
  cases o with
  | none => exact (show False from r).elim
  | some u => exact ⟨u, rfl, r⟩
section
variable {P : Program} {w : World} {H H' : Hp} {h h' : Heap} {a C dx : Addr} {fs fs' : List (Str × V)}
end
section
variable {X : Cx} {pins : List (Addr × Obj)} {σ : St} {H : Hp} {s : Shared} {a C dx : Addr} {fs : List (Str × V)} {f : Str} {v : V} {A : Around} {E : Value → Shared → Prop}
end
section
variable {X : Cx} {o e value : Expr} {f : Str} {pos pos' tpos : Pos} {ta tv : TE}
end
section
variable {X : Cx} {pins : List (Addr × Obj)} {σ : St} {H : Hp} {s : Shared} {A : Around} {E : Value → Shared → Prop} {Q : Value → Shared → Prop} {c : Value} {b : Bool}
end
end L2
namespace L2
open PySem PySem.Spec PyProof.Rows
structure Room (k : Nat) (A : Around) : Prop where
  hd : A.handled = none
  dp : A.depth + 3 * k + 5 < recursionLimit
  un : A.units + 16 * k + 200 < cLine
theorem Room.mono {j k : Nat} {A : Around} (r : Room k A) (h : j ≤ k) : Room j A := ⟨r.hd, by have := r.dp; omega, by have := r.un; omega⟩
theorem Room.deeper {k : Nat} {A : Around} (r : Room (k + 1) A) (env : Env) : Room k (A.deeper env) :=
  ⟨r.hd, by have := r.dp; show A.depth + 1 + 3 * k + 5 < _; omega, by have := r.un; show A.units + 3 + 16 * k + 200 < _; omega⟩
theorem Room.depth {k : Nat} {A : Around} (r : Room k A) : A.depth < recursionLimit := by have := r.dp; omega
theorem Room.units {k : Nat} {A : Around} (r : Room k A) : A.units + 64 < cLine := by have := r.un; omega
theorem Room.units0 {k : Nat} {A : Around} (r : Room k A) : A.units < cLine := by have := r.un; omega

def tNil : TA := fun _ H Q => Q [] H
def tCons (ta : TE) (tr : TA) : TA := fun σ H Q => ta σ H fun x H1 => tr σ H1 fun xs H2 => Q (x :: xs) H2
section
variable {X : Cx} {e : Expr} {es : List Expr} {te : TE} {t : TA} {pos : Pos}
theorem pa_nil : PA X [] tNil := fun _ _ _ _ H Q I h => Calls.spliced_nil ⟨[], H, I, .nil, h⟩
theorem pa_cons (ha : PE X e te) (hr : PA X es t) (hs : starEach (e :: es) X.env = (false, eval e X.env) :: starEach es X.env := by rfl) : PA X (e :: es) (tCons te t) := by
  intro pos pins s σ H Q I h
  rw [hs]
  show wpAny _ _ (spliced ((false, eval e X.env) :: backTo pos (starEach es X.env))) _ _ s
  refine Calls.spliced_cons (thn (ha pins s σ H _ I h) fun u s1 ⟨x, H1, I1, r1, q1⟩ => ?_)
  exact thn (hr pos pins s1 σ H1 _ I1 q1) fun us s2 ⟨xs, H2, I2, r2, q2⟩ => ⟨x :: xs, H2, I2, .cons r1 r2, q2⟩

/-- a tuple, a list of written items -/
def tTup (t : TA) : TE := fun σ H Q => t σ H fun xs H1 => xs.length ≤ sizeLine ∧ ∀ p, H1 p = none → Q (.ref p) (upd H1 p (.tup xs))
def tLst (t : TA) : TE := fun σ H Q => t σ H fun xs H1 => xs.length ≤ sizeLine ∧ ∀ p, H1 p = none → Q (.ref p) (upd H1 p (.lst xs))
theorem pe_tup {x1} (h : PA X es t) : PE X (.Tuple es x1 pos) (tTup t) := by
  intro pins s σ H Q I hq
  refine wpAny_Tuple_spliced (thn (h pos pins s σ H _ I hq) fun us s1 ⟨xs, H1, I1, r, z, q⟩ => ⟨by rw [← r.length]; exact z, ?_⟩)
  have hf : H1 s1.heap.objs.size = none := I1.hok.fresh (Nat.le_refl _)
  refine ⟨.ref s1.heap.objs.size, upd H1 s1.heap.objs.size (.tup xs), I1.laid (t' := s1.toks) (fun b u e => Heap.get?_push_of_some _ e) (Nat.le_refl _) ?_, rfl, q _ hf⟩
  exact ⟨z, us, r, ⟨_, Heap.get?_push_size _ rfl, rfl, _, rfl⟩⟩
theorem pe_lst (h : PA X es t) : PE X (.List es pos) (tLst t) := by
  intro pins s σ H Q I hq
  refine wpAny_List_spliced (thn (h pos pins s σ H _ I hq) fun us s1 ⟨xs, H1, I1, r, z, q⟩ => ⟨by rw [← r.length]; exact z, ?_⟩)
  have hf : H1 s1.heap.objs.size = none := I1.hok.fresh (Nat.le_refl _)
  refine ⟨.ref s1.heap.objs.size, upd H1 s1.heap.objs.size (.lst xs), I1.laid (t' := s1.toks) (fun b u e => Heap.get?_push_of_some _ e) (Nat.le_refl _) ?_, rfl, q _ hf⟩
  exact ⟨z, us, 0, r, Heap.get?_push_size _ rfl⟩
end
/-- a def's promise: the bound arguments in the parameters' order, the heap, the wanted end, the wanted exception -/
abbrev Sp := List V → Hp → VK → XK → Prop
/-- how an exception lies behind a call (file 08 gives it): the callers' frames, abstract heap and state ahead of the call, the wish, the exception, the state -/
abbrev CXT := List Env → Hp → Shared → XK → Value → Shared → Prop

/-- the state at a call -/
structure Env0 (P : Program) (w : World) (K : PySem.W.Frag) (mg : Str → Option Value) (base : Heap) (A : Around) (outer : List Env) (s : Shared) (H : Hp) : Prop where
  frames : A.frames = some outer
  mod : Mod K mg base
  bs : ∀ b o, base.get? b = some o → s.heap.get? b = some o ∧ H b = none
  bsz : base.objs.size ≤ s.heap.objs.size
  funs : s.heap.FunFrames base outer
  frf : ∀ b ∈ frs outer, H b = none
  hok : HOk P w H s.heap
  bare : AllBare s.gens
/-- a call's end -/
def CE (outer : List Env) (P : Program) (w : World) (H : Hp) (s : Shared) (Q : VK) (u : Value) (s' : Shared) : Prop :=
  ∃ v H', s'.os = s.os ∧ AllBare s'.gens ∧ Un (frs outer) [] H H' s.heap s'.heap ∧ HOk P w H' s'.heap ∧ RelV v u ∧ Q v H'
def CR (CX : CXT) (outer : List Env) (P : Program) (w : World) (H : Hp) (s : Shared) (Q : VK) (E : XK) (r : Result) (s' : Shared) : Prop :=
  match r with
  | .ok (.ret u) => CE outer P w H s Q u s'
  | .ok _ => False
  | .error e => CX outer H s E e s'
structure FnOk (P : Program) (w : World) (K : PySem.W.Frag) (mg : Str → Option Value) (base : Heap) (CX : CXT) (k : Nat) (f : Addr) (fd : FuncData) (ps : List Str) (sp : Sp) : Prop where
  len : ∀ vs H Q E, sp vs H Q E → vs.length = ps.length
  run : ∀ (A : Around) (outer : List Env) (s : Shared) (H : Hp) (args : Args) (us : List Value) (vs : List V) (Q : VK) (E : XK), Room k A → Env0 P w K mg base A outer s H → BindsTo s fd args (ps.zip us) → Vals vs us → sp vs H Q E →
    codeAny (model P w) A (.call (.ref f) args) (CR CX outer P w H s Q E) s
section
variable {X : Cx} {pins : List (Addr × Obj)} {σ : St} {H : Hp} {s s' : Shared}
/-- from a body: what a callee wants -/
theorem Inv.env0 (I : Inv X pins σ H s) : Env0 X.prog X.w X.K X.mg X.base X.A X.stack s H :=
  ⟨I.ok.frames, I.ok.mod, I.bs, Nat.le_trans I.ok.bsz I.sz, I.stack, I.stkFree, I.hok, I.bare⟩
/-- behind a call -/
theorem Inv.after {Q : VK} {u : Value} (I : Inv X pins σ H s) (h : CE X.stack X.prog X.w H s Q u s') : EP X pins σ Q u s' := by
  obtain ⟨v, H', os, bare, un, hok, r, q⟩ := h
  obtain ⟨hh, g, d, t, os'⟩ := s'
  obtain rfl : os' = s.os := os
  exact ⟨v, H', I.call (h' := hh) (g' := g) (d' := d) (t' := t) (ch := []) un hok bare (fun b z => absurd z (by simp)), r, q⟩
end
/-- f(..): the written arguments, then the defaults dvs; E: what is wanted of an exception -/
def tCall (sp : Sp) (dvs : List V) (E : XK) (t : TA) : TE := fun σ H Q => t σ H fun vs H1 => sp (vs ++ dvs) H1 Q E
/-- how the parameters are bound: us the positional arguments, kw the keywords' values by name, ds the defaults that fill up -/
def Binds (K : PySem.W.Frag) (fd : FuncData) (ps : List Str) (ds : List Value) : Prop :=
  ∀ (s : Shared) (us : List Value), K.In s.heap → (us ++ ds).length = ps.length → BindsTo s fd ⟨us, []⟩ (ps.zip (us ++ ds))
/-- every parameter is given -/
theorem Binds.all {K : PySem.W.Frag} {fd : FuncData} {ps : List Str} (h : ∀ us : List Value, us.length = ps.length → bindArgs fd ⟨us, []⟩ = pure (ps.zip us)) : Binds K fd ps [] := fun s us _ hl => by
  rw [List.append_nil] at hl ⊢
  exact .of_eq (h us hl)

/-- an exception of a callee reaches what this body wants of exceptions -/
def Passes (CX : CXT) (X : Cx) (E : XK) : Prop := ∀ (pins : List (Addr × Obj)) (σ : St) (H : Hp) (s : Shared) (e : Value) (s' : Shared), Inv X pins σ H s → CX X.stack H s E e s' → X.xe e s'

section
variable {X : Cx} {CX : CXT} {k : Nat} {f C : Addr} {fd : FuncData} {ps : List Str} {sp : Sp} {dvs : List V} {ds : List Value} {E : XK} {x m : Str} {p pos apos : Pos} {e o : Expr} {es : List Expr} {ta : TE} {t : TA}
/-- the callee runs -/
theorem run_fn {pins : List (Addr × Obj)} {σ : St} {H : Hp} {s : Shared} {Q : VK} {us : List Value} {vs : List V} (F : FnOk X.prog X.w X.K X.mg X.base CX k f fd ps sp) (hr : Room k X.A) (hb : Binds X.K fd ps ds) (hd : Vals dvs ds) (hx : Passes CX X E)
    (I : Inv X pins σ H s) (r : Vals vs us) (h : sp (vs ++ dvs) H Q E) : wpAny (model X.prog X.w) X.A (call (.ref f) us) (EP X pins σ Q) X.xe s := by
  have r2 : Vals (vs ++ dvs) (us ++ ds) := r.append hd
  have hl : (us ++ ds).length = ps.length := by rw [← r2.length]; exact F.len _ _ _ _ h
  refine wpAny_call (codeAny_mono (F.run X.A X.stack s H ⟨us, []⟩ (us ++ ds) (vs ++ dvs) Q E hr I.env0 (hb s us I.kIn hl) r2 h) fun r s' hq => ?_)
  cases r with
  | error e => exact hx pins σ H s e s' I hq
  | ok fl =>
    cases fl with
    | ret u => exact I.after hq
    | next => exact False.elim hq
    | brk => exact False.elim hq
    | cont => exact False.elim hq

theorem pe_call (F : FnOk X.prog X.w X.K X.mg X.base CX k f fd ps sp) (hr : Room k X.A) (hg : Gl X x) (hm : X.mg x = some (.ref f)) (hk : PySem.W.keepIn X.K (.ref f) = true) (hb : Binds X.K fd ps ds) (hd : Vals dvs ds) (hx : Passes CX X E)
    (ha : PA X (e :: es) t) (hdb : (x == ("__debug__" : Str)) = false := by decide) (he : starEach (e :: es) X.env = (false, eval e X.env) :: starEach es X.env := by rfl) (hpl : (backTo pos (starEach es X.env)).any (·.1) = false := by rfl) :
    PE X (.Call (.Name x p) (e :: es) [] pos) (tCall sp dvs E t) := by
  intro pins s σ H Q I h
  refine wpAny_Call_Name_kw (ld_glob I hg hm ?_ hdb)
  refine PySem.W.callWith_K (h₀ := X.base) I.ok.mod.kin hk (thn (ha pos pins s σ H _ I h) fun us s1 ⟨vs, H1, I1, r, q⟩ => ⟨I1.kIn, ?_⟩) he hpl
  exact run_fn F hr hb hd hx I1 r q
end
section
variable {X : Cx} {CX : CXT} {k : Nat} {f C : Addr} {fd : FuncData} {ps ks : List Str} {sp : Sp} {E : XK} {x m : Str} {p pos apos kpos : Pos} {e o : Expr} {es : List Expr} {kws : List Keyword} {te ta : TE} {t tk : TA} {nm : Option Str}
variable {g : List Value → List Value → List Value} {gV : List V → List V → List V}
end
/-- names: the parameters first -/
structure FnScope (N P : List Str) (sc : Scope) : Prop where
  kind : sc.kind = .function
  co : sc.isCoroutine = false
  gen : sc.isGenerator = false
  nd : N.Nodup
  pre : N.take P.length = P
  par : ∀ x ∈ P, sc.names.lookup x = some .local ∨ sc.names.lookup x = some .cell
  nofree : ∀ y ∈ sc.names, y.2 ≠ .free

theorem bindL_out {kindOf : Str → Option NameKind} {x : Str} : ∀ {binds : List (Str × Value)} {m : Str → Option Value}, (∀ v, (x, v) ∉ binds) → bindL kindOf binds m x = m x
  | [], _, _ => rfl
  | (n, v) :: r, m, h => by
    unfold bindL
    rw [bindL_out fun w hw => h w (List.mem_cons_of_mem _ hw)]
    split
    · have : x ≠ n := by rintro rfl; exact h v List.mem_cons_self
      simp [this]
    · rfl
theorem bindC_out {kindOf : Str → Option NameKind} {x : Str} : ∀ {binds : List (Str × Value)} {m : Str → Option Value}, (∀ v, (x, v) ∉ binds) → bindC kindOf binds m x = m x
  | [], _, _ => rfl
  | (n, v) :: r, m, h => by
    unfold bindC
    rw [bindC_out fun w hw => h w (List.mem_cons_of_mem _ hw)]
    split
    · rfl
    · have : x ≠ n := by rintro rfl; exact h v List.mem_cons_self
      simp [this]
theorem bindL_get {kindOf : Str → Option NameKind} {x : Str} {v : Value} : ∀ {P : List Str} {vs : List Value} {i : Nat} {m : Str → Option Value}, P.Nodup → P[i]? = some x → vs[i]? = some v → kindOf x = some .local →
    bindL kindOf (P.zip vs) m x = some v
  | [], _, _, _, _, h, _, _ => by simp at h
  | _ :: _, [], _, _, _, _, h, _ => by simp at h
  | p :: P, w :: vs, 0, m, nd, h1, h2, hk => by
    simp at h1 h2; subst h1; subst h2
    show bindL kindOf ((p, w) :: P.zip vs) m p = _
    unfold bindL
    rw [bindL_out fun v hv => (List.nodup_cons.mp nd).1 (List.of_mem_zip hv).1, if_pos hk]
    simp
  | p :: P, w :: vs, i + 1, m, nd, h1, h2, hk => by
    show bindL kindOf ((p, w) :: P.zip vs) m x = _
    unfold bindL
    exact bindL_get (i := i) (List.nodup_cons.mp nd).2 (by simpa using h1) (by simpa using h2) hk
theorem bindC_get {kindOf : Str → Option NameKind} {x : Str} {v : Value} : ∀ {P : List Str} {vs : List Value} {i : Nat} {m : Str → Option Value}, P.Nodup → P[i]? = some x → vs[i]? = some v → kindOf x ≠ some .local →
    bindC kindOf (P.zip vs) m x = some v
  | [], _, _, _, _, h, _, _ => by simp at h
  | _ :: _, [], _, _, _, _, h, _ => by simp at h
  | p :: P, w :: vs, 0, m, nd, h1, h2, hk => by
    simp at h1 h2; subst h1; subst h2
    show bindC kindOf ((p, w) :: P.zip vs) m p = _
    unfold bindC
    rw [bindC_out fun v hv => (List.nodup_cons.mp nd).1 (List.of_mem_zip hv).1, if_neg hk]
    simp
  | p :: P, w :: vs, i + 1, m, nd, h1, h2, hk => by
    show bindC kindOf ((p, w) :: P.zip vs) m x = _
    unfold bindC
    exact bindC_get (i := i) (List.nodup_cons.mp nd).2 (by simpa using h1) (by simpa using h2) hk

/-- the names' values at the entry -/
def start (N : List Str) (vs : List V) : St := vs.map some ++ List.replicate (N.length - vs.length) none

/-- the context of a def's body, at its entry; an exception leaves the frame, then lies as CX says -/
def cxOf (CX : CXT) (P : Program) (w : World) (K : PySem.W.Frag) (mg : Str → Option Value) (base : Heap) (N : List Str) (qual : Str) (scope : Scope) (f : Addr) (cd : Value) (A : Around) (outer : List Env) (s : Shared) (H : Hp) (E : XK) : Cx where
  prog := P
  w := w
  K := K
  mg := mg
  base := base
  A := A.deeper (envOfC qual scope s.heap.objs.size f cd)
  N := N
  s₀ := s
  H₀ := H
  env := envOfC qual scope s.heap.objs.size f cd
  outer := outer
  stack := envOfC qual scope s.heap.objs.size f cd :: outer
  ex := []
  calm := true
  fn := fun _ => true
  pn := []
  xe := fun e s' => wpAny (model P w) (A.deeper (envOfC qual scope s.heap.objs.size f cd)) (leaving (envOfC qual scope s.heap.objs.size f cd) e) (fun _ s'' => CX outer H s E e s'') (fun e' s'' => CX outer H s E e' s'') s'

theorem cell_has {sc : Scope} {n : Nat} {x : Str} (h : sc.names.lookup x = some .cell) : ∃ c, (cellsFrom n sc.names []).lookup x = some c := by
  have q := PySem.W.cellsFrom_some sc.names n [] (.inl h)
  exact Option.isSome_iff_exists.mp q

theorem inv_start {CX : CXT} {P : Program} {w : World} {K : PySem.W.Frag} {mg : Str → Option Value} {base : Heap} {N ps : List Str} {qual : Str} {scope : Scope} {f : Addr} {cd : Value} {A : Around} {outer : List Env} {s s1 : Shared} {H : Hp} {E : XK} {us : List Value} {vs : List V}
    (S : FnScope N ps scope) (hd : A.handled = none) (e0 : Env0 P w K mg base A outer s H) (hl : vs.length = ps.length) (r : Vals vs us)
    (x : InCallC s s.heap.objs.size (bindL (envOfC qual scope s.heap.objs.size f cd).kindOf (ps.zip us) fun _ => none) (cellsFrom (s.heap.objs.size + 1) scope.names []) (bindC (envOfC qual scope s.heap.objs.size f cd).kindOf (ps.zip us) fun _ => none) s1) :
    Inv (cxOf CX P w K mg base N qual scope f cd A outer s H E) [] (start N vs) H s1 := by
  have hpl : ps.length ≤ N.length := by have := congrArg List.length S.pre; rw [List.length_take] at this; omega
  obtain ⟨h1, tk, rfl, hk⟩ := x.done
  have noA : ∀ b : Addr, b ∉ (cxOf CX P w K mg base N qual scope f cd A outer s H E).ex := fun b z => absurd (show b ∈ ([] : List Addr) from z) (by simp)
  refine ⟨⟨e0.mod, S.kind, rfl, rfl, Nat.le_refl _, fun y z c h1 h2 => ?_, fun y hy => ?_, fun y c _ h => ?_, fun _ => hd, Around.frames_deeper e0.frames, .inr ⟨rfl, rfl⟩, fun b z => absurd z (noA b), e0.bs, e0.bsz, fun b _ _ => noA b, fun b z => absurd z (noA b), e0.funs, e0.frf⟩,
    rfl, e0.bare, Un.kept hk, ⟨_, x.toInCall.ns, fun i y v h1 h2 h3 => ?_⟩, fun y c h => ⟨_, x.cell y c h⟩, e0.hok.fresh (Nat.le_refl _), fun y c h => ?_, fun p hp => absurd (show p ∈ ([] : List (Addr × Obj)) from hp) (by simp), e0.hok.kept hk, ?_⟩
  · exact name_of_addr x.apart (PySem.mem_of_lookup h1) (PySem.mem_of_lookup h2)
  · have hy : scope.names.lookup y = some .cell ∨ scope.names.lookup y = some .free := hy
    rcases hy with hy | hy
    · exact cell_has hy
    · exact absurd rfl (S.nofree _ (PySem.mem_of_lookup hy))
  · exact Nat.le_of_lt (x.above y c (PySem.mem_of_lookup h))
  · have hi : i < vs.length := by
      unfold start at h2
      by_cases hi : i < vs.length
      · exact hi
      · rw [List.getElem?_append_right (by simpa using hi)] at h2
        rw [List.getElem?_replicate] at h2
        split at h2 <;> cases h2
    have ha : vs[i]? = some v := by
      unfold start at h2
      rw [List.getElem?_append_left (by simpa using hi), List.getElem?_map] at h2
      cases e : vs[i]? with
      | none => rw [e] at h2; cases h2
      | some a => rw [e] at h2; cases h2; rfl
    obtain ⟨u, hu, rv⟩ := r.get ha
    have hp : ps[i]? = some y := by
      rw [← S.pre, List.getElem?_take_of_lt (by omega)]; exact h1
    have ndP : ps.Nodup := by rw [← S.pre]; exact S.nd.sublist (List.take_sublist _ _)
    refine ⟨u, rv, ?_⟩
    rcases S.par y (List.mem_of_getElem? hp) with k | k
    · exact .inl ⟨k, bindL_get ndP hp hu k⟩
    · obtain ⟨c, e⟩ := cell_has (n := s.heap.objs.size + 1) k
      refine .inr ⟨.inl k, c, e, ?_⟩
      have q := x.cell y c e
      rw [bindC_get ndP hp hu (by show scope.names.lookup y ≠ _; rw [k]; decide)] at q
      exact q
  · exact e0.hok.fresh (Nat.le_of_lt (x.above y c (PySem.mem_of_lookup h)))
  · unfold start
    show _ = N.length
    rw [List.length_append, List.length_map, List.length_replicate]
    omega

/-- THE RULE: a def (or a method) of the text, by its body. The body's reading t is chosen for each entry; it is run at the parameters' values -/
theorem fn_of {CX : CXT} {P : Program} {w : World} {K : PySem.W.Frag} {mg : Str → Option Value} {base : Heap} {k : Nat} {f : Addr} {name qual : Str} {params : Arguments} {body : List Stmt} {scope : Scope} {dV kV doc pm cdv ct oc : Value} {an od : Option Addr}
    {osl : Array (Option Value)} {N ps : List Str} {sp : Sp} (lk : K.lookup f = some ⟨oc, od, .func (PySem.W.fnOf name qual params body scope dV kV doc pm an cdv ct), osl⟩) (hcd : PySem.W.codeIn K cdv qual = true) (S : FnScope N ps scope)
    (len : ∀ vs H Q E, sp vs H Q E → vs.length = ps.length)
    (hbody : ∀ (A : Around) (outer : List Env) (s : Shared) (H : Hp) (vs : List V) (Q : VK) (E : XK), Room k (A.deeper (envOfC qual scope s.heap.objs.size f cdv)) → sp vs H Q E →
      ∃ t, PSs (cxOf CX P w K mg base N qual scope f cdv A outer s H E) body t ∧ t { nx := fun _ H' => Q .non H', rt := Q } (start N vs) H) :
    FnOk P w K mg base CX (k + 1) f (PySem.W.fnOf name qual params body scope dV kV doc pm an cdv ct) ps sp := by
  refine ⟨len, fun A outer s H args us vs Q E hr e0 hb r hsp => ?_⟩
  have hl := len _ _ _ _ hsp
  have KX : K.In s.heap := e0.mod.kin.keeps fun b o e => (e0.bs b o e).1
  have lim : s.heap.NoLimit := e0.mod.nolimit.keeps fun b o e => (e0.bs b o e).1
  have hkind : ∀ y ∈ ps.zip us, scope.names.lookup y.1 = some .local ∨ (scope.names.lookup y.1 = some .cell ∧ ((cellsFrom (s.heap.objs.size + 1) scope.names []).lookup y.1).isSome = true) := fun ⟨n, v⟩ hy => by
    rcases S.par n (List.of_mem_zip hy).1 with q | q
    · exact .inl q
    · exact .inr ⟨q, PySem.W.cellsFrom_some _ _ _ (.inl q)⟩
  refine codeAny_call_function hr.depth (KX _ _ lk) rfl S.co S.gen rfl (PySem.W.codeRec_of KX hcd) (hb _ _ _ _ ?_)
  refine wpAny_newFunctionEnv_cells S.kind hkind fun env he s1 x => ?_
  subst he
  refine ⟨lim.keeps x.toInCall.keep, codeAny_func ?_⟩
  obtain ⟨t, ht, hq⟩ := hbody A outer s H vs Q E (hr.deeper _) hsp
  have I : Inv (cxOf CX P w K mg base N qual scope f cdv A outer s H E) [] (start N vs) H s1 := inv_start S hr.hd e0 hl r x
  refine wpAny_mono (ht [] s1 (start N vs) H _ I hq) (fun fl s' hs => ?_) fun e s' hs => hs
  have fin : ∀ {σ' : St} {H' : Hp} {v : V} {u : Value}, Inv (cxOf CX P w K mg base N qual scope f cdv A outer s H E) [] σ' H' s' → RelV v u → Q v H' → CE outer P w H s Q u s' :=
    fun {σ' H' v u} J rv q => ⟨v, H', J.os, J.bare, J.base, J.hok, rv, q⟩
  cases fl with
  | ret u =>
    obtain ⟨v, σ', H', J, rv, q⟩ := hs
    exact fin J rv q
  | next =>
    obtain ⟨σ', H', J, q⟩ := hs
    exact fin (v := V.non) (u := Value.none) J rfl q
  | brk =>
    obtain ⟨_, _, _, q⟩ := hs
    exact False.elim q
  | cont =>
    obtain ⟨_, _, _, q⟩ := hs
    exact False.elim q
end L2
namespace L2
open PySem PySem.Spec PyProof.Rows
section
variable {X : Cx} {x : Str} {p pos : Pos} {e : Expr} {es : List Expr} {t : TA} {id T : String} {r : List V → Hp → VK → Prop}
def tCB (r : List V → Hp → VK → Prop) (t : TA) : TE := fun σ H Q => t σ H fun vs H1 => r vs H1 Q
/-- f(e, ..), f a built-in function -/
theorem pe_callB (hc : CallR X (.builtin id) r) (hg : Gl X x) (hm : X.mg x = none) (hv : bootBuiltins x = some (.builtin id)) (ha : PA X (e :: es) t) (hn : x ≠ "__name__" := by decide) (hdb : (x == ("__debug__" : Str)) = false := by decide)
    (he : starEach (e :: es) X.env = (false, eval e X.env) :: starEach es X.env := by rfl) (hpl : (backTo pos (starEach es X.env)).any (·.1) = false := by rfl) : PE X (.Call (.Name x p) (e :: es) [] pos) (tCB r t) := by
  intro pins s σ H Q I h
  refine wpAny_Call_Name_kw (ld_blt I hg hm hv ?_ hn hdb)
  exact PyProof.Rows.callWith_builtin1 (thn (ha pos pins s σ H _ I h) fun us s1 ⟨vs, H1, I1, r1, q1⟩ => hc pins s1 σ H1 vs us Q I1 r1 q1) he hpl
/-- T(e, ..), T a built-in type -/
theorem pe_callTy (hc : CallR X (.type T) r) (hg : Gl X x) (hm : X.mg x = none) (hv : bootBuiltins x = some (.type T)) (ha : PA X (e :: es) t) (hn : x ≠ "__name__" := by decide) (hdb : (x == ("__debug__" : Str)) = false := by decide)
    (he : starEach (e :: es) X.env = (false, eval e X.env) :: starEach es X.env := by rfl) (hpl : (backTo pos (starEach es X.env)).any (·.1) = false := by rfl) : PE X (.Call (.Name x p) (e :: es) [] pos) (tCB r t) := by
  intro pins s σ H Q I h
  refine wpAny_Call_Name_kw (ld_blt I hg hm hv ?_ hn hdb)
  exact PyProof.Rows.callWith_type1 (thn (ha pos pins s σ H _ I h) fun us s1 ⟨vs, H1, I1, r1, q1⟩ => hc pins s1 σ H1 vs us Q I1 r1 q1) he hpl
end
end L2
namespace HT
open PySem PyProof.Rows
section
open PySem.SeqAt
open PySem.AutoSeq1 (wpAny_loadPart')
open PySem.MeetsSeq PySem.MeetsSeq2 PySem.MeetsSeq3
end
section
variable {prog : Program} {w : World} {A : Around} {E : Value → Shared → Prop} {s : Shared}
/-- a slice's bound as a place among n (d where it is left out) -/
def sIx (n d : Nat) : Option Int → Nat
  | none => d
  | some v => if v < 0 then (v + (n : Int)).toNat else min v.toNat n
theorem sIx_none (n d : Nat) : sIx n d none = d := rfl
theorem sIx_nat (n d k : Nat) : sIx n d (some (k : Int)) = min k n := by
  show (if (k : Int) < 0 then ((k : Int) + (n : Int)).toNat else min (k : Int).toNat n) = min k n
  rw [if_neg (by omega), Int.toNat_natCast]
theorem sIx_le (n d : Nat) (hd : d ≤ n) (o : Option Int) : sIx n d o ≤ n := by
  cases o with
  | none => exact hd
  | some v =>
    show (if v < 0 then (v + (n : Int)).toNat else min v.toNat n) ≤ n
    by_cases hv : v < 0
    · rw [if_pos hv]; omega
    · rw [if_neg hv]; exact Nat.min_le_right _ _
end
end HT
namespace L2
open PySem PySem.Spec PyProof.Rows
abbrev TO := St → Hp → (Option Int → Hp → Prop) → Prop
/-- a slice's part (left out, or an int) -/
def PO (X : Cx) (e : Option Expr) (t : TO) : Prop :=
  ∀ (pins : List (Addr × Obj)) (s : Shared) (σ : St) (H : Hp) (Q : Option Int → Hp → Prop), Inv X pins σ H s → t σ H Q →
    wpAny (model X.prog X.w) X.A (evalPart e X.env) (fun u s' => ∃ o H', Inv X pins σ H' s' ∧ IsPart u o ∧ Q o H') X.xe s
def tNoPart : TO := fun _ H Q => Q none H
def tPart (t : TE) : TO := fun σ H Q => t σ H fun x H1 => ∃ i, x = .int i ∧ Q (some i) H1

section
variable {X : Cx} {e : Expr} {te : TE} {lo hi : Option Expr} {tl th : TO} {pos p2 : Pos}
theorem po_none : PO X none tNoPart := by
  intro pins s σ H Q I h
  rw [evalPart_none]
  exact wpAny_pure ⟨none, H, I, .none, h⟩
theorem po_some (h : PE X e te) : PO X (some e) (tPart te) := by
  intro pins s σ H Q I hw
  rw [evalPart_some]
  refine thn (h pins s σ H _ I hw) fun u s1 ⟨x, H1, I1, r1, q1⟩ => ?_
  obtain ⟨i, rfl, q⟩ := q1
  obtain ⟨t, rfl⟩ := r1
  exact ⟨some i, H1, I1, .int i t, q⟩

/-- what a slice of a value is, by values: the slice object stands at sl -/
def SlR (X : Cx) (r : V → Option Int → Option Int → Hp → VK → Prop) : Prop :=
  ∀ (pins : List (Addr × Obj)) (s : Shared) (σ : St) (H : Hp) (x : V) (v vl vu : Value) (lo hi : Option Int) (sl : Addr) (Q : VK), Inv X pins σ H s → RelV x v → s.heap.IsSliceOf sl vl vu .none → IsPart vl lo → IsPart vu hi → r x lo hi H Q →
    ∃ T id, typeLookup (.type T) "__getitem__" = pure (some (.builtin id)) ∧ s.TypeIs v T ∧ wpAny (model X.prog X.w) X.A (getItem v (.ref sl)) (EP X pins σ Q) X.xe s
def tSl (r : V → Option Int → Option Int → Hp → VK → Prop) (te : TE) (tl th : TO) : TE := fun σ H Q => te σ H fun x H1 => tl σ H1 fun l H2 => th σ H2 fun u H3 => r x l u H3 Q
/-- a[lo:hi], any a -/
theorem pe_slice {r : V → Option Int → Option Int → Hp → VK → Prop} (hr : SlR X r) (he : PE X e te) (hl : PO X lo tl) (hu : PO X hi th) : PE X (.Subscript e (.Slice lo hi none p2) pos) (tSl r te tl th) := by
  intro pins s σ H Q I h
  refine Subscript_ (thn (he pins s σ H _ I h) fun v s1 ⟨x, H1, I1, r1, q1⟩ => ?_)
  refine wpAny_Slice (thn (hl pins s1 σ H1 _ I1 q1) fun vl s2 ⟨l, H2, I2, pl, q2⟩ => thn (hu pins s2 σ H2 _ I2 q2) fun vu s3 ⟨u, H3, I3, pu, q3⟩ => ?_)
  rw [evalPart_none]
  refine wpAny_pure ?_
  have I4 : Inv X pins σ H3 { s3 with heap := s3.heap.push { cls := .type "slice", data := .fields #[vl, vu, .none] } } := I3.kept (t' := s3.toks) fun b ob q => Heap.get?_push_of_some _ q
  obtain ⟨T, id, hT, ht, hg⟩ := hr pins { s3 with heap := s3.heap.push { cls := .type "slice", data := .fields #[vl, vu, .none] } } σ H3 x v vl vu l u s3.heap.objs.size Q I4 r1 (Heap.IsSliceOf.new ..) pl pu q3
  show wpAny (model X.prog X.w) X.A (subscriptTail e (.Slice lo hi none p2) v (.ref s3.heap.objs.size)) (EP X pins σ Q) X.xe { s3 with heap := s3.heap.push { cls := .type "slice", data := .fields #[vl, vu, .none] } }
  exact tail_any (ops := [.ref s3.heap.objs.size, v]) ht hT hg (by with_unfolding_all rfl)

end
end L2
namespace L2
open PySem PySem.Spec PyProof.Rows
/-- the place that an index of any sign means -/
def ixN (n : Nat) (i : Int) : Option Nat := if 0 ≤ i then (if i < n then some i.toNat else none) else if -(n : Int) ≤ i then some (i + n).toNat else none
def atI {α : Type} (xs : List α) (i : Int) : Option α := (ixN xs.length i).bind fun j => xs[j]?
theorem ixN_seq {n : Nat} {i : Int} {j : Nat} (h : ixN n i = some j) : seqIndex? i n = some j ∧ j < n ∧ -(n : Int) ≤ i ∧ i < n := by
  unfold ixN at h
  by_cases h0 : 0 ≤ i
  · rw [if_pos h0] at h
    by_cases h1 : i < n
    · rw [if_pos h1] at h
      have e : i.toNat = j := Option.some.inj h
      exact ⟨by rw [seqIndex_of h0 h1, e], by omega, by omega, h1⟩
    · rw [if_neg h1] at h; cases h
  · rw [if_neg h0] at h
    by_cases h1 : -(n : Int) ≤ i
    · rw [if_pos h1] at h
      have e : (i + n).toNat = j := Option.some.inj h
      exact ⟨by rw [seqIndex_neg (by omega) h1, e], by omega, h1, by omega⟩
    · rw [if_neg h1] at h; cases h
theorem atI_get {α : Type} {xs : List α} {i : Int} {v : α} (h : atI xs i = some v) : ∃ j, seqIndex? i xs.length = some j ∧ xs[j]? = some v ∧ j < xs.length ∧ -(xs.length : Int) ≤ i ∧ i < xs.length := by
  unfold atI at h
  cases e : ixN xs.length i with
  | none => rw [e] at h; cases h
  | some j =>
    rw [e] at h
    obtain ⟨h1, h2, h3, h4⟩ := ixN_seq e
    exact ⟨j, h1, h, h2, h3, h4⟩
theorem atI_nat {α : Type} {xs : List α} {j : Nat} {v : α} (h : xs[j]? = some v) : atI xs (j : Int) = some v := by
  have hj : j < xs.length := (List.getElem?_eq_some_iff.mp h).1
  have e : ixN xs.length (j : Int) = some j := by
    unfold ixN
    rw [if_pos (by omega), if_pos (by omega)]; simp
  unfold atI; rw [e]; exact h
/-- what stands as an index of a plain subscript -/
def PlainIx (b : Expr) : Prop := ∀ o i, subscripted b false o i = operate [o, i] (getItem o i)
/-- a subscript by values -/
def IxR (X : Cx) (r : R2) : Prop :=
  ∀ (value slice : Expr) (pins : List (Addr × Obj)) (s : Shared) (σ : St) (H : Hp) (x y : V) (v u : Value) (Q : VK), Inv X pins σ H s → RelV x v → RelV y u → r x y H Q →
    subscripted slice false v u = operate [v, u] (getItem v u) → wpAny (model X.prog X.w) X.A (subscriptTail value slice v u) (EP X pins σ Q) X.xe s
/-- a call of a builtin's method by values: the receiver, the arguments -/
def MtR (X : Cx) (id : String) (r : V → List V → Hp → VK → Prop) : Prop :=
  ∀ (pins : List (Addr × Obj)) (s : Shared) (σ : St) (H : Hp) (x : V) (xs : List V) (v : Value) (us : List Value) (Q : VK), Inv X pins σ H s → RelV x v → Vals xs us → r x xs H Q →
    wpAny (model X.prog X.w) X.A (call (.builtin id) (v :: us)) (EP X pins σ Q) X.xe s
section
variable {X : Cx} {a b : Expr} {ta tb : TE} {pos : Pos}
/-- a[b] -/
theorem pe_ix {r : R2} (hr : IxR X r) (ha : PE X a ta) (hb : PE X b tb) (hs : PlainIx b) : PE X (.Subscript a b pos) (tOp r ta tb) := by
  intro pins s σ H Q I h
  exact Subscript_ (binT ha hb I h fun v u s2 x y H2 I2 rx ry q => hr a b pins s2 σ H2 x y v u Q I2 rx ry q (hs _ _))

def rIxL (K : PySem.W.Frag) : R2 := fun x y H Q => ∃ p xs i v, x = .ref p ∧ y = .int i ∧ SqL K H p xs ∧ atI xs i = some v ∧ Q v H
def rIxT (K : PySem.W.Frag) : R2 := fun x y H Q => ∃ p xs i v, x = .ref p ∧ y = .int i ∧ SqT K H p xs ∧ atI xs i = some v ∧ Q v H
def rIxS : R2 := fun x y H Q => ∃ z i c, x = .str z ∧ y = .int i ∧ z.length ≤ sizeLine ∧ atI z.cps.toList i = some c ∧ Q (.str ⟨#[c]⟩) H
theorem ix_list : IxR X (rIxL X.K) := by
  intro value slice pins s σ H x y v u Q I rx ry h hs
  obtain ⟨p, xs, i, z, rfl, rfl, hq, he, q⟩ := h
  cases rx
  obtain ⟨t, rfl⟩ := ry
  obtain ⟨its, r, pl, hz⟩ := I.list hq
  obtain ⟨j, h1, h2, h3, h4, h5⟩ := atI_get he
  obtain ⟨w, ew, rw'⟩ := r.get h2
  have hl := r.length
  have hn := line63
  have fin : EP X pins σ Q w s := ⟨z, H, I, rw', q⟩
  by_cases h0 : 0 ≤ i
  · have hj : i.toNat = j := by
      rw [seqIndex_of h0 h5] at h1
      exact Option.some.inj h1
    exact item_listR pl.isList h0 (by omega) (by rw [hj]; simpa using ew) fin hs
  · have hj : (i + (its.toArray.size : Int)).toNat = j := by
      rw [seqIndex_neg (by omega) h4] at h1
      rw [List.size_toArray, ← hl]
      exact Option.some.inj h1
    exact subscriptTail_builtinR (x := w) pl.isList.typeIs slot_list_getitem.lookup
      (wpAny_getItem_list_neg (Q := fun r s' => r = w ∧ EP X pins σ Q r s') pl.isList (by omega) (by rw [List.size_toArray] <;> omega) (by omega) (by rw [hj]; simpa using ew) ⟨rfl, fin⟩) hs
theorem ix_tup : IxR X (rIxT X.K) := by
  intro value slice pins s σ H x y v u Q I rx ry h hs
  obtain ⟨p, xs, i, z, rfl, rfl, hq, he, q⟩ := h
  cases rx
  obtain ⟨t, rfl⟩ := ry
  obtain ⟨its, r, pl, hz⟩ := I.tuple hq
  obtain ⟨j, h1, h2, h3, h4, h5⟩ := atI_get he
  obtain ⟨w, ew, rw'⟩ := r.get h2
  have hl := r.length
  have hn := line63
  have fin : EP X pins σ Q w s := ⟨z, H, I, rw', q⟩
  exact subscriptTail_builtinR (x := w) pl.typeIs slot_tuple_getitem.lookup
    (getItem_tuple (j := j) (Q := fun r s' => r = w ∧ EP X pins σ Q r s') pl (by omega) (by omega) (by rw [List.size_toArray, ← hl]; exact h1) (by simpa using ew) ⟨rfl, fin⟩) hs
theorem ix_str : IxR X rIxS := by
  intro value slice pins s σ H x y v u Q I rx ry h hs
  obtain ⟨z, i, c, rfl, rfl, hz, he, q⟩ := h
  obtain ⟨t, rfl⟩ := rx
  obtain ⟨t', rfl⟩ := ry
  obtain ⟨j, h1, h2, h3, h4, h5⟩ := atI_get he
  have hl : z.cps.toList.length = z.length := by simp [Str.length]
  rw [hl] at h1 h4 h5
  have hn := line63
  exact tail_any (typeIs_str s z t) slot_str_getitem.lookup (getItem_str (c := c) (by
    have e1 : decide (i < -(2 ^ 63 : Int)) = false := decide_eq_false (by omega)
    have e2 : decide (i ≥ 2 ^ 63) = false := decide_eq_false (by omega)
    rw [e1, e2, Bool.or_false]) (by rw [h1]; simpa using h2) ⟨.str ⟨#[c]⟩, H, I.tok _, ⟨_, rfl⟩, q⟩) hs
theorem call_len_seq : CallR X (.builtin "len") (fun xs H Q => ∃ p ys, xs = [.ref p] ∧ (SqL X.K H p ys ∨ SqT X.K H p ys) ∧ Q (.int ys.length) H) := by
  intro pins s σ H xs us Q I r h
  obtain ⟨p, ys, rfl, hq, q⟩ := h
  obtain ⟨u, rfl, rx⟩ := vals1 r
  cases rx
  have hn := line63
  rcases hq with hq | hq
  · obtain ⟨its, r', pl, hz⟩ := I.list hq
    have hlen := r'.length
    exact Calls.call_len_list pl.isList (by simp only [List.size_toArray] <;> omega) ⟨.int ys.length, H, I.tok _, ⟨s.toks + 1, by rw [List.size_toArray, hlen]⟩, q⟩
  · obtain ⟨its, r', pl, hz⟩ := I.tuple hq
    have hlen := r'.length
    exact len_tuple pl (by simp only [List.size_toArray] <;> omega) ⟨.int ys.length, H, I.tok _, ⟨s.toks + 1, by rw [List.size_toArray, hlen]⟩, q⟩
theorem call_len_str : CallR X (.builtin "len") (fun xs H Q => ∃ z, xs = [.str z] ∧ z.length ≤ sizeLine ∧ Q (.int z.length) H) := by
  intro pins s σ H xs us Q I r h
  obtain ⟨z, rfl, hz, q⟩ := h
  obtain ⟨u, rfl, t, rfl⟩ := vals1 r
  have hn := line63
  exact len_str (by omega) ⟨.int z.length, H, I.tok _, ⟨_, rfl⟩, q⟩
theorem call_tuple_of : CallR X (.type "tuple") (fun xs H Q => ∃ p ys, xs = [.ref p] ∧ ((SqL X.K H p ys ∧ ∀ l, H l = none → Q (.ref l) (upd H l (.tup ys))) ∨ (SqT X.K H p ys ∧ Q (.ref p) H))) := by
  intro pins s σ H xs us Q I r h
  obtain ⟨p, ys, rfl, h⟩ := h
  obtain ⟨u, rfl, rx⟩ := vals1 r
  cases rx
  rcases h with ⟨hq, q⟩ | ⟨hq, q⟩
  · obtain ⟨its, r', pl, hz⟩ := I.list hq
    have hlen := r'.length
    refine call_tuple_list pl.isList (fun h' kp => ?_) (by simp only [List.size_toArray] <;> omega)
    have I1 : Inv X pins σ H { s with heap := h' } := I.kept (t' := s.toks) kp
    have I2 : Inv X pins σ (upd H h'.objs.size (.tup ys)) { s with heap := h'.push { cls := .type "tuple", data := .seq its.toArray } } :=
      I1.laid (t' := s.toks) (fun b o e => Heap.get?_push_of_some _ e) (Nat.le_refl _) (show ObjOk X.prog X.w _ _ _ (.tup ys) from ⟨hz, its, r', IsTup.new _ _⟩)
    exact ⟨.ref h'.objs.size, _, I2, rfl, q _ (I1.hok.fresh (Nat.le_refl _))⟩
  · obtain ⟨its, r', pl, hz⟩ := I.tuple hq
    exact call_tuple_same pl ⟨.ref p, H, I, rfl, q⟩

/-- the value is of that builtin type -/
def tyV (K : PySem.W.Frag) (T : String) (x : V) (H : Hp) : Prop := match x with
  | .str _ => T = "str"
  | .int _ => T = "int"
  | .ref p => (T = "list" ∧ ∃ xs, SqL K H p xs) ∨ (T = "tuple" ∧ ∃ o, K.lookup p = some o ∧ o.cls = .type "tuple" ∧ o.dict = none) ∨
      (T = "dict" ∧ ((∃ kvs, H p = some (.dK kvs)) ∨ ∃ kvs, H p = some (.dT kvs))) ∨ (T = "set" ∧ ∃ S n, H p = some (.set S n))
  | _ => False
theorem tyV_is {pins : List (Addr × Obj)} {σ : St} {H : Hp} {s : Shared} {T : String} {x : V} {v : Value} (I : Inv X pins σ H s) (r : RelV x v) (ty : tyV X.K T x H) :
    s.TypeIs v T ∧ ∀ a, v = .ref a → ∃ ob, s.heap.get? a = some ob ∧ ob.dict = none := by
  cases x with
  | str z =>
    obtain ⟨t, rfl⟩ := r
    cases (show T = "str" from ty)
    exact ⟨typeIs_str s z t, fun _ e => nomatch e⟩
  | int i =>
    obtain ⟨t, rfl⟩ := r
    cases (show T = "int" from ty)
    exact ⟨typeIs_int s i t, fun _ e => nomatch e⟩
  | ref p =>
    cases r
    rcases ty with ⟨rfl, xs, hq⟩ | ⟨rfl, o, hk, hc, hd⟩ | ⟨rfl, hk⟩ | ⟨rfl, S, n, hk⟩
    · obtain ⟨its, _, pl, _⟩ := I.list hq
      refine ⟨pl.isList.typeIs, fun a e => ?_⟩
      cases e
      obtain ⟨o, n, e, c, hd, _⟩ := pl
      exact ⟨o, e, hd⟩
    · refine ⟨⟨o, I.kIn p o hk, hc⟩, fun a e => ?_⟩
      cases e
      exact ⟨o, I.kIn _ o hk, hd⟩
    · have z : ∃ o, s.heap.get? p = some o ∧ o.ExactDict := by
        rcases hk with ⟨kvs, hk⟩ | ⟨kvs, hk⟩
        · obtain ⟨_, _, _, _, o, _, _, e, ex, _⟩ := I.hok p _ hk
          exact ⟨o, e, ex⟩
        · obtain ⟨_, _, _, _, o, _, _, e, ex, _⟩ := I.hok p _ hk
          exact ⟨o, e, ex⟩
      obtain ⟨o, e, ex⟩ := z
      refine ⟨⟨o, e, ex.1⟩, fun a e2 => ?_⟩
      cases e2
      exact ⟨o, e, ex.2.1⟩
    · obtain ⟨o, _, _, _, e, ex, _⟩ := I.hok p _ hk
      refine ⟨⟨o, e, ex.1⟩, fun a e2 => ?_⟩
      cases e2
      exact ⟨o, e, ex.2.1⟩
  | _ => exact False.elim ty
def tBM0 (K : PySem.W.Frag) (T : String) (r : V → List V → Hp → VK → Prop) (to : TE) : TE := fun σ H Q => to σ H fun x H1 => tyV K T x H1 ∧ r x [] H1 Q
def tBM (K : PySem.W.Frag) (T : String) (r : V → List V → Hp → VK → Prop) (to : TE) (t : TA) : TE := fun σ H Q => to σ H fun x H1 => tyV K T x H1 ∧ t σ H1 fun xs H2 => r x xs H2 Q
variable {o e : Expr} {es : List Expr} {to : TE} {t : TA} {name : Str} {apos cpos : Pos} {T id : String} {r : V → List V → Hp → VK → Prop}
theorem pe_bm0 (pa : PlainAttrs T) (slot : Slot T name id) (hty : typeOf (.builtin id) = pure (.type "method_descriptor")) (hm : MtR X id r) (ho : PE X o to)
    (hbase : attributeBase o name X.env (eval o X.env) = eval o X.env := by rfl) (hline : (apos.endLine == cpos.line) = true := by rfl) : PE X (.Call (.Attribute o name apos) [] [] cpos) (tBM0 X.K T r to) := by
  intro pins s σ H Q I h
  refine wpAny_Call_method0_late hbase hline (thn (ho pins s σ H _ I h) fun v s1 ⟨x, H1, I1, r1, ty, q1⟩ => ?_)
  obtain ⟨h1, h2⟩ := tyV_is I1 r1 ty
  exact ⟨T, id, pa, slot, hty, h1, h2, Calls.callWith_builtin rfl (PySem.evalArgs_none (hm pins s1 σ H1 x [] v [] Q I1 r1 .nil q1))⟩
theorem pe_bm (pa : PlainAttrs T) (slot : Slot T name id) (hty : typeOf (.builtin id) = pure (.type "method_descriptor")) (hm : MtR X id r) (ho : PE X o to) (ha : PA X (e :: es) t)
    (hbase : attributeBase o name X.env (eval o X.env) = eval o X.env := by rfl)
    (hfew : ((backTo cpos (starEach (e :: es) X.env)).all (fun x => !x.1) && (backToKw cpos (keywordEach [] X.env)).all (fun x => x.1.isSome)
      && decide ((e :: es).length + ([] : List Keyword).length + (if ([] : List Keyword).isEmpty then 0 else 1) < 30)) = true := by rfl)
    (hline : (apos.endLine == cpos.line) = true := by rfl) (hs : starEach (e :: es) X.env = (false, eval e X.env) :: starEach es X.env := by rfl) (hplain : (backTo cpos (starEach es X.env)).any (·.1) = false := by rfl) :
    PE X (.Call (.Attribute o name apos) (e :: es) [] cpos) (tBM X.K T r to t) := by
  intro pins s σ H Q I h
  refine wpAny_Call_method_late hbase hfew hline rfl (thn (ho pins s σ H _ I h) fun v s1 ⟨x, H1, I1, r1, ty, q1⟩ => ?_)
  obtain ⟨h1, h2⟩ := tyV_is I1 r1 ty
  refine ⟨T, id, pa, slot, hty, h1, h2, ?_⟩
  have hA := ha cpos pins s1 σ H1 _ I1 q1
  rw [hs] at hA ⊢
  refine Calls.callWith_builtin (by show (false || (backTo cpos (starEach es X.env)).any (·.1)) = false; rw [hplain] <;> rfl) (Calls.evalArgs_plain ?_)
  exact thn hA fun us s2 ⟨vs, H2, I2, r2, q2⟩ => hm pins s2 σ H2 x vs v us Q I2 r1 r2 q2
end
end L2
namespace L2
open PySem PySem.Spec PyProof.Rows
def MtM (X : Cx) (id : String) (r : V → List V → Hp → VK → Prop) : Prop :=
  ∀ (pins : List (Addr × Obj)) (s : Shared) (σ : St) (H : Hp) (x : V) (xs : List V) (v : Value) (us : List Value) (Q : VK), Inv X pins σ H s → RelV x v → Vals xs us → r x xs H Q →
    wpAny (model X.prog X.w) X.A (call (.builtin id) (v :: us)) (EP X pins σ Q) X.xe s

theorem Vals.one : ∀ {x : V} {us : List Value}, Vals [x] us → ∃ u, us = [u] ∧ RelV x u
  | _, _, .cons r .nil => ⟨_, rfl, r⟩
section
variable {X : Cx} {pins : List (Addr × Obj)} {σ : St} {H : Hp} {s : Shared} {l b : Addr} {xs ys zs : List V}
theorem Inv.lset {its its' : List Value} {n : Nat} {f : Array Value → Array Value} {t' : Nat} (I : Inv X pins σ H s) (hH : H l = some (.lst xs))
    (e : s.heap.get? l = some { cls := .type "list", data := .seq its.toArray n }) (hf : f its.toArray = its'.toArray) (hv : Vals ys its') (hz : ys.length ≤ sizeLine) :
    Inv X pins σ (upd H l (.lst ys)) { s with heap := s.heap.update l (Obj.mapSeq f), toks := t' } := by
  have q := PySem.IsL.update e f
  rw [hf] at q
  refine I.write (x := l) (e := l) (by rw [hH]; exact trivial) (.inl rfl) (fun b' u hb hu => (Heap.get?_update_other s.heap (Obj.mapSeq f) (Ne.symm hb)).trans hu) ⟨_, q⟩ ?_
  exact ⟨hz, its', _, hv, q⟩
theorem Inv.lnew {its : List Value} {t' : Nat} (I : Inv X pins σ H s) (hv : Vals ys its) (hz : ys.length ≤ sizeLine) :
    Inv X pins σ (upd H s.heap.objs.size (.lst ys)) { s with heap := s.heap.push { cls := .type "list", data := .seq its.toArray }, toks := t' } :=
  I.laid (fun _ _ q => Heap.get?_push_of_some _ q) (Nat.le_refl _) ⟨hz, its, 0, hv, Heap.get?_push_size _ rfl⟩
theorem Inv.fresh (I : Inv X pins σ H s) : H s.heap.objs.size = none := I.hok.fresh (Nat.le_refl _)
theorem Inv.lstM (I : Inv X pins σ H s) (hH : H l = some (.lst xs)) : xs.length ≤ sizeLine ∧ ∃ (its : List Value) (n : Nat), Vals xs its ∧ xs.length = its.length ∧ s.heap.get? l = some { cls := .type "list", data := .seq its.toArray n } := by
  obtain ⟨z, its, n, r, e⟩ := I.hok l _ hH
  exact ⟨z, its, n, r, r.length, e⟩

theorem notLongL {n : Nat} (h : n ≤ sizeLine) : Builtin.List.listTooLong n = false := by
  unfold Builtin.List.listTooLong
  exact decide_eq_false (by omega)
end
section
variable {X : Cx}
def rAppend : V → List V → Hp → VK → Prop := fun x vs H Q => ∃ l xs y, x = .ref l ∧ vs = [y] ∧ H l = some (.lst xs) ∧ xs.length < sizeLine ∧ Q .non (upd H l (.lst (xs ++ [y])))
theorem mt_append : MtM X "list.append" rAppend := by
  intro pins s σ H x vs v us Q I rx rv h
  obtain ⟨l, xs, y, rfl, rfl, hH, hz, q⟩ := h
  cases rx
  obtain ⟨u, rfl, ru⟩ := rv.one
  obtain ⟨z, its, n, r, hl, e⟩ := I.lstM hH
  refine call_meets F.slot_list_append ⟨_, e, rfl⟩ F.entry_list_append (F.args_list_append_2 _ _) (PySem.list_append l its.toArray n u (by rw [List.size_toArray]; omega)) ⟨e, ?_⟩
  refine ⟨.non, _, I.lset (its' := its ++ [u]) hH e (by simp) (r.append (.cons ru .nil)) ?_, rfl, q⟩
  rw [List.length_append, List.length_singleton]
  omega

def rExtend : V → List V → Hp → VK → Prop := fun x vs H Q => ∃ l b xs zs, x = .ref l ∧ vs = [.ref b] ∧ H l = some (.lst xs) ∧ H b = some (.lst zs) ∧ xs.length + zs.length ≤ sizeLine ∧ Q .non (upd H l (.lst (xs ++ zs)))
theorem mt_extend : MtM X "list.extend" rExtend := by
  intro pins s σ H x vs v us Q I rx rv h
  obtain ⟨l, b, xs, zs, rfl, rfl, hH, hB, hz, q⟩ := h
  cases rx
  obtain ⟨u, rfl, ru⟩ := rv.one
  cases ru
  obtain ⟨z, its, n, r, hl, e⟩ := I.lstM hH
  obtain ⟨z2, its2, n2, r2, hl2, e2⟩ := I.lstM hB
  have hsz : its.toArray.size + its2.toArray.size ≤ sizeLine := by rw [List.size_toArray, List.size_toArray]; omega
  have hlong : ¬ (!its.toArray.isEmpty && Builtin.List.listTooLong (its.toArray.size + its2.toArray.size)) = true := by
    rw [notLongL hsz, Bool.and_false]
    exact Bool.false_ne_true
  refine call_meets F.slot_list_extend ⟨_, e, rfl⟩ F.entry_list_extend (F.args_list_extend_2 _ _)
    (AutoSeq1.list_extend_list_list_0 l its.toArray n b its2.toArray n2 hlong (by rw [List.size_toArray]; omega) (by omega)) ⟨e, e2, ?_⟩
  refine ⟨.non, _, I.lset (its' := its ++ its2) hH e (by simp) (r.append r2) ?_, rfl, q⟩
  rw [List.length_append]
  omega

end
section
variable {prog : Program} {w : World} {A : Around} {E : Value → Shared → Prop} {s : Shared}
end
section
variable {X : Cx}
end
end L2
namespace L2
open PySem PySem.Spec PyProof.Rows
section
variable {κ : Type} [DecidableEq κ]
def valV (kvs : List (κ × V)) (k : κ) : Option V := (kvs.find? fun kv => decide (kv.1 = k)).map (·.2)
/-- in its place, or at the end -/
def putK (kvs : List (κ × V)) (k : κ) (v : V) : List (κ × V) :=
  if (kvs.any fun kv => decide (kv.1 = k)) = true then kvs.map (fun kv => if kv.1 = k then (kv.1, v) else kv) else kvs ++ [(k, v)]
theorem valV_pos {p : κ × V} {r : List (κ × V)} {k : κ} (e : p.1 = k) : valV (p :: r) k = some p.2 := by simp [valV, List.find?_cons, e]
theorem valV_neg {p : κ × V} {r : List (κ × V)} {k : κ} (e : ¬ p.1 = k) : valV (p :: r) k = valV r k := by simp [valV, List.find?_cons, e]
theorem valV_any (k : κ) : ∀ kvs : List (κ × V), (kvs.any fun kv => decide (kv.1 = k)) = (valV kvs k).isSome
  | [] => rfl
  | p :: r => by
    rw [List.any_cons]
    by_cases e : p.1 = k
    · simp only [valV_pos e, decide_eq_true e, Bool.true_or, Option.isSome_some]
    · rw [valV_neg e, decide_eq_false e, Bool.false_or]; exact valV_any k r
theorem length_putK (kvs : List (κ × V)) (k : κ) (v : V) : (putK kvs k v).length ≤ kvs.length + 1 := by
  unfold putK
  split
  · rw [List.length_map]; omega
  · rw [List.length_append, List.length_cons, List.length_nil]; omega
theorem putK_new {kvs : List (κ × V)} {k : κ} (v : V) (h : valV kvs k = none) : putK kvs k v = kvs ++ [(k, v)] := by
  unfold putK
  rw [valV_any, h]
  exact if_neg (by decide)

theorem RelO.isSome_eq {o : Option V} {u : Option Value} (r : RelO o u) : o.isSome = u.isSome := by
  cases o with
  | none => cases u with
    | none => rfl
    | some _ => exact (show False from r).elim
  | some _ => cases u with
    | none => exact (show False from r).elim
    | some _ => rfl
theorem RelO.getD {o : Option V} {u : Option Value} {d : V} {d' : Value} (r : RelO o u) (rd : RelV d d') : RelV (o.getD d) (u.getD d') := by
  cases o with
  | none => cases u with
    | none => exact rd
    | some _ => exact (show False from r).elim
  | some _ => cases u with
    | none => exact (show False from r).elim
    | some _ => exact r

/-- raw tables of the same keys -/
theorem KV.val {kvs : List (κ × V)} {vs : List (κ × Value)} (r : KV kvs vs) (k : κ) : RelO (valV kvs k) (valueAt vs k) := by
  unfold KV at r
  induction r with
  | nil => exact True.intro
  | @cons p q ps qs h t ih =>
    obtain ⟨h1, h2⟩ := h
    by_cases e : p.1 = k
    · have e' : q.1 = k := h1.symm.trans e
      have b : valueAt (q :: qs) k = some q.2 := by simp [valueAt, List.find?_cons, e']
      rw [valV_pos e, b]; exact h2
    · have e' : ¬ q.1 = k := fun z => e (h1.trans z)
      have b : valueAt (q :: qs) k = valueAt qs k := by simp [valueAt, List.find?_cons, e']
      rw [valV_neg e, b]; exact ih
theorem KV.any {kvs : List (κ × V)} {vs : List (κ × Value)} (r : KV kvs vs) (k : κ) : (kvs.any fun kv => decide (kv.1 = k)) = vs.any fun kv => decide (kv.1 = k) := by
  unfold KV at r
  induction r with
  | nil => rfl
  | cons h t ih => rw [List.any_cons, List.any_cons, ih, h.1]
theorem KV.repl {kvs : List (κ × V)} {vs : List (κ × Value)} (r : KV kvs vs) (k : κ) {y : V} {u : Value} (ry : RelV y u) :
    KV (kvs.map fun kv => if kv.1 = k then (kv.1, y) else kv) (vs.map fun kv => if kv.1 = k then (kv.1, u) else kv) := by
  unfold KV at r ⊢
  induction r with
  | nil => exact .nil
  | @cons p q ps qs h t ih =>
    rw [List.map_cons, List.map_cons]
    refine .cons ?_ ih
    obtain ⟨h1, h2⟩ := h
    by_cases e : p.1 = k
    · rw [if_pos e, if_pos (h1.symm.trans e)]; exact ⟨h1, ry⟩
    · rw [if_neg e, if_neg (fun z => e (h1.trans z))]; exact ⟨h1, h2⟩
theorem KV.put {kvs : List (κ × V)} {vs : List (κ × Value)} (r : KV kvs vs) (k : κ) {y : V} {u : Value} (ry : RelV y u) : KV (putK kvs k y) (stored vs k u) := by
  unfold putK stored
  rw [r.any k]
  by_cases e : (vs.any fun kv => decide (kv.1 = k)) = true
  · rw [if_pos e, if_pos e]; exact r.repl k ry
  · rw [if_neg e, if_neg e]; exact Paired.snoc r ⟨rfl, ry⟩
theorem KV.length {kvs : List (κ × V)} {vs : List (κ × Value)} (r : KV kvs vs) : kvs.length = vs.length := Paired.length r
end
theorem kV_is {P : Program} {w : World} {k : Key} {u : Value} (r : RelV (kV k) u) : (mixKind P w).is k u = true := by
  cases k with
  | inl i => obtain ⟨t, e⟩ := (show ∃ t, u = Value.int i t from r); subst e; exact mixKind_int P w i t
  | inr x => obtain ⟨t, e⟩ := (show ∃ t, u = Value.str x t from r); subst e; exact mixKind_str P w x t
theorem items_are {P : Program} {w : World} : ∀ {ks : List Key} {us : List Value}, Vals (ks.map kV) us → ItemsAre (mixKind P w) ks us
  | [], _, r => by rw [List.map_nil] at r; cases r; exact .nil
  | k :: ks, _, r => by
    rw [List.map_cons] at r
    cases r with
    | cons h t => exact .cons (kV_is h) (items_are t)

/-- raw entries of a dict with tuple keys -/
abbrev KT (H : Hp) : List (List Key × V) → List (List Key × Addr × Value) → Prop := Paired fun p q => p.1 = q.1 ∧ H q.2.1 = some (.tup (p.1.map kV)) ∧ RelV p.2 q.2.2
theorem KT.val {H : Hp} {kvs : List (List Key × V)} {xs : List (List Key × Addr × Value)} (r : KT H kvs xs) (k : List Key) : RelO (valV kvs k) ((atKey xs k).map (·.2)) := by
  induction r with
  | nil => exact True.intro
  | @cons p q ps qs h t ih =>
    obtain ⟨h1, _, h2⟩ := h
    by_cases e : p.1 = k
    · have e' : q.1 = k := h1.symm.trans e
      have b : atKey (q :: qs) k = some q.2 := by simp [atKey, List.find?_cons, e']
      rw [valV_pos e, b]; exact h2
    · have e' : ¬ q.1 = k := fun z => e (h1.trans z)
      have b : atKey (q :: qs) k = atKey qs k := by simp [atKey, List.find?_cons, e']
      rw [valV_neg e, b]; exact ih
theorem KT.repl {H : Hp} {kvs : List (List Key × V)} {xs : List (List Key × Addr × Value)} (r : KT H kvs xs) (k : List Key) {y : V} {u : Value} (ry : RelV y u) :
    KT H (kvs.map fun kv => if kv.1 = k then (kv.1, y) else kv) (xs.map (putAt k u)) := by
  induction r with
  | nil => exact .nil
  | @cons p q ps qs h t ih =>
    rw [List.map_cons, List.map_cons]
    refine .cons ?_ ih
    obtain ⟨h1, h2, h3⟩ := h
    unfold putAt
    by_cases e : p.1 = k
    · rw [if_pos e, if_pos (h1.symm.trans e)]; exact ⟨h1, h2, ry⟩
    · rw [if_neg e, if_neg (fun z => e (h1.trans z))]; exact ⟨h1, h2, h3⟩
theorem KT.put {H : Hp} {kvs : List (List Key × V)} {xs : List (List Key × Addr × Value)} (r : KT H kvs xs) (k : List Key) {b : Addr} {y : V} {u : Value} (hb : H b = some (.tup (k.map kV))) (ry : RelV y u) :
    KT H (putK kvs k y) (storedH xs k b u) := by
  have e : (kvs.any fun kv => decide (kv.1 = k)) = (atKey xs k).isSome := by
    rw [valV_any, (r.val k).isSome_eq, Option.isSome_map]
  unfold putK storedH
  rw [e]
  by_cases q : (atKey xs k).isSome = true
  · rw [if_pos q, if_pos q]; exact r.repl k ry
  · rw [if_neg q, if_neg q]; exact Paired.snoc r ⟨rfl, hb, ry⟩
theorem KT.keeps {H H' : Hp} {kvs : List (List Key × V)} {xs : List (List Key × Addr × Value)} (r : KT H kvs xs) (ht : ∀ b ys, H b = some (.tup ys) → H' b = some (.tup ys)) : KT H' kvs xs :=
  Paired.mapP r fun _ _ z => ⟨z.1, ht _ _ z.2.1, z.2.2⟩

section
variable {P : Program} {w : World} {H : Hp} {h : Heap} {a : Addr}
theorem rd_of {u : HO} (ok : HOk P w H h) (e : Rd H a u) : ObjOk P w H h a u := e.ok ok
theorem dk_rd {kvs : List (Key × V)} (ok : HOk P w H h) (e : Rd H a (.dK kvs)) : kvs.length ≤ sizeLine ∧ (a == sysModules) = false ∧ ∃ vs, KV kvs vs ∧ h.DictOf (mixKind P w) a vs :=
  show ObjOk P w H h a (.dK kvs) from rd_of ok e
theorem dk_of {kvs : List (Key × V)} (ok : HOk P w H h) (e : H a = some (.dK kvs)) : kvs.length ≤ sizeLine ∧ (a == sysModules) = false ∧ ∃ vs, KV kvs vs ∧ h.DictOf (mixKind P w) a vs := dk_rd ok (.inl e)
/-- a tracked tuple of ints and texts is a key -/
theorem key_of {ks : List Key} (ok : HOk P w H h) (e : H a = some (.tup (ks.map kV))) : (tupleKind (mixKind P w)).is h ks a := by
  obtain ⟨_, its, r, o, h1, h2, n, h3⟩ := (show ObjOk P w H h a (.tup (ks.map kV)) from ok a _ e)
  exact ⟨o, its.toArray, n, h1, h2, h3, by simpa using items_are r⟩
theorem dt_rd {kvs : List (List Key × V)} (ok : HOk P w H h) (e : Rd H a (.dT kvs)) : kvs.length ≤ sizeLine ∧ (a == sysModules) = false ∧
    ∃ xs, KT H kvs xs ∧ h.DictOfH (tupleKind (mixKind P w)) a xs := by
  obtain ⟨z, y, xs, r, o, es, ep, h1, h2, h3, h4, h5⟩ := (show ObjOk P w H h a (.dT kvs) from rd_of ok e)
  refine ⟨z, y, xs, r, o, es, ep, h1, h2, h3, h4, fun x hx => ?_, h5⟩
  have all : ∀ {l : List (List Key × V)} {m : List (List Key × Addr × Value)}, KT H l m → ∀ x ∈ m, (tupleKind (mixKind P w)).is h x.1 x.2.1 := by
    intro l m q
    induction q with
    | nil => intro x hx; exact nomatch hx
    | @cons p q ps qs hq t ih =>
      intro x hx
      rcases List.mem_cons.mp hx with e | hx
      · subst e
        exact key_of ok (by rw [← hq.1]; exact hq.2.1)
      · exact ih x hx
  exact all r x hx
theorem dt_of {kvs : List (List Key × V)} (ok : HOk P w H h) (e : H a = some (.dT kvs)) : kvs.length ≤ sizeLine ∧ (a == sysModules) = false ∧
    ∃ xs, KT H kvs xs ∧ h.DictOfH (tupleKind (mixKind P w)) a xs := dt_rd ok (.inl e)
end
/-- what the dict at a holds at the key y -/
def DGet (H : Hp) (a : Addr) (y : V) (r : Option V) : Prop :=
  (∃ kvs k, Rd H a (.dK kvs) ∧ y = kV k ∧ r = valV kvs k) ∨ ∃ kvs k b, Rd H a (.dT kvs) ∧ y = .ref b ∧ H b = some (.tup (k.map kV)) ∧ r = valV kvs k
/-- the heap behind a[y] = v -/
def DPut (H : Hp) (a : Addr) (y v : V) (H' : Hp) : Prop :=
  (∃ kvs k, H a = some (.dK kvs) ∧ y = kV k ∧ kvs.length < sizeLine ∧ H' = upd H a (.dK (putK kvs k v))) ∨
  ∃ kvs k b, H a = some (.dT kvs) ∧ y = .ref b ∧ H b = some (.tup (k.map kV)) ∧ kvs.length < sizeLine ∧ H' = upd H a (.dT (putK kvs k v))
theorem DGet.k {H : Hp} {a : Addr} {kvs : List (Key × V)} {k : Key} (e : H a = some (.dK kvs)) : DGet H a (kV k) (valV kvs k) := .inl ⟨kvs, k, .inl e, rfl, rfl⟩
theorem DPut.k {H : Hp} {a : Addr} {kvs : List (Key × V)} {k : Key} {v : V} (e : H a = some (.dK kvs)) (hl : kvs.length < sizeLine) : DPut H a (kV k) v (upd H a (.dK (putK kvs k v))) := .inl ⟨kvs, k, e, rfl, hl, rfl⟩
section
variable {X : Cx} {pins : List (Addr × Obj)} {σ : St} {H : Hp} {s : Shared} {a : Addr} {y v : V} {u r : Value} {o : Option V} {A : Around} {E : Value → Shared → Prop}
theorem Inv.big (I : Inv X pins σ H s) : sysModules < s.heap.objs.size := by
  have h : mainGlobals < s.heap.objs.size := (I.mod.glob.keeps I.bk).lt
  exact Nat.lt_trans (by decide) h

/-- d[y], there -/
theorem d_getItem {Q : Value → Shared → Prop} (hu : A.units + 1 < cLine) (I : Inv X pins σ H s) (g : DGet H a y (some v)) (ry : RelV y u) (h : ∀ w' s', Inv X pins σ H s' → RelV v w' → Q w' s') :
    wpAny (model X.prog X.w) A (getItem (.ref a) u) Q E s := by
  rcases g with ⟨kvs, k, e, ey, l⟩ | ⟨kvs, k, b, e, ey, eb, l⟩
  · subst ey
    obtain ⟨z, hd, vs, rel, dd⟩ := dk_rd I.hok e
    obtain ⟨w', hw, rw'⟩ := RelO.some_of (v := v) (o := valueAt vs k) (by rw [l]; exact rel.val k)
    exact wpAny_getItem_of (kV_is ry) dd.mapOf hw (h w' _ (I.tok _) rw')
  · subst ey
    cases (show u = Value.ref b from ry)
    obtain ⟨z, hd, xs, rel, dd⟩ := dt_rd I.hok e
    obtain ⟨w', hw, rw'⟩ := RelO.some_of (v := v) (o := (atKey xs k).map (·.2)) (by rw [l]; exact rel.val k)
    obtain ⟨p, hp, hp2⟩ := Option.map_eq_some_iff.mp hw
    refine wpAny_getItem_heap (tupleKind_room_in1 hu) (key_of I.hok eb) dd hp ?_
    rw [hp2]
    exact h w' _ (I.tok _) rw'
/-- a dict's object is replaced -/
theorem d_write {h' : Heap} {t' : Nat} {ob : HO} (I : Inv X pins σ H s) (mu : Mut (H a)) (hs : Heap.SameBut a s.heap h') (he : ∃ q, h'.get? a = some q) (new : ObjOk X.prog X.w (upd H a ob) h' a ob) :
    Inv X pins σ (upd H a ob) { s with heap := h', toks := t' } :=
  I.write (x := a) (e := a) mu (.inl rfl) (fun b q hb z => (hs.2 b hb).trans z) he new
theorem dk_new {P : Program} {w : World} {H' : Hp} {h' : Heap} {kvs : List (Key × V)} {vs : List (Key × Value)} (z : kvs.length ≤ sizeLine) (hd : (a == sysModules) = false) (rel : KV kvs vs) (dd : h'.DictOf (mixKind P w) a vs) :
    ObjOk P w H' h' a (.dK kvs) := ⟨z, hd, vs, rel, dd⟩
/-- d[y] = v -/
theorem d_setItem {H' : Hp} {Q : Unit → Shared → Prop} (hu : A.units + 1 < cLine) (I : Inv X pins σ H s) (g : DPut H a y v H') (ry : RelV y u) (rv : RelV v r) (h : ∀ s', Inv X pins σ H' s' → Q () s') :
    wpAny (model X.prog X.w) A (setItem (.ref a) u r) Q E s := by
  rcases g with ⟨kvs, k, e, ey, l, eH⟩ | ⟨kvs, k, b, e, ey, eb, l, eH⟩
  · subst ey eH
    obtain ⟨z, hd, vs, rel, dd⟩ := dk_of I.hok e
    have hz : vs.length ≤ sizeLine := by rw [← rel.length]; exact z
    have hl : (putK kvs k v).length ≤ sizeLine := by have := length_putK kvs k v; omega
    refine wpAny_setItem_pairs (hsz := hz) (kV_is ry) dd fun h' dd' hs => h _ ?_
    have he : ∃ q, h'.get? a = some q := let ⟨q, _, _, hq, _⟩ := dd'; ⟨q, hq⟩
    exact d_write I (by rw [e]; exact True.intro) hs he (dk_new hl hd (rel.put k rv) dd')
  · subst ey eH
    cases (show u = Value.ref b from ry)
    obtain ⟨z, hd, xs, rel, dd⟩ := dt_of I.hok e
    have hz : xs.length ≤ sizeLine := by rw [← Paired.length rel]; exact z
    have hl : (putK kvs k v).length ≤ sizeLine := by have := length_putK kvs k v; omega
    refine wpAny_setItem_heap (hsz := hz) (tupleKind_room_in1 hu) (key_of I.hok eb) dd fun h' dd' hs => h _ ?_
    obtain ⟨q, es, ep, hq, h2, h3, h4, _, h5⟩ := dd'
    refine d_write I (by rw [e]; exact True.intro) hs ⟨q, hq⟩ ⟨hl, hd, _, (rel.put k eb rv).keeps fun c ys ec => ?_, q, es, ep, hq, h2, h3, h4, h5⟩
    rw [upd_ne (ne_of ec e (fun z => nomatch z))]
    exact ec
end
section
variable {X : Cx} {pins : List (Addr × Obj)} {σ : St} {H : Hp} {s : Shared} {a : Addr} {kvs : List (Key × V)} {k : Key} {u : Value} {A : Around} {E : Value → Shared → Prop}
end
/-- the element of a subscription, not a slice -/
def NoSl (i : Expr) : Prop := ∀ ov iv, subscripted i false ov iv = operate [ov, iv] (getItem ov iv)
theorem subD_of {prog : Program} {w : World} {A : Around} {E : Value → Shared → Prop} {s : Shared} {env : Env} {value slice : Expr} {pos : Pos} {T id : String} {Q : Value → Shared → Prop}
    (hl : typeLookup (.type T) "__getitem__" = pure (some (.builtin id))) (hs : NoSl slice)
    (h : wpAny (model prog w) A (eval value env) (fun o s₁ => wpAny (model prog w) A (eval slice env) (fun i s₂ => s₂.TypeIs o T ∧ wpAny (model prog w) A (getItem o i) Q E s₂) E s₁) E s) :
    wpAny (model prog w) A (eval (.Subscript value slice pos) env) Q E s := by
  refine Subscript_ (wpAny_mono h (fun o s₁ h₁ => wpAny_mono h₁ (fun i s₂ h₂ => ?_) fun _ _ x => x) fun _ _ x => x)
  obtain ⟨hT, h₂⟩ := h₂
  unfold subscriptTail
  refine wpAny_bind ?_
  rw [getitemInPython_of_ne hT.not_modules]
  refine wpAny_bind (wpAny_specialOf hT hl ?_)
  have fin : wpAny (model prog w) A (subscripted slice false o i) (fun r s₃ => wpAny (model prog w) A (letTemporaryGo value o r >>= fun _ => pure r) Q E s₃) E s₂ := by
    rw [hs o i]
    exact wpAny_operating (wpAny_mono h₂ (fun r s₃ h₃ => wpAny_bind (wpAny_letTemporaryGo (wpAny_pure h₃))) fun _ _ x => x)
  first
    | exact wpAny_pure (wpAny_bind fin)
    | exact wpAny_bind (wpAny_pure (wpAny_bind fin))
    | exact wpAny_bind fin

theorem dict_typeIs {X : Cx} {pins : List (Addr × Obj)} {σ : St} {H : Hp} {s : Shared} {a : Addr} {y : V} {o : Option V} (I : Inv X pins σ H s) (g : DGet H a y o) : s.TypeIs (.ref a) "dict" := by
  rcases g with ⟨kvs, k, e, _, _⟩ | ⟨kvs, k, b, e, _, _, _⟩
  · obtain ⟨_, _, vs, _, dd⟩ := dk_rd I.hok e
    exact dd.typeIs
  · obtain ⟨_, _, xs, _, dd⟩ := dt_rd I.hok e
    exact dd.typeIs
/-- d[y] -/
def tDGet (td ty : TE) : TE := fun σ H Q => td σ H fun x H1 => ty σ H1 fun y H2 => ∃ a v, x = .ref a ∧ DGet H2 a y (some v) ∧ Q v H2
/-- d[y] = v -/
def sDPut (td ty tv : TE) : TS := fun D σ H => tv σ H fun v H1 => td σ H1 fun x H2 => ty σ H2 fun y H3 => ∃ a H4, x = .ref a ∧ DPut H3 a y v H4 ∧ D.nx σ H4
section
variable {X : Cx} {o i e value : Expr} {pos pos' tpos : Pos} {td ty tv : TE}
theorem pe_dget (hu : X.A.units + 1 < cLine) (ho : PE X o td) (hi : PE X i ty) (hs : NoSl i) : PE X (.Subscript o i pos) (tDGet td ty) := by
  intro pins s σ H Q I h
  refine subD_of PySem.F.slot_dict_getitem.lookup hs (thn (ho pins s σ H _ I h) fun u s1 ⟨x, H1, I1, rx, q1⟩ => thn (hi pins s1 σ H1 _ I1 q1) fun iv s2 ⟨y, H2, I2, ry, a, v, ex, g, q2⟩ => ?_)
  subst ex
  obtain rfl : u = Value.ref a := rx
  exact ⟨dict_typeIs I2 g, d_getItem hu I2 g ry fun w' s3 I3 rw' => ⟨v, H2, I3, rw', q2⟩⟩
theorem ps_dput (hu : X.A.units + 1 < cLine) (ho : PE X o td) (hi : PE X i ty) (hv : PE X value tv) (hs : swapsWith value (some (.Subscript o i pos')) pos.line X.env = pure false) :
    PS X (.Assign [.Subscript o i pos'] value pos) (sDPut td ty tv) := by
  intro pins s σ H D I h
  refine wpAny_Assign_Subscript (thn (hv pins s σ H _ I h) fun r s1 ⟨v, H1, I1, rv, q1⟩ => thn (ho pins s1 σ H1 _ I1 q1) fun u s2 ⟨x, H2, I2, rx, q2⟩ => thn (hi pins s2 σ H2 _ I2 q2) fun iv s3 ⟨y, H3, I3, ry, a, H4, ex, g, q3⟩ => ?_) hs
  subst ex
  obtain rfl : u = Value.ref a := rx
  exact d_setItem hu I3 g ry rv fun s4 I4 => ⟨σ, H4, I4, q3⟩
end
theorem dk_empty {P : Program} {w : World} {H : Hp} (h : Heap) (hb : sysModules < h.objs.size) : ObjOk P w H (h.push { cls := .type "dict", data := .dict #[] }) h.objs.size (.dK []) :=
  ⟨Nat.zero_le _, beq_eq_false_iff_ne.mpr (Ne.symm (Nat.ne_of_lt hb)), [], .nil, Heap.DictOf.new h⟩
theorem dt_empty {P : Program} {w : World} {H : Hp} (h : Heap) (hb : sysModules < h.objs.size) : ObjOk P w H (h.push { cls := .type "dict", data := .dict #[] }) h.objs.size (.dT []) :=
  ⟨Nat.zero_le _, beq_eq_false_iff_ne.mpr (Ne.symm (Nat.ne_of_lt hb)), [], .nil, _, #[], 0, Heap.get?_push_size _ rfl, ⟨rfl, rfl, rfl⟩, rfl, rfl, List.nodup_nil⟩
/-- {}, to be a dict of the kind that is wanted -/
def tDNewK : TE := fun _ H Q => ∀ p, H p = none → Q (.ref p) (upd H p (.dK []))
def tDNewT : TE := fun _ H Q => ∀ p, H p = none → Q (.ref p) (upd H p (.dT []))
section
variable {X : Cx} {pos : Pos}
theorem pe_dnewK : PE X (.Dict [] [] pos) tDNewK := fun pins s σ H Q I h =>
  wpAny_Dict_empty ⟨.ref s.heap.objs.size, _, I.laid (a := s.heap.objs.size) (o := .dK []) (t' := s.toks) (fun _ _ q => Heap.get?_push_of_some _ q) (Nat.le_refl _) (dk_empty s.heap I.big), rfl, h _ (I.hok.fresh (Nat.le_refl _))⟩
theorem pe_dnewT : PE X (.Dict [] [] pos) tDNewT := fun pins s σ H Q I h =>
  wpAny_Dict_empty ⟨.ref s.heap.objs.size, _, I.laid (a := s.heap.objs.size) (o := .dT []) (t' := s.toks) (fun _ _ q => Heap.get?_push_of_some _ q) (Nat.le_refl _) (dt_empty s.heap I.big), rfl, h _ (I.hok.fresh (Nat.le_refl _))⟩
end
/-- the pairs of a display, from the left -/
def tPairs : List (TE × TE) → St → Hp → (List (V × V) → Hp → Prop) → Prop
  | [], _, H, Q => Q [] H
  | (tk, tv) :: r, σ, H, Q => tk σ H fun x H1 => tv σ H1 fun y H2 => tPairs r σ H2 fun ps H3 => Q ((x, y) :: ps) H3
abbrev VV : List (V × V) → List (Value × Value) → Prop := Paired fun p q => RelV p.1 q.1 ∧ RelV p.2 q.2
def PPs (X : Cx) (pos : Pos) (keys : List (Option Expr)) (values : List Expr) (trs : List (TE × TE)) : Prop :=
  ∀ (pins : List (Addr × Obj)) (s : Shared) (σ : St) (H : Hp) (Q : List (V × V) → Hp → Prop), Inv X pins σ H s → tPairs trs σ H Q →
    wpAny (model X.prog X.w) X.A (evalPairs (pairTrees keys values X.env pos)) (fun vs s' => ∃ ps H', Inv X pins σ H' s' ∧ VV ps vs ∧ Q ps H') X.xe s
theorem pps_nil {X : Cx} {pos : Pos} : PPs X pos [] [] [] := fun pins s σ H Q I h => pairTrees_nil_walk ⟨[], H, I, .nil, h⟩
theorem pps_cons {X : Cx} {pos : Pos} {k v : Expr} {ks : List (Option Expr)} {vs : List Expr} {tk tv : TE} {trs : List (TE × TE)} (hk : PE X k tk) (hv : PE X v tv) (hr : PPs X pos ks vs trs) :
    PPs X pos (some k :: ks) (v :: vs) ((tk, tv) :: trs) := fun pins s σ H Q I h =>
  pairTrees_cons_walk (thn (hk pins s σ H _ I h) fun u s1 ⟨x, H1, I1, rx, q1⟩ => thn (hv pins s1 σ H1 _ I1 q1) fun w2 s2 ⟨y, H2, I2, ry, q2⟩ =>
    thn (hr pins s2 σ H2 _ I2 q2) fun ws s3 ⟨ps, H3, I3, rel, q3⟩ => ⟨(x, y) :: ps, H3, I3, .cons ⟨rx, ry⟩ rel, q3⟩)

def mergeK (kvs more : List (Key × V)) : List (Key × V) := more.foldl (fun acc kv => putK acc kv.1 kv.2) kvs
theorem KV.merge : ∀ {more : List (Key × V)} {rs : List (Key × Value)} {kvs : List (Key × V)} {vs : List (Key × Value)}, KV more rs → KV kvs vs → KV (mergeK kvs more) (merged vs rs) := by
  intro more rs kvs vs r
  unfold KV at r
  induction r generalizing kvs vs with
  | nil => intro q; exact q
  | @cons p q ps qs h t ih =>
    intro r0
    have e : KV (putK kvs p.1 p.2) (stored vs q.1 q.2) := by
      have := r0.put p.1 h.2
      rw [← h.1]; exact this
    exact ih e
theorem length_mergeK : ∀ (more kvs : List (Key × V)), (mergeK kvs more).length ≤ kvs.length + more.length
  | [], kvs => by show kvs.length ≤ kvs.length + 0; omega
  | p :: r, kvs => by
    have h1 := length_mergeK r (putK kvs p.1 p.2)
    have h2 := length_putK kvs p.1 p.2
    show (mergeK (putK kvs p.1 p.2) r).length ≤ _
    rw [List.length_cons]; omega
theorem carries_of {P : Program} {w : World} : ∀ {kvs : List (Key × V)} {ws : List (Value × Value)}, VV (kvs.map fun kv => (kV kv.1, kv.2)) ws → ∃ rs, Carries (mixKind P w) ws rs ∧ KV kvs rs
  | [], _, r => by rw [List.map_nil] at r; cases r; exact ⟨[], True.intro, .nil⟩
  | p :: kvs, _, r => by
    rw [List.map_cons] at r
    cases r with
    | @cons a b as bs h t =>
      obtain ⟨rs, c, q⟩ := carries_of (P := P) (w := w) t
      obtain ⟨b1, b2⟩ := b
      exact ⟨(p.1, b2) :: rs, ⟨kV_is h.1, rfl, c⟩, .cons ⟨rfl, h.2⟩ q⟩
/-- {k: v, ..} with keys ints and texts; the new dict stands empty while the pairs are made -/
def tDisp (trs : List (TE × TE)) : TE := fun σ H Q => ∀ p, H p = none → tPairs trs σ (upd H p (.dK [])) fun ps H2 => H2 p = some (.dK []) ∧ ∃ kvs : List (Key × V), ps = kvs.map (fun kv => (kV kv.1, kv.2)) ∧ kvs.length ≤ 15 ∧ Q (.ref p) (upd H2 p (.dK (mergeK [] kvs)))
theorem pe_disp {X : Cx} {pos : Pos} {keys : List (Option Expr)} {values : List Expr} {trs : List (TE × TE)} (h : PPs X pos keys values trs) (hall : keys.all (·.isSome) = true) (hl : keys.length = values.length) (h0 : keys ≠ [])
    (h15 : keys.length ≤ 15) : PE X (.Dict keys values pos) (tDisp trs) := by
  intro pins s σ H Q I q
  have hn := I.hok.fresh (Nat.le_refl s.heap.objs.size)
  have I1 := I.laid (a := s.heap.objs.size) (o := .dK []) (h' := s.heap.push { cls := .type "dict", data := .dict #[] }) (t' := s.toks) (fun _ _ q => Heap.get?_push_of_some _ q) (Nat.le_refl _) (dk_empty s.heap I.big)
  refine wpAny_Dict_walk (knd := mixKind X.prog X.w) hall hl h0 h15 (thn (h pins _ σ _ _ I1 (q _ hn)) fun ws s2 ⟨ps, H2, I2, rel, e, kvs, ep, lk, q2⟩ => ?_)
  subst ep
  obtain ⟨rs, c, rk⟩ := carries_of (P := X.prog) (w := X.w) rel
  obtain ⟨z, hd, vs0, r0, dd⟩ := dk_of I2.hok e
  cases r0
  refine ⟨rs, c, dd, fun h' dd' hs => ⟨.ref s.heap.objs.size, _, ?_, rfl, q2⟩⟩
  have hz : (mergeK [] kvs).length ≤ sizeLine := by
    have h1 := length_mergeK kvs []
    rw [List.length_nil] at h1
    rw [sizeLine_eq]; omega
  have he : ∃ q, h'.get? s.heap.objs.size = some q := let ⟨q, _, _, hq, _⟩ := dd'; ⟨q, hq⟩
  exact d_write I2 (by rw [e]; exact True.intro) hs he (dk_new hz hd (rk.merge .nil) dd')


structure M2 (X : Cx) (o : Expr) (m : Str) (apos : Pos) (e f : Expr) (cpos : Pos) : Prop where
  base : attributeBase o m X.env (eval o X.env) = eval o X.env
  few : ((backTo cpos (starEach [e, f] X.env)).all (fun x => !x.1) && (backToKw cpos (keywordEach [] X.env)).all (fun x => x.1.isSome)
    && decide (([e, f] : List Expr).length + ([] : List Keyword).length + (if ([] : List Keyword).isEmpty then 0 else 1) < 30)) = true
  line : (apos.endLine == cpos.line) = true
  trees : backTo cpos (starEach [e, f] X.env) = [(false, eval e X.env), (false, eval f X.env)]

/-- a is a dict, whatever its keys -/
def IsD (H : Hp) (a : Addr) : Prop := (∃ kvs, Rd H a (.dK kvs)) ∨ ∃ kvs, Rd H a (.dT kvs)
theorem isD_at {X : Cx} {pins : List (Addr × Obj)} {σ : St} {H : Hp} {s : Shared} {a : Addr} (I : Inv X pins σ H s) (d : IsD H a) :
    s.TypeIs (.ref a) "dict" ∧ (∀ b, Value.ref a = .ref b → ∃ ob, s.heap.get? b = some ob ∧ ob.dict = none) ∧ (a == sysModules) = false := by
  rcases d with ⟨kvs, e⟩ | ⟨kvs, e⟩
  · obtain ⟨_, hd, vs, _, dd⟩ := dk_rd I.hok e
    refine ⟨dd.typeIs, fun b q => ?_, hd⟩
    cases q
    obtain ⟨ob, _, _, h1, h2, _⟩ := dd
    exact ⟨ob, h1, h2.2.1⟩
  · obtain ⟨_, hd, xs, _, dd⟩ := dt_rd I.hok e
    refine ⟨dd.typeIs, fun b q => ?_, hd⟩
    cases q
    obtain ⟨ob, _, _, h1, h2, _⟩ := dd
    exact ⟨ob, h1, h2.2.1⟩

section
variable {X : Cx} {pins : List (Addr × Obj)} {σ : St} {H : Hp} {s : Shared} {a : Addr} {y d : V} {u r : Value} {o : Option V} {A : Around} {E : Value → Shared → Prop}
/-- d.get(y, x) -/
theorem d_get2 {Q : Value → Shared → Prop} (hu : A.units + 1 < cLine) (I : Inv X pins σ H s) (g : DGet H a y o) (ry : RelV y u) (rd : RelV d r) (h : ∀ w' s', Inv X pins σ H s' → RelV (o.getD d) w' → Q w' s') :
    wpAny (model X.prog X.w) A (call (.builtin "dict.get") [.ref a, u, r]) Q E s := by
  rcases g with ⟨kvs, k, e, ey, l⟩ | ⟨kvs, k, b, e, ey, eb, l⟩
  · subst ey
    obtain ⟨z, hd, vs, rel, dd⟩ := dk_rd I.hok e
    refine call_meetsIn PySem.F.slot_dict_get dd.typeIs PySem.F.entry_dict_get (PySem.F.args_dict_get_3 _ _ _) (meets_dict_get_default (mixKind X.prog X.w) a (kV_is ry) hd r) ⟨_, dd.mapOf, h _ _ (I.tok _) ?_⟩
    rw [l]
    exact (rel.val k).getD rd
  · subst ey
    cases (show u = Value.ref b from ry)
    obtain ⟨z, hd, xs, rel, dd⟩ := dt_rd I.hok e
    refine call_meetsIn PySem.F.slot_dict_get dd.typeIs PySem.F.entry_dict_get (PySem.F.args_dict_get_3 _ _ _) (meetsH_dict_get_default (tupleKind (mixKind X.prog X.w)) a b hd r) ⟨tupleKind_room_in1 hu, k, xs, key_of I.hok eb, dd, h _ _ (I.tok _) ?_⟩
    rw [l]
    exact (rel.val k).getD rd
end
def tDGet2 (td ty tx : TE) : TE := fun σ H Q => td σ H fun x H1 => ∃ a, x = .ref a ∧ IsD H1 a ∧ ty σ H1 fun y H2 => tx σ H2 fun z H3 => ∃ o, DGet H3 a y o ∧ Q (o.getD z) H3
section
variable {X : Cx} {o e f : Expr} {apos cpos : Pos} {td ty tx : TE}
theorem pe_dget2 (hu : X.A.units + 1 < cLine) (ho : PE X o td) (he : PE X e ty) (hf : PE X f tx) (m : M2 X o "get" apos e f cpos) : PE X (.Call (.Attribute o "get" apos) [e, f] [] cpos) (tDGet2 td ty tx) := by
  intro pins s σ H Q I h
  refine wpAny_Call_method m.base m.few m.line PySem.F.plainAttrs_dict PySem.F.slot_dict_get PySem.F.type_dict_get (thn (ho pins s σ H _ I h) fun u s1 ⟨x, H1, I1, rx, a, ex, d, q1⟩ => ?_)
  subst ex
  obtain rfl : u = Value.ref a := rx
  obtain ⟨t1, t2, _⟩ := isD_at I1 d
  refine ⟨t1, t2, ?_⟩
  rw [m.trees]
  refine Calls.callWith_builtin rfl (Calls.evalArgs_plain (Calls.spliced_cons (thn (he pins s1 σ H1 _ I1 q1) fun iv s2 ⟨y, H2, I2, ry, q2⟩ =>
    Calls.spliced_cons (thn (hf pins s2 σ H2 _ I2 q2) fun fv s3 ⟨z, H3, I3, rz, ov, g, q3⟩ => Calls.spliced_nil ?_))))
  exact d_get2 hu I3 g ry rz fun w' s4 I4 rw' => ⟨_, H3, I4, rw', q3⟩
end
section
variable {X : Cx} {pins : List (Addr × Obj)} {σ : St} {H : Hp} {s : Shared} {a : Addr} {kvs : List (Key × V)} {A : Around} {E : Value → Shared → Prop}
end
section
variable {X : Cx} {pins : List (Addr × Obj)} {σ : St} {H : Hp} {s : Shared} {a : Addr} {y : V} {u : Value} {A : Around} {E : Value → Shared → Prop}
end
end L2
namespace Att
open PySem PySem.W PySem.Calls PyProof.Rows
theorem ints_of_wellAll {P : Params} {h : Heap} : ∀ (ns : List Int) (vs : List Value), WellAll P h vs (ns.map WData.int) → IntsAre vs ns := by
  intro ns
  induction ns with
  | nil =>
    intro vs w
    rw [List.map_nil] at w
    cases w
    exact .nil
  | cons n ns ih =>
    intro vs w
    rw [List.map_cons] at w
    cases w with
    | cons a b =>
      cases a
      exact .cons _ _ (ih _ b)

theorem script_of {l : OpenLaw} {n : Nat} (hn : l.most = some n) {P : Params} {h : Heap} {args : List WData} {vals : List Value}
    (hpre : l.row.toRowW.claim.pre args = true) (hwl : WellAll P h vals args) :
    ∃ a vs ns, vals = [Value.ref a] ∧ args = [WData.list (ns.map WData.int)] ∧ h.get? a = some { cls := .type "list", data := .seq vs.toArray } ∧ IntsAre vs ns ∧ ns.length ≤ n := by
  have hsh : WShape.hasAll [] args [.list .int] = true := (pre_splitW hpre).1
  have hc : l.pre.holds [] { args := args } = true := (pre_splitW hpre).2
  obtain ⟨d, r, rfl, h1, h2⟩ := hasAllW_cons hsh
  obtain rfl := hasAllW_nil h2
  obtain ⟨xs, rfl, h3⟩ := hasW_list h1
  obtain ⟨ns, rfl⟩ := items_int h3
  have hlen : ns.length ≤ n := by
    unfold OpenLaw.pre at hc
    have h4 : (WTm.not (.lt (.lit (.int (n : Int))) (.len (.arg 0)))).holds [] { args := [.list (ns.map .int)] } = true := by
      have h4 := (holds_andW hc).1
      rw [hn] at h4
      exact h4
    have h5 := condW_of h4 (w_not (w_lt w_lit (w_len_list (w_arg rfl))))
    rw [List.length_map] at h5
    refine Nat.le_of_not_lt fun q => ?_
    have q' : (n : Int) < ((ns.length : Nat) : Int) := by omega
    first
      | (rw [decide_eq_true q'] at h5; exact absurd h5 (by decide))
      | (simp at h5; omega)
  cases hwl with
  | cons w1 w2 =>
    cases w2
    cases w1 with
    | list ho hall => exact ⟨_, _, ns, rfl, rfl, ho, ints_of_wellAll ns _ hall, hlen⟩

theorem post_true (l : OpenLaw) (args : List WData) : l.row.toRowW.claim.post args (.bool true) args = true :=
  postW_of (r := l.row.toRowW) (X := (true == true))
    (show WShape.has [] (.bool true) .bool = true by first | rfl | decide | simp [WShape.has, WShape.arms, WShape.armsAll])
    (show (WTm.eq .res (.lit (.bool true))).value [] { args := args, res := some (.bool true), after := args } = some (.bool (true == true)) from w_eq_bool (w_res rfl) w_lit) rfl

/-- the same from a codeAny of the CALL (for a layer whose function contracts speak of calls) -/
theorem attach_call {l : OpenLaw} {n : Nat} {q : Program} {loose : List Str} {XP : (Str → Option Value) → Heap → Prop} {YP : World → Heap → Prop} {d : DefRec}
    (hn : l.most = some n) (hdf : d.params.defaults = [])
    (call : ∀ (w : World) (s₀ s₁ : Shared) (mg mb : Str → Option Value) (fa : Addr) (o : Obj) (pm cd doc : Value) (a : Addr) (vs : List Value) (ns : List Int),
      Ground q loose [] XP w s₀ mg mb s₁.heap → YP w s₁.heap →
      s₁.heap.get? fa = some o → o.data = .func (docDef d.name d.params d.body d.scope pm cd doc) → s₁.heap.CodeRec cd d.name → mg d.name = some (.ref fa) →
      s₁.heap.get? a = some { cls := .type "list", data := .seq vs.toArray } → IntsAre vs ns → ns.length ≤ n → s₁.gens = #[] →
      codeAny (model l.prog w) callerA (.call (.ref fa) ⟨[.ref a], []⟩) (fun r s' => r = .ok (.ret (.bool true)) ∧ OldK s₁.heap s'.heap ∧ s'.os = s₁.os ∧ AllBare s'.gens) s₁) :
    WalkO q loose XP YP l.row.toRowW d [] (fun f vs => PySem.call f vs) := by
  intro w s₀ s₁ mg mb G Y fa o pm cd doc dV kV ho hd hcd hD hmg hg args vals as hpre hlay hrd hwl hlo
  obtain rfl : dV = .none := Dflts.none hD hdf
  obtain rfl : kV = .none := Dflts.noKw hD
  obtain ⟨a, vs, ns, rfl, rfl, hobj, hints, hlen⟩ := script_of hn hpre hwl
  refine enter_call (codeAny_mono (call w s₀ s₁ mg mb fa o pm cd doc a vs ns G Y ho (fd_plain hd) hcd hmg hobj hints hlen hg) fun r s' hq => ?_)
  obtain ⟨rfl, h2, h3, h4⟩ := hq
  exact ⟨.inl ⟨.bool true, .bool true, [], rfl, fun _ => rfl, .bool true, post_true l _, fun _ => ⟨List.Pairwise.nil, fun _ hm => (nomatch hm)⟩⟩, h2, h3, h4⟩

section
variable {prog : Program} {w : World} {A : Around} {E : Value → Shared → Prop} {s : Shared} {K : Frag}
end
end Att
namespace L2
open PySem PySem.Spec PyProof.Rows
theorem vals_ints : ∀ {vs : List Value} {ns : List Int}, IntsAre vs ns → Vals (ns.map V.int) vs
  | _, _, .nil => .nil
  | _, _, .cons n t h => .cons ⟨t, rfl⟩ (vals_ints h)

/-- nothing is tracked but the script, known to the object (or it is an object of the module) -/
def Only (H : Hp) : Prop := ∀ b, H b = none ∨ ∃ o xs, H b = some (.frz o (.lst xs))

/-- THE HEAD: the law's promise, at the heap behind the top. F, the promise of the law's def, may use that base is part of the heap (so K.In base, base.Ns mainGlobals mg stand in Mod) -/
theorem law_call {P : Program} {w : World} {K : PySem.W.Frag} {mg mb : Str → Option Value} {CX : CXT} {k : Nat} {fa a : Addr} {fd : FuncData} {x : Str} {sp : Sp} {s₁ : Shared} {vs : List Value} {ns : List Int}
    (KX : K.In s₁.heap) (hns : s₁.heap.Ns mainGlobals mg) (hb : s₁.heap.Ns builtinsNs mb) (hbb : ∀ x : Str, x ≠ "__name__" → mb x = bootBuiltins x) (hlim : s₁.heap.NoLimit) (hg : s₁.gens = #[])
    (ha : s₁.heap.get? a = some { cls := .type "list", data := .seq vs.toArray }) (hi : IntsAre vs ns) (hl : ns.length ≤ sizeLine) (hr : Room k callerA)
    (F : ∀ base : Heap, K.In base → base.Ns mainGlobals mg → FnOk P w K mg base CX k fa fd [x] sp) (hbind : ∀ (s : Shared) (u : Value), BindsTo s fd ⟨[u], []⟩ [(x, u)])
    (hsp : ∀ H : Hp, Only H → SqL K H a (ns.map V.int) → sp [.ref a] H (fun v _ => v = .bl true) fun _ _ _ => False)
    (hCX : ∀ H e s', CX [] H s₁ (fun _ _ _ => False) e s' → False) :
    codeAny (model P w) callerA (.call (.ref fa) ⟨[.ref a], []⟩) (fun r s' => r = .ok (.ret (.bool true)) ∧ OldK s₁.heap s'.heap ∧ s'.os = s₁.os ∧ AllBare s'.gens) s₁ := by
  have rv := vals_ints hi
  have lenV := hi.length
  -- from an abstract heap in which nothing but the script may be tracked
  have core : ∀ H : Hp, Only H → SqL K H a (ns.map V.int) → HOk P w H s₁.heap → (∀ b, H b ≠ none → b = a) → (H a ≠ none → K.lookup a = none) →
      codeAny (model P w) callerA (.call (.ref fa) ⟨[.ref a], []⟩) (fun r s' => r = .ok (.ret (.bool true)) ∧ OldK s₁.heap s'.heap ∧ s'.os = s₁.os ∧ AllBare s'.gens) s₁ := by
    intro H hO hS hok hA hK
    have base_of : ∀ {b : Addr} {o : Obj}, s₁.heap.get? b = some o → H b = none → (hidT s₁.heap H).get? b = some o := fun e n => hidT_get e n
    have noA : ∀ {b : Addr} {o : Obj} {es : Array DictEntry} {ep : Nat}, s₁.heap.get? b = some o → o.data = .dict es ep → H b = none := fun {b o es ep} e d => by
      cases q : H b with
      | none => rfl
      | some u =>
        have e' : b = a := hA b (by rw [q]; simp)
        subst e'
        rw [ha] at e; cases e
        have d' : Data.seq vs.toArray _ = Data.dict es ep := d
        cases d'
    have nsK : ∀ {b : Addr} {m : Str → Option Value}, s₁.heap.Ns b m → (hidT s₁.heap H).Ns b m := fun {b m} ⟨o, es, ep, e, d, r⟩ => ⟨o, es, ep, base_of e (noA e d), d, r⟩
    have hKb : K.In (hidT s₁.heap H) := fun b o e => base_of (KX b o e) (by
      cases q : H b with
      | none => rfl
      | some u =>
        have e' : b = a := hA b (by rw [q]; simp)
        subst e'
        rw [hK (by rw [q]; simp)] at e; cases e)
    have hM : Mod K mg (hidT s₁.heap H) := ⟨hKb, nsK hns, ⟨mb, nsK hb, hbb⟩, let ⟨mc, h1, h2⟩ := hlim; ⟨mc, nsK h1, h2⟩⟩
    have e0 : Env0 P w K mg (hidT s₁.heap H) callerA [] s₁ H := ⟨rfl, hM, fun b o e => of_hidT e, Nat.le_of_eq (hidT_size _ _), trivial, fun b hb => absurd (show b ∈ ([] : List Addr) from hb) (by simp), hok, .of_eq hg⟩
    refine codeAny_mono ((F _ hKb (nsK hns)).run callerA [] s₁ H ⟨[.ref a], []⟩ [.ref a] [.ref a] _ _ hr e0 (hbind s₁ (.ref a)) (.cons rfl .nil) (hsp H hO hS)) fun r s' h => ?_
    cases r with
    | error e => exact (hCX H e s' h).elim
    | ok fl =>
      cases fl with
      | next => exact False.elim h
      | brk => exact False.elim h
      | cont => exact False.elim h
      | ret u =>
        obtain ⟨v, H', os, bare, un, hok', r', q⟩ := h
        have q' : v = .bl true := q
        subst q'
        obtain rfl : u = Value.bool true := r'
        refine ⟨rfl, OldK.of_keep fun b o e => ?_, os, bare⟩
        cases q : H b with
        | none => exact un.keep b o e q (by intro z; exact absurd (show b ∈ ([] : List Addr) from z) (by simp)) (by simp)
        | some u =>
          rcases hO b with z | ⟨ob, xs, z⟩
          · rw [q] at z; cases z
          · have z2 := un.frzs b ob _ z
            obtain ⟨e1, _⟩ := hok b _ z
            obtain ⟨e2, _⟩ := hok' b _ z2
            rw [e] at e1; cases e1
            exact e2
  cases hk : K.lookup a with
  | some o =>
    -- the script is one of the module's own objects
    have e := KX a o hk
    rw [ha] at e
    cases e
    refine core (fun _ => none) (fun _ => .inl rfl) (.inr ⟨_, vs.toArray, _, hk, rfl, rfl, rfl, by rw [List.size_toArray, lenV]; exact hl, by simpa using rv⟩) (fun b u z => by have z' : (none : Option HO) = some u := z; cases z') (fun b z => absurd rfl z) fun z => absurd rfl z
  | none =>
    refine core (fun b => if b = a then some (.frz { cls := .type "list", data := .seq vs.toArray } (.lst (ns.map V.int))) else none) (fun b => ?_) (.inl (.inr ⟨{ cls := .type "list", data := .seq vs.toArray }, if_pos rfl⟩)) (fun b u z => ?_) (fun b z => ?_) fun _ => hk
    · by_cases hb : b = a
      · exact .inr ⟨_, _, if_pos hb⟩
      · exact .inl (if_neg hb)
    · by_cases hb : b = a
      · have z' := (if_pos hb).symm.trans z
        cases z'
        subst hb
        exact ⟨ha, by rw [List.length_map]; exact hl, vs, _, rv, ha⟩
      · have z' := (if_neg hb).symm.trans z
        cases z'
    · by_cases hb : b = a
      · exact hb
      · exact absurd (if_neg hb) z
end L2
namespace L2
open PySem PySem.Spec PyProof.Rows
/-- the goal that k_head leaves (case hc), from the law's promise. F gives the function object fd (K's own) once, then the promise over every base -/
theorem walk_of {l : PySem.W.OpenLaw} {n k : Nat} {q : Program} {loose : List Str} {XP : (Str → Option Value) → Heap → Prop} {YP : World → Heap → Prop} {d : DefRec} {K : Params → PySem.W.Frag} {CX : World → CXT} {sp : World → Sp} {x : Str}
    (hn : l.most = some n) (hn2 : n ≤ sizeLine) (hdf : d.params.defaults = []) (hr : Room k callerA)
    (hY : ∀ (w : World) (h : Heap), YP w h → (K w.params).In h)
    (F : ∀ (w : World) (mg : Str → Option Value) (fa : Addr) (h : Heap), (K w.params).In h → h.Ns mainGlobals mg → mg d.name = some (.ref fa) →
      ∃ fd : FuncData, (∀ (s : Shared) (u : Value), BindsTo s fd ⟨[u], []⟩ [(x, u)]) ∧
        ∀ base : Heap, (K w.params).In base → base.Ns mainGlobals mg → FnOk l.prog w (K w.params) mg base (CX w) k fa fd [x] (sp w))
    (hsp : ∀ (w : World) (H : Hp) (a : Addr) (ns : List Int), ns.length ≤ n → Only H → SqL (K w.params) H a (ns.map V.int) → sp w [.ref a] H (fun v _ => v = .bl true) fun _ _ _ => False)
    (hCX : ∀ (w : World) (H : Hp) (s : Shared) (e : Value) (s' : Shared), CX w [] H s (fun _ _ _ => False) e s' → False) :
    PySem.W.WalkO q loose XP YP l.row.toRowW d [] (fun f vs => PySem.call f vs) := by
  refine Att.attach_call hn hdf fun w s₀ s₁ mg mb fa o pm cd doc a vs ns G Y ho hd hcd hmg hobj hints hlen hg => ?_
  have KX := hY w _ Y
  obtain ⟨fd, hb, hF⟩ := F w mg fa _ KX G.T.g hmg
  exact law_call KX G.T.g G.T.b G.T.builtins G.T.nolimit hg hobj hints (Nat.le_trans hlen hn2) hr hF hb (fun H hO hS => hsp w H a ns hlen hO hS) fun H e s' => hCX w H s₁ e s'
end L2
namespace L2
open PySem PySem.Spec PyProof.Rows
def defArgs (s : Stmt) : Arguments := match s with
  | .FunctionDef _ a _ _ _ _ _ _ _ _ => a
  | _ => { posonlyargs := [], args := [], vararg := none, kwonlyargs := [], kw_defaults := [], kwarg := none, defaults := [] }
def defBody (s : Stmt) : List Stmt := match s with
  | .FunctionDef _ _ b _ _ _ _ _ _ _ => b
  | _ => []
def defScope (s : Stmt) : Scope := match s with
  | .FunctionDef _ _ _ _ _ _ sc _ _ _ => sc
  | _ => { kind := .function, names := [], isGenerator := false, isCoroutine := false }

abbrev CX0 : CXT := fun _ _ _ _ _ _ => False
abbrev E0 : XK := fun _ _ _ => False
theorem pass0 {X : Cx} : Passes CX0 X E0 := fun _ _ _ _ _ _ _ h => h.elim

structure Fun (K : PySem.W.Frag) (x qual : Str) (st : Stmt) (f : Addr) (fd : FuncData) : Prop where
  ex : ∃ (oc : Value) (od : Option Addr) (kV doc pm : Value) (an : Option Addr) (cdv ct : Value) (osl : Array (Option Value)),
    fd = PySem.W.fnOf x qual (defArgs st) (defBody st) (defScope st) .none kV doc pm an cdv ct ∧ K.lookup f = some ⟨oc, od, .func fd, osl⟩ ∧ PySem.W.codeIn K cdv qual = true
  kp : PySem.W.keepIn K (.ref f) = true
section
variable {P : Program} {w : World} {K : PySem.W.Frag} {mg : Str → Option Value} {base : Heap}
/-- THE RULE for a def: its body as a term of rules, and the reading of that term -/
theorem Fun.ok {x qual : Str} {st : Stmt} {f : Addr} {fd : FuncData} {N ps : List Str} {k : Nat} {sp : Sp} (F : Fun K x qual st f fd) (S : FnScope N ps (defScope st)) (len : ∀ vs H Q E, sp vs H Q E → vs.length = ps.length)
    (hbody : ∀ (cdv : Value) (A : Around) (outer : List Env) (s : Shared) (H : Hp) (vs : List V) (Q : VK) (E : XK), Room k (A.deeper (envOfC qual (defScope st) s.heap.objs.size f cdv)) → sp vs H Q E →
      ∃ t, PSs (cxOf CX0 P w K mg base N qual (defScope st) f cdv A outer s H E).nox (defBody st) t ∧ t { nx := fun _ H' => Q .non H', rt := Q } (start N vs) H) : FnOk P w K mg base CX0 (k + 1) f fd ps sp := by
  obtain ⟨oc, od, kV, doc, pm, an, cdv, ct, osl, rfl, lk, hcd⟩ := F.ex
  refine fn_of lk hcd S len fun A outer s H vs Q E hr hsp => ?_
  obtain ⟨t, h, q⟩ := hbody cdv A outer s H vs Q E hr hsp
  exact ⟨t, h.nox, q⟩
/-- how its arguments bind (no defaults): h is «fun _ _ _ _ _ _ us hl => match us, hl with | [_, _], _ => rfl», one _ a parameter -/
theorem Fun.binds {x qual : Str} {st : Stmt} {f : Addr} {fd : FuncData} {ps : List Str} (F : Fun K x qual st f fd)
    (h : ∀ (kV doc pm : Value) (an : Option Addr) (cdv ct : Value) (us : List Value), us.length = ps.length → bindArgs (PySem.W.fnOf x qual (defArgs st) (defBody st) (defScope st) .none kV doc pm an cdv ct) ⟨us, []⟩ = pure (ps.zip us)) : Binds K fd ps [] := by
  obtain ⟨oc, od, kV, doc, pm, an, cdv, ct, osl, rfl, lk, hcd⟩ := F.ex
  exact .all (h kV doc pm an cdv ct)
theorem fun_mk {x qual : Str} {st : Stmt} {f : Addr} {oc : Value} {od an : Option Addr} {osl : Array (Option Value)} {kV doc pm cdv ct : Value} (l : K.lookup f = some ⟨oc, od, .func (PySem.W.fnOf x qual (defArgs st) (defBody st) (defScope st) .none kV doc pm an cdv ct), osl⟩)
    (c : PySem.W.codeIn K cdv qual = true) (k : PySem.W.keepIn K (.ref f) = true) : Fun K x qual st f (PySem.W.fnOf x qual (defArgs st) (defBody st) (defScope st) .none kV doc pm an cdv ct) := ⟨⟨oc, od, kV, doc, pm, an, cdv, ct, osl, rfl, l, c⟩, k⟩
end
theorem hu_of {A : Around} {k : Nat} (hr : Room k A) : A.units + 1 < cLine := Nat.lt_of_le_of_lt (Nat.add_le_add_left (by decide : 1 ≤ 64) _) hr.units
section
variable {X : Cx}
theorem pv (i : Nat) {x : Str} {pos : Pos} (hN : X.N[i]? = some x := by rfl) (hv : Vis X.env.scope x := by first | exact Or.inl rfl | exact Or.inr (Or.inl rfl) | exact Or.inr (Or.inr rfl)) (hd : (x == ("__debug__" : Str)) = false := by decide)
    (hcd : (x == ("__classdict__" : Str)) = false := by decide) : PE X (.Name x pos) (tVar i) := pe_var hN hv hd hcd
end
theorem iteT {A B : Prop} (h : A) : if true = true then A else B := by
  rw [if_pos rfl]
  exact h
theorem ite2 {c A B : Prop} [Decidable c] (h1 : c → A) (h2 : ¬ c → B) : if c then A else B := by
  by_cases h : c
  · rw [if_pos h]
    exact h1 h
  · rw [if_neg h]
    exact h2 h
/-- all that was tracked is as it was -/
def Same (H H' : Hp) : Prop := ∀ b o, H b = some o → H' b = some o
theorem Same.refl (H : Hp) : Same H H := fun _ _ h => h
theorem Same.trans {H H1 H2 : Hp} (a : Same H H1) (b : Same H1 H2) : Same H H2 := fun c o h => b c o (a c o h)
theorem Same.free {H H' : Hp} (e : Same H H') {l : Addr} (h : H' l = Option.none) : H l = Option.none := by
  cases q : H l with
  | none => rfl
  | some o =>
    rw [e l o q] at h
    cases h
section
variable {κ : Type} [DecidableEq κ]
theorem valV_in {kvs : List (κ × V)} {k : κ} {v : V} (h : valV kvs k = some v) : k ∈ kvs.map (·.1) := by
  have q : (kvs.any fun kv => decide (kv.1 = k)) = true := by
    rw [valV_any, h]
    all_goals rfl
  obtain ⟨p, hp, e⟩ := List.any_eq_true.mp q
  exact List.mem_map.mpr ⟨p, hp, of_decide_eq_true e⟩
end
end L2
namespace L2
open PySem PySem.Spec PyProof.Rows
theorem compLoop_go {prog : Program} {w : World} {A : Around} {R : Result → Shared → Prop} {s : Shared} {elt target iter : Expr} {ifs : List Expr} {scope : Scope} {pos : Pos} {it acc : Value} {env : Env} (I : Nat → Shared → Prop)
    (turn : ∀ n s, I n s → wpAny (model prog w) A (pyNext it) (fun r s₁ => match r with
      | none => R (.ok .next) s₁
      | some v => wpAny (model prog w) A (letOwnedTupleGo target it v) (fun _ s₁' => wpAny (model prog w) A (assign target env v) (fun _ s₂ =>
          wpAny (model prog w) A (forIn ifs true fun c r => if r = true then do let ok ← isTrue c env (eval c env); pure (ForInStep.yield ok) else pure (ForInStep.yield r)) (fun ok s₃ =>
            if ok = true then wpAny (model prog w) A (eval elt env) (fun x s₄ =>
              wpAny (model prog w) A (call (.builtin "list.append") [acc, x]) (fun _ s₅ => ∃ m, m < n ∧ I m s₅) (fun _ _ => False) s₄) (fun _ _ => False) s₃
            else ∃ m, m < n ∧ I m s₃) (fun _ _ => False) s₂) (fun _ _ => False) s₁') (fun _ _ => False) s₁) (fun _ _ => False) s)
    (n : Nat) (h : I n s) :
    codeAny (model prog w) A (.compLoop (.ListComp elt [⟨target, iter, ifs, 0⟩] scope pos) 0 it acc env) R s := by
  refine codeAny_loop rfl I (fun n s hI => ?_) n h
  show wpAny _ A ((compTurn (.ListComp elt [⟨target, iter, ifs, 0⟩] scope pos) 0 it acc env).onRaise (fun x => do noteFrame x env; theTreesLotGoes x)) _ _ s
  refine wpAny_noted ?_
  rw [compTurn_list]
  refine wpAny_bind (wpAny_standAt (wpAny_bind (wpAny_mono (turn n s hI) (fun r s₁ h₁ => ?_) fun _ _ h' => h'.elim)))
  cases r with
  | none => exact wpAny_pure h₁
  | some v =>
    refine wpAny_bind (wpAny_mono h₁ (fun _ s₁' h₁' => ?_) fun _ _ h' => h'.elim)
    refine wpAny_bind (wpAny_mono h₁' (fun _ s₂ h₂ => wpAny_bind (wpAny_mono h₂ (fun ok s₃ h₃ => ?_) fun _ _ h' => h'.elim)) fun _ _ h' => h'.elim)
    cases ok with
    | false => exact wpAny_pure ⟨rfl, h₃⟩
    | true =>
      exact wpAny_bind (wpAny_bind (wpAny_mono h₃ (fun x s₄ h₄ => wpAny_bind (wpAny_mono h₄ (fun _ s₅ h₅ => wpAny_pure (wpAny_pure ⟨rfl, h₅⟩)) fun _ _ h' => h'.elim)) fun _ _ h' => h'.elim))

def clOf (env : Env) : List (Str × NameKind) → List (Str × Addr) → List (Str × Addr)
  | [], acc => acc
  | (n, k) :: r, acc => clOf env r (if (k == NameKind.free) = true then (match env.cells.lookup n with | some c => (n, c) :: acc | none => acc) else acc)
theorem forIn_clOf {env : Env} : ∀ (names : List (Str × NameKind)) (acc : List (Str × Addr)), (∀ y ∈ names, y.2 = .free → ∃ c, env.cells.lookup y.1 = some c) →
    (forIn names acc (fun (x : Str × NameKind) (cs : List (Str × Addr)) => match x with | (name, kind) => if (kind == NameKind.free) = true then do let c ← cellOf env name; pure (ForInStep.yield ((name, c) :: cs)) else pure (ForInStep.yield cs)) : Sem (List (Str × Addr))) = pure (clOf env names acc)
  | [], acc, _ => rfl
  | (n, k) :: r, acc, h => by
    rw [List.forIn_cons]
    have hr := fun acc' => forIn_clOf (env := env) r acc' fun y hy => h y (List.mem_cons_of_mem _ hy)
    unfold clOf
    by_cases hk : (k == NameKind.free) = true
    · obtain ⟨c, hc⟩ := h (n, k) List.mem_cons_self (by simpa using hk)
      simp only [hk, if_true, cellOf, hc, pure_bind]
      exact hr _
    · simp only [hk, if_false, pure_bind]
      exact hr _
theorem closure_clOf {env : Env} {scope : Scope} (h : ∀ y ∈ scope.names, y.2 = .free → ∃ c, env.cells.lookup y.1 = some c) : closureFor scope env = pure (clOf env scope.names []) := by
  unfold closureFor
  have q := forIn_clOf (env := env) scope.names [] h
  simp only [bind_pure] 
  exact q
theorem clOf_sub {env : Env} : ∀ (names : List (Str × NameKind)) (acc : List (Str × Addr)), (∀ x c, acc.lookup x = some c → env.cells.lookup x = some c) → ∀ x c, (clOf env names acc).lookup x = some c → env.cells.lookup x = some c
  | [], acc, h => h
  | (n, k) :: r, acc, h => by
    unfold clOf
    refine clOf_sub r _ fun x c => ?_
    split
    · split
      · rename_i c' hc'
        rw [List.lookup_cons]
        split
        · rename_i e
          have e' : x = n := by simpa using e
          subst e'
          intro z; rw [← z]; exact hc'
        · exact h x c
      · exact h x c
    · exact h x c
theorem clOf_has {env : Env} : ∀ (names : List (Str × NameKind)) (acc : List (Str × Addr)) (x : Str), ((x, NameKind.free) ∈ names ∧ (env.cells.lookup x).isSome = true) ∨ (acc.lookup x).isSome = true → ((clOf env names acc).lookup x).isSome = true
  | [], acc, x, h => by
    rcases h with ⟨h, _⟩ | h
    · cases h
    · exact h
  | (n, k) :: r, acc, x, h => by
    unfold clOf
    apply clOf_has r
    rcases h with ⟨h, hs⟩ | h
    · rcases List.mem_cons.mp h with e | h
      · cases e
        right
        obtain ⟨c, hc⟩ := Option.isSome_iff_exists.mp hs
        simp [hc, List.lookup_cons]
      · exact .inl ⟨h, hs⟩
    · right
      split
      · split
        · rw [List.lookup_cons]
          split
          · rfl
          · exact h
        · exact h
      · exact h

theorem relabel_free {env : Env} : ∀ {names : List (Str × NameKind)} {x : Str}, names.lookup x = some .free →
    (names.map fun (n, k) => if (k == NameKind.free && env.scope.kind == .function && env.kindOf n == some .cell) then (n, NameKind.cell) else (n, k)).lookup x = some .cell ∨
    (names.map fun (n, k) => if (k == NameKind.free && env.scope.kind == .function && env.kindOf n == some .cell) then (n, NameKind.cell) else (n, k)).lookup x = some .free
  | [], _, h => by simp at h
  | (n, k) :: r, x, h => by
    have ih := @relabel_free env r x
    show List.lookup x ((if (k == NameKind.free && env.scope.kind == .function && env.kindOf n == some .cell) = true then (n, NameKind.cell) else (n, k)) :: _) = _ ∨ List.lookup x ((if (k == NameKind.free && env.scope.kind == .function && env.kindOf n == some .cell) = true then (n, NameKind.cell) else (n, k)) :: _) = _
    cases hx : x == n with
    | true =>
      simp only [List.lookup_cons, hx] at h
      cases h
      split
      · left; simp [List.lookup_cons, hx]
      · right; simp [List.lookup_cons, hx]
    | false =>
      simp only [List.lookup_cons, hx] at h
      split <;> (simp only [List.lookup_cons, hx]; exact ih h)
theorem of_relabel {env : Env} : ∀ {names : List (Str × NameKind)} {x : Str}, (∀ y ∈ names, y.2 ≠ NameKind.cell) →
    ((names.map fun (n, k) => if (k == NameKind.free && env.scope.kind == .function && env.kindOf n == some .cell) then (n, NameKind.cell) else (n, k)).lookup x = some .cell ∨
    (names.map fun (n, k) => if (k == NameKind.free && env.scope.kind == .function && env.kindOf n == some .cell) then (n, NameKind.cell) else (n, k)).lookup x = some .free) → names.lookup x = some .free
  | [], _, _, h => by simp at h
  | (n, k) :: r, x, hn, h => by
    have ih := @of_relabel env r x (fun y hy => hn y (List.mem_cons_of_mem _ hy))
    have h' : List.lookup x ((if (k == NameKind.free && env.scope.kind == .function && env.kindOf n == some .cell) = true then (n, NameKind.cell) else (n, k)) :: (r.map fun (n, k) => if (k == NameKind.free && env.scope.kind == .function && env.kindOf n == some .cell) then (n, NameKind.cell) else (n, k))) = some .cell ∨ List.lookup x ((if (k == NameKind.free && env.scope.kind == .function && env.kindOf n == some .cell) = true then (n, NameKind.cell) else (n, k)) :: (r.map fun (n, k) => if (k == NameKind.free && env.scope.kind == .function && env.kindOf n == some .cell) then (n, NameKind.cell) else (n, k))) = some .free := h
    have hk := hn (n, k) List.mem_cons_self
    cases hx : x == n with
    | true =>
      simp only [List.lookup_cons, hx]
      by_cases c : (k == NameKind.free && env.scope.kind == .function && env.kindOf n == some .cell) = true
      · have c1 : k = NameKind.free := by
          simp only [Bool.and_eq_true] at c
          exact eq_of_beq c.1.1
        rw [c1]
      · rw [if_neg c] at h'
        simp only [List.lookup_cons, hx] at h'
        rcases h' with z | z
        · exact absurd (Option.some.inj z) hk
        · exact z
    | false =>
      simp only [List.lookup_cons, hx]
      by_cases c : (k == NameKind.free && env.scope.kind == .function && env.kindOf n == some .cell) = true
      · rw [if_pos c] at h'
        simp only [List.lookup_cons, hx] at h'
        exact ih h'
      · rw [if_neg c] at h'
        simp only [List.lookup_cons, hx] at h'
        exact ih h'

def cxComp (X : Cx) (N' : List Str) (scope : Scope) (cl : List (Str × Addr)) (C : Addr) (fp : List Addr) (s : Shared) (H : Hp) : Cx :=
  { X with env := compEnvC scope cl C X.env, N := N', s₀ := s, H₀ := H, outer := X.stack, ex := fp, fn := fun _ => false, pn := [], xe := fun _ _ => False }
/-- the block's names at its start: drawn in from the slot that ix names, or none -/
def mkIx (ix : List (Option Nat)) (σ : St) : St := ix.map fun o => match o with | none => none | some j => (σ[j]?).join
def okIx (N N' : List Str) (names : List (Str × NameKind)) : List (Option Nat) → Nat → Bool
  | [], _ => true
  | none :: r, i => okIx N N' names r (i + 1)
  | some j :: r, i => (match N'[i]? with | some x => decide (N[j]? = some x) && (names.lookup x == some .free) | none => false) && okIx N N' names r (i + 1)
theorem okIx_get {N N' : List Str} {names : List (Str × NameKind)} : ∀ {ix : List (Option Nat)} {k i j : Nat}, okIx N N' names ix k = true → ix[i]? = some (some j) → ∃ x, N'[k + i]? = some x ∧ N[j]? = some x ∧ names.lookup x = some .free
  | [], _, _, _, _, e => by simp at e
  | none :: r, k, 0, j, _, e => by simp at e
  | none :: r, k, i + 1, j, h, e => by
    have q := okIx_get (ix := r) (k := k + 1) (i := i) (j := j) h (by simpa using e)
    rw [show k + (i + 1) = k + 1 + i by omega]
    exact q
  | some j' :: r, k, 0, j, h, e => by
    have e' : j' = j := by simpa using e
    subst e'
    unfold okIx at h
    rw [Bool.and_eq_true] at h
    have h1 := h.1
    cases q : N'[k]? with
    | none => rw [q] at h1; cases h1
    | some x =>
      rw [q] at h1
      simp only [Bool.and_eq_true, decide_eq_true_eq] at h1
      exact ⟨x, by simpa using q, h1.1, eq_of_beq h1.2⟩
  | some j' :: r, k, i + 1, j, h, e => by
    unfold okIx at h
    rw [Bool.and_eq_true] at h
    have q := okIx_get (ix := r) (k := k + 1) (i := i) (j := j) h.2 (by simpa using e)
    rw [show k + (i + 1) = k + 1 + i by omega]
    exact q
structure CompOk (N N' : List Str) (ix : List (Option Nat)) (fsc scope : Scope) : Prop where
  kind : scope.kind = .function
  nocell : ∀ y ∈ scope.names, y.2 ≠ .cell
  names : ∀ y ∈ scope.names, y.2 = .local → scope.names.lookup y.1 = some .local
  free : ∀ y ∈ scope.names, y.2 = .free → (fsc.names.lookup y.1 = some .cell ∨ fsc.names.lookup y.1 = some .free)
  okx : okIx N N' scope.names ix 0 = true
  len : ix.length = N'.length

/-- the tests of a clause -/
def PTs (X : Cx) (ifs : List Expr) (t : TT) : Prop :=
  ∀ (pins : List (Addr × Obj)) (s : Shared) (σ : St) (H : Hp) (Q : Bool → Hp → Prop), Inv X pins σ H s → t σ H Q →
    wpAny (model X.prog X.w) X.A (forIn ifs true fun c r => if r = true then do let ok ← isTrue c X.env (eval c X.env); pure (ForInStep.yield ok) else pure (ForInStep.yield r)) (TP X pins σ Q) X.xe s
def tYes : TT := fun _ H Q => Q true H
theorem pts_nil {X : Cx} : PTs X [] tYes := fun _ _ _ H _ I h => wpAny_tests_nil ⟨H, I, h⟩
theorem pts_one {X : Cx} {c : Expr} {t : TT} (h : PT X c t) : PTs X [c] t := fun pins s σ H Q I q => wpAny_tests_one (h pins s σ H Q I q)

section
variable {X : Cx} {pins : List (Addr × Obj)} {σ : St} {H : Hp} {s : Shared} {N' : List Str} {ix : List (Option Nat)} {scope : Scope} {fp : List Addr}
theorem comp_ok (I : Inv X pins σ H s) (O : CompOk X.N N' ix X.env.scope scope) (f : ∀ b ∈ fp, FpOk X pins H b ∧ b < s.heap.objs.size) :
    (cxComp X N' scope (clOf X.env scope.names []) s.heap.objs.size fp s H).Ok := by
  have sub : ∀ x c, (clOf X.env scope.names []).lookup x = some c → X.env.cells.lookup x = some c := clOf_sub _ _ (fun x c z => by simp at z)
  refine ⟨I.ok.mod, O.kind, I.ok.glob, I.ok.blt, Nat.le_refl _, fun x y c h1 h2 => I.ok.inj x y c (sub x c h1) (sub y c h2), fun x hx => ?_, fun x c z => (nomatch (show false = true from z)), I.ok.hd, I.ok.frames, .inl rfl, fun b hb => ?_, I.bs, Nat.le_trans I.ok.bsz I.sz, fun b o e hb => ?_, fun b hb hb2 => ?_, I.stack, I.stkFree⟩
  · have hx' : scope.names.lookup x = some .free := of_relabel (env := X.env) O.nocell hx
    have hm : (x, NameKind.free) ∈ scope.names := PySem.mem_of_lookup hx'
    have hf := O.free _ hm rfl
    obtain ⟨c, hc⟩ := I.ok.has x hf
    have q := clOf_has (env := X.env) scope.names [] x (.inl ⟨hm, by rw [hc]; rfl⟩)
    exact Option.isSome_iff_exists.mp q
  · obtain ⟨⟨_, _, _, _, f4, _⟩, hlt⟩ := f b hb
    refine ⟨Nat.ne_of_lt hlt, fun x c e => f4 x c (sub x c e)⟩
  · obtain ⟨⟨_, _, _, f3, _, _⟩, hlt⟩ := f b hb
    rcases f3 with z | z
    · exact I.ok.noex b o e z
    · exact absurd (Nat.lt_of_lt_of_le (Heap.lt_size e) (Nat.le_trans I.ok.bsz z)) (Nat.lt_irrefl _)
  · obtain ⟨⟨_, f1, f2, _, _, _⟩, hlt⟩ := f b hb
    rcases List.mem_cons.mp (I.stkSub b hb2) with z | z
    · exact f1 z
    · exact f2 z

theorem comp_inv {h4 : Heap} {t4 : Nat} (I : Inv X pins σ H s) (O : CompOk X.N N' ix X.env.scope scope) (f : ∀ b ∈ fp, FpOk X pins H b ∧ b < s.heap.objs.size) {m : Str → Option Value}
    (hns : h4.Ns s.heap.objs.size m) (k : ∀ b o, s.heap.get? b = some o → h4.get? b = some o) :
    Inv (cxComp X N' scope (clOf X.env scope.names []) s.heap.objs.size fp s H) [] (mkIx ix σ) H { s with heap := h4, toks := t4 } := by
  have sub : ∀ x c, (clOf X.env scope.names []).lookup x = some c → X.env.cells.lookup x = some c := clOf_sub _ _ (fun x c z => by simp at z)
  refine ⟨comp_ok I O f, rfl, I.bare, Un.kept k, ⟨m, hns, fun i x v h1 h2 h3 => ?_⟩, fun x c e => ?_, I.hok.fresh (Nat.le_refl _), fun x c e => I.freeC x c (sub x c e), fun p hp => absurd (show p ∈ ([] : List (Addr × Obj)) from hp) (by simp), I.hok.kept k, ?_⟩
  · have h1' : N'[i]? = some x := h1
    unfold mkIx at h2
    rw [List.getElem?_map] at h2
    cases e : ix[i]? with
    | none => rw [e] at h2; cases h2
    | some o =>
      rw [e] at h2
      cases o with
      | none => cases h2
      | some j =>
        have h2' : (σ[j]?).join = some v := by simpa using h2
        obtain ⟨y, e1, e2, e3⟩ := okIx_get O.okx e
        rw [Nat.zero_add, h1'] at e1
        cases e1
        have e4 : σ[j]? = some (some v) := by
          cases q : σ[j]? with
          | none => rw [q] at h2'; cases h2'
          | some o => rw [q] at h2'; rw [show o = some v from h2']
        have hm : (x, NameKind.free) ∈ scope.names := PySem.mem_of_lookup e3
        have hf := O.free _ hm rfl
        obtain ⟨m0, _, hl⟩ := I.loc
        obtain ⟨u, ru, lk⟩ := hl j x v e2 e4 (.inr hf)
        refine ⟨u, ru, .inr ⟨relabel_free (env := X.env) e3, ?_⟩⟩
        have q := clOf_has (env := X.env) scope.names [] x (.inl ⟨hm, by obtain ⟨c, hc⟩ := I.ok.has x hf; rw [hc]; rfl⟩)
        obtain ⟨c, hc⟩ := Option.isSome_iff_exists.mp q
        rcases lk with ⟨k1, _⟩ | ⟨_, c', hc', hcell⟩
        · have k1' : X.env.scope.names.lookup x = some .local := k1
          rcases hf with z | z
          · exact absurd (k1'.symm.trans z) (by simp)
          · exact absurd (k1'.symm.trans z) (by simp)
        · have q2 := sub x c hc
          rw [hc'] at q2
          obtain rfl := Option.some.inj q2
          exact ⟨_, hc, hcell.keeps k⟩
  · obtain ⟨v, z⟩ := I.cell x c (sub x c e)
    exact ⟨v, z.keeps k⟩
  · unfold mkIx
    rw [List.length_map]
    exact O.len

/-- behind the block -/
theorem comp_back {cl : List (Str × Addr)} {C : Addr} {pins' : List (Addr × Obj)} {σ' : St} {H' : Hp} {s' : Shared} (I : Inv X pins σ H s) (f : ∀ b ∈ fp, FpOk X pins H b ∧ b < s.heap.objs.size)
    (J : Inv (cxComp X N' scope cl C fp s H) pins' σ' H' s') : Inv X pins σ H' s' := by
  refine I.call' (ch := fp) J.os J.base J.hok J.bare fun b hb => ?_
  obtain ⟨⟨_, f1, _, f3, f4, f5⟩, _⟩ := f b hb
  exact ⟨f3, f1, f4, f5⟩
/-- the block's own record may turn -/
theorem comp_let {C : Addr} {H' : Hp} {s' : Shared} {h' : Heap} {σ2 : St} (I : Inv X pins σ H s) (hC : s.heap.objs.size ≤ C) (J : Inv X pins σ2 H' s') (hn : H' C = none) (hs : Heap.SameBut C s'.heap h') : Inv X pins σ2 H' { s' with heap := h' } := by
  refine J.turned (it := C) (t' := s'.toks) (fun b o hb e => (hs.2 b hb).trans e) hn (Nat.ne_of_gt (Nat.lt_of_lt_of_le I.lt hC)) (.inr (Nat.le_trans I.sz hC)) (fun x c e z => ?_) fun p hp z => ?_
  · obtain ⟨v, q⟩ := I.cell x c e
    exact absurd (Nat.lt_of_lt_of_le q.lt (by rw [z]; exact hC)) (Nat.lt_irrefl _)
  · exact absurd (Nat.lt_of_lt_of_le (Heap.lt_size (I.pin p hp).1) (by rw [z]; exact hC)) (Nat.lt_irrefl _)
end
/-- [e for tg in it if c]: D is the new list; W: the word by the turn and a measure -/
def tCompW (J : It) (g : TG) (tc : TT) (te : TE) (D : Addr) (W : Nat → Nat → St → Hp → Prop) (Q : Hp → Prop) : Prop := ∀ i m σ' H', W i m σ' H' →
    (J.stop i H' ∧ Q H') ∨ (J.go i H' ∧ ∀ x H2, J.yld i H' x H2 → g x σ' H2 fun σ3 H3 => tc σ3 H3 fun b H4 =>
      if b = true then te σ3 H4 fun y H5 => ∃ ys, H5 D = some (.lst ys) ∧ ys.length < sizeLine ∧ ∃ m', m' < m ∧ W (i + 1) m' σ3 (upd H5 D (.lst (ys ++ [y])))
      else ∃ m', m' < m ∧ W (i + 1) m' σ3 H4)
def tComp (wi : TI) (g : TG) (tc : TT) (te : TE) (ix : List (Option Nat)) : TE := fun σ H Q =>
  wi σ H fun J H1 => ∀ D, H1 D = none → ∃ W : Nat → Nat → St → Hp → Prop, (∃ m, W 0 m (mkIx ix σ) (upd H1 D (.lst []))) ∧ tCompW J g tc te D W (Q (.ref D))

section
variable {X : Cx} {elt tg iter : Expr} {ifs : List Expr} {scope : Scope} {pos : Pos} {N' : List Str} {ix : List (Option Nat)} {wi : TI} {g : TG} {tc : TT} {te : TE}
theorem comp_run {pins : List (Addr × Obj)} {σ : St} {H2 : Hp} {s2 : Shared} {Q : Addr → Hp → Prop} {it : Addr} {fp : List Addr} {tn : Nat → Heap → Prop} {J : It} {RR : Value → Addr → Result → Shared → Prop} {E : Value → Shared → Prop}
    (O : CompOk X.N N' ix X.env.scope scope) (hc : X.calm = true)
    (hg : ∀ cl C fp s H, PG (cxComp X N' scope cl C fp s H) tg g)
    (hifs : ∀ cl C fp s H, PTs (cxComp X N' scope cl C fp s H) ifs tc)
    (he : ∀ cl C fp s H, PE (cxComp X N' scope cl C fp s H) elt te)
    (I2 : Inv X pins σ H2 s2) (T : Turn X.prog X.w X.K tg J fp it tn) (st2 : tn 0 s2.heap) (f2 : ∀ b ∈ fp, FpOk X pins H2 b)
    (hq : ∀ D, H2 D = none → ∃ W : Nat → Nat → St → Hp → Prop, (∃ m, W 0 m (mkIx ix σ) (upd H2 D (.lst []))) ∧ tCompW J g tc te D W (Q D))
    (hRR : ∀ D C H' s' m, H2 D = none → Inv X pins σ H' s' → s'.heap.Ns C m → H' C = none → (∀ h' σ2 s3, Inv X pins σ2 H' s3 → Heap.SameBut C s3.heap h' → Inv X pins σ2 H' { s3 with heap := h' }) →
      (C ≠ X.env.locals ∧ ∀ x c, X.env.cells.lookup x = some c → c ≠ C) → Q D H' → RR (.ref D) C (.ok .next) s') :
    wpAny (model X.prog X.w) X.A (newList []) (fun acc s₃ => wpAny (model X.prog X.w) X.A (newFunctionEnv scope X.env.globals (clOf X.env scope.names []) [] X.env.qual none .none (some X.env)) (fun cenv s₄ =>
      codeAny (model X.prog X.w) X.A (.compStart (.ListComp elt [⟨tg, iter, ifs, 0⟩] scope pos) 0 (.ref it) acc { cenv with scope := relabel scope X.env }) (RR acc cenv.locals) s₄) E s₃) E s2 := by
  refine wpAny_newObj_type (wpAny_newFunctionEnv O.nocell (by intro y hy; simp at hy) (fun h₄ hns hsb => ?_) O.kind)
  dsimp only at hns hsb ⊢
  have hD := I2.fresh
  obtain ⟨W, ⟨m0, w0⟩, turn⟩ := hq s2.heap.objs.size hD
  have I3 : Inv X pins σ (upd H2 s2.heap.objs.size (.lst [])) { s2 with heap := s2.heap.push { cls := .type "list", data := .seq ([] : List Value).toArray }, toks := s2.toks } := I2.lnew (its := []) .nil (Nat.zero_le _)
  generalize hh3 : s2.heap.push { cls := .type "list", data := .seq ([] : List Value).toArray } = h3 at hns hsb I3 ⊢
  have hC : h3.objs.size = s2.heap.objs.size + 1 := by rw [← hh3, Heap.size_push]
  have up : ∀ b o, s2.heap.get? b = some o → h3.get? b = some o := fun b o e => by rw [← hh3]; exact Heap.get?_push_of_some _ e
  have k4 : ∀ b o, h3.get? b = some o → h₄.get? b = some o := fun b o e => hsb.extBut b o (Nat.ne_of_lt (Heap.lt_size e)) (Heap.get?_push_of_some _ e)
  have f3 : ∀ b ∈ fp, FpOk X pins (upd H2 s2.heap.objs.size (.lst [])) b ∧ b < h3.objs.size := fun b hb => by
    obtain ⟨o, e, _⟩ := T.obj _ _ st2 b hb
    have hlt := Heap.lt_size e
    obtain ⟨f0, fr⟩ := f2 b hb
    exact ⟨⟨by rw [upd_ne (Nat.ne_of_lt hlt)]; exact f0, fr⟩, by rw [hC]; exact Nat.lt_succ_of_lt hlt⟩
  have J0 := comp_inv (s := { s2 with heap := h3, toks := s2.toks }) (t4 := s2.toks + ([] : List (Str × Value)).length) I3 O f3 hns k4
  have st4 : tn 0 h₄ := T.keep _ _ _ st2 fun b hb o e => k4 b o (up b o e)
  have stat : ∀ {H' : Hp}, (∀ b ∈ fp, H' b = none) → ∀ b ∈ fp, FpOk (cxComp X N' scope (clOf X.env scope.names []) h3.objs.size fp { s2 with heap := h3, toks := s2.toks } (upd H2 s2.heap.objs.size (.lst []))) [] H' b := fun hn b hb =>
    ⟨hn b hb, (J0.ok.exf b hb).1, J0.ok.exfs b hb, .inl hb, (J0.ok.exf b hb).2, fun p hp => absurd (show p ∈ ([] : List (Addr × Obj)) from hp) (by simp)⟩
  have loop : codeAny (model X.prog X.w) X.A (.compLoop (.ListComp elt [⟨tg, iter, ifs, 0⟩] scope pos) 0 (.ref it) (.ref s2.heap.objs.size) (compEnvC scope (clOf X.env scope.names []) h3.objs.size X.env)) (RR (.ref s2.heap.objs.size) h3.objs.size)
      { s2 with heap := h₄, toks := s2.toks + ([] : List (Str × Value)).length } := by
    refine compLoop_go (fun n s' => ∃ i σ' H', Inv (cxComp X N' scope (clOf X.env scope.names []) h3.objs.size fp { s2 with heap := h3, toks := s2.toks } (upd H2 s2.heap.objs.size (.lst []))) [] σ' H' s' ∧ tn i s'.heap ∧ (∀ b ∈ fp, H' b = none) ∧ W i n σ' H') ?_ m0
      ⟨0, mkIx ix σ, _, J0, st4, fun b hb => (f3 b hb).1.1, w0⟩
    rintro n s5 ⟨i, σ5, H5, I5, st5, fr5, w5⟩
    rcases turn i n σ5 H5 w5 with ⟨stop, qn⟩ | ⟨go, step⟩
    · refine thn (T.done (cxComp X N' scope (clOf X.env scope.names []) h3.objs.size fp { s2 with heap := h3, toks := s2.toks } (upd H2 s2.heap.objs.size (.lst []))) rfl rfl rfl hc i [] s5 σ5 H5 _ I5 (stat fr5) st5 stop) fun r s6 ⟨hr, I6⟩ => ?_
      subst hr
      obtain ⟨m, hm, _⟩ := I6.loc
      refine hRR _ _ H5 s6 m hD (comp_back I3 f3 I6) hm I6.free (fun h' σ2 s3 J hs => comp_let I3 (Nat.le_refl _) J I6.free hs) ⟨Nat.ne_of_gt I3.lt, fun x c e z => ?_⟩ qn
      obtain ⟨v, q⟩ := I3.cell x c e
      exact absurd q.lt (by rw [z]; exact Nat.lt_irrefl _)
    · refine thn (T.item (cxComp X N' scope (clOf X.env scope.names []) h3.objs.size fp { s2 with heap := h3, toks := s2.toks } (upd H2 s2.heap.objs.size (.lst []))) rfl rfl rfl hc i [] s5 σ5 H5 _ I5 (stat fr5) st5 go) fun r s6 ⟨u, hr, h6⟩ => ?_
      subst hr
      refine thn h6 fun _ s7 ⟨x, H7, I7, r7, y7, st7, fr7⟩ => ?_
      have I7' := I7.pinned (stat fr7) (T.obj _ _ st7)
      have again : ∀ {σ' : St} {H' : Hp} {s' : Shared} {m' : Nat}, Inv (cxComp X N' scope (clOf X.env scope.names []) h3.objs.size fp { s2 with heap := h3, toks := s2.toks } (upd H2 s2.heap.objs.size (.lst []))) ([] ++ pinsAt fp s7.heap) σ' H' s' → W (i + 1) m' σ' H' →
          ∃ i σ'' H'', Inv (cxComp X N' scope (clOf X.env scope.names []) h3.objs.size fp { s2 with heap := h3, toks := s2.toks } (upd H2 s2.heap.objs.size (.lst []))) [] σ'' H'' s' ∧ tn i s'.heap ∧ (∀ b ∈ fp, H'' b = none) ∧ W i m' σ'' H'' := fun {σ' H' s' m'} J w => by
        refine ⟨i + 1, σ', H', J.unpinned, T.keep _ _ _ st7 fun b hb o e => (J.pin (b, o) (List.mem_append_right _ (List.mem_append_right _ (mem_pinsAt hb e)))).1, fun b hb => ?_, w⟩
        obtain ⟨o, e, d⟩ := T.obj _ _ st7 b hb
        exact (J.pin (b, o) (List.mem_append_right _ (List.mem_append_right _ (mem_pinsAt hb e)))).2.1
      refine thn (hg _ _ _ _ _ _ s7 σ5 H7 x u _ I7' r7 (step x H7 y7)) fun _ s8 ⟨σ8, H8, I8, q8⟩ => ?_
      refine thn (hifs _ _ _ _ _ _ s8 σ8 H8 _ I8 q8) fun b s9 ⟨H9, I9, q9⟩ => ?_
      cases b with
      | false =>
        obtain ⟨m', hm, w9⟩ := q9
        exact ⟨m', hm, again I9 w9⟩
      | true =>
        refine thn (he _ _ _ _ _ _ s9 σ8 H9 _ I9 q9) fun y s10 ⟨yv, H10, I10, r10, ys, hys, hlen, m', hm, w10⟩ => ?_
        exact thn (mt_append _ s10 σ8 H10 (.ref s2.heap.objs.size) [yv] (.ref s2.heap.objs.size) [y] (fun _ H11 => W (i + 1) m' σ8 H11) I10 rfl (.cons r10 .nil) ⟨_, ys, yv, rfl, rfl, hys, hlen, w10⟩) fun _ s11 ⟨_, H11, I11, _, q11⟩ => ⟨m', hm, again I11 q11⟩
  exact codeAny_compStart_list loop (T.self _ 0 _ _ _ st4 loop)

theorem pe_comp {N : List Str} {fsc : Scope} (O : CompOk N N' ix fsc scope) (hc : X.calm = true) (hi : PI X tg iter wi)
    (hg : ∀ cl C fp s H, PG (cxComp X N' scope cl C fp s H) tg g)
    (hifs : ∀ cl C fp s H, PTs (cxComp X N' scope cl C fp s H) ifs tc)
    (he : ∀ cl C fp s H, PE (cxComp X N' scope cl C fp s H) elt te)
    (hs : ∀ x, foldedSetIterable iter X.env x = pure x := by intro _; rfl) (hNN : X.N = N := by rfl) (hsc : X.env.scope = fsc := by rfl) : PE X (.ListComp elt [⟨tg, iter, ifs, 0⟩] scope pos) (tComp wi g tc te ix) := by
  subst hNN hsc
  intro pins s σ H Q I h
  rw [eval_ListComp]
  refine wpAny_comprehension_free (use := none) rfl hs (closure_clOf fun y hy e => I.ok.has y.1 (O.free y hy e)) O.kind O.names (thn (hi pins s σ H _ I h) fun xv s1 h1 => thn h1 fun itv s2 h2 => ?_)
  obtain ⟨it, fp, tn, J, H2, e, I2, T, st2, f2, hq⟩ := h2
  subst e
  exact comp_run (Q := fun D H' => Q (.ref D) H') (RR := fun acc C => compPost (model X.prog X.w) X.A X.xe none (EP X pins σ Q) acc C) O hc hg hifs he I2 T st2 f2 hq
    fun D C H' s' m hD J' hm hn hl hC q => ⟨m, hm, fun h' hs' => ⟨.ref D, H', hl h' σ s' J' hs', rfl, q⟩⟩

/-- y = [..] -/
theorem ps_comp {N : List Str} {fsc : Scope} {i : Nat} {y : Str} {py spos : Pos} (hN : X.N.Nodup) (hy : X.N[i]? = some y) (hx : Loc X.env.scope y) (O : CompOk N N' ix fsc scope) (hc : X.calm = true) (hi : PI X tg iter wi)
    (hg : ∀ cl C fp s H, PG (cxComp X N' scope cl C fp s H) tg g)
    (hifs : ∀ cl C fp s H, PTs (cxComp X N' scope cl C fp s H) ifs tc)
    (he : ∀ cl C fp s H, PE (cxComp X N' scope cl C fp s H) elt te)
    (hsw : swapsWith (.ListComp elt [⟨tg, iter, ifs, 0⟩] scope pos) (some (.Name y py)) spos.line X.env = pure true := by rfl)
    (hs : ∀ x, foldedSetIterable iter X.env x = pure x := by intro _; rfl) (hf : X.fn y = true ∨ X.env.scope.names.lookup y = some .local := by first | exact .inl rfl | exact .inr rfl | assumption) (hNN : X.N = N := by rfl) (hsc : X.env.scope = fsc := by rfl) :
    PS X (.Assign [.Name y py] (.ListComp elt [⟨tg, iter, ifs, 0⟩] scope pos) spos) (tAsg (tComp wi g tc te ix) (gName i)) := by
  subst hNN hsc
  intro pins s σ H D I h
  rw [exec_Assign_Name_used _ _ _ _ hsw]
  refine wpAny_bind (wpAny_standAt (wpAny_bind ?_))
  show wpAny _ X.A (do let _ ← comprehension (.ListComp elt [⟨tg, iter, ifs, 0⟩] scope pos) scope X.env _ (newList []) false (eval iter X.env) (some (assign (.Name y py) X.env))) _ _ s
  refine wpAny_bind (wpAny_mono (wpAny_comprehension_free (use := some (assign (.Name y py) X.env)) (Q := fun _ s' => SP X pins D .next s') rfl hs (closure_clOf fun y hy e => I.ok.has y.1 (O.free y hy e)) O.kind O.names
    (thn (hi pins s σ H _ I h) fun xv s1 h1 => thn h1 fun itv s2 h2 => ?_)) (fun _ s' hq => wpAny_pure (wpAny_pure hq)) fun _ _ e => e)
  obtain ⟨it, fp, tn, J, H2, e, I2, T, st2, f2, hq⟩ := h2
  subst e
  refine comp_run (Q := fun Da H' => D.nx (σ.set i (some (.ref Da))) H') (RR := fun acc C => compPost (model X.prog X.w) X.A X.xe (some (assign (.Name y py) X.env)) (fun _ s' => SP X pins D .next s') acc C) O hc hg hifs he I2 T st2 f2 hq
    fun Da C H' s' m hD J' hm hn hl hC q => ?_
  show wpAny _ X.A (assign (.Name y py) X.env (.ref Da)) _ _ s'
  refine wpAny_assign_Name (store_ok2 J' hN hy hx (v := .ref Da) rfl (fun s'' J'' hsb => ?_) hf)
  obtain ⟨a, sb, ha⟩ := hsb
  have hne : C ≠ a := by
    rcases ha with z | z
    · rw [z]; exact hC.1
    · exact Ne.symm (hC.2 _ _ z)
  exact ⟨m, hm.sameBut sb hne, fun h' hs' => ⟨_, H', hl h' _ s'' J'' hs', q⟩⟩
end
/-- what is walked: the items xs, as long as P holds of the heap -/
structure ItIs (J : It) (P : Hp → Prop) (xs : List V) : Prop where
  go : ∀ i H, P H → i < xs.length → J.go i H
  yld : ∀ i H x H', P H → J.yld i H x H' → i < xs.length → H' = H ∧ xs[i]? = some x
  stop : ∀ H, P H → J.stop xs.length H
theorem itis_range (lo : Int) (n : Nat) : ItIs (Itr lo n) (fun _ => True) ((List.range n).map fun k => V.int (lo + (k : Nat))) where
  go := fun i H _ h => by rw [List.length_map, List.length_range] at h; exact h
  yld := fun i H x H' _ y h => by
    rw [List.length_map, List.length_range] at h
    obtain ⟨rfl, rfl⟩ := y
    refine ⟨rfl, ?_⟩
    rw [List.getElem?_map, List.getElem?_range h]
    rfl
  stop := fun H _ => by rw [List.length_map, List.length_range]; exact Nat.le_refl _
theorem itis_list {K : PySem.W.Frag} (a : Addr) (xs : List V) : ItIs (Itl K a) (fun H => SqL K H a xs) xs where
  go := fun i H q h => ⟨xs, xs[i], q, by simp [h]⟩
  yld := fun i H x H' q y _ => ⟨y.1, y.2 xs q⟩
  stop := fun H q => ⟨xs, q, Nat.le_refl _⟩
theorem itis_tup {K : PySem.W.Frag} (a : Addr) (xs : List V) : ItIs (Itt K a) (fun H => SqT K H a xs) xs where
  go := fun i H q h => ⟨xs, xs[i], q, by simp [h]⟩
  yld := fun i H x H' q y _ => ⟨y.1, y.2 xs q⟩
  stop := fun H q => ⟨xs, q, Nat.le_refl _⟩

theorem same_upd {H H' : Hp} {p : Addr} (h : H p = none) (g : Same H H') (o : HO) : Same H (upd H' p o) := fun b u q => by rw [upd_ne (ne_of_none q h)]; exact g b u q
theorem same_new {H : Hp} {p : Addr} (h : H p = none) (o : HO) : Same H (upd H p o) := same_upd h (Same.refl H) o

theorem paired_snoc {α β : Type} {F : α → β → Prop} {a : α} {b : β} : ∀ {l₁ : List α} {l₂ : List β}, Paired F l₁ l₂ → F a b → Paired F (l₁ ++ [a]) (l₂ ++ [b])
  | _, _, .nil, h => .cons h .nil
  | _, _, .cons r t, h => .cons r (paired_snoc t h)
theorem paired_map {α β : Type} {f : α → β} : ∀ {l₁ : List α} {l₂ : List β}, Paired (fun a b => b = f a) l₁ l₂ → l₂ = l₁.map f
  | _, _, .nil => rfl
  | _, _, .cons r t => by rw [List.map_cons, ← r, ← paired_map t]

/-- the tuples are as they were -/
def SameT (H H' : Hp) : Prop := ∀ b xs, H b = some (.tup xs) → H' b = some (.tup xs)
theorem Same.t {H H' : Hp} (g : Same H H') : SameT H H' := fun b xs e => g b _ e
theorem sameT_lst {H : Hp} {D : Addr} {ys zs : List V} (e : H D = some (.lst ys)) : SameT H (upd H D (.lst zs)) := fun b xs q => by
  rw [upd_ne (ne_of q e (fun z => by cases z))]
  exact q

end L2
namespace L2
open PySem PySem.Spec PyProof.Rows
/-- the text of these code points -/
def S (l : List Nat) : Str := ⟨l.toArray⟩
theorem S_list (l : List Nat) : (S l).cps.toList = l := rfl
theorem S_len (l : List Nat) : (S l).length = l.length := by simp [S, Str.length]
theorem S_inj {a b : List Nat} (h : S a = S b) : a = b := congrArg (fun z : Str => z.cps.toList) h
theorem S_app (a b : List Nat) : S a ++ S b = S (a ++ b) := by
  show Str.append _ _ = _
  simp [S, Str.append]
theorem S_dec (a b : List Nat) : decide (S a = S b) = decide (a = b) := by
  by_cases h : a = b
  · subst h; simp
  · rw [decide_eq_false h, decide_eq_false fun z => h (S_inj z)]
theorem S_beq (a b : List Nat) : (S a == S b) = decide (a = b) := by
  rw [← S_dec]
  by_cases h : S a = S b
  · rw [h]; simp
  · rw [decide_eq_false h]; exact beq_eq_false_iff_ne.mpr h
/-- what l[lo:hi] cuts out -/
def cutL (l : List Nat) (lo hi : Option Int) : List Nat := (l.drop (HT.sIx l.length 0 lo)).take (HT.sIx l.length l.length hi - HT.sIx l.length 0 lo)
theorem cutL_length (l : List Nat) (lo hi : Option Int) : (cutL l lo hi).length ≤ l.length := by
  unfold cutL
  rw [List.length_take, List.length_drop]
  omega
theorem cutL_to_le (l : List Nat) {k : Int} (h : 0 ≤ k) : ((cutL l none (some k)).length : Int) ≤ k := by
  unfold cutL
  rw [List.length_take]
  have e : HT.sIx l.length l.length (some k) = min k.toNat l.length := by
    show (if k < 0 then _ else _) = _
    rw [if_neg (by omega)]
  rw [e]
  omega
open Builtin Builtin.Str in
theorem idx_clip (lo hi : Option Int) (n : Nat) : strSliceIndices lo hi 1 n = strSliceIndices (some ((HT.sIx n 0 lo : Nat) : Int)) (some ((HT.sIx n n hi : Nat) : Int)) 1 n := by
  have h1 : ((1 : Int) > 0) = True := by simp
  have e1 : (match lo with | none => (0 : Int) | some i => max 0 (min (if i < 0 then i + (n : Int) else i) (n : Int))) = max 0 (min (if ((HT.sIx n 0 lo : Nat) : Int) < 0 then ((HT.sIx n 0 lo : Nat) : Int) + (n : Int) else ((HT.sIx n 0 lo : Nat) : Int)) (n : Int)) := by
    have hle := HT.sIx_le n 0 (Nat.zero_le _) lo
    rw [if_neg (by omega)]
    cases lo with
    | none => show (0 : Int) = max 0 (min ((0 : Nat) : Int) n); omega
    | some v =>
      show max 0 (min (if v < 0 then v + (n : Int) else v) (n : Int)) = max 0 (min (((if v < 0 then (v + (n : Int)).toNat else min v.toNat n : Nat)) : Int) (n : Int))
      by_cases hv : v < 0
      · simp only [if_pos hv]; omega
      · simp only [if_neg hv]; omega
  have e2 : (match hi with | none => (n : Int) | some i => max 0 (min (if i < 0 then i + (n : Int) else i) (n : Int))) = max 0 (min (if ((HT.sIx n n hi : Nat) : Int) < 0 then ((HT.sIx n n hi : Nat) : Int) + (n : Int) else ((HT.sIx n n hi : Nat) : Int)) (n : Int)) := by
    have hle := HT.sIx_le n n (Nat.le_refl _) hi
    rw [if_neg (by omega)]
    cases hi with
    | none => show (n : Int) = max 0 (min ((n : Nat) : Int) n); omega
    | some v =>
      show max 0 (min (if v < 0 then v + (n : Int) else v) (n : Int)) = max 0 (min (((if v < 0 then (v + (n : Int)).toNat else min v.toNat n : Nat)) : Int) (n : Int))
      by_cases hv : v < 0
      · simp only [if_pos hv]; omega
      · simp only [if_neg hv]; omega
  simp only [strSliceIndices, h1, if_true]
  rw [← e1, ← e2]
  cases lo <;> cases hi <;> rfl
open Builtin Builtin.Str in
theorem idx_none {a b n : Nat} (ha : a ≤ n) (h : b ≤ a) : strSliceIndices (some (a : Int)) (some (b : Int)) 1 n = [] := by
  have h1 : ((1 : Int) > 0) = True := by simp
  have e1 : ¬ ((a : Int) < 0) := by omega
  have e2 : ¬ ((b : Int) < 0) := by omega
  have e3 : max (0 : Int) (min (a : Int) (n : Int)) = a := by omega
  have e4 : max (0 : Int) (min (b : Int) (n : Int)) = b := by omega
  simp only [strSliceIndices, sliceRange, h1, if_true, e1, e2, if_false, e3, e4]
  have : ¬ ((a : Int) < b) := by omega
  simp [this]
  try omega
theorem cut_eq (x : Str) (lo hi : Option Int) : Txt.slice x lo hi = S (cutL x.cps.toList lo hi) := by
  have hl : x.cps.toList.length = x.length := by simp [Str.length]
  have ha := HT.sIx_le x.length 0 (Nat.zero_le _) lo
  have hb := HT.sIx_le x.length x.length (Nat.le_refl _) hi
  unfold cutL
  rw [hl]
  have e : Txt.slice x lo hi = StrLaws.sliceText x (some ((HT.sIx x.length 0 lo : Nat) : Int)) (some ((HT.sIx x.length x.length hi : Nat) : Int)) := by
    unfold Txt.slice StrLaws.sliceText
    rw [idx_clip]
  rw [e]
  by_cases hab : HT.sIx x.length 0 lo ≤ HT.sIx x.length x.length hi
  · exact StrLaws.sliceText_nat x hab hb
  · have z : HT.sIx x.length x.length hi - HT.sIx x.length 0 lo = 0 := by omega
    rw [z, List.take_zero]
    unfold StrLaws.sliceText
    rw [idx_none ha (by omega)]
    split
    · rename_i h
      have h' : x.length = 0 := by
        have := h
        simp at this
        omega
      show x = S []
      have : x.cps = #[] := Array.eq_empty_of_size_eq_zero h'
      cases x
      simp [S] at *
      exact this
    · rfl
section
variable {X : Cx}
theorem pe_strS {x : Str} {l : List Nat} {j pos} (h : x = S l) : PE X (.Constant (.str x) j pos) (tC (.str (S l))) := by
  subst h
  exact pe_str

def rSlS : V → Option Int → Option Int → Hp → VK → Prop := fun x lo hi H Q => ∃ l, x = .str (S l) ∧ l.length ≤ sizeLine ∧ Q (.str (S (cutL l lo hi))) H
theorem sl_str : SlR X rSlS := by
  intro pins s σ H x v vl vu lo hi sl Q I rx hs pl pu h
  obtain ⟨l, rfl, hz, q⟩ := h
  obtain ⟨t, rfl⟩ := rx
  refine ⟨"str", _, F.slot_str_getitem.lookup, typeIs_str _ _ _, ?_⟩
  have hz' : (S l).length ≤ sizeLine := by rw [S_len]; exact hz
  have fin : ∀ t' k, EP X pins σ Q (.str (Txt.slice (S l) lo hi) t') { s with toks := k } := fun t' k => by
    rw [cut_eq, S_list]
    exact ⟨.str (S (cutL l lo hi)), H, I.tok _, ⟨_, rfl⟩, q⟩
  cases pl with
  | none =>
    cases pu with
    | none => exact wpAny_getItem_str_slice (l := none) (u := none) (st := none) hs rfl (post_val_or_str ⟨Nat.le_trans (Txt.slice_le (S l) none none) hz', fin⟩)
    | int j uj => exact wpAny_getItem_str_slice (l := none) (u := some (j, uj)) (st := none) hs rfl (post_val_or_str ⟨Nat.le_trans (Txt.slice_le (S l) none (some j)) hz', fin⟩)
  | int i ui =>
    cases pu with
    | none => exact wpAny_getItem_str_slice (l := some (i, ui)) (u := none) (st := none) hs rfl (post_val_or_str ⟨Nat.le_trans (Txt.slice_le (S l) (some i) none) hz', fin⟩)
    | int j uj => exact wpAny_getItem_str_slice (l := some (i, ui)) (u := some (j, uj)) (st := none) hs rfl (post_val_or_str ⟨Nat.le_trans (Txt.slice_le (S l) (some i) (some j)) hz', fin⟩)

def rAddS : R2 := fun x y H Q => ∃ a b, x = .str (S a) ∧ y = .str (S b) ∧ a.length + b.length ≤ sizeLine ∧ Q (.str (S (a ++ b))) H
theorem op_addS : OpR X (binaryOp .Add) rAddS := by
  intro pins s σ H x y v u Q I rx ry h
  obtain ⟨a, b, rfl, rfl, hz, q⟩ := h
  refine op_add_str pins s σ H _ _ v u Q I rx ry ⟨S a, S b, rfl, rfl, by rw [S_len, S_len]; exact hz, ?_⟩
  rw [S_app]
  exact q
theorem foldl_cps (l : List Nat) : ∀ (k : Nat) (acc : List Nat), List.foldl (fun x1 x2 => x1 ++ x2) acc.toArray (List.replicate k l.toArray) = (acc ++ (List.replicate k l).flatten).toArray
  | 0, acc => by simp
  | k + 1, acc => by
    have e : acc.toArray ++ l.toArray = (acc ++ l).toArray := by simp
    have e2 : (acc ++ l) ++ (List.replicate k l).flatten = acc ++ (List.replicate (k + 1) l).flatten := by
      rw [List.replicate_succ, List.flatten_cons, List.append_assoc]
    rw [← e2, ← foldl_cps l k (acc ++ l), ← e, List.replicate_succ, List.foldl_cons]
def repL (l : List Nat) (k : Int) : List Nat := (List.replicate k.toNat l).flatten
theorem repL_length (l : List Nat) (k : Int) : (repL l k).length = k.toNat * l.length := by
  unfold repL
  rw [List.length_flatten, List.map_replicate, List.sum_replicate_nat]
def rMulS : R2 := fun x y H Q => ∃ l k, x = .str (S l) ∧ y = .int k ∧ 0 ≤ k ∧ k < 1000000 ∧ l.length * k.toNat ≤ 1000000 ∧ Q (.str (S (repL l k))) H
theorem op_mulS : OpR X (binaryOp .Mult) rMulS := by
  intro pins s σ H x y v u Q I rx ry h
  obtain ⟨l, k, rfl, rfl, h0, h1, h2, q⟩ := h
  obtain ⟨t, rfl⟩ := rx
  obtain ⟨t', rfl⟩ := ry
  have hbig : (1000000 : Nat) ≤ sizeLine := by rw [sizeLine_eq]; decide
  have done : ∀ (z : Str) (t2 : Tok) (tk : Nat), z = S (repL l k) → EP X pins σ Q (.str z t2) { s with toks := tk } := fun z t2 tk e => by
    subst e
    exact ⟨.str _, H, I.tok _, ⟨_, rfl⟩, q⟩
  refine P.mul_str ?_ ?_ ?_ ?_
  · rw [decide_eq_false (by omega), decide_eq_false (by omega)]
    rfl
  · intro hk _ hgt
    rw [S_len] at hgt
    have hk' : 1 ≤ k := by omega
    have e1 : (l.length : Int) * k ≤ 1000000 := by
      have : ((l.length * k.toNat : Nat) : Int) ≤ 1000000 := by omega
      rw [Int.natCast_mul, Int.toNat_of_nonneg h0] at this
      exact this
    have e2 : (l.length : Int) ≤ 1000000 := by
      have e4 : (l.length : Int) * 1 ≤ (l.length : Int) * k := Int.mul_le_mul_of_nonneg_left hk' (by omega)
      omega
    have e3 : (1000000 : Int) ≤ (2 ^ 63 - 1) / k := by
      rw [Int.le_ediv_iff_mul_le (by omega)]
      omega
    omega
  · intro _ _
    unfold Builtin.Str.tooLong
    rw [S_len]
    exact decide_eq_false (by omega)
  · by_cases hk : k < 1
    · rw [if_pos hk]
      have e : repL l k = [] := by
        unfold repL
        rw [show k.toNat = 0 by omega]
        rfl
      exact ⟨by show (0 : Nat) ≤ sizeLine; exact Nat.zero_le _, done _ _ _ (by rw [e]; rfl)⟩
    · rw [if_neg hk]
      by_cases h1' : (k == 1 || (S l).length == 0) = true
      · rw [if_pos h1']
        refine done _ _ s.toks ?_
        rw [Bool.or_eq_true] at h1'
        rcases h1' with z | z
        · have z' : k = 1 := eq_of_beq z
          subst z'
          show S l = S (repL l 1)
          unfold repL
          simp
        · have z' : l.length = 0 := by rw [S_len] at z; exact eq_of_beq z
          have z2 : l = [] := List.length_eq_zero_iff.mp z'
          subst z2
          unfold repL
          simp
      · rw [if_neg h1']
        have e : (⟨(List.replicate k.toNat (S l).cps).foldl (· ++ ·) #[]⟩ : Str) = S (repL l k) := by
          have := foldl_cps l k.toNat []
          rw [List.nil_append] at this
          exact congrArg Str.mk this
        refine ⟨?_, done _ _ _ e⟩
        rw [e, S_len, repL_length, Nat.mul_comm]
        omega

def rCmpS (p : List Nat → List Nat → Bool) : R2 := fun x y H Q => ∃ a b, x = .str (S a) ∧ y = .str (S b) ∧ Q (.bl (p a b)) H
theorem dec_strS (a b : List Nat) : decide (V.str (S a) = V.str (S b)) = decide (a = b) := by rw [dec_str, S_beq]
theorem op_eqS : OpR X (compareOp .Eq) (rCmpS fun a b => decide (a = b)) := by
  intro pins s σ H x y v u Q I rx ry h
  obtain ⟨a, b, rfl, rfl, q⟩ := h
  exact op_eq pins s σ H _ _ v u Q I rx ry ⟨rfl, by rw [dec_strS]; exact q⟩
theorem op_neS : OpR X (compareOp .NotEq) (rCmpS fun a b => !decide (a = b)) := by
  intro pins s σ H x y v u Q I rx ry h
  obtain ⟨a, b, rfl, rfl, q⟩ := h
  exact op_ne pins s σ H _ _ v u Q I rx ry ⟨rfl, by rw [dec_strS]; exact q⟩
noncomputable def hasL (y x : List Nat) : Bool := !(Builtin.Str.occurrences (S x) (S y) 0 (S x).length 1).isEmpty
def rLenS : List V → Hp → VK → Prop := fun xs H Q => ∃ l, xs = [.str (S l)] ∧ l.length ≤ sizeLine ∧ Q (.int l.length) H
theorem call_lenS : CallR X (.builtin "len") rLenS := by
  intro pins s σ H xs us Q I r h
  obtain ⟨l, rfl, hz, q⟩ := h
  exact call_len_str pins s σ H _ us Q I r ⟨S l, rfl, by rw [S_len]; exact hz, by rw [S_len]; exact q⟩
def rIxS' : R2 := fun x y H Q => ∃ l i c, x = .str (S l) ∧ y = .int i ∧ l.length ≤ sizeLine ∧ atI l i = some c ∧ Q (.str (S [c])) H
theorem ix_strS : IxR X rIxS' := by
  intro value slice pins s σ H x y v u Q I rx ry h hs
  obtain ⟨l, i, c, rfl, rfl, hz, he, q⟩ := h
  exact ix_str value slice pins s σ H _ _ v u Q I rx ry ⟨S l, i, c, rfl, rfl, by rw [S_len]; exact hz, he, q⟩ hs

end
section
variable {X : Cx} {K : PySem.W.Frag}
theorem CallR.k {f : Value} (r : PySem.W.Frag → List V → Hp → VK → Prop) (q : CallR X f (r X.K)) (h : X.K = K) : CallR X f (r K) := h ▸ q
theorem pe_bmK {o e : Expr} {es : List Expr} {to : TE} {t : TA} {name : Str} {apos cpos : Pos} {T id : String} {r : V → List V → Hp → VK → Prop} (K : PySem.W.Frag) (pa : PlainAttrs T) (slot : Slot T name id) (hty : typeOf (.builtin id) = pure (.type "method_descriptor")) (hm : MtR X id r) (ho : PE X o to) (ha : PA X (e :: es) t)
    (hK : X.K = K := by rfl) (hbase : attributeBase o name X.env (eval o X.env) = eval o X.env := by rfl)
    (hfew : ((backTo cpos (starEach (e :: es) X.env)).all (fun x => !x.1) && (backToKw cpos (keywordEach [] X.env)).all (fun x => x.1.isSome)
      && decide ((e :: es).length + ([] : List Keyword).length + (if ([] : List Keyword).isEmpty then 0 else 1) < 30)) = true := by rfl)
    (hline : (apos.endLine == cpos.line) = true := by rfl) (hs : starEach (e :: es) X.env = (false, eval e X.env) :: starEach es X.env := by rfl) (hplain : (backTo cpos (starEach es X.env)).any (·.1) = false := by rfl) :
    PE X (.Call (.Attribute o name apos) (e :: es) [] cpos) (tBM K T r to t) := hK ▸ pe_bm pa slot hty hm ho ha hbase hfew hline hs hplain
end
end L2
set_option Elab.async false
set_option linter.all false
set_option maxRecDepth 100000
namespace TS
open PySem PyProof.Rows
def gallop' : Bool → Keyed → Array Keyed → Nat → Nat → Nat → StateT SortSt Sem (Option Nat) := sortPriv% PySem.Builtin.gallop
def setMinGallop' : Nat → StateT SortSt Sem Unit := sortPriv% PySem.Builtin.setMinGallop
def mergeLo' : Array Keyed → Array Keyed → StateT SortSt Sem (Array Keyed) := sortPriv% PySem.Builtin.mergeLo
def mergeHi' : Array Keyed → Array Keyed → StateT SortSt Sem (Array Keyed) := sortPriv% PySem.Builtin.mergeHi
theorem gallop'_eq (left : Bool) (key : Keyed) (arr : Array Keyed) (base n hint : Nat) : gallop' left key arr base n hint = (do
  let beyond (i : Nat) : StateT SortSt Sem (Option Bool) := do
    let x ← elem' arr (base + i)
    if left then lt' x key else return (← lt' key x).map (!·)
  let mut lastofs := 0
  let mut ofs := 1
  let mut lo := 0
  let mut hi := 0
  let some right ← beyond hint | return none
  if right then
    let maxofs := n - hint
    for _ in [0:n] do
      if ofs ≥ maxofs then break
      let some more ← beyond (hint + ofs) | return none
      if !more then break
      lastofs := ofs
      ofs := 2 * ofs + 1
    lo := hint + lastofs + 1
    hi := hint + min ofs maxofs
  else
    let maxofs := hint + 1
    for _ in [0:n] do
      if ofs ≥ maxofs then break
      let some found ← beyond (hint - ofs) | return none
      if found then break
      lastofs := ofs
      ofs := 2 * ofs + 1
    lo := hint + 1 - min ofs maxofs
    hi := hint - lastofs
  for _ in [0:n] do
    if lo ≥ hi then break
    let m := lo + (hi - lo) / 2
    let some more ← beyond m | return none
    if more then lo := m + 1 else hi := m
  return some hi) := rfl
section
variable {prog : Program} {w : World} {A : Around} {E : Value → Shared → Prop} {s : Shared} {κ : PyProof.Rows.KeyKind} {kd : SortKind}
def key (κ : PyProof.Rows.KeyKind) (p : Keyed) : κ.α := (κ.keyOf p.1).getD κ.dflt
def Has (κ : PyProof.Rows.KeyKind) (p : Keyed) : Prop := ∃ a, κ.keyOf p.1 = some a
theorem Has.key {p : Keyed} (h : Has κ p) : κ.keyOf p.1 = some (key κ p) := by
  obtain ⟨a, e⟩ := h
  unfold TS.key
  rw [e]
  rfl
/-- two keys are compared as κ says, and nothing is changed by it -/
def LtOk (κ : PyProof.Rows.KeyKind) (kd : SortKind) (prog : Program) (w : World) (A : Around) (s : Shared) : Prop :=
  ∀ (E : Value → Shared → Prop) (x y : Value) (a b : κ.α) (Q : Bool → Shared → Prop), κ.keyOf x = some a → κ.keyOf y = some b → Q (κ.blt a b) s → wpAny (model prog w) A (keyLt' kd x y) Q E s

theorem wpS_lt (L : LtOk κ kd prog w A s) {st : SortSt} {x y : Keyed} {Q : Option Bool → SortSt → Prop} (hk : kindOf st = kd) (hx : Has κ x) (hy : Has κ y) (q : Q (some (κ.blt (key κ x) (key κ y))) st) :
    wpS (model prog w) A E s (lt' x y) Q st := by
  rw [lt'_eq]
  refine wpS_bind (wpS_get ?_)
  rw [hk]
  refine wpS_bind (wpS_lift (wpAny_attempt (L _ x.1 y.1 _ _ _ hx.key hy.key ⟨rfl, ?_⟩)))
  exact wpS_pure q
theorem wpS_elem {st : SortSt} {arr : Array Keyed} {i : Nat} {p : Keyed} {Q : Keyed → SortSt → Prop} (h : arr[i]? = some p) (q : Q p st) : wpS (model prog w) A E s (elem' arr i) Q st := by
  rw [elem'_eq, h]
  exact wpS_pure q

/-- on which side of the key an item lies -/
def side (κ : PyProof.Rows.KeyKind) (left : Bool) (k x : Keyed) : Bool := if left = true then κ.blt (key κ x) (key κ k) else !κ.blt (key κ k) (key κ x)

theorem wpS_gallop (L : LtOk κ kd prog w A s) {st : SortSt} {left : Bool} {k : Keyed} {arr : Array Keyed} {base n hint : Nat} {g : Nat → Keyed} {Q : Option Nat → SortSt → Prop} (hk : kindOf st = kd) (hkey : Has κ k)
    (harr : ∀ i, i < n → arr[base + i]? = some (g i) ∧ Has κ (g i)) (hh : hint < n) (mono : ∀ i j, i ≤ j → j < n → side κ left k (g j) = true → side κ left k (g i) = true)
    (q : ∀ r, r ≤ n → (∀ i, i < r → side κ left k (g i) = true) → (∀ i, r ≤ i → i < n → side κ left k (g i) = false) → Q (some r) st) :
    wpS (model prog w) A E s (gallop' left k arr base n hint) Q st := by
  have hb : ∀ (i : Nat) (Q : Option Bool → SortSt → Prop), i < n → Q (some (side κ left k (g i))) st →
      wpS (model prog w) A E s (do let x ← elem' arr (base + i); if left = true then lt' x k else do let r ← lt' k x; pure (r.map (!·))) Q st := by
    intro i Q hi hq
    obtain ⟨e, hg⟩ := harr i hi
    refine wpS_bind (wpS_elem e ?_)
    unfold side at hq
    cases left with
    | true =>
      simp only [if_true] at hq ⊢
      exact wpS_lt L hk hg hkey hq
    | false =>
      simp only [Bool.false_eq_true, if_false] at hq ⊢
      exact wpS_bind (wpS_lt L hk hkey hg (wpS_pure hq))
  rw [gallop'_eq]
  dsimp only
  refine wpS_bind (hb hint _ hh ?_)
  dsimp only
  cases hf0 : side κ left k (g hint) with
  | true =>
    simp only [if_true]
    refine wpS_bind (wpS_mono (wpS_forRange (I := fun x c st' => st = st' ∧ ∃ l o, c = (none, l, o) ∧ l < o ∧ x < o ∧ hint + l < n ∧ side κ left k (g (hint + l)) = true)
      (Q := fun c st' => st = st' ∧ ∃ l o, c = (none, l, o) ∧ l < o ∧ hint + l < n ∧ side κ left k (g (hint + l)) = true ∧ (n - hint ≤ o ∨ (hint + o < n ∧ side κ left k (g (hint + o)) = false))) ?_ ?_ ⟨rfl, 0, 1, rfl, by omega, by omega, hh, hf0⟩) ?_)
    · rintro x c st' _ hx ⟨rfl, l, o, rfl, hlo, hxo, hln, hfl⟩
      dsimp only
      by_cases hge : o ≥ n - hint
      · rw [if_pos hge]
        exact wpS_pure ⟨rfl, l, o, rfl, hlo, hln, hfl, .inl hge⟩
      · rw [if_neg hge]
        refine wpS_bind (hb _ _ (by omega) ?_)
        dsimp only
        cases hf : side κ left k (g (hint + o)) with
        | true =>
          simp only [Bool.not_true, Bool.false_eq_true, if_false]
          exact wpS_pure ⟨rfl, o, _, rfl, by omega, by omega, by omega, hf⟩
        | false =>
          simp only [Bool.not_false, if_true]
          exact wpS_pure ⟨rfl, l, o, rfl, hlo, hln, hfl, .inr ⟨by omega, hf⟩⟩
    · rintro c st' ⟨rfl, l, o, rfl, hlo, hxo, hln, hfl⟩
      exact ⟨rfl, l, o, rfl, hlo, hln, hfl, .inl (by omega)⟩
    · rintro c st' ⟨rfl, l, o, rfl, hlo, hln, hfl, hor⟩
      dsimp only
      refine wpS_bind (wpS_mono (wpS_forRange (I := fun x c st' => st = st' ∧ ∃ l h, c = (none, l, h) ∧ l ≤ h ∧ h ≤ n ∧ h - l ≤ n - x ∧ (∀ i, i < l → side κ left k (g i) = true) ∧ (∀ i, h ≤ i → i < n → side κ left k (g i) = false))
        (Q := fun c st' => st = st' ∧ ∃ l h, c = (none, l, h) ∧ h ≤ n ∧ (∀ i, i < h → side κ left k (g i) = true) ∧ (∀ i, h ≤ i → i < n → side κ left k (g i) = false)) ?_ ?_ ⟨rfl, _, _, rfl, ?_, ?_, ?_, ?_, ?_⟩) ?_)
      · rintro x c st' _ hx ⟨rfl, l, h, rfl, hlh, hhn, hm, h1, h2⟩
        dsimp only
        by_cases hge : l ≥ h
        · rw [if_pos hge]
          have e : l = h := by omega
          subst e
          exact wpS_pure ⟨rfl, l, l, rfl, hhn, h1, h2⟩
        · rw [if_neg hge]
          refine wpS_bind (hb _ _ (by omega) ?_)
          dsimp only
          cases hf : side κ left k (g (l + (h - l) / 2)) with
          | true =>
            simp only [if_true]
            exact wpS_pure ⟨rfl, _, _, rfl, by omega, hhn, by omega, fun i hi => mono i (l + (h - l) / 2) (by omega) (by omega) hf, h2⟩
          | false =>
            simp only [Bool.false_eq_true, if_false]
            refine wpS_pure ⟨rfl, _, _, rfl, by omega, by omega, by omega, h1, fun i hi hin => ?_⟩
            cases hfi : side κ left k (g i) with
            | false => rfl
            | true => rw [mono _ i hi hin hfi] at hf; cases hf
      · rintro c st' ⟨rfl, l, h, rfl, hlh, hhn, hm, h1, h2⟩
        have e : l = h := by omega
        subst e
        exact ⟨rfl, l, l, rfl, hhn, h1, h2⟩
      · rcases hor with z | z <;> omega
      · omega
      · omega
      · intro i hi
        exact mono i (hint + l) (by omega) hln hfl
      · intro i hi hin
        rcases hor with z | ⟨z1, z2⟩
        · omega
        · cases hfi : side κ left k (g i) with
          | false => rfl
          | true => rw [mono (hint + o) i (by omega) hin hfi] at z2; cases z2
      · rintro c st' ⟨rfl, l, h, rfl, hhn, h1, h2⟩
        exact wpS_pure (q h hhn h1 h2)
  | false =>
    simp only [Bool.false_eq_true, if_false]
    refine wpS_bind (wpS_mono (wpS_forRange (I := fun x c st' => st = st' ∧ ∃ l o, c = (none, l, o) ∧ l < o ∧ x < o ∧ l ≤ hint ∧ side κ left k (g (hint - l)) = false)
      (Q := fun c st' => st = st' ∧ ∃ l o, c = (none, l, o) ∧ l < o ∧ l ≤ hint ∧ side κ left k (g (hint - l)) = false ∧ (hint + 1 ≤ o ∨ (o ≤ hint ∧ side κ left k (g (hint - o)) = true))) ?_ ?_ ⟨rfl, 0, 1, rfl, by omega, by omega, by omega, hf0⟩) ?_)
    · rintro x c st' _ hx ⟨rfl, l, o, rfl, hlo, hxo, hln, hfl⟩
      dsimp only
      by_cases hge : o ≥ hint + 1
      · rw [if_pos hge]
        exact wpS_pure ⟨rfl, l, o, rfl, hlo, hln, hfl, .inl hge⟩
      · rw [if_neg hge]
        refine wpS_bind (hb _ _ (by omega) ?_)
        dsimp only
        cases hf : side κ left k (g (hint - o)) with
        | true =>
          simp only [if_true]
          exact wpS_pure ⟨rfl, l, o, rfl, hlo, hln, hfl, .inr ⟨by omega, hf⟩⟩
        | false =>
          simp only [Bool.false_eq_true, if_false]
          exact wpS_pure ⟨rfl, o, _, rfl, by omega, by omega, by omega, hf⟩
    · rintro c st' ⟨rfl, l, o, rfl, hlo, hxo, hln, hfl⟩
      exact ⟨rfl, l, o, rfl, hlo, hln, hfl, .inl (by omega)⟩
    · rintro c st' ⟨rfl, l, o, rfl, hlo, hln, hfl, hor⟩
      dsimp only
      refine wpS_bind (wpS_mono (wpS_forRange (I := fun x c st' => st = st' ∧ ∃ l h, c = (none, l, h) ∧ l ≤ h ∧ h ≤ n ∧ h - l ≤ n - x ∧ (∀ i, i < l → side κ left k (g i) = true) ∧ (∀ i, h ≤ i → i < n → side κ left k (g i) = false))
        (Q := fun c st' => st = st' ∧ ∃ l h, c = (none, l, h) ∧ h ≤ n ∧ (∀ i, i < h → side κ left k (g i) = true) ∧ (∀ i, h ≤ i → i < n → side κ left k (g i) = false)) ?_ ?_ ⟨rfl, _, _, rfl, ?_, ?_, ?_, ?_, ?_⟩) ?_)
      · rintro x c st' _ hx ⟨rfl, l, h, rfl, hlh, hhn, hm, h1, h2⟩
        dsimp only
        by_cases hge : l ≥ h
        · rw [if_pos hge]
          have e : l = h := by omega
          subst e
          exact wpS_pure ⟨rfl, l, l, rfl, hhn, h1, h2⟩
        · rw [if_neg hge]
          refine wpS_bind (hb _ _ (by omega) ?_)
          dsimp only
          cases hf : side κ left k (g (l + (h - l) / 2)) with
          | true =>
            simp only [if_true]
            exact wpS_pure ⟨rfl, _, _, rfl, by omega, hhn, by omega, fun i hi => mono i (l + (h - l) / 2) (by omega) (by omega) hf, h2⟩
          | false =>
            simp only [Bool.false_eq_true, if_false]
            refine wpS_pure ⟨rfl, _, _, rfl, by omega, by omega, by omega, h1, fun i hi hin => ?_⟩
            cases hfi : side κ left k (g i) with
            | false => rfl
            | true => rw [mono _ i hi hin hfi] at hf; cases hf
      · rintro c st' ⟨rfl, l, h, rfl, hlh, hhn, hm, h1, h2⟩
        have e : l = h := by omega
        subst e
        exact ⟨rfl, l, l, rfl, hhn, h1, h2⟩
      · rcases hor with z | z <;> omega
      · omega
      · omega
      · intro i hi
        rcases hor with z | ⟨z1, z2⟩
        · omega
        · exact mono i (hint - o) (by omega) (by omega) z2
      · intro i hi hin
        cases hfi : side κ left k (g i) with
        | false => rfl
        | true => rw [mono (hint - l) i (by omega) hin hfi] at hfl; cases hfl
      · rintro c st' ⟨rfl, l, h, rfl, hhn, h1, h2⟩
        exact wpS_pure (q h hhn h1 h2)
end
end TS
set_option Elab.async false
set_option linter.all false
set_option maxRecDepth 100000
namespace TS
open PySem PyProof.Rows
theorem setMinGallop'_eq (g : Nat) : setMinGallop' g = modify fun s => SortSt.mk' (kindOf s) (arrOf s) (pendingOf s) g (failedOf s) := rfl
theorem mergeLo'_eq (a b : Array Keyed) : mergeLo' a b = (do
  rule "list.sort.merge-lo"
  let total := a.size + b.size
  let done (out : Array Keyed) (ia ib : Nat) := out ++ a.extract ia a.size ++ b.extract ib b.size
  let lastOfA (out : Array Keyed) (ia ib : Nat) := out ++ b.extract ib b.size ++ a.extract ia a.size
  let mut out : Array Keyed := #[← elem' b 0]
  let mut ia := 0
  let mut ib := 1
  if ib == b.size then return done out ia ib
  if ia + 1 == a.size then return lastOfA out ia ib
  let mut minGallop := gallopOf (← get)
  for _ in [0:total] do
    let mut acount := 0
    let mut bcount := 0
    for _ in [0:total] do
      let some bWins ← lt' (← elem' b ib) (← elem' a ia) | return done out ia ib
      if bWins then
        out := out.push (← elem' b ib); ib := ib + 1; bcount := bcount + 1; acount := 0
        if ib == b.size then return done out ia ib
        if bcount ≥ minGallop then break
      else
        out := out.push (← elem' a ia); ia := ia + 1; acount := acount + 1; bcount := 0
        if ia + 1 == a.size then return lastOfA out ia ib
        if acount ≥ minGallop then break
    rule "list.sort.gallop"
    minGallop := minGallop + 1
    for _ in [0:total] do
      if minGallop > 1 then minGallop := minGallop - 1
      setMinGallop' minGallop
      let some k ← gallop' false (← elem' b ib) a ia (a.size - ia) 0 | return done out ia ib
      acount := k
      if k > 0 then
        out := out ++ a.extract ia (ia + k); ia := ia + k
        if ia + 1 == a.size then return lastOfA out ia ib
        if ia == a.size then return done out ia ib
      out := out.push (← elem' b ib); ib := ib + 1
      if ib == b.size then return done out ia ib
      let some k ← gallop' true (← elem' a ia) b ib (b.size - ib) 0 | return done out ia ib
      bcount := k
      if k > 0 then
        out := out ++ b.extract ib (ib + k); ib := ib + k
        if ib == b.size then return done out ia ib
      out := out.push (← elem' a ia); ia := ia + 1
      if ia + 1 == a.size then return lastOfA out ia ib
      if acount < 7 && bcount < 7 then break
    minGallop := minGallop + 1
    setMinGallop' minGallop
  unsupported "internal:list.sort.merge-bound") := rfl
section
variable {κ : PyProof.Rows.KeyKind}
abbrev Le (κ : PyProof.Rows.KeyKind) (p q : Keyed) : Prop := κ.kle (key κ p) (key κ q)
theorem Le.trans {p q r : Keyed} (h1 : Le κ p q) (h2 : Le κ q r) : Le κ p r := PyProof.Rows.KeyOrd.kle_trans h1 h2
/-- a merge under way: out has what was taken of both -/
structure MW (κ : PyProof.Rows.KeyKind) (a b out : List Keyed) (ia ib : Nat) : Prop where
  la : ia ≤ a.length
  lb : ib ≤ b.length
  perm : out.Perm (a.take ia ++ b.take ib)
  oa : (out ++ a.drop ia).Pairwise (Le κ)
  ob : (out ++ b.drop ib).Pairwise (Le κ)
def Good (κ : PyProof.Rows.KeyKind) (a b r : List Keyed) : Prop := r.Perm (a ++ b) ∧ r.Pairwise (Le κ)
variable {a b out : List Keyed} {ia ib : Nat}
theorem MW.size (h : MW κ a b out ia ib) : out.length = ia + ib := by
  have := h.perm.length_eq
  rw [List.length_append, List.length_take, List.length_take] at this
  have := h.la
  have := h.lb
  omega
theorem MW.done (h : MW κ a b out ia ib) (e : ib = b.length ∨ ia = a.length) : Good κ a b (out ++ a.drop ia ++ b.drop ib) := by
  constructor
  · have p1 : (out ++ a.drop ia ++ b.drop ib).Perm ((a.take ia ++ b.take ib) ++ a.drop ia ++ b.drop ib) := (h.perm.append_right _).append_right _
    refine p1.trans ?_
    have p2 : (a.take ia ++ b.take ib ++ a.drop ia).Perm (a.take ia ++ a.drop ia ++ b.take ib) := by
      rw [List.append_assoc, List.append_assoc]
      exact List.Perm.append_left _ List.perm_append_comm
    refine (p2.append_right _).trans ?_
    rw [List.append_assoc, List.take_append_drop, List.take_append_drop]
  · rcases e with e | e
    · rw [e, List.drop_length, List.append_nil]
      exact h.oa
    · rw [e, List.drop_length, List.append_nil]
      exact h.ob
theorem MW.last (h : MW κ a b out ia ib) (e : ia + 1 = a.length) (hb : ∀ q ∈ b, ∀ p ∈ a.drop ia, Le κ q p) : Good κ a b (out ++ b.drop ib ++ a.drop ia) := by
  constructor
  · have p1 : (out ++ b.drop ib ++ a.drop ia).Perm ((a.take ia ++ b.take ib) ++ b.drop ib ++ a.drop ia) := (h.perm.append_right _).append_right _
    refine p1.trans ?_
    rw [List.append_assoc (a.take ia), List.take_append_drop, List.append_assoc]
    refine (List.Perm.append_left (a.take ia) List.perm_append_comm).trans ?_
    rw [← List.append_assoc, List.take_append_drop]
  · have h1 := List.pairwise_append.mp h.oa
    have h2 := List.pairwise_append.mp h.ob
    refine List.pairwise_append.mpr ⟨h.ob, h1.2.1, fun x hx y hy => ?_⟩
    rcases List.mem_append.mp hx with hx | hx
    · exact h1.2.2 x hx y hy
    · exact hb x (List.mem_of_mem_drop hx) y hy
theorem MW.appB (h : MW κ a b out ia ib) {k : Nat} (hk : ib + k ≤ b.length) (hle : ∀ q ∈ (b.drop ib).take k, ∀ p ∈ a.drop ia, Le κ q p) : MW κ a b (out ++ (b.drop ib).take k) ia (ib + k) := by
  have e1 : b.take (ib + k) = b.take ib ++ (b.drop ib).take k := by rw [List.take_add]
  have e2 : (b.drop ib).take k ++ b.drop (ib + k) = b.drop ib := by rw [← List.drop_drop, List.take_append_drop]
  have h1 := List.pairwise_append.mp h.oa
  have h2 := List.pairwise_append.mp h.ob
  refine ⟨h.la, hk, ?_, ?_, ?_⟩
  · rw [e1, ← List.append_assoc]
    exact h.perm.append_right _
  · rw [List.append_assoc]
    refine List.pairwise_append.mpr ⟨h1.1, List.pairwise_append.mpr ⟨h2.2.1.sublist (List.take_sublist _ _), h1.2.1, fun x hx y hy => hle x hx y hy⟩, fun x hx y hy => ?_⟩
    rcases List.mem_append.mp hy with hy | hy
    · exact h2.2.2 x hx y (List.mem_of_mem_take hy)
    · exact h1.2.2 x hx y hy
  · rw [List.append_assoc, e2]
    exact h.ob
theorem MW.appA (h : MW κ a b out ia ib) {k : Nat} (hk : ia + k ≤ a.length) (hle : ∀ p ∈ (a.drop ia).take k, ∀ q ∈ b.drop ib, Le κ p q) : MW κ a b (out ++ (a.drop ia).take k) (ia + k) ib := by
  have e1 : a.take (ia + k) = a.take ia ++ (a.drop ia).take k := by rw [List.take_add]
  have e2 : (a.drop ia).take k ++ a.drop (ia + k) = a.drop ia := by rw [← List.drop_drop, List.take_append_drop]
  have h1 := List.pairwise_append.mp h.oa
  have h2 := List.pairwise_append.mp h.ob
  refine ⟨hk, h.lb, ?_, ?_, ?_⟩
  · rw [e1]
    refine (h.perm.append_right _).trans ?_
    rw [List.append_assoc, List.append_assoc]
    exact List.Perm.append_left _ List.perm_append_comm
  · rw [List.append_assoc, e2]
    exact h.oa
  · rw [List.append_assoc]
    refine List.pairwise_append.mpr ⟨h2.1, List.pairwise_append.mpr ⟨h1.2.1.sublist (List.take_sublist _ _), h2.2.1, fun x hx y hy => hle x hx y hy⟩, fun x hx y hy => ?_⟩
    rcases List.mem_append.mp hy with hy | hy
    · exact h1.2.2 x hx y (List.mem_of_mem_take hy)
    · exact h2.2.2 x hx y hy
theorem take1 {l : List Keyed} {i : Nat} (h : i < l.length) : (l.drop i).take 1 = [l[i]] := by
  rw [List.drop_eq_getElem_cons h]
  rfl
theorem MW.pushB (h : MW κ a b out ia ib) (hb : ib < b.length) (hle : ∀ p ∈ a.drop ia, Le κ b[ib] p) : MW κ a b (out ++ [b[ib]]) ia (ib + 1) := by
  have := h.appB (k := 1) (by omega) (fun q hq p hp => by rw [take1 hb] at hq; rw [List.mem_singleton.mp hq]; exact hle p hp)
  rw [take1 hb] at this
  exact this
theorem MW.pushA (h : MW κ a b out ia ib) (ha : ia < a.length) (hle : ∀ q ∈ b.drop ib, Le κ a[ia] q) : MW κ a b (out ++ [a[ia]]) (ia + 1) ib := by
  have := h.appA (k := 1) (by omega) (fun q hq p hp => by rw [take1 ha] at hq; rw [List.mem_singleton.mp hq]; exact hle p hp)
  rw [take1 ha] at this
  exact this
theorem le_rest {l : List Keyed} (hs : l.Pairwise (Le κ)) {i : Nat} (h : i < l.length) : ∀ p ∈ l.drop i, Le κ l[i] p := by
  intro p hp
  have hs' : (l.drop i).Pairwise (Le κ) := hs.sublist (List.drop_sublist _ _)
  rw [List.drop_eq_getElem_cons h] at hs' hp
  rcases List.mem_cons.mp hp with e | hp
  · rw [e]; exact PyProof.Rows.KeyOrd.kle_refl _
  · exact (List.pairwise_cons.mp hs').1 p hp
end
end TS
set_option Elab.async false
set_option linter.all false
set_option maxRecDepth 100000
namespace TS
open PySem PyProof.Rows
section
variable {prog : Program} {w : World} {A : Around} {E : Value → Shared → Prop} {s : Shared} {κ : PyProof.Rows.KeyKind} {kd : SortKind}
theorem side_le {left : Bool} {k x : Keyed} (h : side κ left k x = true) : Le κ x k := by
  unfold side at h
  cases left with
  | true => simp only [if_true] at h; exact PyProof.Rows.KeyOrd.kle_of_klt h
  | false =>
    simp only [Bool.false_eq_true, if_false, Bool.not_eq_true'] at h
    exact h
theorem side_ge {left : Bool} {k x : Keyed} (h : side κ left k x = false) : Le κ k x := by
  unfold side at h
  cases left with
  | true => simp only [if_true] at h; exact h
  | false =>
    simp only [Bool.false_eq_true, if_false, Bool.not_eq_false'] at h
    exact PyProof.Rows.KeyOrd.kle_of_klt h
theorem side_mono {left : Bool} {k x y : Keyed} (hxy : Le κ x y) (h : side κ left k y = true) : side κ left k x = true := by
  unfold side at h ⊢
  cases left with
  | true =>
    simp only [if_true] at h ⊢
    exact PyProof.Rows.KeyOrd.klt_of_kle_of_klt hxy h
  | false =>
    simp only [Bool.false_eq_true, if_false, Bool.not_eq_true'] at h ⊢
    cases hb : κ.blt (key κ k) (key κ x) with
    | false => rfl
    | true =>
      have := PyProof.Rows.KeyOrd.klt_of_klt_of_kle (O := κ.toKeyOrd) hb hxy
      unfold PyProof.Rows.KeyOrd.klt at this
      rw [h] at this
      cases this

theorem wpS_gallopL (L : LtOk κ kd prog w A s) {st : SortSt} {left : Bool} {k : Keyed} {arr : Array Keyed} {base n hint : Nat} {seg : List Keyed} {Q : Option Nat → SortSt → Prop} (hk : kindOf st = kd) (hkey : Has κ k)
    (hn : seg.length = n) (harr : ∀ i (h : i < seg.length), arr[base + i]? = some seg[i]) (hhas : ∀ p ∈ seg, Has κ p) (hs : seg.Pairwise (Le κ)) (hh : hint < n)
    (q : ∀ r, r ≤ n → (∀ p ∈ seg.take r, Le κ p k) → (∀ p ∈ seg.drop r, Le κ k p) → Q (some r) st) :
    wpS (model prog w) A E s (gallop' left k arr base n hint) Q st := by
  subst hn
  have get : ∀ i (h : i < seg.length), (seg[i]?).getD k = seg[i] := fun i h => by rw [List.getElem?_eq_getElem h]; rfl
  refine wpS_gallop L (g := fun i => (seg[i]?).getD k) hk hkey (fun i hi => ?_) hh (fun i j hij hj h => ?_) fun r hr h1 h2 => ?_
  · refine ⟨?_, ?_⟩
    · rw [get i hi]; exact harr i hi
    · rw [get i hi]; exact hhas _ (List.getElem_mem hi)
  · have hi : i < seg.length := by omega
    rw [get j hj] at h
    rw [get i hi]
    by_cases e : i = j
    · subst e; exact h
    · exact side_mono (List.pairwise_iff_getElem.mp hs i j hi hj (by omega)) h
  · refine q r hr (fun p hp => ?_) (fun p hp => ?_)
    · obtain ⟨i, hi, e⟩ := List.mem_iff_getElem.mp hp
      rw [List.length_take] at hi
      rw [List.getElem_take] at e
      have := h1 i (by omega)
      rw [get i (by omega), e] at this
      exact side_le this
    · obtain ⟨i, hi, e⟩ := List.mem_iff_getElem.mp hp
      rw [List.length_drop] at hi
      rw [List.getElem_drop] at e
      have := h2 (r + i) (by omega) (by omega)
      rw [get (r + i) (by omega), e] at this
      exact side_ge this

/-- only the gallop's threshold may differ -/
def Eqv (st st' : SortSt) : Prop := kindOf st' = kindOf st ∧ arrOf st' = arrOf st ∧ pendingOf st' = pendingOf st ∧ failedOf st' = failedOf st
theorem Eqv.refl (st : SortSt) : Eqv st st := ⟨rfl, rfl, rfl, rfl⟩
theorem Eqv.trans {a b c : SortSt} (h : Eqv a b) (g : Eqv b c) : Eqv a c := ⟨g.1.trans h.1, g.2.1.trans h.2.1, g.2.2.1.trans h.2.2.1, g.2.2.2.trans h.2.2.2⟩
theorem wpS_setMin {st : SortSt} {g : Nat} {Q : Unit → SortSt → Prop} (q : ∀ st', Eqv st st' → Q () st') : wpS (model prog w) A E s (setMinGallop' g) Q st := by
  rw [setMinGallop'_eq]
  exact wpS_modify (q _ ⟨rfl, rfl, rfl, rfl⟩)
theorem ex_all (a : Array Keyed) (i : Nat) : (a.extract i a.size).toList = a.toList.drop i := by
  rw [Array.toList_extract]
  simp only [List.extract]
  exact List.take_of_length_le (by rw [List.length_drop]; simp)
theorem ex_k (a : Array Keyed) (i k : Nat) : (a.extract i (i + k)).toList = (a.toList.drop i).take k := by
  rw [Array.toList_extract]
  simp [List.extract]
theorem at_list {a : Array Keyed} {i : Nat} (h : i < a.toList.length) : a[i]? = some a.toList[i] := by
  have h' : i < a.size := by simpa using h
  rw [Array.getElem?_eq_getElem h']
  simp
theorem blt_le {x y : Keyed} (h : κ.blt (key κ x) (key κ y) = true) : Le κ x y := PyProof.Rows.KeyOrd.kle_of_klt h
theorem nblt_le {x y : Keyed} (h : κ.blt (key κ x) (key κ y) = false) : Le κ y x := h

def MI (κ : PyProof.Rows.KeyKind) (a b : List Keyed) (out : Array Keyed) (ia ib : Nat) : Prop := MW κ a b out.toList ia ib ∧ ia + 1 < a.length ∧ ib < b.length
theorem MI.size {a b : List Keyed} {out : Array Keyed} {ia ib : Nat} (h : MI κ a b out ia ib) : out.size = ia + ib := by
  have := h.1.size
  simpa using this

set_option maxHeartbeats 4000000 in
theorem wpS_mergeLo (L : LtOk κ kd prog w A s) {st : SortSt} {a b : Array Keyed} {Q : Array Keyed → SortSt → Prop} (hk : kindOf st = kd) (ha : ∀ p ∈ a.toList, Has κ p) (hb : ∀ p ∈ b.toList, Has κ p)
    (sa : a.toList.Pairwise (Le κ)) (sb : b.toList.Pairwise (Le κ)) (na : 0 < a.toList.length) (nb : 0 < b.toList.length) (first : ∀ p ∈ a.toList, Le κ b.toList[0] p)
    (lastA : ∀ q ∈ b.toList, ∀ p ∈ a.toList.drop (a.toList.length - 1), Le κ q p) (q : ∀ r st', Eqv st st' → Good κ a.toList b.toList r.toList → Q r st') : wpS (model prog w) A E s (mergeLo' a b) Q st := by
  have sza : a.toList.length = a.size := by simp
  have szb : b.toList.length = b.size := by simp
  have dn : ∀ {out : Array Keyed} {ia ib : Nat}, MW κ a.toList b.toList out.toList ia ib → (ib = b.size ∨ ia = a.size) → Good κ a.toList b.toList (out ++ a.extract ia a.size ++ b.extract ib b.size).toList := fun h e => by
    rw [Array.toList_append, Array.toList_append, ex_all, ex_all]
    exact h.done (by rw [sza, szb]; exact e)
  have ls : ∀ {out : Array Keyed} {ia ib : Nat}, MW κ a.toList b.toList out.toList ia ib → ia + 1 = a.size → Good κ a.toList b.toList (out ++ b.extract ib b.size ++ a.extract ia a.size).toList := fun {out ia ib} h e => by
    rw [Array.toList_append, Array.toList_append, ex_all, ex_all]
    refine h.last (by rw [sza]; exact e) ?_
    rw [show ia = a.toList.length - 1 by omega]
    exact lastA
  have pB : ∀ {out : Array Keyed} {ia ib : Nat} (h : ib < b.toList.length), MW κ a.toList b.toList out.toList ia ib → (∀ p ∈ a.toList.drop ia, Le κ b.toList[ib] p) → MW κ a.toList b.toList (out.push b.toList[ib]).toList ia (ib + 1) := fun h m hle => by
    rw [Array.toList_push]
    exact m.pushB h hle
  have pA : ∀ {out : Array Keyed} {ia ib : Nat} (h : ia < a.toList.length), MW κ a.toList b.toList out.toList ia ib → (∀ p ∈ b.toList.drop ib, Le κ a.toList[ia] p) → MW κ a.toList b.toList (out.push a.toList[ia]).toList (ia + 1) ib := fun h m hle => by
    rw [Array.toList_push]
    exact m.pushA h hle
  have m0 : MW κ a.toList b.toList (#[b.toList[0]] : Array Keyed).toList 0 1 := by
    have z : MW κ a.toList b.toList [] 0 0 := ⟨Nat.zero_le _, Nat.zero_le _, by simp, by simpa using sa, by simpa using sb⟩
    exact z.pushB nb (by simpa using first)
  rw [mergeLo'_eq]
  dsimp only
  refine wpS_bind (wpS_lift (wpAny_rule ⟨rfl, ?_⟩))
  refine wpS_bind (wpS_elem (at_list nb) ?_)
  by_cases e1 : (1 == b.size) = true
  · rw [if_pos e1]
    exact wpS_pure (q _ _ (Eqv.refl _) (dn m0 (.inl (by simpa using e1))))
  rw [if_neg e1]
  by_cases e2 : (0 + 1 == a.size) = true
  · rw [if_pos e2]
    exact wpS_pure (q _ _ (Eqv.refl _) (ls m0 (by simpa using e2)))
  rw [if_neg e2]
  have e1' : 1 < b.toList.length := by
    have : 1 ≠ b.size := by simpa using e1
    omega
  have e2' : 0 + 1 < a.toList.length := by
    have : 0 + 1 ≠ a.size := by simpa using e2
    omega
  refine wpS_bind (wpS_get ?_)
  refine wpS_bind (wpS_mono (wpS_forRange
    (I := fun x c st' => Eqv st st' ∧ ∃ out ia ib mg, c = (none, out, ia, ib, mg) ∧ MI κ a.toList b.toList out ia ib ∧ x + 1 ≤ out.size)
    (Q := fun c st' => Eqv st st' ∧ ∃ r out ia ib mg, c = (some r, out, ia, ib, mg) ∧ Good κ a.toList b.toList r.toList) ?step ?fin ⟨Eqv.refl _, _, _, _, _, rfl, ⟨m0, e2', e1'⟩, by simp⟩) ?post)
  case fin =>
    rintro c st' ⟨_, out, ia, ib, mg, _, m, hx⟩
    have := m.size
    have := m.2.1
    have := m.2.2
    omega
  case post =>
    rintro c st' ⟨e, r, out, ia, ib, mg, rfl, g⟩
    exact wpS_pure (q r st' e g)
  case step =>
    rintro x c st1 _ hx ⟨ev1, out0, ia0, ib0, mg0, rfl, mi0, hx0⟩
    dsimp only
    have hk1 : kindOf st1 = kd := ev1.1.trans hk
    -- one at a time
    refine wpS_bind (wpS_mono (wpS_forRange
      (I := fun y c st' => st1 = st' ∧ ∃ out ia ib ac bc, c = (none, out, ia, ib, ac, bc) ∧ MI κ a.toList b.toList out ia ib ∧ x + 1 + min y 1 ≤ out.size)
      (Q := fun c st' => st1 = st' ∧ ∃ o out ia ib ac bc, c = (o, out, ia, ib, ac, bc) ∧ ((∃ r, o = some r ∧ Good κ a.toList b.toList r.toList) ∨ (o = none ∧ MI κ a.toList b.toList out ia ib ∧ x + 2 ≤ out.size))) ?s1 ?f1 ⟨rfl, _, _, _, _, _, rfl, mi0, by simpa using hx0⟩) ?p1)
    case f1 =>
      rintro c st' ⟨rfl, out, ia, ib, ac, bc, rfl, m, hy⟩
      exact ⟨rfl, _, _, _, _, _, _, rfl, .inr ⟨rfl, m, by omega⟩⟩
    case s1 =>
      rintro y c st' _ hy ⟨rfl, out, ia, ib, ac, bc, rfl, m, hsz⟩
      dsimp only
      have hia : ia < a.toList.length := by have := m.2.1; omega
      have hibb : ib < b.toList.length := m.2.2
      refine wpS_bind (wpS_elem (at_list m.2.2) (wpS_bind (wpS_elem (at_list hia) (wpS_bind (wpS_lt L hk1 (hb _ (List.getElem_mem _)) (ha _ (List.getElem_mem _)) ?_)))))
      dsimp only
      cases hw : κ.blt (key κ b.toList[ib]) (key κ a.toList[ia]) with
      | true =>
        simp only [if_true]
        refine wpS_bind (wpS_elem (at_list m.2.2) ?_)
        have mB := pB m.2.2 m.1 fun p hp => (blt_le hw).trans (le_rest sa hia p hp)
        by_cases c1 : (ib + 1 == b.size) = true
        · rw [if_pos c1]
          exact wpS_pure ⟨rfl, _, _, _, _, _, _, rfl, .inl ⟨_, rfl, dn mB (.inl (by simpa using c1))⟩⟩
        · rw [if_neg c1]
          have c1' : ib + 1 < b.toList.length := by
            have : ib + 1 ≠ b.size := by simpa using c1
            have := m.2.2
            omega
          have mi : MI κ a.toList b.toList (out.push b.toList[ib]) ia (ib + 1) := ⟨mB, m.2.1, c1'⟩
          have s2 : (out.push b.toList[ib]).size = out.size + 1 := Array.size_push _
          by_cases c2 : bc + 1 ≥ mg0
          · rw [if_pos c2]
            exact wpS_pure ⟨rfl, _, _, _, _, _, _, rfl, .inr ⟨rfl, mi, by omega⟩⟩
          · rw [if_neg c2]
            exact wpS_pure ⟨rfl, _, _, _, _, _, rfl, mi, by omega⟩
      | false =>
        simp only [Bool.false_eq_true, if_false]
        refine wpS_bind (wpS_elem (at_list hia) ?_)
        have mA := pA hia m.1 fun p hp => (nblt_le hw).trans (le_rest sb m.2.2 p hp)
        by_cases c1 : (ia + 1 + 1 == a.size) = true
        · rw [if_pos c1]
          exact wpS_pure ⟨rfl, _, _, _, _, _, _, rfl, .inl ⟨_, rfl, ls mA (by simpa using c1)⟩⟩
        · rw [if_neg c1]
          have c1' : ia + 1 + 1 < a.toList.length := by
            have : ia + 1 + 1 ≠ a.size := by simpa using c1
            have := m.2.1
            omega
          have mi : MI κ a.toList b.toList (out.push a.toList[ia]) (ia + 1) ib := ⟨mA, c1', m.2.2⟩
          have s2 : (out.push a.toList[ia]).size = out.size + 1 := Array.size_push _
          by_cases c2 : ac + 1 ≥ mg0
          · rw [if_pos c2]
            exact wpS_pure ⟨rfl, _, _, _, _, _, _, rfl, .inr ⟨rfl, mi, by omega⟩⟩
          · rw [if_neg c2]
            exact wpS_pure ⟨rfl, _, _, _, _, _, rfl, mi, by omega⟩
    case p1 =>
      rintro c st' ⟨rfl, o, out1, ia1, ib1, ac1, bc1, rfl, hor⟩
      dsimp only
      rcases hor with ⟨r, rfl, g⟩ | ⟨rfl, mi1, hx1⟩
      · exact wpS_pure ⟨ev1, _, _, _, _, _, rfl, g⟩
      dsimp only
      refine wpS_bind (wpS_lift (wpAny_rule ⟨rfl, ?_⟩))
      -- by gallops
      refine wpS_bind (wpS_mono (wpS_forRange
        (I := fun y c st' => Eqv st st' ∧ ∃ out ia ib mg ac bc, c = (none, out, ia, ib, mg, ac, bc) ∧ MI κ a.toList b.toList out ia ib ∧ x + 2 ≤ out.size)
        (Q := fun c st' => Eqv st st' ∧ ∃ o out ia ib mg ac bc, c = (o, out, ia, ib, mg, ac, bc) ∧ ((∃ r, o = some r ∧ Good κ a.toList b.toList r.toList) ∨ (o = none ∧ MI κ a.toList b.toList out ia ib ∧ x + 2 ≤ out.size))) ?s2 ?f2 ⟨ev1, _, _, _, _, _, _, rfl, mi1, hx1⟩) ?p2)
      case f2 =>
        rintro c st' ⟨e, out, ia, ib, mg, ac, bc, rfl, m, hy⟩
        exact ⟨e, _, _, _, _, _, _, _, rfl, .inr ⟨rfl, m, hy⟩⟩
      case p2 =>
        rintro c st' ⟨e, o, out, ia, ib, mg, ac, bc, rfl, hor⟩
        dsimp only
        rcases hor with ⟨r, rfl, g⟩ | ⟨rfl, mi, hx⟩
        · exact wpS_pure ⟨e, _, _, _, _, _, rfl, g⟩
        · dsimp only
          exact wpS_bind (wpS_setMin fun st'' e' => wpS_pure ⟨e.trans e', _, _, _, _, rfl, mi, by omega⟩)
      case s2 =>
        rintro y c st2 _ hy ⟨ev2, out, ia, ib, mg, ac, bc, rfl, m, hsz⟩
        dsimp only
        have hia : ia < a.toList.length := by have := m.2.1; omega
        have hibb : ib < b.toList.length := m.2.2
        -- the rest of a turn, whatever the threshold
        by_cases cm : mg > 1
        · rw [if_pos cm]
          refine wpS_bind (wpS_setMin fun st3 e3 => ?_)
          have ev3 := ev2.trans e3
          have hk3 : kindOf st3 = kd := ev3.1.trans hk
          refine wpS_bind (wpS_elem (at_list m.2.2) ?_)
          refine wpS_bind (wpS_gallopL L (seg := a.toList.drop ia) hk3 (hb _ (List.getElem_mem _)) (by rw [List.length_drop, sza]) (fun i hi => by rw [List.getElem_drop]; exact at_list _) (fun p hp => ha p (List.mem_of_mem_drop hp)) (sa.sublist (List.drop_sublist _ _)) (by omega) fun k hk1' hlo hhi => ?_)
          dsimp only
          by_cases ck : k > 0
          · rw [if_pos ck]
            have mA : MW κ a.toList b.toList (out ++ a.extract ia (ia + k)).toList (ia + k) ib := by
              rw [Array.toList_append, ex_k]
              exact m.1.appA (by omega) fun p hp q' hq' => (hlo p hp).trans (le_rest sb m.2.2 q' hq')
            have hhi' : ∀ p ∈ a.toList.drop (ia + k), Le κ b.toList[ib] p := fun p hp => hhi p (by rw [List.drop_drop]; exact hp)
            by_cases c1 : (ia + k + 1 == a.size) = true
            · rw [if_pos c1]
              exact wpS_pure ⟨ev3, _, _, _, _, _, _, _, rfl, .inl ⟨_, rfl, ls mA (by simpa using c1)⟩⟩
            rw [if_neg c1]
            by_cases c2 : (ia + k == a.size) = true
            · rw [if_pos c2]
              exact wpS_pure ⟨ev3, _, _, _, _, _, _, _, rfl, .inl ⟨_, rfl, dn mA (.inr (by simpa using c2))⟩⟩
            rw [if_neg c2]
            have sz3 : (out ++ a.extract ia (ia + k)).size = out.size + k := by
              rw [Array.size_append, Array.size_extract]
              omega
            have hka : ia + k + 1 < a.toList.length := by
              have h1 : ia + k + 1 ≠ a.size := by simpa using c1
              have h2 : ia + k ≠ a.size := by simpa using c2
              omega
            refine wpS_bind (wpS_elem (at_list m.2.2) ?_)
            have mB := pB (out := out ++ a.extract ia (ia + k)) m.2.2 mA hhi'
            by_cases c3 : (ib + 1 == b.size) = true
            · rw [if_pos c3]
              exact wpS_pure ⟨ev3, _, _, _, _, _, _, _, rfl, .inl ⟨_, rfl, dn mB (.inl (by simpa using c3))⟩⟩
            rw [if_neg c3]
            have hib : ib + 1 < b.toList.length := by
              have h1 : ib + 1 ≠ b.size := by simpa using c3
              have := m.2.2
              omega
            have hia2 : ia + k < a.toList.length := by omega
            refine wpS_bind (wpS_elem (at_list hia2) ?_)
            refine wpS_bind (wpS_gallopL L (seg := b.toList.drop (ib + 1)) hk3 (ha _ (List.getElem_mem _)) (by rw [List.length_drop, szb]) (fun i hi => by rw [List.getElem_drop]; exact at_list _) (fun p hp => hb p (List.mem_of_mem_drop hp)) (sb.sublist (List.drop_sublist _ _)) (by omega) fun j hj hlo2 hhi2 => ?_)
            dsimp only
            have szB : ((out ++ a.extract ia (ia + k)).push b.toList[ib]).size = (out ++ a.extract ia (ia + k)).size + 1 := Array.size_push _
            by_cases cj : j > 0
            · rw [if_pos cj]
              have mC : MW κ a.toList b.toList ((out ++ a.extract ia (ia + k)).push b.toList[ib] ++ b.extract (ib + 1) (ib + 1 + j)).toList (ia + k) (ib + 1 + j) := by
                rw [Array.toList_append, ex_k]
                exact mB.appB (by omega) fun p hp q' hq' => (hlo2 p hp).trans (le_rest sa hia2 q' hq')
              have hhi2' : ∀ p ∈ b.toList.drop (ib + 1 + j), Le κ a.toList[ia + k] p := fun p hp => hhi2 p (by rw [List.drop_drop]; exact hp)
              by_cases c4 : (ib + 1 + j == b.size) = true
              · rw [if_pos c4]
                exact wpS_pure ⟨ev3, _, _, _, _, _, _, _, rfl, .inl ⟨_, rfl, dn mC (.inl (by simpa using c4))⟩⟩
              rw [if_neg c4]
              have hjb : ib + 1 + j < b.toList.length := by
                have h1 : ib + 1 + j ≠ b.size := by simpa using c4
                omega
              have szC : ((out ++ a.extract ia (ia + k)).push b.toList[ib] ++ b.extract (ib + 1) (ib + 1 + j)).size ≥ ((out ++ a.extract ia (ia + k)).push b.toList[ib]).size := by
                rw [Array.size_append]
                omega
              refine wpS_bind (wpS_elem (at_list hia2) ?_)
              have mD := pA (out := (out ++ a.extract ia (ia + k)).push b.toList[ib] ++ b.extract (ib + 1) (ib + 1 + j)) hia2 mC hhi2'
              by_cases c5 : (ia + k + 1 + 1 == a.size) = true
              · rw [if_pos c5]
                exact wpS_pure ⟨ev3, _, _, _, _, _, _, _, rfl, .inl ⟨_, rfl, ls mD (by simpa using c5)⟩⟩
              rw [if_neg c5]
              have hend : ia + k + 1 + 1 < a.toList.length := by
                have h1 : ia + k + 1 + 1 ≠ a.size := by simpa using c5
                omega
              have szD := Array.size_push (xs := (out ++ a.extract ia (ia + k)).push b.toList[ib] ++ b.extract (ib + 1) (ib + 1 + j)) a.toList[ia + k]
              by_cases c6 : (decide (k < 7) && decide (j < 7)) = true
              · rw [if_pos c6]
                exact wpS_pure ⟨ev3, _, _, _, _, _, _, _, rfl, .inr ⟨rfl, ⟨mD, hend, hjb⟩, by omega⟩⟩
              · rw [if_neg c6]
                exact wpS_pure ⟨ev3, _, _, _, _, _, _, rfl, ⟨mD, hend, hjb⟩, by omega⟩
            · rw [if_neg cj]
              have ej : j = 0 := by omega
              have hhi2' : ∀ p ∈ b.toList.drop (ib + 1), Le κ a.toList[ia + k] p := fun p hp => hhi2 p (by rw [ej]; exact hp)
              refine wpS_bind (wpS_elem (at_list hia2) ?_)
              have mD := pA (out := (out ++ a.extract ia (ia + k)).push b.toList[ib]) hia2 mB hhi2'
              by_cases c5 : (ia + k + 1 + 1 == a.size) = true
              · rw [if_pos c5]
                exact wpS_pure ⟨ev3, _, _, _, _, _, _, _, rfl, .inl ⟨_, rfl, ls mD (by simpa using c5)⟩⟩
              rw [if_neg c5]
              have hend : ia + k + 1 + 1 < a.toList.length := by
                have h1 : ia + k + 1 + 1 ≠ a.size := by simpa using c5
                omega
              have szD := Array.size_push (xs := (out ++ a.extract ia (ia + k)).push b.toList[ib]) a.toList[ia + k]
              by_cases c6 : (decide (k < 7) && decide (j < 7)) = true
              · rw [if_pos c6]
                exact wpS_pure ⟨ev3, _, _, _, _, _, _, _, rfl, .inr ⟨rfl, ⟨mD, hend, hib⟩, by omega⟩⟩
              · rw [if_neg c6]
                exact wpS_pure ⟨ev3, _, _, _, _, _, _, rfl, ⟨mD, hend, hib⟩, by omega⟩
          · rw [if_neg ck]
            have ek : k = 0 := by omega
            have hhi' : ∀ p ∈ a.toList.drop ia, Le κ b.toList[ib] p := fun p hp => hhi p (by rw [ek]; exact hp)
            have mA := m.1
            have hka : ia + 1 < a.toList.length := m.2.1
            have sz3 : out.size = out.size := rfl
            refine wpS_bind (wpS_elem (at_list m.2.2) ?_)
            have mB := pB (out := out) m.2.2 mA hhi'
            by_cases c3 : (ib + 1 == b.size) = true
            · rw [if_pos c3]
              exact wpS_pure ⟨ev3, _, _, _, _, _, _, _, rfl, .inl ⟨_, rfl, dn mB (.inl (by simpa using c3))⟩⟩
            rw [if_neg c3]
            have hib : ib + 1 < b.toList.length := by
              have h1 : ib + 1 ≠ b.size := by simpa using c3
              have := m.2.2
              omega
            have hia2 : ia < a.toList.length := by omega
            refine wpS_bind (wpS_elem (at_list hia2) ?_)
            refine wpS_bind (wpS_gallopL L (seg := b.toList.drop (ib + 1)) hk3 (ha _ (List.getElem_mem _)) (by rw [List.length_drop, szb]) (fun i hi => by rw [List.getElem_drop]; exact at_list _) (fun p hp => hb p (List.mem_of_mem_drop hp)) (sb.sublist (List.drop_sublist _ _)) (by omega) fun j hj hlo2 hhi2 => ?_)
            dsimp only
            have szB : ((out).push b.toList[ib]).size = (out).size + 1 := Array.size_push _
            by_cases cj : j > 0
            · rw [if_pos cj]
              have mC : MW κ a.toList b.toList ((out).push b.toList[ib] ++ b.extract (ib + 1) (ib + 1 + j)).toList (ia) (ib + 1 + j) := by
                rw [Array.toList_append, ex_k]
                exact mB.appB (by omega) fun p hp q' hq' => (hlo2 p hp).trans (le_rest sa hia2 q' hq')
              have hhi2' : ∀ p ∈ b.toList.drop (ib + 1 + j), Le κ a.toList[ia] p := fun p hp => hhi2 p (by rw [List.drop_drop]; exact hp)
              by_cases c4 : (ib + 1 + j == b.size) = true
              · rw [if_pos c4]
                exact wpS_pure ⟨ev3, _, _, _, _, _, _, _, rfl, .inl ⟨_, rfl, dn mC (.inl (by simpa using c4))⟩⟩
              rw [if_neg c4]
              have hjb : ib + 1 + j < b.toList.length := by
                have h1 : ib + 1 + j ≠ b.size := by simpa using c4
                omega
              have szC : ((out).push b.toList[ib] ++ b.extract (ib + 1) (ib + 1 + j)).size ≥ ((out).push b.toList[ib]).size := by
                rw [Array.size_append]
                omega
              refine wpS_bind (wpS_elem (at_list hia2) ?_)
              have mD := pA (out := (out).push b.toList[ib] ++ b.extract (ib + 1) (ib + 1 + j)) hia2 mC hhi2'
              by_cases c5 : (ia + 1 + 1 == a.size) = true
              · rw [if_pos c5]
                exact wpS_pure ⟨ev3, _, _, _, _, _, _, _, rfl, .inl ⟨_, rfl, ls mD (by simpa using c5)⟩⟩
              rw [if_neg c5]
              have hend : ia + 1 + 1 < a.toList.length := by
                have h1 : ia + 1 + 1 ≠ a.size := by simpa using c5
                omega
              have szD := Array.size_push (xs := (out).push b.toList[ib] ++ b.extract (ib + 1) (ib + 1 + j)) a.toList[ia]
              by_cases c6 : (decide (k < 7) && decide (j < 7)) = true
              · rw [if_pos c6]
                exact wpS_pure ⟨ev3, _, _, _, _, _, _, _, rfl, .inr ⟨rfl, ⟨mD, hend, hjb⟩, by omega⟩⟩
              · rw [if_neg c6]
                exact wpS_pure ⟨ev3, _, _, _, _, _, _, rfl, ⟨mD, hend, hjb⟩, by omega⟩
            · rw [if_neg cj]
              have ej : j = 0 := by omega
              have hhi2' : ∀ p ∈ b.toList.drop (ib + 1), Le κ a.toList[ia] p := fun p hp => hhi2 p (by rw [ej]; exact hp)
              refine wpS_bind (wpS_elem (at_list hia2) ?_)
              have mD := pA (out := (out).push b.toList[ib]) hia2 mB hhi2'
              by_cases c5 : (ia + 1 + 1 == a.size) = true
              · rw [if_pos c5]
                exact wpS_pure ⟨ev3, _, _, _, _, _, _, _, rfl, .inl ⟨_, rfl, ls mD (by simpa using c5)⟩⟩
              rw [if_neg c5]
              have hend : ia + 1 + 1 < a.toList.length := by
                have h1 : ia + 1 + 1 ≠ a.size := by simpa using c5
                omega
              have szD := Array.size_push (xs := (out).push b.toList[ib]) a.toList[ia]
              by_cases c6 : (decide (k < 7) && decide (j < 7)) = true
              · rw [if_pos c6]
                exact wpS_pure ⟨ev3, _, _, _, _, _, _, _, rfl, .inr ⟨rfl, ⟨mD, hend, hib⟩, by omega⟩⟩
              · rw [if_neg c6]
                exact wpS_pure ⟨ev3, _, _, _, _, _, _, rfl, ⟨mD, hend, hib⟩, by omega⟩
        · rw [if_neg cm]
          refine wpS_bind (wpS_setMin fun st3 e3 => ?_)
          have ev3 := ev2.trans e3
          have hk3 : kindOf st3 = kd := ev3.1.trans hk
          refine wpS_bind (wpS_elem (at_list m.2.2) ?_)
          refine wpS_bind (wpS_gallopL L (seg := a.toList.drop ia) hk3 (hb _ (List.getElem_mem _)) (by rw [List.length_drop, sza]) (fun i hi => by rw [List.getElem_drop]; exact at_list _) (fun p hp => ha p (List.mem_of_mem_drop hp)) (sa.sublist (List.drop_sublist _ _)) (by omega) fun k hk1' hlo hhi => ?_)
          dsimp only
          by_cases ck : k > 0
          · rw [if_pos ck]
            have mA : MW κ a.toList b.toList (out ++ a.extract ia (ia + k)).toList (ia + k) ib := by
              rw [Array.toList_append, ex_k]
              exact m.1.appA (by omega) fun p hp q' hq' => (hlo p hp).trans (le_rest sb m.2.2 q' hq')
            have hhi' : ∀ p ∈ a.toList.drop (ia + k), Le κ b.toList[ib] p := fun p hp => hhi p (by rw [List.drop_drop]; exact hp)
            by_cases c1 : (ia + k + 1 == a.size) = true
            · rw [if_pos c1]
              exact wpS_pure ⟨ev3, _, _, _, _, _, _, _, rfl, .inl ⟨_, rfl, ls mA (by simpa using c1)⟩⟩
            rw [if_neg c1]
            by_cases c2 : (ia + k == a.size) = true
            · rw [if_pos c2]
              exact wpS_pure ⟨ev3, _, _, _, _, _, _, _, rfl, .inl ⟨_, rfl, dn mA (.inr (by simpa using c2))⟩⟩
            rw [if_neg c2]
            have sz3 : (out ++ a.extract ia (ia + k)).size = out.size + k := by
              rw [Array.size_append, Array.size_extract]
              omega
            have hka : ia + k + 1 < a.toList.length := by
              have h1 : ia + k + 1 ≠ a.size := by simpa using c1
              have h2 : ia + k ≠ a.size := by simpa using c2
              omega
            refine wpS_bind (wpS_elem (at_list m.2.2) ?_)
            have mB := pB (out := out ++ a.extract ia (ia + k)) m.2.2 mA hhi'
            by_cases c3 : (ib + 1 == b.size) = true
            · rw [if_pos c3]
              exact wpS_pure ⟨ev3, _, _, _, _, _, _, _, rfl, .inl ⟨_, rfl, dn mB (.inl (by simpa using c3))⟩⟩
            rw [if_neg c3]
            have hib : ib + 1 < b.toList.length := by
              have h1 : ib + 1 ≠ b.size := by simpa using c3
              have := m.2.2
              omega
            have hia2 : ia + k < a.toList.length := by omega
            refine wpS_bind (wpS_elem (at_list hia2) ?_)
            refine wpS_bind (wpS_gallopL L (seg := b.toList.drop (ib + 1)) hk3 (ha _ (List.getElem_mem _)) (by rw [List.length_drop, szb]) (fun i hi => by rw [List.getElem_drop]; exact at_list _) (fun p hp => hb p (List.mem_of_mem_drop hp)) (sb.sublist (List.drop_sublist _ _)) (by omega) fun j hj hlo2 hhi2 => ?_)
            dsimp only
            have szB : ((out ++ a.extract ia (ia + k)).push b.toList[ib]).size = (out ++ a.extract ia (ia + k)).size + 1 := Array.size_push _
            by_cases cj : j > 0
            · rw [if_pos cj]
              have mC : MW κ a.toList b.toList ((out ++ a.extract ia (ia + k)).push b.toList[ib] ++ b.extract (ib + 1) (ib + 1 + j)).toList (ia + k) (ib + 1 + j) := by
                rw [Array.toList_append, ex_k]
                exact mB.appB (by omega) fun p hp q' hq' => (hlo2 p hp).trans (le_rest sa hia2 q' hq')
              have hhi2' : ∀ p ∈ b.toList.drop (ib + 1 + j), Le κ a.toList[ia + k] p := fun p hp => hhi2 p (by rw [List.drop_drop]; exact hp)
              by_cases c4 : (ib + 1 + j == b.size) = true
              · rw [if_pos c4]
                exact wpS_pure ⟨ev3, _, _, _, _, _, _, _, rfl, .inl ⟨_, rfl, dn mC (.inl (by simpa using c4))⟩⟩
              rw [if_neg c4]
              have hjb : ib + 1 + j < b.toList.length := by
                have h1 : ib + 1 + j ≠ b.size := by simpa using c4
                omega
              have szC : ((out ++ a.extract ia (ia + k)).push b.toList[ib] ++ b.extract (ib + 1) (ib + 1 + j)).size ≥ ((out ++ a.extract ia (ia + k)).push b.toList[ib]).size := by
                rw [Array.size_append]
                omega
              refine wpS_bind (wpS_elem (at_list hia2) ?_)
              have mD := pA (out := (out ++ a.extract ia (ia + k)).push b.toList[ib] ++ b.extract (ib + 1) (ib + 1 + j)) hia2 mC hhi2'
              by_cases c5 : (ia + k + 1 + 1 == a.size) = true
              · rw [if_pos c5]
                exact wpS_pure ⟨ev3, _, _, _, _, _, _, _, rfl, .inl ⟨_, rfl, ls mD (by simpa using c5)⟩⟩
              rw [if_neg c5]
              have hend : ia + k + 1 + 1 < a.toList.length := by
                have h1 : ia + k + 1 + 1 ≠ a.size := by simpa using c5
                omega
              have szD := Array.size_push (xs := (out ++ a.extract ia (ia + k)).push b.toList[ib] ++ b.extract (ib + 1) (ib + 1 + j)) a.toList[ia + k]
              by_cases c6 : (decide (k < 7) && decide (j < 7)) = true
              · rw [if_pos c6]
                exact wpS_pure ⟨ev3, _, _, _, _, _, _, _, rfl, .inr ⟨rfl, ⟨mD, hend, hjb⟩, by omega⟩⟩
              · rw [if_neg c6]
                exact wpS_pure ⟨ev3, _, _, _, _, _, _, rfl, ⟨mD, hend, hjb⟩, by omega⟩
            · rw [if_neg cj]
              have ej : j = 0 := by omega
              have hhi2' : ∀ p ∈ b.toList.drop (ib + 1), Le κ a.toList[ia + k] p := fun p hp => hhi2 p (by rw [ej]; exact hp)
              refine wpS_bind (wpS_elem (at_list hia2) ?_)
              have mD := pA (out := (out ++ a.extract ia (ia + k)).push b.toList[ib]) hia2 mB hhi2'
              by_cases c5 : (ia + k + 1 + 1 == a.size) = true
              · rw [if_pos c5]
                exact wpS_pure ⟨ev3, _, _, _, _, _, _, _, rfl, .inl ⟨_, rfl, ls mD (by simpa using c5)⟩⟩
              rw [if_neg c5]
              have hend : ia + k + 1 + 1 < a.toList.length := by
                have h1 : ia + k + 1 + 1 ≠ a.size := by simpa using c5
                omega
              have szD := Array.size_push (xs := (out ++ a.extract ia (ia + k)).push b.toList[ib]) a.toList[ia + k]
              by_cases c6 : (decide (k < 7) && decide (j < 7)) = true
              · rw [if_pos c6]
                exact wpS_pure ⟨ev3, _, _, _, _, _, _, _, rfl, .inr ⟨rfl, ⟨mD, hend, hib⟩, by omega⟩⟩
              · rw [if_neg c6]
                exact wpS_pure ⟨ev3, _, _, _, _, _, _, rfl, ⟨mD, hend, hib⟩, by omega⟩
          · rw [if_neg ck]
            have ek : k = 0 := by omega
            have hhi' : ∀ p ∈ a.toList.drop ia, Le κ b.toList[ib] p := fun p hp => hhi p (by rw [ek]; exact hp)
            have mA := m.1
            have hka : ia + 1 < a.toList.length := m.2.1
            have sz3 : out.size = out.size := rfl
            refine wpS_bind (wpS_elem (at_list m.2.2) ?_)
            have mB := pB (out := out) m.2.2 mA hhi'
            by_cases c3 : (ib + 1 == b.size) = true
            · rw [if_pos c3]
              exact wpS_pure ⟨ev3, _, _, _, _, _, _, _, rfl, .inl ⟨_, rfl, dn mB (.inl (by simpa using c3))⟩⟩
            rw [if_neg c3]
            have hib : ib + 1 < b.toList.length := by
              have h1 : ib + 1 ≠ b.size := by simpa using c3
              have := m.2.2
              omega
            have hia2 : ia < a.toList.length := by omega
            refine wpS_bind (wpS_elem (at_list hia2) ?_)
            refine wpS_bind (wpS_gallopL L (seg := b.toList.drop (ib + 1)) hk3 (ha _ (List.getElem_mem _)) (by rw [List.length_drop, szb]) (fun i hi => by rw [List.getElem_drop]; exact at_list _) (fun p hp => hb p (List.mem_of_mem_drop hp)) (sb.sublist (List.drop_sublist _ _)) (by omega) fun j hj hlo2 hhi2 => ?_)
            dsimp only
            have szB : ((out).push b.toList[ib]).size = (out).size + 1 := Array.size_push _
            by_cases cj : j > 0
            · rw [if_pos cj]
              have mC : MW κ a.toList b.toList ((out).push b.toList[ib] ++ b.extract (ib + 1) (ib + 1 + j)).toList (ia) (ib + 1 + j) := by
                rw [Array.toList_append, ex_k]
                exact mB.appB (by omega) fun p hp q' hq' => (hlo2 p hp).trans (le_rest sa hia2 q' hq')
              have hhi2' : ∀ p ∈ b.toList.drop (ib + 1 + j), Le κ a.toList[ia] p := fun p hp => hhi2 p (by rw [List.drop_drop]; exact hp)
              by_cases c4 : (ib + 1 + j == b.size) = true
              · rw [if_pos c4]
                exact wpS_pure ⟨ev3, _, _, _, _, _, _, _, rfl, .inl ⟨_, rfl, dn mC (.inl (by simpa using c4))⟩⟩
              rw [if_neg c4]
              have hjb : ib + 1 + j < b.toList.length := by
                have h1 : ib + 1 + j ≠ b.size := by simpa using c4
                omega
              have szC : ((out).push b.toList[ib] ++ b.extract (ib + 1) (ib + 1 + j)).size ≥ ((out).push b.toList[ib]).size := by
                rw [Array.size_append]
                omega
              refine wpS_bind (wpS_elem (at_list hia2) ?_)
              have mD := pA (out := (out).push b.toList[ib] ++ b.extract (ib + 1) (ib + 1 + j)) hia2 mC hhi2'
              by_cases c5 : (ia + 1 + 1 == a.size) = true
              · rw [if_pos c5]
                exact wpS_pure ⟨ev3, _, _, _, _, _, _, _, rfl, .inl ⟨_, rfl, ls mD (by simpa using c5)⟩⟩
              rw [if_neg c5]
              have hend : ia + 1 + 1 < a.toList.length := by
                have h1 : ia + 1 + 1 ≠ a.size := by simpa using c5
                omega
              have szD := Array.size_push (xs := (out).push b.toList[ib] ++ b.extract (ib + 1) (ib + 1 + j)) a.toList[ia]
              by_cases c6 : (decide (k < 7) && decide (j < 7)) = true
              · rw [if_pos c6]
                exact wpS_pure ⟨ev3, _, _, _, _, _, _, _, rfl, .inr ⟨rfl, ⟨mD, hend, hjb⟩, by omega⟩⟩
              · rw [if_neg c6]
                exact wpS_pure ⟨ev3, _, _, _, _, _, _, rfl, ⟨mD, hend, hjb⟩, by omega⟩
            · rw [if_neg cj]
              have ej : j = 0 := by omega
              have hhi2' : ∀ p ∈ b.toList.drop (ib + 1), Le κ a.toList[ia] p := fun p hp => hhi2 p (by rw [ej]; exact hp)
              refine wpS_bind (wpS_elem (at_list hia2) ?_)
              have mD := pA (out := (out).push b.toList[ib]) hia2 mB hhi2'
              by_cases c5 : (ia + 1 + 1 == a.size) = true
              · rw [if_pos c5]
                exact wpS_pure ⟨ev3, _, _, _, _, _, _, _, rfl, .inl ⟨_, rfl, ls mD (by simpa using c5)⟩⟩
              rw [if_neg c5]
              have hend : ia + 1 + 1 < a.toList.length := by
                have h1 : ia + 1 + 1 ≠ a.size := by simpa using c5
                omega
              have szD := Array.size_push (xs := (out).push b.toList[ib]) a.toList[ia]
              by_cases c6 : (decide (k < 7) && decide (j < 7)) = true
              · rw [if_pos c6]
                exact wpS_pure ⟨ev3, _, _, _, _, _, _, _, rfl, .inr ⟨rfl, ⟨mD, hend, hib⟩, by omega⟩⟩
              · rw [if_neg c6]
                exact wpS_pure ⟨ev3, _, _, _, _, _, _, rfl, ⟨mD, hend, hib⟩, by omega⟩
end
end TS
set_option Elab.async false
set_option linter.all false
set_option maxRecDepth 100000
namespace TS
open PySem PyProof.Rows
theorem mergeHi'_eq (a b : Array Keyed) : mergeHi' a b = (do
  rule "list.sort.merge-hi"
  let total := a.size + b.size
  let done (out : Array Keyed) (na nb : Nat) := a.extract 0 na ++ b.extract 0 nb ++ out.reverse
  let firstOfB (out : Array Keyed) (na nb : Nat) := b.extract 0 nb ++ a.extract 0 na ++ out.reverse
  let mut na := a.size - 1
  let mut nb := b.size
  let mut out : Array Keyed := #[← elem' a na]
  if na == 0 then return done out na nb
  if nb == 1 then return firstOfB out na nb
  let mut minGallop := gallopOf (← get)
  for _ in [0:total] do
    let mut acount := 0
    let mut bcount := 0
    for _ in [0:total] do
      let some aWins ← lt' (← elem' b (nb - 1)) (← elem' a (na - 1)) | return done out na nb
      if aWins then
        na := na - 1; out := out.push (← elem' a na); acount := acount + 1; bcount := 0
        if na == 0 then return done out na nb
        if acount ≥ minGallop then break
      else
        nb := nb - 1; out := out.push (← elem' b nb); bcount := bcount + 1; acount := 0
        if nb == 1 then return firstOfB out na nb
        if bcount ≥ minGallop then break
    rule "list.sort.gallop"
    minGallop := minGallop + 1
    for _ in [0:total] do
      if minGallop > 1 then minGallop := minGallop - 1
      setMinGallop' minGallop
      let some at_ ← gallop' false (← elem' b (nb - 1)) a 0 na (na - 1) | return done out na nb
      let k := na - at_
      acount := k
      if k > 0 then
        out := out ++ (a.extract at_ na).reverse; na := at_
        if na == 0 then return done out na nb
      nb := nb - 1; out := out.push (← elem' b nb)
      if nb == 1 then return firstOfB out na nb
      let some at_ ← gallop' true (← elem' a (na - 1)) b 0 nb (nb - 1) | return done out na nb
      let k := nb - at_
      bcount := k
      if k > 0 then
        out := out ++ (b.extract at_ nb).reverse; nb := at_
        if nb == 1 then return firstOfB out na nb
        if nb == 0 then return done out na nb
      na := na - 1; out := out.push (← elem' a na)
      if na == 0 then return done out na nb
      if acount < 7 && bcount < 7 then break
    minGallop := minGallop + 1
    setMinGallop' minGallop
  unsupported "internal:list.sort.merge-bound") := rfl
section
variable {κ : PyProof.Rows.KeyKind}
/-- a merge from the end under way: out has what was taken of both -/
structure MH (κ : PyProof.Rows.KeyKind) (a b out : List Keyed) (na nb : Nat) : Prop where
  la : na ≤ a.length
  lb : nb ≤ b.length
  perm : out.Perm (a.drop na ++ b.drop nb)
  oa : (a.take na ++ out).Pairwise (Le κ)
  ob : (b.take nb ++ out).Pairwise (Le κ)
variable {a b out : List Keyed} {na nb : Nat}
theorem MH.size (h : MH κ a b out na nb) : out.length + na + nb = a.length + b.length := by
  have := h.perm.length_eq
  rw [List.length_append, List.length_drop, List.length_drop] at this
  have := h.la
  have := h.lb
  omega
theorem MH.all (h : MH κ a b out na nb) : (a.take na ++ b.take nb ++ out).Perm (a ++ b) := by
  have p1 : (a.take na ++ b.take nb ++ out).Perm (a.take na ++ b.take nb ++ (a.drop na ++ b.drop nb)) := List.Perm.append_left _ h.perm
  refine p1.trans ?_
  have p2 : (b.take nb ++ (a.drop na ++ b.drop nb)).Perm (a.drop na ++ (b.take nb ++ b.drop nb)) := by
    rw [← List.append_assoc, ← List.append_assoc]
    exact List.Perm.append_right _ List.perm_append_comm
  rw [List.append_assoc]
  refine (List.Perm.append_left _ p2).trans ?_
  rw [← List.append_assoc, List.take_append_drop, List.take_append_drop]
theorem MH.done (h : MH κ a b out na nb) (e : na = 0 ∨ nb = 0) : Good κ a b (a.take na ++ b.take nb ++ out) := by
  refine ⟨h.all, ?_⟩
  rcases e with e | e
  · rw [e, List.take_zero, List.nil_append]
    exact h.ob
  · rw [e, List.take_zero, List.append_nil]
    exact h.oa
theorem MH.first (h : MH κ a b out na nb) (hb : ∀ q ∈ b.take nb, ∀ p ∈ a, Le κ q p) : Good κ a b (b.take nb ++ a.take na ++ out) := by
  refine ⟨(List.Perm.append_right _ List.perm_append_comm).trans h.all, ?_⟩
  have h1 := List.pairwise_append.mp h.oa
  have h2 := List.pairwise_append.mp h.ob
  rw [List.append_assoc]
  refine List.pairwise_append.mpr ⟨h2.1, h.oa, fun x hx y hy => ?_⟩
  rcases List.mem_append.mp hy with hy | hy
  · exact hb x hx y (List.mem_of_mem_take hy)
  · exact h2.2.2 x hx y hy
theorem seg_take {l : List Keyed} {i n : Nat} (h : i ≤ n) : l.take n = l.take i ++ (l.take n).drop i := by
  have e : (l.take n).take i = l.take i := by rw [List.take_take, Nat.min_eq_left h]
  rw [← e, List.take_append_drop]
theorem seg_drop' {l : List Keyed} {i n : Nat} (h : i ≤ n) (hn : n ≤ l.length) : l.drop i = (l.take n).drop i ++ l.drop n := by
  rw [← List.drop_append_of_le_length (by rw [List.length_take]; omega), List.take_append_drop]
theorem MH.appA (h : MH κ a b out na nb) {i : Nat} (hi : i ≤ na) (hle : ∀ p ∈ (a.take na).drop i, ∀ q ∈ b.take nb, Le κ q p) : MH κ a b ((a.take na).drop i ++ out) i nb := by
  have h1 := List.pairwise_append.mp h.oa
  have h2 := List.pairwise_append.mp h.ob
  refine ⟨Nat.le_trans hi h.la, h.lb, ?_, ?_, ?_⟩
  · refine (List.Perm.append_left _ h.perm).trans ?_
    rw [← List.append_assoc, ← seg_drop' hi h.la]
  · rw [← List.append_assoc, ← seg_take hi]
    exact h.oa
  · refine List.pairwise_append.mpr ⟨h2.1, List.pairwise_append.mpr ⟨h1.1.sublist (List.drop_sublist _ _), h2.2.1, fun x hx y hy => h1.2.2 x (List.mem_of_mem_drop hx) y hy⟩, fun x hx y hy => ?_⟩
    rcases List.mem_append.mp hy with hy | hy
    · exact hle y hy x hx
    · exact h2.2.2 x hx y hy
theorem MH.appB (h : MH κ a b out na nb) {i : Nat} (hi : i ≤ nb) (hle : ∀ p ∈ (b.take nb).drop i, ∀ q ∈ a.take na, Le κ q p) : MH κ a b ((b.take nb).drop i ++ out) na i := by
  have h1 := List.pairwise_append.mp h.oa
  have h2 := List.pairwise_append.mp h.ob
  refine ⟨h.la, Nat.le_trans hi h.lb, ?_, ?_, ?_⟩
  · refine (List.Perm.append_left _ h.perm).trans ?_
    rw [seg_drop' (l := b) hi h.lb, ← List.append_assoc, ← List.append_assoc]
    exact List.Perm.append_right _ List.perm_append_comm
  · refine List.pairwise_append.mpr ⟨h1.1, List.pairwise_append.mpr ⟨h2.1.sublist (List.drop_sublist _ _), h1.2.1, fun x hx y hy => h2.2.2 x (List.mem_of_mem_drop hx) y hy⟩, fun x hx y hy => ?_⟩
    rcases List.mem_append.mp hy with hy | hy
    · exact hle y hy x hx
    · exact h1.2.2 x hx y hy
  · rw [← List.append_assoc, ← seg_take hi]
    exact h.ob
theorem last1 {l : List Keyed} {n : Nat} (h0 : 0 < n) (h : n ≤ l.length) : (l.take n).drop (n - 1) = [l[n - 1]'(by omega)] := by
  have hn : n - 1 < (l.take n).length := by rw [List.length_take]; omega
  rw [List.drop_eq_getElem_cons hn, List.drop_of_length_le (by rw [List.length_take]; omega), List.getElem_take]
theorem MH.pushA (h : MH κ a b out na nb) (h0 : 0 < na) (hle : ∀ q ∈ b.take nb, Le κ q (a[na - 1]'(by have := h.la; omega))) : MH κ a b ((a[na - 1]'(by have := h.la; omega)) :: out) (na - 1) nb := by
  have := h.appA (i := na - 1) (by omega) (fun p hp q hq => by rw [last1 h0 h.la] at hp; rw [List.mem_singleton.mp hp]; exact hle q hq)
  rw [last1 h0 h.la] at this
  exact this
theorem MH.pushB (h : MH κ a b out na nb) (h0 : 0 < nb) (hle : ∀ q ∈ a.take na, Le κ q (b[nb - 1]'(by have := h.lb; omega))) : MH κ a b ((b[nb - 1]'(by have := h.lb; omega)) :: out) na (nb - 1) := by
  have := h.appB (i := nb - 1) (by omega) (fun p hp q hq => by rw [last1 h0 h.lb] at hp; rw [List.mem_singleton.mp hp]; exact hle q hq)
  rw [last1 h0 h.lb] at this
  exact this
theorem le_upto {l : List Keyed} (hs : l.Pairwise (Le κ)) {n : Nat} (h0 : 0 < n) (h : n ≤ l.length) : ∀ p ∈ l.take n, Le κ p (l[n - 1]'(by omega)) := by
  intro p hp
  obtain ⟨i, hi, e⟩ := List.mem_iff_getElem.mp hp
  rw [List.length_take] at hi
  rw [List.getElem_take] at e
  by_cases hin : i = n - 1
  · subst hin; rw [← e]; exact PyProof.Rows.KeyOrd.kle_refl _
  · rw [← e]
    exact List.pairwise_iff_getElem.mp hs i (n - 1) (by omega) (by omega) (by omega)
end
section
variable {prog : Program} {w : World} {A : Around} {E : Value → Shared → Prop} {s : Shared} {κ : PyProof.Rows.KeyKind} {kd : SortKind}
theorem ex_to (a : Array Keyed) (n : Nat) : (a.extract 0 n).toList = a.toList.take n := by
  rw [Array.toList_extract]
  simp [List.extract]
theorem ex_seg (a : Array Keyed) (i n : Nat) : (a.extract i n).toList = (a.toList.take n).drop i := by
  rw [Array.toList_extract]
  simp only [List.extract]
  rw [List.drop_take]
def MJ (κ : PyProof.Rows.KeyKind) (a b : List Keyed) (out : Array Keyed) (na nb : Nat) : Prop := MH κ a b out.toList.reverse na nb ∧ 0 < na ∧ 1 < nb
theorem MJ.size {a b : List Keyed} {out : Array Keyed} {na nb : Nat} (h : MJ κ a b out na nb) : out.size + na + nb = a.length + b.length := by
  have := h.1.size
  simpa using this

set_option maxHeartbeats 4000000 in
theorem wpS_mergeHi (L : LtOk κ kd prog w A s) {st : SortSt} {a b : Array Keyed} {Q : Array Keyed → SortSt → Prop} (hk : kindOf st = kd) (ha : ∀ p ∈ a.toList, Has κ p) (hb : ∀ p ∈ b.toList, Has κ p)
    (sa : a.toList.Pairwise (Le κ)) (sb : b.toList.Pairwise (Le κ)) (na : 0 < a.toList.length) (nb : 0 < b.toList.length) (first : ∀ p ∈ a.toList, Le κ b.toList[0] p)
    (lastA : ∀ q ∈ b.toList, Le κ q (a.toList[a.toList.length - 1]'(by omega))) (q : ∀ r st', Eqv st st' → Good κ a.toList b.toList r.toList → Q r st') : wpS (model prog w) A E s (mergeHi' a b) Q st := by
  have sza : a.toList.length = a.size := by simp
  have szb : b.toList.length = b.size := by simp
  have dn : ∀ {out : Array Keyed} {na nb : Nat}, MH κ a.toList b.toList out.toList.reverse na nb → (na = 0 ∨ nb = 0) → Good κ a.toList b.toList (a.extract 0 na ++ b.extract 0 nb ++ out.reverse).toList := fun h e => by
    rw [Array.toList_append, Array.toList_append, ex_to, ex_to, Array.toList_reverse]
    exact h.done e
  have fs : ∀ {out : Array Keyed} {na nb : Nat}, MH κ a.toList b.toList out.toList.reverse na nb → nb = 1 → Good κ a.toList b.toList (b.extract 0 nb ++ a.extract 0 na ++ out.reverse).toList := fun {out na' nb'} h e => by
    rw [Array.toList_append, Array.toList_append, ex_to, ex_to, Array.toList_reverse]
    refine h.first fun x hx p hp => ?_
    rw [e] at hx
    have e1 : b.toList.take 1 = [b.toList[0]] := by
      have := take1 (l := b.toList) (i := 0) nb
      simpa using this
    rw [e1] at hx
    rw [List.mem_singleton.mp hx]
    exact first p hp
  have pB : ∀ {out : Array Keyed} {na nb : Nat} (h0 : 0 < nb) (h : nb ≤ b.toList.length), MH κ a.toList b.toList out.toList.reverse na nb → (∀ p ∈ a.toList.take na, Le κ p (b.toList[nb - 1]'(by omega))) → MH κ a.toList b.toList (out.push (b.toList[nb - 1]'(by omega))).toList.reverse na (nb - 1) := fun h0 h m hle => by
    rw [Array.toList_push, List.reverse_append]
    exact m.pushB h0 hle
  have pA : ∀ {out : Array Keyed} {na nb : Nat} (h0 : 0 < na) (h : na ≤ a.toList.length), MH κ a.toList b.toList out.toList.reverse na nb → (∀ p ∈ b.toList.take nb, Le κ p (a.toList[na - 1]'(by omega))) → MH κ a.toList b.toList (out.push (a.toList[na - 1]'(by omega))).toList.reverse (na - 1) nb := fun h0 h m hle => by
    rw [Array.toList_push, List.reverse_append]
    exact m.pushA h0 hle
  have m0 : MH κ a.toList b.toList (#[a.toList[a.toList.length - 1]'(by omega)] : Array Keyed).toList.reverse (a.toList.length - 1) b.toList.length := by
    have z : MH κ a.toList b.toList [] a.toList.length b.toList.length := ⟨Nat.le_refl _, Nat.le_refl _, by simp, by rw [List.take_length, List.append_nil]; exact sa, by rw [List.take_length, List.append_nil]; exact sb⟩
    exact z.pushA na (by rw [List.take_length]; exact lastA)
  rw [mergeHi'_eq]
  dsimp only
  refine wpS_bind (wpS_lift (wpAny_rule ⟨rfl, ?_⟩))
  rw [← sza, ← szb]
  refine wpS_bind (wpS_elem (at_list (by omega)) ?_)
  by_cases e1 : (a.toList.length - 1 == 0) = true
  · rw [if_pos e1]
    exact wpS_pure (q _ _ (Eqv.refl _) (dn m0 (.inl (by simpa using e1))))
  rw [if_neg e1]
  by_cases e2 : (b.toList.length == 1) = true
  · rw [if_pos e2]
    exact wpS_pure (q _ _ (Eqv.refl _) (fs m0 (by simpa using e2)))
  rw [if_neg e2]
  have e1' : 0 < a.toList.length - 1 := by
    have : a.toList.length - 1 ≠ 0 := by simpa using e1
    omega
  have e2' : 1 < b.toList.length := by
    have : b.toList.length ≠ 1 := by simpa using e2
    omega
  refine wpS_bind (wpS_get ?_)
  refine wpS_bind (wpS_mono (wpS_forRange
    (I := fun x c st' => Eqv st st' ∧ ∃ out na nb mg, c = (none, na, nb, out, mg) ∧ MJ κ a.toList b.toList out na nb ∧ x + 1 ≤ out.size)
    (Q := fun c st' => Eqv st st' ∧ ∃ (r out : Array Keyed) (na nb mg : Nat), c = (some r, na, nb, out, mg) ∧ Good κ a.toList b.toList r.toList) ?step ?fin ⟨Eqv.refl _, _, _, _, _, rfl, ⟨m0, e1', e2'⟩, Nat.le_refl 1⟩) ?post)
  case fin =>
    rintro c st' ⟨_, out, na, nb, mg, _, m, hx⟩
    have := m.size
    have := m.2.1
    have := m.2.2
    omega
  case post =>
    rintro c st' ⟨e, r, out, na, nb, mg, rfl, g⟩
    exact wpS_pure (q r st' e g)
  case step =>
    rintro x c st1 _ hx ⟨ev1, out0, na0, nb0, mg0, rfl, mi0, hx0⟩
    dsimp only
    have hk1 : kindOf st1 = kd := ev1.1.trans hk
    refine wpS_bind (wpS_mono (wpS_forRange
      (I := fun y c st' => st1 = st' ∧ ∃ out na nb ac bc, c = (none, na, nb, out, ac, bc) ∧ MJ κ a.toList b.toList out na nb ∧ x + 1 + min y 1 ≤ out.size)
      (Q := fun c st' => st1 = st' ∧ ∃ o out na nb ac bc, c = (o, na, nb, out, ac, bc) ∧ ((∃ r : Array Keyed, o = some r ∧ Good κ a.toList b.toList r.toList) ∨ (o = none ∧ MJ κ a.toList b.toList out na nb ∧ x + 2 ≤ out.size))) ?s1 ?f1 ⟨rfl, _, _, _, _, _, rfl, mi0, by simpa using hx0⟩) ?p1)
    case f1 =>
      rintro c st' ⟨rfl, out, na, nb, ac, bc, rfl, m, hy⟩
      exact ⟨rfl, _, _, _, _, _, _, rfl, .inr ⟨rfl, m, by omega⟩⟩
    case s1 =>
      rintro y c st' _ hy ⟨rfl, out, na, nb, ac, bc, rfl, m, hsz⟩
      dsimp only
      have hla := m.1.la
      have hlb := m.1.lb
      have h0a := m.2.1
      have h1b := m.2.2
      have hia : na - 1 < a.toList.length := by omega
      have hib : nb - 1 < b.toList.length := by omega
      refine wpS_bind (wpS_elem (at_list hib) (wpS_bind (wpS_elem (at_list hia) (wpS_bind (wpS_lt L hk1 (hb _ (List.getElem_mem _)) (ha _ (List.getElem_mem _)) ?_)))))
      dsimp only
      cases hw : κ.blt (key κ b.toList[nb - 1]) (key κ a.toList[na - 1]) with
      | true =>
        simp only [if_true]
        refine wpS_bind (wpS_elem (at_list hia) ?_)
        have mA := pA h0a hla m.1 fun p hp => (le_upto sb (by omega) hlb p hp).trans (blt_le hw)
        by_cases c1 : (na - 1 == 0) = true
        · rw [if_pos c1]
          exact wpS_pure ⟨rfl, _, _, _, _, _, _, rfl, .inl ⟨_, rfl, dn mA (.inl (by simpa using c1))⟩⟩
        · rw [if_neg c1]
          have c1' : 0 < na - 1 := by
            have : na - 1 ≠ 0 := by simpa using c1
            omega
          have mi : MJ κ a.toList b.toList (out.push a.toList[na - 1]) (na - 1) nb := ⟨mA, c1', h1b⟩
          have s2 : (out.push a.toList[na - 1]).size = out.size + 1 := Array.size_push _
          by_cases c2 : ac + 1 ≥ mg0
          · rw [if_pos c2]
            exact wpS_pure ⟨rfl, _, _, _, _, _, _, rfl, .inr ⟨rfl, mi, by omega⟩⟩
          · rw [if_neg c2]
            exact wpS_pure ⟨rfl, _, _, _, _, _, rfl, mi, by omega⟩
      | false =>
        simp only [Bool.false_eq_true, if_false]
        refine wpS_bind (wpS_elem (at_list hib) ?_)
        have mB := pB (by omega) hlb m.1 fun p hp => (le_upto sa h0a hla p hp).trans (nblt_le hw)
        by_cases c1 : (nb - 1 == 1) = true
        · rw [if_pos c1]
          exact wpS_pure ⟨rfl, _, _, _, _, _, _, rfl, .inl ⟨_, rfl, fs mB (by simpa using c1)⟩⟩
        · rw [if_neg c1]
          have c1' : 1 < nb - 1 := by
            have : nb - 1 ≠ 1 := by simpa using c1
            omega
          have mi : MJ κ a.toList b.toList (out.push b.toList[nb - 1]) na (nb - 1) := ⟨mB, h0a, c1'⟩
          have s2 : (out.push b.toList[nb - 1]).size = out.size + 1 := Array.size_push _
          by_cases c2 : bc + 1 ≥ mg0
          · rw [if_pos c2]
            exact wpS_pure ⟨rfl, _, _, _, _, _, _, rfl, .inr ⟨rfl, mi, by omega⟩⟩
          · rw [if_neg c2]
            exact wpS_pure ⟨rfl, _, _, _, _, _, rfl, mi, by omega⟩
    case p1 =>
      rintro c st' ⟨rfl, o, out1, na1, nb1, ac1, bc1, rfl, hor⟩
      dsimp only
      rcases hor with ⟨r, rfl, g⟩ | ⟨rfl, mi1, hx1⟩
      · exact wpS_pure ⟨ev1, _, _, _, _, _, rfl, g⟩
      dsimp only
      refine wpS_bind (wpS_lift (wpAny_rule ⟨rfl, ?_⟩))
      refine wpS_bind (wpS_mono (wpS_forRange
        (I := fun y c st' => Eqv st st' ∧ ∃ out na nb mg ac bc, c = (none, na, nb, out, mg, ac, bc) ∧ MJ κ a.toList b.toList out na nb ∧ x + 2 ≤ out.size)
        (Q := fun c st' => Eqv st st' ∧ ∃ o out na nb mg ac bc, c = (o, na, nb, out, mg, ac, bc) ∧ ((∃ r : Array Keyed, o = some r ∧ Good κ a.toList b.toList r.toList) ∨ (o = none ∧ MJ κ a.toList b.toList out na nb ∧ x + 2 ≤ out.size))) ?s2 ?f2 ⟨ev1, _, _, _, _, _, _, rfl, mi1, hx1⟩) ?p2)
      case f2 =>
        rintro c st' ⟨e, out, na, nb, mg, ac, bc, rfl, m, hy⟩
        exact ⟨e, _, _, _, _, _, _, _, rfl, .inr ⟨rfl, m, hy⟩⟩
      case p2 =>
        rintro c st' ⟨e, o, out, na, nb, mg, ac, bc, rfl, hor⟩
        dsimp only
        rcases hor with ⟨r, rfl, g⟩ | ⟨rfl, mi, hx⟩
        · exact wpS_pure ⟨e, _, _, _, _, _, rfl, g⟩
        · dsimp only
          exact wpS_bind (wpS_setMin fun st'' e' => wpS_pure ⟨e.trans e', _, _, _, _, rfl, mi, by omega⟩)
      case s2 =>
        rintro y c st2 _ hy ⟨ev2, out, na, nb, mg, ac, bc, rfl, m, hsz⟩
        dsimp only
        have hla := m.1.la
        have hlb := m.1.lb
        have h0a := m.2.1
        have h1b := m.2.2
        have hib : nb - 1 < b.toList.length := by omega
        by_cases cm : mg > 1
        · rw [if_pos cm]
          refine wpS_bind (wpS_setMin fun st3 e3 => ?_)
          have ev3 := ev2.trans e3
          have hk3 : kindOf st3 = kd := ev3.1.trans hk
          refine wpS_bind (wpS_elem (at_list hib) ?_)
          refine wpS_bind (wpS_gallopL L (seg := a.toList.take na) hk3 (hb _ (List.getElem_mem _)) (by rw [List.length_take]; omega) (fun i hi => by rw [List.getElem_take, Nat.zero_add]; exact at_list _) (fun p hp => ha p (List.mem_of_mem_take hp)) (sa.sublist (List.take_sublist _ _)) (by omega) fun i hi hlo hhi => ?_)
          dsimp only
          have hlo' : ∀ p ∈ a.toList.take i, Le κ p b.toList[nb - 1] := fun p hp => hlo p (by rw [List.take_take, Nat.min_eq_left hi]; exact hp)
          by_cases ck : na - i > 0
          · rw [if_pos ck]
            have mA : MH κ a.toList b.toList (out ++ (a.extract i na).reverse).toList.reverse i nb := by
              rw [Array.toList_append, Array.toList_reverse, List.reverse_append, List.reverse_reverse, ex_seg]
              exact m.1.appA hi fun p hp q' hq' => (le_upto sb (by omega) hlb q' hq').trans (hhi p hp)
            by_cases c1 : (i == 0) = true
            · rw [if_pos c1]
              exact wpS_pure ⟨ev3, _, _, _, _, _, _, _, rfl, .inl ⟨_, rfl, dn mA (.inl (by simpa using c1))⟩⟩
            rw [if_neg c1]
            have h0i : 0 < i := by
              have : i ≠ 0 := by simpa using c1
              omega
            have hli : i ≤ a.toList.length := by omega
            have sz3 : (out ++ (a.extract i na).reverse).size ≥ out.size := by
              rw [Array.size_append]
              omega
            refine wpS_bind (wpS_elem (at_list hib) ?_)
            have mB := pB (out := out ++ (a.extract i na).reverse) (by omega) hlb mA hlo'
            by_cases c3 : (nb - 1 == 1) = true
            · rw [if_pos c3]
              exact wpS_pure ⟨ev3, _, _, _, _, _, _, _, rfl, .inl ⟨_, rfl, fs mB (by simpa using c3)⟩⟩
            rw [if_neg c3]
            have hnb : 1 < nb - 1 := by
              have h1 : nb - 1 ≠ 1 := by simpa using c3
              omega
            have hia2 : i - 1 < a.toList.length := by omega
            refine wpS_bind (wpS_elem (at_list hia2) ?_)
            refine wpS_bind (wpS_gallopL L (seg := b.toList.take (nb - 1)) hk3 (ha _ (List.getElem_mem _)) (by rw [List.length_take]; omega) (fun i hi => by rw [List.getElem_take, Nat.zero_add]; exact at_list _) (fun p hp => hb p (List.mem_of_mem_take hp)) (sb.sublist (List.take_sublist _ _)) (by omega) fun j hj hlo2 hhi2 => ?_)
            dsimp only
            have szB : ((out ++ (a.extract i na).reverse).push b.toList[nb - 1]).size = (out ++ (a.extract i na).reverse).size + 1 := Array.size_push _
            have hlo2' : ∀ p ∈ b.toList.take j, Le κ p a.toList[i - 1] := fun p hp => hlo2 p (by rw [List.take_take, Nat.min_eq_left hj]; exact hp)
            by_cases cj : nb - 1 - j > 0
            · rw [if_pos cj]
              have mC : MH κ a.toList b.toList ((out ++ (a.extract i na).reverse).push b.toList[nb - 1] ++ (b.extract j (nb - 1)).reverse).toList.reverse (i) j := by
                rw [Array.toList_append, Array.toList_reverse, List.reverse_append, List.reverse_reverse, ex_seg]
                exact mB.appB hj fun p hp q' hq' => (le_upto sa h0i hli q' hq').trans (hhi2 p hp)
              by_cases c4 : (j == 1) = true
              · rw [if_pos c4]
                exact wpS_pure ⟨ev3, _, _, _, _, _, _, _, rfl, .inl ⟨_, rfl, fs mC (by simpa using c4)⟩⟩
              rw [if_neg c4]
              by_cases c4' : (j == 0) = true
              · rw [if_pos c4']
                exact wpS_pure ⟨ev3, _, _, _, _, _, _, _, rfl, .inl ⟨_, rfl, dn mC (.inr (by simpa using c4'))⟩⟩
              rw [if_neg c4']
              have hj1 : 1 < j := by
                have h1 : j ≠ 1 := by simpa using c4
                have h2 : j ≠ 0 := by simpa using c4'
                omega
              have szC : ((out ++ (a.extract i na).reverse).push b.toList[nb - 1] ++ (b.extract j (nb - 1)).reverse).size ≥ ((out ++ (a.extract i na).reverse).push b.toList[nb - 1]).size := by
                rw [Array.size_append]
                omega
              refine wpS_bind (wpS_elem (at_list hia2) ?_)
              have mD := pA (out := (out ++ (a.extract i na).reverse).push b.toList[nb - 1] ++ (b.extract j (nb - 1)).reverse) h0i hli mC hlo2'
              by_cases c5 : (i - 1 == 0) = true
              · rw [if_pos c5]
                exact wpS_pure ⟨ev3, _, _, _, _, _, _, _, rfl, .inl ⟨_, rfl, dn mD (.inl (by simpa using c5))⟩⟩
              rw [if_neg c5]
              have hend : 0 < i - 1 := by
                have h1 : i - 1 ≠ 0 := by simpa using c5
                omega
              have szD := Array.size_push (xs := (out ++ (a.extract i na).reverse).push b.toList[nb - 1] ++ (b.extract j (nb - 1)).reverse) a.toList[i - 1]
              by_cases c6 : (decide (na - i < 7) && decide (nb - 1 - j < 7)) = true
              · rw [if_pos c6]
                exact wpS_pure ⟨ev3, _, _, _, _, _, _, _, rfl, .inr ⟨rfl, ⟨mD, hend, hj1⟩, by omega⟩⟩
              · rw [if_neg c6]
                exact wpS_pure ⟨ev3, _, _, _, _, _, _, rfl, ⟨mD, hend, hj1⟩, by omega⟩
            · rw [if_neg cj]
              have ej : j = nb - 1 := by omega
              rw [ej] at hlo2'
              refine wpS_bind (wpS_elem (at_list hia2) ?_)
              have mD := pA (out := (out ++ (a.extract i na).reverse).push b.toList[nb - 1]) h0i hli mB hlo2'
              by_cases c5 : (i - 1 == 0) = true
              · rw [if_pos c5]
                exact wpS_pure ⟨ev3, _, _, _, _, _, _, _, rfl, .inl ⟨_, rfl, dn mD (.inl (by simpa using c5))⟩⟩
              rw [if_neg c5]
              have hend : 0 < i - 1 := by
                have h1 : i - 1 ≠ 0 := by simpa using c5
                omega
              have szD := Array.size_push (xs := (out ++ (a.extract i na).reverse).push b.toList[nb - 1]) a.toList[i - 1]
              by_cases c6 : (decide (na - i < 7) && decide (nb - 1 - j < 7)) = true
              · rw [if_pos c6]
                exact wpS_pure ⟨ev3, _, _, _, _, _, _, _, rfl, .inr ⟨rfl, ⟨mD, hend, hnb⟩, by omega⟩⟩
              · rw [if_neg c6]
                exact wpS_pure ⟨ev3, _, _, _, _, _, _, rfl, ⟨mD, hend, hnb⟩, by omega⟩
          · rw [if_neg ck]
            have ei : i = na := by omega
            have h0i : 0 < na := h0a
            have hli : na ≤ a.toList.length := hla
            have mA := m.1
            rw [ei] at hlo'
            have sz3 : out.size ≥ out.size := Nat.le_refl _
            refine wpS_bind (wpS_elem (at_list hib) ?_)
            have mB := pB (out := out) (by omega) hlb mA hlo'
            by_cases c3 : (nb - 1 == 1) = true
            · rw [if_pos c3]
              exact wpS_pure ⟨ev3, _, _, _, _, _, _, _, rfl, .inl ⟨_, rfl, fs mB (by simpa using c3)⟩⟩
            rw [if_neg c3]
            have hnb : 1 < nb - 1 := by
              have h1 : nb - 1 ≠ 1 := by simpa using c3
              omega
            have hia2 : na - 1 < a.toList.length := by omega
            refine wpS_bind (wpS_elem (at_list hia2) ?_)
            refine wpS_bind (wpS_gallopL L (seg := b.toList.take (nb - 1)) hk3 (ha _ (List.getElem_mem _)) (by rw [List.length_take]; omega) (fun i hi => by rw [List.getElem_take, Nat.zero_add]; exact at_list _) (fun p hp => hb p (List.mem_of_mem_take hp)) (sb.sublist (List.take_sublist _ _)) (by omega) fun j hj hlo2 hhi2 => ?_)
            dsimp only
            have szB : ((out).push b.toList[nb - 1]).size = (out).size + 1 := Array.size_push _
            have hlo2' : ∀ p ∈ b.toList.take j, Le κ p a.toList[na - 1] := fun p hp => hlo2 p (by rw [List.take_take, Nat.min_eq_left hj]; exact hp)
            by_cases cj : nb - 1 - j > 0
            · rw [if_pos cj]
              have mC : MH κ a.toList b.toList ((out).push b.toList[nb - 1] ++ (b.extract j (nb - 1)).reverse).toList.reverse (na) j := by
                rw [Array.toList_append, Array.toList_reverse, List.reverse_append, List.reverse_reverse, ex_seg]
                exact mB.appB hj fun p hp q' hq' => (le_upto sa h0i hli q' hq').trans (hhi2 p hp)
              by_cases c4 : (j == 1) = true
              · rw [if_pos c4]
                exact wpS_pure ⟨ev3, _, _, _, _, _, _, _, rfl, .inl ⟨_, rfl, fs mC (by simpa using c4)⟩⟩
              rw [if_neg c4]
              by_cases c4' : (j == 0) = true
              · rw [if_pos c4']
                exact wpS_pure ⟨ev3, _, _, _, _, _, _, _, rfl, .inl ⟨_, rfl, dn mC (.inr (by simpa using c4'))⟩⟩
              rw [if_neg c4']
              have hj1 : 1 < j := by
                have h1 : j ≠ 1 := by simpa using c4
                have h2 : j ≠ 0 := by simpa using c4'
                omega
              have szC : ((out).push b.toList[nb - 1] ++ (b.extract j (nb - 1)).reverse).size ≥ ((out).push b.toList[nb - 1]).size := by
                rw [Array.size_append]
                omega
              refine wpS_bind (wpS_elem (at_list hia2) ?_)
              have mD := pA (out := (out).push b.toList[nb - 1] ++ (b.extract j (nb - 1)).reverse) h0i hli mC hlo2'
              by_cases c5 : (na - 1 == 0) = true
              · rw [if_pos c5]
                exact wpS_pure ⟨ev3, _, _, _, _, _, _, _, rfl, .inl ⟨_, rfl, dn mD (.inl (by simpa using c5))⟩⟩
              rw [if_neg c5]
              have hend : 0 < na - 1 := by
                have h1 : na - 1 ≠ 0 := by simpa using c5
                omega
              have szD := Array.size_push (xs := (out).push b.toList[nb - 1] ++ (b.extract j (nb - 1)).reverse) a.toList[na - 1]
              by_cases c6 : (decide (na - i < 7) && decide (nb - 1 - j < 7)) = true
              · rw [if_pos c6]
                exact wpS_pure ⟨ev3, _, _, _, _, _, _, _, rfl, .inr ⟨rfl, ⟨mD, hend, hj1⟩, by omega⟩⟩
              · rw [if_neg c6]
                exact wpS_pure ⟨ev3, _, _, _, _, _, _, rfl, ⟨mD, hend, hj1⟩, by omega⟩
            · rw [if_neg cj]
              have ej : j = nb - 1 := by omega
              rw [ej] at hlo2'
              refine wpS_bind (wpS_elem (at_list hia2) ?_)
              have mD := pA (out := (out).push b.toList[nb - 1]) h0i hli mB hlo2'
              by_cases c5 : (na - 1 == 0) = true
              · rw [if_pos c5]
                exact wpS_pure ⟨ev3, _, _, _, _, _, _, _, rfl, .inl ⟨_, rfl, dn mD (.inl (by simpa using c5))⟩⟩
              rw [if_neg c5]
              have hend : 0 < na - 1 := by
                have h1 : na - 1 ≠ 0 := by simpa using c5
                omega
              have szD := Array.size_push (xs := (out).push b.toList[nb - 1]) a.toList[na - 1]
              by_cases c6 : (decide (na - i < 7) && decide (nb - 1 - j < 7)) = true
              · rw [if_pos c6]
                exact wpS_pure ⟨ev3, _, _, _, _, _, _, _, rfl, .inr ⟨rfl, ⟨mD, hend, hnb⟩, by omega⟩⟩
              · rw [if_neg c6]
                exact wpS_pure ⟨ev3, _, _, _, _, _, _, rfl, ⟨mD, hend, hnb⟩, by omega⟩
        · rw [if_neg cm]
          refine wpS_bind (wpS_setMin fun st3 e3 => ?_)
          have ev3 := ev2.trans e3
          have hk3 : kindOf st3 = kd := ev3.1.trans hk
          refine wpS_bind (wpS_elem (at_list hib) ?_)
          refine wpS_bind (wpS_gallopL L (seg := a.toList.take na) hk3 (hb _ (List.getElem_mem _)) (by rw [List.length_take]; omega) (fun i hi => by rw [List.getElem_take, Nat.zero_add]; exact at_list _) (fun p hp => ha p (List.mem_of_mem_take hp)) (sa.sublist (List.take_sublist _ _)) (by omega) fun i hi hlo hhi => ?_)
          dsimp only
          have hlo' : ∀ p ∈ a.toList.take i, Le κ p b.toList[nb - 1] := fun p hp => hlo p (by rw [List.take_take, Nat.min_eq_left hi]; exact hp)
          by_cases ck : na - i > 0
          · rw [if_pos ck]
            have mA : MH κ a.toList b.toList (out ++ (a.extract i na).reverse).toList.reverse i nb := by
              rw [Array.toList_append, Array.toList_reverse, List.reverse_append, List.reverse_reverse, ex_seg]
              exact m.1.appA hi fun p hp q' hq' => (le_upto sb (by omega) hlb q' hq').trans (hhi p hp)
            by_cases c1 : (i == 0) = true
            · rw [if_pos c1]
              exact wpS_pure ⟨ev3, _, _, _, _, _, _, _, rfl, .inl ⟨_, rfl, dn mA (.inl (by simpa using c1))⟩⟩
            rw [if_neg c1]
            have h0i : 0 < i := by
              have : i ≠ 0 := by simpa using c1
              omega
            have hli : i ≤ a.toList.length := by omega
            have sz3 : (out ++ (a.extract i na).reverse).size ≥ out.size := by
              rw [Array.size_append]
              omega
            refine wpS_bind (wpS_elem (at_list hib) ?_)
            have mB := pB (out := out ++ (a.extract i na).reverse) (by omega) hlb mA hlo'
            by_cases c3 : (nb - 1 == 1) = true
            · rw [if_pos c3]
              exact wpS_pure ⟨ev3, _, _, _, _, _, _, _, rfl, .inl ⟨_, rfl, fs mB (by simpa using c3)⟩⟩
            rw [if_neg c3]
            have hnb : 1 < nb - 1 := by
              have h1 : nb - 1 ≠ 1 := by simpa using c3
              omega
            have hia2 : i - 1 < a.toList.length := by omega
            refine wpS_bind (wpS_elem (at_list hia2) ?_)
            refine wpS_bind (wpS_gallopL L (seg := b.toList.take (nb - 1)) hk3 (ha _ (List.getElem_mem _)) (by rw [List.length_take]; omega) (fun i hi => by rw [List.getElem_take, Nat.zero_add]; exact at_list _) (fun p hp => hb p (List.mem_of_mem_take hp)) (sb.sublist (List.take_sublist _ _)) (by omega) fun j hj hlo2 hhi2 => ?_)
            dsimp only
            have szB : ((out ++ (a.extract i na).reverse).push b.toList[nb - 1]).size = (out ++ (a.extract i na).reverse).size + 1 := Array.size_push _
            have hlo2' : ∀ p ∈ b.toList.take j, Le κ p a.toList[i - 1] := fun p hp => hlo2 p (by rw [List.take_take, Nat.min_eq_left hj]; exact hp)
            by_cases cj : nb - 1 - j > 0
            · rw [if_pos cj]
              have mC : MH κ a.toList b.toList ((out ++ (a.extract i na).reverse).push b.toList[nb - 1] ++ (b.extract j (nb - 1)).reverse).toList.reverse (i) j := by
                rw [Array.toList_append, Array.toList_reverse, List.reverse_append, List.reverse_reverse, ex_seg]
                exact mB.appB hj fun p hp q' hq' => (le_upto sa h0i hli q' hq').trans (hhi2 p hp)
              by_cases c4 : (j == 1) = true
              · rw [if_pos c4]
                exact wpS_pure ⟨ev3, _, _, _, _, _, _, _, rfl, .inl ⟨_, rfl, fs mC (by simpa using c4)⟩⟩
              rw [if_neg c4]
              by_cases c4' : (j == 0) = true
              · rw [if_pos c4']
                exact wpS_pure ⟨ev3, _, _, _, _, _, _, _, rfl, .inl ⟨_, rfl, dn mC (.inr (by simpa using c4'))⟩⟩
              rw [if_neg c4']
              have hj1 : 1 < j := by
                have h1 : j ≠ 1 := by simpa using c4
                have h2 : j ≠ 0 := by simpa using c4'
                omega
              have szC : ((out ++ (a.extract i na).reverse).push b.toList[nb - 1] ++ (b.extract j (nb - 1)).reverse).size ≥ ((out ++ (a.extract i na).reverse).push b.toList[nb - 1]).size := by
                rw [Array.size_append]
                omega
              refine wpS_bind (wpS_elem (at_list hia2) ?_)
              have mD := pA (out := (out ++ (a.extract i na).reverse).push b.toList[nb - 1] ++ (b.extract j (nb - 1)).reverse) h0i hli mC hlo2'
              by_cases c5 : (i - 1 == 0) = true
              · rw [if_pos c5]
                exact wpS_pure ⟨ev3, _, _, _, _, _, _, _, rfl, .inl ⟨_, rfl, dn mD (.inl (by simpa using c5))⟩⟩
              rw [if_neg c5]
              have hend : 0 < i - 1 := by
                have h1 : i - 1 ≠ 0 := by simpa using c5
                omega
              have szD := Array.size_push (xs := (out ++ (a.extract i na).reverse).push b.toList[nb - 1] ++ (b.extract j (nb - 1)).reverse) a.toList[i - 1]
              by_cases c6 : (decide (na - i < 7) && decide (nb - 1 - j < 7)) = true
              · rw [if_pos c6]
                exact wpS_pure ⟨ev3, _, _, _, _, _, _, _, rfl, .inr ⟨rfl, ⟨mD, hend, hj1⟩, by omega⟩⟩
              · rw [if_neg c6]
                exact wpS_pure ⟨ev3, _, _, _, _, _, _, rfl, ⟨mD, hend, hj1⟩, by omega⟩
            · rw [if_neg cj]
              have ej : j = nb - 1 := by omega
              rw [ej] at hlo2'
              refine wpS_bind (wpS_elem (at_list hia2) ?_)
              have mD := pA (out := (out ++ (a.extract i na).reverse).push b.toList[nb - 1]) h0i hli mB hlo2'
              by_cases c5 : (i - 1 == 0) = true
              · rw [if_pos c5]
                exact wpS_pure ⟨ev3, _, _, _, _, _, _, _, rfl, .inl ⟨_, rfl, dn mD (.inl (by simpa using c5))⟩⟩
              rw [if_neg c5]
              have hend : 0 < i - 1 := by
                have h1 : i - 1 ≠ 0 := by simpa using c5
                omega
              have szD := Array.size_push (xs := (out ++ (a.extract i na).reverse).push b.toList[nb - 1]) a.toList[i - 1]
              by_cases c6 : (decide (na - i < 7) && decide (nb - 1 - j < 7)) = true
              · rw [if_pos c6]
                exact wpS_pure ⟨ev3, _, _, _, _, _, _, _, rfl, .inr ⟨rfl, ⟨mD, hend, hnb⟩, by omega⟩⟩
              · rw [if_neg c6]
                exact wpS_pure ⟨ev3, _, _, _, _, _, _, rfl, ⟨mD, hend, hnb⟩, by omega⟩
          · rw [if_neg ck]
            have ei : i = na := by omega
            have h0i : 0 < na := h0a
            have hli : na ≤ a.toList.length := hla
            have mA := m.1
            rw [ei] at hlo'
            have sz3 : out.size ≥ out.size := Nat.le_refl _
            refine wpS_bind (wpS_elem (at_list hib) ?_)
            have mB := pB (out := out) (by omega) hlb mA hlo'
            by_cases c3 : (nb - 1 == 1) = true
            · rw [if_pos c3]
              exact wpS_pure ⟨ev3, _, _, _, _, _, _, _, rfl, .inl ⟨_, rfl, fs mB (by simpa using c3)⟩⟩
            rw [if_neg c3]
            have hnb : 1 < nb - 1 := by
              have h1 : nb - 1 ≠ 1 := by simpa using c3
              omega
            have hia2 : na - 1 < a.toList.length := by omega
            refine wpS_bind (wpS_elem (at_list hia2) ?_)
            refine wpS_bind (wpS_gallopL L (seg := b.toList.take (nb - 1)) hk3 (ha _ (List.getElem_mem _)) (by rw [List.length_take]; omega) (fun i hi => by rw [List.getElem_take, Nat.zero_add]; exact at_list _) (fun p hp => hb p (List.mem_of_mem_take hp)) (sb.sublist (List.take_sublist _ _)) (by omega) fun j hj hlo2 hhi2 => ?_)
            dsimp only
            have szB : ((out).push b.toList[nb - 1]).size = (out).size + 1 := Array.size_push _
            have hlo2' : ∀ p ∈ b.toList.take j, Le κ p a.toList[na - 1] := fun p hp => hlo2 p (by rw [List.take_take, Nat.min_eq_left hj]; exact hp)
            by_cases cj : nb - 1 - j > 0
            · rw [if_pos cj]
              have mC : MH κ a.toList b.toList ((out).push b.toList[nb - 1] ++ (b.extract j (nb - 1)).reverse).toList.reverse (na) j := by
                rw [Array.toList_append, Array.toList_reverse, List.reverse_append, List.reverse_reverse, ex_seg]
                exact mB.appB hj fun p hp q' hq' => (le_upto sa h0i hli q' hq').trans (hhi2 p hp)
              by_cases c4 : (j == 1) = true
              · rw [if_pos c4]
                exact wpS_pure ⟨ev3, _, _, _, _, _, _, _, rfl, .inl ⟨_, rfl, fs mC (by simpa using c4)⟩⟩
              rw [if_neg c4]
              by_cases c4' : (j == 0) = true
              · rw [if_pos c4']
                exact wpS_pure ⟨ev3, _, _, _, _, _, _, _, rfl, .inl ⟨_, rfl, dn mC (.inr (by simpa using c4'))⟩⟩
              rw [if_neg c4']
              have hj1 : 1 < j := by
                have h1 : j ≠ 1 := by simpa using c4
                have h2 : j ≠ 0 := by simpa using c4'
                omega
              have szC : ((out).push b.toList[nb - 1] ++ (b.extract j (nb - 1)).reverse).size ≥ ((out).push b.toList[nb - 1]).size := by
                rw [Array.size_append]
                omega
              refine wpS_bind (wpS_elem (at_list hia2) ?_)
              have mD := pA (out := (out).push b.toList[nb - 1] ++ (b.extract j (nb - 1)).reverse) h0i hli mC hlo2'
              by_cases c5 : (na - 1 == 0) = true
              · rw [if_pos c5]
                exact wpS_pure ⟨ev3, _, _, _, _, _, _, _, rfl, .inl ⟨_, rfl, dn mD (.inl (by simpa using c5))⟩⟩
              rw [if_neg c5]
              have hend : 0 < na - 1 := by
                have h1 : na - 1 ≠ 0 := by simpa using c5
                omega
              have szD := Array.size_push (xs := (out).push b.toList[nb - 1] ++ (b.extract j (nb - 1)).reverse) a.toList[na - 1]
              by_cases c6 : (decide (na - i < 7) && decide (nb - 1 - j < 7)) = true
              · rw [if_pos c6]
                exact wpS_pure ⟨ev3, _, _, _, _, _, _, _, rfl, .inr ⟨rfl, ⟨mD, hend, hj1⟩, by omega⟩⟩
              · rw [if_neg c6]
                exact wpS_pure ⟨ev3, _, _, _, _, _, _, rfl, ⟨mD, hend, hj1⟩, by omega⟩
            · rw [if_neg cj]
              have ej : j = nb - 1 := by omega
              rw [ej] at hlo2'
              refine wpS_bind (wpS_elem (at_list hia2) ?_)
              have mD := pA (out := (out).push b.toList[nb - 1]) h0i hli mB hlo2'
              by_cases c5 : (na - 1 == 0) = true
              · rw [if_pos c5]
                exact wpS_pure ⟨ev3, _, _, _, _, _, _, _, rfl, .inl ⟨_, rfl, dn mD (.inl (by simpa using c5))⟩⟩
              rw [if_neg c5]
              have hend : 0 < na - 1 := by
                have h1 : na - 1 ≠ 0 := by simpa using c5
                omega
              have szD := Array.size_push (xs := (out).push b.toList[nb - 1]) a.toList[na - 1]
              by_cases c6 : (decide (na - i < 7) && decide (nb - 1 - j < 7)) = true
              · rw [if_pos c6]
                exact wpS_pure ⟨ev3, _, _, _, _, _, _, _, rfl, .inr ⟨rfl, ⟨mD, hend, hnb⟩, by omega⟩⟩
              · rw [if_neg c6]
                exact wpS_pure ⟨ev3, _, _, _, _, _, _, rfl, ⟨mD, hend, hnb⟩, by omega⟩
end
end TS
set_option Elab.async false
set_option linter.all false
set_option maxRecDepth 100000
namespace TS
open PySem PyProof.Rows
theorem mergeAt'_eq (i : Nat) : mergeAt' i = (do
  let s ← get
  let (some (sa, na, power), some (sb, nb, _)) := ((pendingOf s)[i]?, (pendingOf s)[i + 1]?) | unsupported "internal:list.sort.pending"
  set (setPending s (((pendingOf s).setIfInBounds i (sa, na + nb, power)).eraseIdxIfInBounds (i + 1)))
  let some k ← gallop' false (← elem' (arrOf s) sb) (arrOf s) sa na 0 | return false
  let (sa, na) := (sa + k, na - k)
  if na == 0 then return true
  let some nb ← gallop' true (← elem' (arrOf s) (sa + na - 1)) (arrOf s) sb nb (nb - 1) | return false
  if nb == 0 then return true
  let x := (arrOf s).extract sa sb
  let y := (arrOf s).extract sb (sb + nb)
  let merged ← if na ≤ nb then mergeLo' x y else mergeHi' x y
  modify fun s => setArr s (merged.toList.zipIdx.foldl (fun a (p, j) => a.setIfInBounds (sa + j) p) (arrOf s))
  return (failedOf (← get)).isNone) := rfl

theorem splice (i : Nat) : ∀ (m : List Keyed) (k : Nat) (arr : Array Keyed), i + k + m.length ≤ arr.size →
    ((m.zipIdx k).foldl (fun (a : Array Keyed) (x : Keyed × Nat) => match x with | (p, j) => a.setIfInBounds (i + j) p) arr).toList = arr.toList.take (i + k) ++ m ++ arr.toList.drop (i + k + m.length)
  | [], k, arr, h => by simp
  | p :: m, k, arr, h => by
    rw [List.length_cons] at h
    rw [List.zipIdx_cons, List.foldl_cons]
    have ih := splice i m (k + 1) (arr.setIfInBounds (i + k) p) (by rw [Array.size_setIfInBounds]; omega)
    rw [ih, Array.toList_setIfInBounds]
    have hlt : i + k < arr.toList.length := by simpa using (by omega : i + k < arr.size)
    have e1 : (arr.toList.set (i + k) p).take (i + (k + 1)) = arr.toList.take (i + k) ++ [p] := by
      rw [← Nat.add_assoc, List.take_add_one, List.getElem?_set_self hlt, List.take_set_of_le (Nat.le_refl _)]
      rfl
    have e2 : (arr.toList.set (i + k) p).drop (i + (k + 1) + m.length) = arr.toList.drop (i + k + (m.length + 1)) := by
      rw [List.drop_set_of_lt (by omega)]
      congr 1
      omega
    rw [e1, e2, List.length_cons]
    simp

section
variable {prog : Program} {w : World} {A : Around} {E : Value → Shared → Prop} {s : Shared} {κ : PyProof.Rows.KeyKind} {kd : SortKind} {a₀ : Array Keyed}
def seg (l : List Keyed) (i n : Nat) : List Keyed := (l.drop i).take n
theorem seg_length {l : List Keyed} {i n : Nat} (h : i + n ≤ l.length) : (seg l i n).length = n := by
  unfold seg
  rw [List.length_take, List.length_drop]
  omega
theorem seg_get {arr : Array Keyed} {i n j : Nat} (h : j < (seg arr.toList i n).length) : arr[i + j]? = some (seg arr.toList i n)[j] := by
  have h' : j < ((arr.toList.drop i).take n).length := h
  have e : (seg arr.toList i n)[j]? = ((arr.toList.drop i).take n)[j]? := rfl
  rw [List.getElem?_eq_getElem h, List.getElem?_eq_getElem h', List.getElem_take, List.getElem_drop] at e
  rw [e]
  rw [List.length_take, List.length_drop] at h'
  exact at_list (by omega)
theorem seg_split {l : List Keyed} {i k n : Nat} (h : k ≤ n) : seg l i n = seg l i k ++ seg l (i + k) (n - k) := by
  unfold seg
  rw [← List.drop_drop]
  generalize l.drop i = t
  have e : t.take n = t.take (k + (n - k)) := by congr 1; omega
  rw [e, List.take_add]
theorem seg_mem {l : List Keyed} {i n : Nat} {p : Keyed} (h : p ∈ seg l i n) : p ∈ l := List.mem_of_mem_drop (List.mem_of_mem_take h)
theorem seg_tk {l : List Keyed} {i k n : Nat} (h : k ≤ n) : (seg l i n).take k = seg l i k := by
  unfold seg
  rw [List.take_take, Nat.min_eq_left h]
theorem seg_dp {l : List Keyed} {i k n : Nat} : (seg l i n).drop k = seg l (i + k) (n - k) := by
  unfold seg
  rw [List.drop_take, List.drop_drop]
theorem seg_ext (a : Array Keyed) (i n : Nat) : (a.extract i (i + n)).toList = seg a.toList i n := ex_k a i n
theorem whole {l : List Keyed} {i n : Nat} : l = l.take i ++ seg l i n ++ l.drop (i + n) := by
  unfold seg
  rw [List.append_assoc, ← List.drop_drop, List.take_append_drop, List.take_append_drop]

structure TB (κ : PyProof.Rows.KeyKind) (kd : SortKind) (a₀ : Array Keyed) (st : SortSt) : Prop where
  perm : (arrOf st).Perm a₀
  kind : kindOf st = kd
  failed : failedOf st = none
theorem TB.size {st : SortSt} (h : TB κ kd a₀ st) : (arrOf st).toList.length = a₀.size := by simpa using h.perm.size_eq
theorem TB.has {st : SortSt} (h : TB κ kd a₀ st) (h0 : ∀ p ∈ a₀.toList, Has κ p) : ∀ p ∈ (arrOf st).toList, Has κ p := fun p hp => h0 p ((Array.perm_iff_toList_perm.mp h.perm).mem_iff.mp hp)

/-- what a merge leaves -/
structure Merged (κ : PyProof.Rows.KeyKind) (l l' : List Keyed) (i n : Nat) : Prop where
  ex : ∃ m, l' = l.take i ++ m ++ l.drop (i + n) ∧ m.Perm (seg l i n) ∧ m.Pairwise (Le κ)
theorem Merged.same {l : List Keyed} {i n : Nat} (h : (seg l i n).Pairwise (Le κ)) : Merged κ l l i n := ⟨_, whole, List.Perm.refl _, h⟩

set_option maxHeartbeats 4000000 in
theorem wpS_mergeAt (L : LtOk κ kd prog w A s) (h0 : ∀ p ∈ a₀.toList, Has κ p) {st : SortSt} {i sa na sb nb pw pw2 : Nat} {Q : Bool → SortSt → Prop} (hB : TB κ kd a₀ st)
    (hi : (pendingOf st)[i]? = some (sa, na, pw)) (hi2 : (pendingOf st)[i + 1]? = some (sb, nb, pw2)) (hsb : sb = sa + na) (hna : 0 < na) (hnb : 0 < nb) (hle : sb + nb ≤ a₀.size)
    (sA : (seg (arrOf st).toList sa na).Pairwise (Le κ)) (sB : (seg (arrOf st).toList sb nb).Pairwise (Le κ))
    (q : ∀ st', kindOf st' = kd → failedOf st' = none → pendingOf st' = ((pendingOf st).setIfInBounds i (sa, na + nb, pw)).eraseIdxIfInBounds (i + 1) → Merged κ (arrOf st).toList (arrOf st').toList sa (na + nb) → Q true st') :
    wpS (model prog w) A E s (mergeAt' i) Q st := by
  have hlen := hB.size
  have hH := hB.has h0
  rw [mergeAt'_eq]
  refine wpS_bind (wpS_get ?_)
  rw [hi, hi2]
  dsimp only
  generalize hl : (arrOf st).toList = l at *
  have lenA : (seg l sa na).length = na := seg_length (by omega)
  have lenB : (seg l sb nb).length = nb := seg_length (by omega)
  have gA : ∀ j (h : j < (seg l sa na).length), (arrOf st)[sa + j]? = some (seg l sa na)[j] := fun j h => by subst hl; exact seg_get h
  have gB : ∀ j (h : j < (seg l sb nb).length), (arrOf st)[sb + j]? = some (seg l sb nb)[j] := fun j h => by subst hl; exact seg_get h
  have hasA : ∀ p ∈ seg l sa na, Has κ p := fun p hp => hH p (seg_mem hp)
  have hasB : ∀ p ∈ seg l sb nb, Has κ p := fun p hp => hH p (seg_mem hp)
  have hset : ∀ {Q' : PUnit → SortSt → Prop} {st2 : SortSt}, Q' ⟨⟩ st2 → wpS (model prog w) A E s (set st2 : StateT SortSt Sem PUnit) Q' st := fun {Q' st2} h => by
    unfold wpS
    rw [StateT.run_set]
    exact wpAny_pure ⟨rfl, h⟩
  refine wpS_bind (hset ?_)
  have g0 := gB 0 (by omega)
  rw [Nat.add_zero] at g0
  refine wpS_bind (wpS_elem g0 ?_)
  refine wpS_bind (wpS_gallopL L (seg := seg l sa na) hB.kind (hasB _ (List.getElem_mem _)) lenA gA hasA sA hna fun k hk hlo hhi => ?_)
  dsimp only
  have b0le : ∀ p ∈ seg l sb nb, Le κ ((seg l sb nb)[0]'(by omega)) p := fun p hp => le_rest sB (by omega) p (by simpa using hp)
  by_cases c1 : (na - k == 0) = true
  · rw [if_pos c1]
    have ek : k = na := by
      have : na - k = 0 := by simpa using c1
      omega
    refine wpS_pure (q _ hB.kind hB.failed rfl ?_)
    show Merged κ l (arrOf st).toList sa (na + nb)
    rw [hl]
    refine Merged.same ?_
    rw [seg_split (k := na) (by omega), show na + nb - na = nb by omega, ← hsb]
    refine List.pairwise_append.mpr ⟨sA, sB, fun x hx y hy => ?_⟩
    have : x ∈ (seg l sa na).take k := by rw [ek, List.take_of_length_le (by omega)]; exact hx
    exact (hlo x this).trans (b0le y hy)
  rw [if_neg c1]
  have hkn : k < na := by
    have : na - k ≠ 0 := by simpa using c1
    omega
  have gl := gA (na - 1) (by omega)
  rw [show sa + (na - 1) = sa + k + (na - k) - 1 by omega] at gl
  refine wpS_bind (wpS_elem gl ?_)
  refine wpS_bind (wpS_gallopL L (seg := seg l sb nb) hB.kind (hasA _ (List.getElem_mem _)) lenB gB hasB sB (by omega) fun j hj hlo2 hhi2 => ?_)
  dsimp only
  have leA : ∀ p ∈ seg l sa na, Le κ p ((seg l sa na)[na - 1]'(by omega)) := fun p hp => le_upto sA hna (by omega) p (by rw [List.take_of_length_le (by omega)]; exact hp)
  by_cases c2 : (j == 0) = true
  · rw [if_pos c2]
    have ej : j = 0 := by simpa using c2
    refine wpS_pure (q _ hB.kind hB.failed rfl ?_)
    show Merged κ l (arrOf st).toList sa (na + nb)
    rw [hl]
    refine Merged.same ?_
    rw [seg_split (k := na) (by omega), show na + nb - na = nb by omega, ← hsb]
    refine List.pairwise_append.mpr ⟨sA, sB, fun x hx y hy => ?_⟩
    exact (leA x hx).trans (hhi2 y (by rw [ej]; exact hy))
  rw [if_neg c2]
  have hj0 : 0 < j := by
    have : j ≠ 0 := by simpa using c2
    omega
  have ex : ((arrOf st).extract (sa + k) sb).toList = seg l (sa + k) (na - k) := by
    rw [hsb, show sa + na = sa + k + (na - k) by omega, seg_ext, hl]
  have ey : ((arrOf st).extract sb (sb + j)).toList = seg l sb j := by rw [seg_ext, hl]
  have exD : seg l (sa + k) (na - k) = (seg l sa na).drop k := seg_dp.symm
  have eyT : seg l sb j = (seg l sb nb).take j := (seg_tk hj).symm
  have lx : ((arrOf st).extract (sa + k) sb).toList.length = na - k := by rw [ex]; exact seg_length (by omega)
  have ly : ((arrOf st).extract sb (sb + j)).toList.length = j := by rw [ey]; exact seg_length (by omega)
  have sx : ((arrOf st).extract (sa + k) sb).toList.Pairwise (Le κ) := by rw [ex, exD]; exact sA.sublist (List.drop_sublist _ _)
  have sy : ((arrOf st).extract sb (sb + j)).toList.Pairwise (Le κ) := by rw [ey, eyT]; exact sB.sublist (List.take_sublist _ _)
  have hx : ∀ p ∈ ((arrOf st).extract (sa + k) sb).toList, Has κ p := fun p hp => by rw [ex] at hp; exact hH p (seg_mem hp)
  have hy : ∀ p ∈ ((arrOf st).extract sb (sb + j)).toList, Has κ p := fun p hp => by rw [ey] at hp; exact hH p (seg_mem hp)
  have y0 : ((arrOf st).extract sb (sb + j)).toList[0]'(by omega) = (seg l sb nb)[0]'(by omega) := by
    have : ((arrOf st).extract sb (sb + j)).toList[0]? = (seg l sb nb)[0]? := by
      rw [ey, eyT, List.getElem?_take_of_lt hj0]
    rw [List.getElem?_eq_getElem (by omega), List.getElem?_eq_getElem (by omega)] at this
    exact Option.some.inj this
  have first : ∀ p ∈ ((arrOf st).extract (sa + k) sb).toList, Le κ (((arrOf st).extract sb (sb + j)).toList[0]'(by omega)) p := fun p hp => by
    rw [y0]
    rw [ex, exD] at hp
    exact hhi p hp
  have xl : ((arrOf st).extract (sa + k) sb).toList[((arrOf st).extract (sa + k) sb).toList.length - 1]'(by omega) = (seg l sa na)[na - 1]'(by omega) := by
    have : ((arrOf st).extract (sa + k) sb).toList[((arrOf st).extract (sa + k) sb).toList.length - 1]? = (seg l sa na)[na - 1]? := by
      rw [lx, ex, exD, List.getElem?_drop, show k + (na - k - 1) = na - 1 by omega]
    rw [List.getElem?_eq_getElem (by omega), List.getElem?_eq_getElem (by omega)] at this
    exact Option.some.inj this
  have lastA : ∀ q' ∈ ((arrOf st).extract sb (sb + j)).toList, Le κ q' (((arrOf st).extract (sa + k) sb).toList[((arrOf st).extract (sa + k) sb).toList.length - 1]'(by omega)) := fun q' hq' => by
    rw [xl]
    rw [ey, eyT] at hq'
    exact hlo2 q' hq'
  have lastA' : ∀ q' ∈ ((arrOf st).extract sb (sb + j)).toList, ∀ p ∈ ((arrOf st).extract (sa + k) sb).toList.drop (((arrOf st).extract (sa + k) sb).toList.length - 1), Le κ q' p := fun q' hq' p hp => by
    rw [List.drop_eq_getElem_cons (by omega), List.drop_of_length_le (by omega)] at hp
    rw [List.mem_singleton.mp hp]
    exact lastA q' hq'
  -- what is left
  have fin : ∀ (r : Array Keyed) (st' : SortSt), Eqv (setPending st (((pendingOf st).setIfInBounds i (sa, na + nb, pw)).eraseIdxIfInBounds (i + 1))) st' → Good κ ((arrOf st).extract (sa + k) sb).toList ((arrOf st).extract sb (sb + j)).toList r.toList →
      wpS (model prog w) A E s (do
        modify fun s => setArr s (List.foldl (fun (a : Array Keyed) (x : Keyed × Nat) => a.setIfInBounds (sa + k + x.snd) x.fst) (arrOf s) r.toList.zipIdx)
        let z ← get
        pure (failedOf z).isNone) Q st' := by
    intro r st' ev g
    refine wpS_bind (wpS_modify (wpS_bind (wpS_get ?_)))
    have hf : failedOf st' = none := ev.2.2.2.trans hB.failed
    have harr : arrOf st' = arrOf st := ev.2.1
    have lr : r.toList.length = na - k + j := by
      have := g.1.length_eq
      rw [List.length_append, lx, ly] at this
      exact this
    show wpS (model prog w) A E s (pure (failedOf st').isNone) Q (setArr st' (List.foldl (fun (a : Array Keyed) (x : Keyed × Nat) => a.setIfInBounds (sa + k + x.snd) x.fst) (arrOf st') r.toList.zipIdx))
    rw [hf]
    refine wpS_pure (q _ (ev.1.trans hB.kind) hf ev.2.2.1 ?_)
    have sp := splice (sa + k) r.toList 0 (arrOf st') (by rw [harr, lr]; have : (arrOf st).size = l.length := by rw [← hl]; simp
                                                          omega)
    rw [Nat.add_zero] at sp
    refine ⟨⟨seg l sa k ++ r.toList ++ seg l (sb + j) (nb - j), ?_, ?_, ?_⟩⟩
    · show (List.foldl (fun (a : Array Keyed) (x : Keyed × Nat) => a.setIfInBounds (sa + k + x.snd) x.fst) (arrOf st') r.toList.zipIdx).toList = _
      refine Eq.trans sp ?_
      rw [harr, hl, lr]
      have e1 : l.take (sa + k) = l.take sa ++ seg l sa k := by unfold seg; rw [List.take_add]
      have e2 : l.drop (sa + k + (na - k + j)) = seg l (sb + j) (nb - j) ++ l.drop (sa + (na + nb)) := by
        have e3 : l.drop (sb + j) = seg l (sb + j) (nb - j) ++ l.drop (sb + j + (nb - j)) := by
          have h := List.take_append_drop (nb - j) (l.drop (sb + j))
          rw [List.drop_drop] at h
          exact h.symm
        rw [show sa + k + (na - k + j) = sb + j by omega, e3, show sb + j + (nb - j) = sa + (na + nb) by omega]
      rw [e1, e2]
      simp only [List.append_assoc]
    · rw [seg_split (l := l) (i := sa) (k := k) (n := na + nb) (by omega)]
      rw [List.append_assoc]
      refine List.Perm.append_left _ ?_
      have e4 : seg l (sa + k) (na + nb - k) = seg l (sa + k) (na - k) ++ (seg l sb j ++ seg l (sb + j) (nb - j)) := by
        rw [seg_split (k := na - k) (by omega), show sa + k + (na - k) = sb by omega, show na + nb - k - (na - k) = nb by omega, seg_split (l := l) (i := sb) (k := j) hj]
      rw [e4, ← List.append_assoc]
      refine List.Perm.append_right _ ?_
      have := g.1
      rw [ex, ey] at this
      exact this
    · have memR : ∀ p ∈ r.toList, p ∈ (seg l sa na).drop k ∨ p ∈ (seg l sb nb).take j := fun p hp => by
        have := g.1.mem_iff.mp hp
        rw [ex, ey, exD, eyT] at this
        exact List.mem_append.mp this
      have tA : seg l sa k = (seg l sa na).take k := (seg_tk hk).symm
      have dB : seg l (sb + j) (nb - j) = (seg l sb nb).drop j := seg_dp.symm
      have pA := sA
      rw [← List.take_append_drop k (seg l sa na)] at pA
      have pA' := List.pairwise_append.mp pA
      have pB := sB
      rw [← List.take_append_drop j (seg l sb nb)] at pB
      have pB' := List.pairwise_append.mp pB
      rw [tA, dB]
      refine List.pairwise_append.mpr ⟨List.pairwise_append.mpr ⟨pA'.1, g.2, fun x hx y hy => ?_⟩, pB'.2.1, fun x hx y hy => ?_⟩
      · rcases memR y hy with z | z
        · exact pA'.2.2 x hx y z
        · exact (hlo x hx).trans (b0le y (List.mem_of_mem_take z))
      · rcases List.mem_append.mp hx with hx | hx
        · exact (leA x (List.mem_of_mem_take hx)).trans (hhi2 y hy)
        · rcases memR x hx with z | z
          · exact (leA x (List.mem_of_mem_drop z)).trans (hhi2 y hy)
          · exact pB'.2.2 x z y hy
  by_cases c3 : na - k ≤ j
  · rw [if_pos c3]
    exact wpS_bind (wpS_mergeLo L hB.kind hx hy sx sy (by omega) (by omega) first lastA' fin)
  · rw [if_neg c3]
    exact wpS_bind (wpS_mergeHi L hB.kind hx hy sx sy (by omega) (by omega) first lastA fin)
end
end TS
set_option Elab.async false
set_option linter.all false
set_option maxRecDepth 100000
namespace TS
open PySem PyProof.Rows
open PyProof.Rows.KeyOrd (kle_refl kle_trans kle_of_klt kle_antisymm klt_of_klt_of_kle)
def ascL (lo a nrem : Nat) : StateT SortSt Sem (Option (Option Nat) × Nat) :=
  forIn [a:nrem] (none, a) fun (_ : Nat) (s : Option (Option Nat) × Nat) => do
    let x ← ltAt' (lo + s.snd) (lo + s.snd - 1)
    match x with
    | some smaller => if smaller = true then pure (ForInStep.done (none, s.snd)) else pure (ForInStep.yield (none, s.snd + 1))
    | _ => pure (ForInStep.done (some none, s.snd))
def descL (lo n nrem : Nat) : StateT SortSt Sem (Option (Option Nat) × Nat × Nat) :=
  forIn [n:nrem] (none, n, 0) fun (_ : Nat) (s : Option (Option Nat) × Nat × Nat) => do
    let x ← ltAt' (lo + s.snd.fst) (lo + s.snd.fst - 1)
    match x with
    | some smaller =>
      if smaller = true then
        if s.snd.snd > 0 then do
          reverseSlice' (lo + s.snd.fst - (s.snd.snd + 1)) (lo + s.snd.fst)
          pure (ForInStep.yield (none, s.snd.fst + 1, 0))
        else pure (ForInStep.yield (none, s.snd.fst + 1, 0))
      else do
        let x ← ltAt' (lo + s.snd.fst - 1) (lo + s.snd.fst)
        match x with
        | some larger => if larger = true then pure (ForInStep.done (none, s.snd.fst, s.snd.snd)) else pure (ForInStep.yield (none, s.snd.fst + 1, s.snd.snd + 1))
        | _ => pure (ForInStep.done (some none, s.snd.fst, s.snd.snd))
    | _ => pure (ForInStep.done (some none, s.snd.fst, s.snd.snd))
section
variable {prog : Program} {w : World} {A : Around} {E : Value → Shared → Prop} {s : Shared} {κ : PyProof.Rows.KeyKind} {kd : SortKind} {st₀ : SortSt}
/-- the array turned within [lo, lo + n) alone -/
structure SB (κ : PyProof.Rows.KeyKind) (kd : SortKind) (st₀ : SortSt) (lo n : Nat) (st : SortSt) : Prop where
  perm : (arrOf st).Perm (arrOf st₀)
  kind : kindOf st = kd
  failed : failedOf st = none
  pend : pendingOf st = pendingOf st₀
  out : ∀ i : Nat, i < lo ∨ lo + n ≤ i → (arrOf st)[i]? = (arrOf st₀)[i]?
theorem SB.size {lo n : Nat} {st : SortSt} (h : SB κ kd st₀ lo n st) : (arrOf st).size = (arrOf st₀).size := h.perm.size_eq
theorem SB.setArr {lo n : Nat} {st : SortSt} (h : SB κ kd st₀ lo n st) {xs : Array Keyed} (hp : xs.Perm (arrOf st)) (ho : ∀ i : Nat, i < lo ∨ lo + n ≤ i → xs[i]? = (arrOf st)[i]?) : SB κ kd st₀ lo n (setArr st xs) :=
  ⟨hp.trans h.perm, h.kind, h.failed, h.pend, fun i hi => (ho i hi).trans (h.out i hi)⟩
theorem KK_key {xs : Array Keyed} {i : Nat} (h : i < xs.size) : KK κ xs i = key κ xs[i] := by
  unfold KK key
  rw [Array.getElem?_eq_getElem h]
theorem wpS_ltI (L : LtOk κ kd prog w A s) (h0 : ∀ p ∈ (arrOf st₀).toList, Has κ p) {lo n : Nat} {st : SortSt} {i j : Nat} {Q : Option Bool → SortSt → Prop} (hB : SB κ kd st₀ lo n st) (hi : i < (arrOf st₀).size) (hj : j < (arrOf st₀).size)
    (h : Q (some (κ.blt (KK κ (arrOf st) i) (KK κ (arrOf st) j))) st) : wpS (model prog w) A E s (ltAt' i j) Q st := by
  have hi' : i < (arrOf st).size := by rw [hB.size]; exact hi
  have hj' : j < (arrOf st).size := by rw [hB.size]; exact hj
  have hm : ∀ p ∈ (arrOf st).toList, Has κ p := fun p hp => h0 p ((Array.perm_iff_toList_perm.mp hB.perm).mem_iff.mp hp)
  rw [KK_key hi', KK_key hj'] at h
  rw [ltAt'_eq]
  refine wpS_bind (wpS_get ?_)
  refine wpS_bind (wpS_elem (Array.getElem?_eq_getElem hi') (wpS_bind (wpS_elem (Array.getElem?_eq_getElem hj') ?_)))
  exact wpS_lt L hB.kind (hm _ (by simp)) (hm _ (by simp)) h
def Asc (κ : PyProof.Rows.KeyKind) (st : SortSt) (lo m : Nat) : Prop := ∀ i j, i ≤ j → j < m → κ.kle (KK κ (arrOf st) (lo + i)) (KK κ (arrOf st) (lo + j))
def Desc (κ : PyProof.Rows.KeyKind) (xs : Array Keyed) (lo m : Nat) : Prop := ∀ i j, i ≤ j → j < m → κ.kle (KK κ xs (lo + j)) (KK κ xs (lo + i))

theorem wpS_ascL (L : LtOk κ kd prog w A s) (h0 : ∀ p ∈ (arrOf st₀).toList, Has κ p) {st : SortSt} {lo a nrem : Nat} {Q : Option (Option Nat) × Nat → SortSt → Prop} (hn : lo + nrem ≤ (arrOf st₀).size) (ha : 1 ≤ a) (han : a ≤ nrem) (hB : SB κ kd st₀ lo nrem st)
    (hs : Asc κ st lo a)
    (h : ∀ n, a ≤ n → n ≤ nrem → Asc κ st lo n → (n = nrem ∨ κ.klt (KK κ (arrOf st) (lo + n)) (KK κ (arrOf st) (lo + n - 1))) → Q (none, n) st) :
    wpS (model prog w) A E s (ascL lo a nrem) Q st := by
  unfold ascL
  refine wpS_forRange (I := fun x c st' => st = st' ∧ c = (none, x) ∧ Asc κ st lo x) ?step ?fin ⟨rfl, rfl, hs⟩
  case fin =>
    rintro c st' ⟨rfl, rfl, hs'⟩
    rw [show max a nrem = nrem by omega] at hs' ⊢
    exact h nrem han (Nat.le_refl _) hs' (.inl rfl)
  case step =>
    rintro x c st' hax hxn ⟨rfl, rfl, hs'⟩
    dsimp only
    refine wpS_bind (wpS_ltI L h0 hB (by omega) (by omega) ?_)
    cases hless : κ.blt (KK κ (arrOf st) (lo + x)) (KK κ (arrOf st) (lo + x - 1))
    case true =>
      simp only [if_true]
      exact wpS_pure (h x hax (by omega) hs' (.inr hless))
    case false =>
      simp only [Bool.false_eq_true, if_false]
      refine wpS_pure ⟨rfl, rfl, fun i j hij hj => ?_⟩
      by_cases hjx : j < x
      · exact hs' i j hij hjx
      · have hj' : j = x := by omega
        subst hj'
        by_cases hi' : i = j
        · subst hi'; exact kle_refl _
        · have e : lo + j - 1 = lo + (j - 1) := by omega
          rw [e] at hless
          exact kle_trans (hs' i (j - 1) (by omega) (by omega)) hless

theorem mirror_out {xs : Array Keyed} {i j : Nat} (hj : j ≤ xs.size) {lo n : Nat} (h1 : lo ≤ i) (h2 : j ≤ lo + n) : ∀ k : Nat, k < lo ∨ lo + n ≤ k → (mirror xs i j ((j - i) / 2))[k]? = xs[k]? := fun k hk => by
  rw [getElem?_mirror_all hj, if_neg (by omega)]
theorem wpS_rev {st : SortSt} {i j : Nat} {Q : Unit → SortSt → Prop} (h : Q () (setArr st (mirror (arrOf st) i j ((j - i) / 2)))) : wpS (model prog w) A E s (reverseSlice' i j) Q st := by
  rw [reverseSlice'_eq]
  exact wpS_modify h

theorem wpS_tailA (L : LtOk κ kd prog w A s) (h0 : ∀ p ∈ (arrOf st₀).toList, Has κ p) {st : SortSt} {lo n nrem : Nat} {Q : Option (Option Nat) × Nat → SortSt → Prop} (hn : lo + nrem ≤ (arrOf st₀).size) (h1 : 1 ≤ n) (hnn : n ≤ nrem) (hB : SB κ kd st₀ lo nrem st)
    (hs : Desc κ (arrOf st) lo n) (h : ∀ m st', SB κ kd st₀ lo nrem st' → 1 ≤ m → m ≤ nrem → Asc κ st' lo m → Q (none, m) st') :
    wpS (model prog w) A E s (ascL lo n nrem) Q (setArr st (mirror (arrOf st) lo (lo + n) ((lo + n - lo) / 2))) := by
  have hsz : lo + n ≤ (arrOf st).size := by rw [hB.size]; omega
  have hB' : SB κ kd st₀ lo nrem (setArr st (mirror (arrOf st) lo (lo + n) ((lo + n - lo) / 2))) := hB.setArr (mirror_perm _ _ _ _) (mirror_out hsz (Nat.le_refl _) (by omega))
  refine wpS_ascL L h0 hn h1 hnn hB' ?_ fun m hm1 hm2 hsm _ => h m _ hB' (by omega) hm2 hsm
  intro i j hij hj
  show κ.kle (KK κ (mirror (arrOf st) lo (lo + n) ((lo + n - lo) / 2)) (lo + i)) (KK κ (mirror (arrOf st) lo (lo + n) ((lo + n - lo) / 2)) (lo + j))
  rw [KK_mirror hsz, KK_mirror hsz, if_pos (by omega), if_pos (by omega)]
  have e1 : lo + (lo + n) - 1 - (lo + i) = lo + (n - 1 - i) := by omega
  have e2 : lo + (lo + n) - 1 - (lo + j) = lo + (n - 1 - j) := by omega
  rw [e1, e2]
  exact hs _ _ (by omega) (by omega)

theorem wpS_descL (L : LtOk κ kd prog w A s) (h0 : ∀ p ∈ (arrOf st₀).toList, Has κ p) {st : SortSt} {lo n nrem : Nat} {Q : Option (Option Nat) × Nat × Nat → SortSt → Prop} (hn : lo + nrem ≤ (arrOf st₀).size) (h1 : 1 ≤ n) (hnn : n ≤ nrem) (hB : SB κ kd st₀ lo nrem st)
    (hs : Desc κ (arrOf st) lo n)
    (h : ∀ m neq st', SB κ kd st₀ lo nrem st' → n ≤ m → m ≤ nrem → Desc κ (arrOf st') lo m → neq + 1 ≤ m → (∀ i, lo + m - (neq + 1) ≤ i → i < lo + m → KK κ (arrOf st') i = KK κ (arrOf st') (lo + m - 1)) → Q (none, m, neq) st') :
    wpS (model prog w) A E s (descL lo n nrem) Q st := by
  unfold descL
  refine wpS_forRange (I := fun x c st' => ∃ neq, c = (none, x, neq) ∧ SB κ kd st₀ lo nrem st' ∧ Desc κ (arrOf st') lo x ∧ neq + 1 ≤ x ∧
      (∀ i, lo + x - (neq + 1) ≤ i → i < lo + x → KK κ (arrOf st') i = KK κ (arrOf st') (lo + x - 1))) ?step ?fin ⟨0, rfl, hB, hs, by omega, fun i h1 h2 => by congr 1; omega⟩
  case fin =>
    rintro c st' ⟨neq, rfl, hB', hs', hq, he⟩
    rw [show max n nrem = nrem by omega] at hs' hq he ⊢
    exact h nrem neq st' hB' hnn (Nat.le_refl _) hs' hq he
  case step =>
    rintro x c st' hax hxn ⟨neq, rfl, hB', hs', hq, he⟩
    dsimp only
    have hsz : lo + x ≤ (arrOf st').size := by rw [hB'.size]; omega
    have ex : lo + x - 1 = lo + (x - 1) := by omega
    refine wpS_bind (wpS_ltI L h0 hB' (by omega) (by omega) ?_)
    cases hless : κ.blt (KK κ (arrOf st') (lo + x)) (KK κ (arrOf st') (lo + x - 1))
    case true =>
      simp only [if_true]
      have step1 : ∀ xs : Array Keyed, (∀ k, KK κ xs k = KK κ (arrOf st') k) → Desc κ xs lo (x + 1) := by
        intro xs hk i j hij hj
        rw [hk, hk]
        by_cases hjx : j < x
        · exact hs' i j hij hjx
        · have hj' : j = x := by omega
          subst hj'
          by_cases hi' : i = j
          · subst hi'; exact kle_refl _
          · rw [ex] at hless
            exact kle_trans (kle_of_klt hless) (hs' i (j - 1) (by omega) (by omega))
      by_cases hneq : neq > 0
      · rw [if_pos hneq]
        refine wpS_bind (wpS_rev (wpS_pure ⟨0, rfl, hB'.setArr (mirror_perm _ _ _ _) (mirror_out hsz (by omega) (by omega)), step1 _ (KK_mirror_equal hsz he), by omega, fun i h1 h2 => by congr 1; omega⟩))
      · rw [if_neg hneq]
        exact wpS_pure ⟨0, rfl, hB', step1 _ (fun _ => rfl), by omega, fun i h1 h2 => by congr 1; omega⟩
    case false =>
      simp only [Bool.false_eq_true, if_false]
      refine wpS_bind (wpS_ltI L h0 hB' (by omega) (by omega) ?_)
      cases hlarger : κ.blt (KK κ (arrOf st') (lo + x - 1)) (KK κ (arrOf st') (lo + x))
      case true =>
        simp only [if_true]
        exact wpS_pure (h x neq st' hB' hax (by omega) hs' hq he)
      case false =>
        simp only [Bool.false_eq_true, if_false]
        have heqx : KK κ (arrOf st') (lo + x) = KK κ (arrOf st') (lo + x - 1) := kle_antisymm hlarger hless
        refine wpS_pure ⟨neq + 1, rfl, hB', fun i j hij hj => ?_, by omega, fun i h1 h2 => ?_⟩
        · by_cases hjx : j < x
          · exact hs' i j hij hjx
          · have hj' : j = x := by omega
            subst hj'
            by_cases hi' : i = j
            · subst hi'; exact kle_refl _
            · rw [heqx, ex]; exact hs' i (j - 1) (by omega) (by omega)
        · rw [show lo + (x + 1) - 1 = lo + x by omega]
          by_cases hix : i = lo + x
          · subst hix; rfl
          · rw [heqx]; exact he i (by omega) (by omega)

theorem wpS_countRunL (L : LtOk κ kd prog w A s) (h0 : ∀ p ∈ (arrOf st₀).toList, Has κ p) {st : SortSt} {lo nrem : Nat} {Q : Option Nat → SortSt → Prop} (hn : lo + nrem ≤ (arrOf st₀).size) (h1 : 1 ≤ nrem) (hB : SB κ kd st₀ lo nrem st)
    (h : ∀ m st', SB κ kd st₀ lo nrem st' → 1 ≤ m → m ≤ nrem → Asc κ st' lo m → Q (some m) st') :
    wpS (model prog w) A E s (countRun' lo nrem) Q st := by
  rw [countRun'_eq]
  dsimp only
  refine wpS_bind (show wpS (model prog w) A E s (ascL lo 1 nrem) _ st from wpS_ascL L h0 hn (Nat.le_refl 1) h1 hB (fun i j hij hj => by have : i = j := (by omega); subst this; exact kle_refl _) fun n hn1 hn2 hsn hor => ?_)
  dsimp only
  by_cases hnn : n = nrem
  · rw [if_pos (by simpa using hnn)]
    exact wpS_pure (h n st hB hn1 hn2 hsn)
  · rw [if_neg (by simpa using hnn)]
    have hlt : κ.klt (KK κ (arrOf st) (lo + n)) (KK κ (arrOf st) (lo + n - 1)) := hor.resolve_left hnn
    by_cases hgt : n > 1
    · rw [if_pos hgt]
      refine wpS_bind (wpS_ltI L h0 hB (by omega) (by omega) ?_)
      cases hrose : κ.blt (KK κ (arrOf st) lo) (KK κ (arrOf st) (lo + n - 1))
      case true =>
        simp only [if_true]
        exact wpS_pure (h n st hB hn1 hn2 hsn)
      case false =>
        simp only [Bool.false_eq_true, if_false]
        have hsz : lo + n ≤ (arrOf st).size := by rw [hB.size]; omega
        have en : lo + n - 1 = lo + (n - 1) := by omega
        have hall : ∀ k, lo ≤ k → k < lo + n → KK κ (arrOf st) k = KK κ (arrOf st) (lo + n - 1) := by
          intro k hk1 hk2
          have a1 := hsn 0 (k - lo) (by omega) (by omega)
          have a2 := hsn (k - lo) (n - 1) (by omega) (by omega)
          rw [Nat.add_zero] at a1
          rw [show lo + (k - lo) = k by omega] at a1 a2
          rw [en] at hrose ⊢
          exact kle_antisymm a2 (kle_trans hrose a1)
        refine wpS_bind (wpS_rev ?_)
        refine wpS_bind (wpS_lift (wpAny_rule ⟨rfl, ?_⟩))
        have hB2 := (hB.setArr (mirror_perm _ _ _ _) (mirror_out hsz (Nat.le_refl _) (by omega)) : SB κ kd st₀ lo nrem (setArr st (mirror (arrOf st) lo (lo + n) ((lo + n - lo) / 2))))
        have hD2 : Desc κ (arrOf (setArr st (mirror (arrOf st) lo (lo + n) ((lo + n - lo) / 2)))) lo (n + 1) := by
          intro i j hij hj
          show κ.kle (KK κ (mirror (arrOf st) lo (lo + n) ((lo + n - lo) / 2)) (lo + j)) (KK κ (mirror (arrOf st) lo (lo + n) ((lo + n - lo) / 2)) (lo + i))
          rw [KK_mirror_equal hsz hall, KK_mirror_equal hsz hall]
          by_cases hjn : j < n
          · rw [hall (lo + i) (by omega) (by omega), hall (lo + j) (by omega) (by omega)]; exact kle_refl _
          · have hj' : j = n := by omega
            subst hj'
            by_cases hi' : i = j
            · subst hi'; exact kle_refl _
            · rw [hall (lo + i) (by omega) (by omega)]; exact kle_of_klt hlt
        refine wpS_bind (show wpS (model prog w) A E s (descL lo (n + 1) nrem) _ _ from wpS_descL L h0 hn (by omega) (by omega) hB2 hD2 fun m neq st' hB' hm1 hm2 hs' hq he => ?_)
        dsimp only
        have hszm : lo + m ≤ (arrOf st').size := by rw [hB'.size]; omega
        by_cases hneq : neq > 0
        · rw [if_pos hneq]
          refine wpS_bind (wpS_rev ?_)
          have hB3 : SB κ kd st₀ lo nrem (setArr st' (mirror (arrOf st') (lo + m - (neq + 1)) (lo + m) ((lo + m - (lo + m - (neq + 1))) / 2))) := hB'.setArr (mirror_perm _ _ _ _) (mirror_out hszm (by omega) (by omega))
          have hD3 : Desc κ (mirror (arrOf st') (lo + m - (neq + 1)) (lo + m) ((lo + m - (lo + m - (neq + 1))) / 2)) lo m := by
            intro i j hij hj
            rw [KK_mirror_equal hszm he, KK_mirror_equal hszm he]
            exact hs' i j hij hj
          refine wpS_bind (wpS_rev ?_)
          exact wpS_bind (show wpS (model prog w) A E s (ascL lo m nrem) _ _ from wpS_tailA L h0 hn (by omega) hm2 hB3 hD3 fun m' st'' hB'' h1' h2' hs'' => wpS_pure (h m' st'' hB'' h1' h2' hs''))
        · rw [if_neg hneq]
          refine wpS_bind (wpS_rev ?_)
          exact wpS_bind (show wpS (model prog w) A E s (ascL lo m nrem) _ _ from wpS_tailA L h0 hn (by omega) hm2 hB' hs' fun m' st'' hB'' h1' h2' hs'' => wpS_pure (h m' st'' hB'' h1' h2' hs''))
    · rw [if_neg hgt]
      have hn1' : n = 1 := by omega
      subst hn1'
      refine wpS_bind (wpS_lift (wpAny_rule ⟨rfl, ?_⟩))
      have hB2 := hB
      have hD2 : Desc κ (arrOf st) lo (1 + 1) := by
        intro i j hij hj
        by_cases hi' : i = j
        · subst hi'; exact kle_refl _
        · have hi0 : i = 0 := by omega
          have hj1 : j = 1 := by omega
          subst hi0; subst hj1
          exact kle_of_klt hlt
      refine wpS_bind (show wpS (model prog w) A E s (descL lo (1 + 1) nrem) _ _ from wpS_descL L h0 hn (by omega) (by omega) hB2 hD2 fun m neq st' hB' hm1 hm2 hs' hq he => ?_)
      dsimp only
      have hszm : lo + m ≤ (arrOf st').size := by rw [hB'.size]; omega
      by_cases hneq : neq > 0
      · rw [if_pos hneq]
        refine wpS_bind (wpS_rev ?_)
        have hB3 : SB κ kd st₀ lo nrem (setArr st' (mirror (arrOf st') (lo + m - (neq + 1)) (lo + m) ((lo + m - (lo + m - (neq + 1))) / 2))) := hB'.setArr (mirror_perm _ _ _ _) (mirror_out hszm (by omega) (by omega))
        have hD3 : Desc κ (mirror (arrOf st') (lo + m - (neq + 1)) (lo + m) ((lo + m - (lo + m - (neq + 1))) / 2)) lo m := by
          intro i j hij hj
          rw [KK_mirror_equal hszm he, KK_mirror_equal hszm he]
          exact hs' i j hij hj
        refine wpS_bind (wpS_rev ?_)
        exact wpS_bind (show wpS (model prog w) A E s (ascL lo m nrem) _ _ from wpS_tailA L h0 hn (by omega) hm2 hB3 hD3 fun m' st'' hB'' h1' h2' hs'' => wpS_pure (h m' st'' hB'' h1' h2' hs''))
      · rw [if_neg hneq]
        refine wpS_bind (wpS_rev ?_)
        exact wpS_bind (show wpS (model prog w) A E s (ascL lo m nrem) _ _ from wpS_tailA L h0 hn (by omega) hm2 hB' hs' fun m' st'' hB'' h1' h2' hs'' => wpS_pure (h m' st'' hB'' h1' h2' hs''))

theorem bubble_out {xs : Array Keyed} {src d : Nat} (hs : src < xs.size) (hd : d ≤ src) {lo n : Nat} (h1 : lo ≤ src - d) (h2 : src < lo + n) : ∀ k : Nat, k < lo ∨ lo + n ≤ k → (bubble xs src d)[k]? = xs[k]? := fun k hk => by
  rw [getElem?_bubble hs d hd, if_neg (by omega), if_neg (by omega)]

theorem wpS_binarySortL (L : LtOk κ kd prog w A s) (h0 : ∀ p ∈ (arrOf st₀).toList, Has κ p) {st : SortSt} {lo n ok N : Nat} {Q : Bool → SortSt → Prop} (hN : n ≤ N) (hn : lo + N ≤ (arrOf st₀).size) (hok : ok ≤ n) (hB : SB κ kd st₀ lo N st) (hs : Asc κ st lo ok)
    (h : ∀ st', SB κ kd st₀ lo N st' → Asc κ st' lo n → Q true st') : wpS (model prog w) A E s (binarySort' lo n ok) Q st := by
  rw [binarySort'_eq]
  dsimp only
  refine wpS_bind (wpS_mono (wpS_forRange (I := fun k c st' => c = (none, ()) ∧ SB κ kd st₀ lo N st' ∧ Asc κ st' lo (min k n))
    (Q := fun c st' => c = (none, ()) ∧ SB κ kd st₀ lo N st' ∧ Asc κ st' lo n) ?step ?fin ?init) ?post)
  case post =>
    rintro c st' ⟨rfl, hB', hs'⟩
    exact wpS_pure (h st' hB' hs')
  case init =>
    refine ⟨rfl, hB, fun i j hij hj => ?_⟩
    by_cases h1 : ok = 0
    · have : i = j := by omega
      subst this; exact kle_refl _
    · exact hs i j hij (by omega)
  case fin =>
    rintro c st' ⟨hc, hB', hs'⟩
    refine ⟨hc, hB', ?_⟩
    rwa [show min (max (max ok 1) n) n = n by omega] at hs'
  case step =>
    rintro k c st' hak hkn ⟨rfl, hB', hs'⟩
    rw [show min k n = k by omega] at hs'
    refine wpS_bind (wpS_mono (wpS_forRange (I := fun x c st'' => st' = st'' ∧ ∃ l r, c = (none, l, r) ∧ l ≤ r ∧ r ≤ k ∧ r - l ≤ k - x ∧
        (∀ i, i < l → κ.kle (KK κ (arrOf st') (lo + i)) (KK κ (arrOf st') (lo + k))) ∧ (∀ i, r ≤ i → i < k → κ.klt (KK κ (arrOf st') (lo + k)) (KK κ (arrOf st') (lo + i))))
      (Q := fun c st'' => st' = st'' ∧ ∃ l r, c = (none, l, r) ∧ l ≤ k ∧
        (∀ i, i < l → κ.kle (KK κ (arrOf st') (lo + i)) (KK κ (arrOf st') (lo + k))) ∧ (∀ i, l ≤ i → i < k → κ.klt (KK κ (arrOf st') (lo + k)) (KK κ (arrOf st') (lo + i)))) ?istep ?ifin ?iinit) ?ipost)
    case iinit => exact ⟨rfl, 0, k, rfl, by omega, by omega, by omega, fun i hi => by omega, fun i h1 h2 => by omega⟩
    case ifin =>
      rintro c st'' ⟨rfl, l, r, rfl, hlr, hrk, hm, hlo, hhi⟩
      have : l = r := by omega
      subst this
      exact ⟨rfl, l, l, rfl, hrk, hlo, hhi⟩
    case istep =>
      rintro x c st'' _ hxk ⟨rfl, l, r, rfl, hlr, hrk, hm, hlo, hhi⟩
      dsimp only
      by_cases hge : l ≥ r
      · rw [if_pos hge]
        have : l = r := by omega
        subst this
        exact wpS_pure ⟨rfl, l, l, rfl, hrk, hlo, hhi⟩
      · rw [if_neg hge]
        refine wpS_bind (wpS_ltI L h0 hB' (by omega) (by omega) ?_)
        cases hless : κ.blt (KK κ (arrOf st') (lo + k)) (KK κ (arrOf st') (lo + (l + r) / 2))
        case true =>
          simp only [if_true]
          refine wpS_pure ⟨rfl, l, (l + r) / 2, rfl, by omega, by omega, by omega, hlo, fun i h1 h2 => ?_⟩
          exact klt_of_klt_of_kle hless (hs' _ _ h1 h2)
        case false =>
          simp only [Bool.false_eq_true, if_false]
          refine wpS_pure ⟨rfl, (l + r) / 2 + 1, r, rfl, by omega, by omega, by omega, fun i h1 => ?_, hhi⟩
          exact kle_trans (hs' i ((l + r) / 2) (by omega) (by omega)) (show κ.kle _ _ from hless)
    case ipost =>
      rintro c st'' ⟨rfl, l, r, rfl, hlk, hlo, hhi⟩
      dsimp only
      rw [moveDown'_eq]
      have hks : lo + k < (arrOf st').size := by rw [hB'.size]; omega
      refine wpS_bind (wpS_modify (wpS_pure ⟨rfl, hB'.setArr (bubble_perm _ _ _) (bubble_out hks (by omega) (by omega) (by omega)), ?_⟩))
      rw [show min (k + 1) n = k + 1 by omega]
      intro i j hij hj
      show κ.kle (KK κ (bubble (arrOf st') (lo + k) (lo + k - (lo + l))) (lo + i)) (KK κ (bubble (arrOf st') (lo + k) (lo + k - (lo + l))) (lo + j))
      rw [KK_bubble hks (by omega), KK_bubble hks (by omega), show lo + k - (lo + k - (lo + l)) = lo + l by omega]
      have sub1 : ∀ m, 0 < m → lo + m - 1 = lo + (m - 1) := fun m hm => by omega
      repeat' split
      all_goals first
        | (exfalso; omega)
        | exact kle_refl _
        | exact hlo _ (by omega)
        | exact kle_of_klt (hhi _ (by omega) (by omega))
        | exact hs' _ _ (by omega) (by omega)
        | (rw [sub1 _ (by omega)]; exact hlo _ (by omega))
        | (rw [sub1 _ (by omega)]; exact kle_of_klt (hhi _ (by omega) (by omega)))
        | (rw [sub1 _ (by omega)]; exact hs' _ _ (by omega) (by omega))
        | (rw [sub1 i (by omega), sub1 j (by omega)]; exact hs' _ _ (by omega) (by omega))
end
end TS
set_option Elab.async false
set_option linter.all false
set_option maxRecDepth 100000
namespace TS
open PySem PyProof.Rows
/-- the runs that lie one behind the other from a to b -/
def Runs : List (Nat × Nat × Nat) → Nat → Nat → Prop
  | [], a, b => a = b
  | x :: r, a, b => x.1 = a ∧ 0 < x.2.1 ∧ Runs r (a + x.2.1) b
theorem Runs.append : ∀ {l r : List (Nat × Nat × Nat)} {a b : Nat}, Runs (l ++ r) a b ↔ ∃ c, Runs l a c ∧ Runs r c b
  | [], r, a, b => by
    constructor
    · intro h; exact ⟨a, rfl, h⟩
    · rintro ⟨c, e, h⟩
      have e' : a = c := e
      subst e'; exact h
  | x :: l, r, a, b => by
    show (x.1 = a ∧ 0 < x.2.1 ∧ Runs (l ++ r) (a + x.2.1) b) ↔ _
    rw [Runs.append (l := l)]
    constructor
    · rintro ⟨h1, h2, c, h3, h4⟩; exact ⟨c, ⟨h1, h2, h3⟩, h4⟩
    · rintro ⟨c, ⟨h1, h2, h3⟩, h4⟩; exact ⟨h1, h2, c, h3, h4⟩
theorem Runs.le : ∀ {l : List (Nat × Nat × Nat)} {a b : Nat}, Runs l a b → a + l.length ≤ b
  | [], a, b, h => by
    have h' : a = b := h
    rw [List.length_nil]; omega
  | x :: l, a, b, h => by
    obtain ⟨h1, h2, h3⟩ := h
    have := Runs.le h3
    rw [List.length_cons]; omega
theorem Runs.mem : ∀ {l : List (Nat × Nat × Nat)} {a b : Nat} {x : Nat × Nat × Nat}, Runs l a b → x ∈ l → a ≤ x.1 ∧ x.1 + x.2.1 ≤ b
  | [], _, _, _, _, h => by cases h
  | y :: l, a, b, x, h, hx => by
    obtain ⟨h1, h2, h3⟩ := h
    have := Runs.le h3
    rcases List.mem_cons.mp hx with rfl | hx
    · omega
    · have := Runs.mem h3 hx; omega

section
variable {κ : PyProof.Rows.KeyKind}
theorem seg_before {l t : List Keyed} {i s n : Nat} (hi : i ≤ l.length) (h : s + n ≤ i) : seg (l.take i ++ t) s n = seg l s n := by
  unfold seg
  rw [List.drop_append_of_le_length (by rw [List.length_take]; omega), List.take_append_of_le_length (by rw [List.length_drop, List.length_take]; omega), List.drop_take, List.take_take, Nat.min_eq_left (by omega)]
theorem seg_after {l u : List Keyed} {e s n : Nat} (hu : u.length = e) (h : e ≤ s) : seg (u ++ l.drop e) s n = seg l s n := by
  unfold seg
  rw [List.drop_append, List.drop_of_length_le (by omega), List.nil_append, List.drop_drop, hu, show e + (s - e) = s by omega]
theorem seg_mid {u m t : List Keyed} {i n : Nat} (hu : u.length = i) (hm : m.length = n) : seg (u ++ m ++ t) i n = m := by
  unfold seg
  rw [List.append_assoc, List.drop_append_of_le_length (by omega), List.drop_of_length_le (by omega), List.nil_append, List.take_append_of_le_length (by omega), List.take_of_length_le (by omega)]
theorem seg_same {xs ys : Array Keyed} {s n : Nat} (h : ∀ i : Nat, s ≤ i → i < s + n → xs[i]? = ys[i]?) : seg xs.toList s n = seg ys.toList s n := by
  unfold seg
  apply List.ext_getElem?
  intro i
  by_cases hi : i < n
  · rw [List.getElem?_take_of_lt hi, List.getElem?_take_of_lt hi, List.getElem?_drop, List.getElem?_drop]
    have := h (s + i) (by omega) (by omega)
    simpa using this
  · rw [List.getElem?_eq_none (by rw [List.length_take]; omega), List.getElem?_eq_none (by rw [List.length_take]; omega)]
theorem asc_seg {st : SortSt} {lo m : Nat} (hs : Asc κ st lo m) (hsz : lo + m ≤ (arrOf st).size) : (seg (arrOf st).toList lo m).Pairwise (Le κ) := by
  rw [List.pairwise_iff_getElem]
  intro i j hi hj hij
  have hj' : j < m := by rw [seg_length (by simpa using hsz)] at hj; exact hj
  have g1 := seg_get (arr := arrOf st) hi
  have g2 := seg_get (arr := arrOf st) hj
  have k1 : KK κ (arrOf st) (lo + i) = key κ (seg (arrOf st).toList lo m)[i] := by unfold KK key; rw [g1]
  have k2 : KK κ (arrOf st) (lo + j) = key κ (seg (arrOf st).toList lo m)[j] := by unfold KK key; rw [g2]
  have := hs i j (by omega) hj'
  rw [k1, k2] at this
  exact this
end
section
variable {prog : Program} {w : World} {A : Around} {E : Value → Shared → Prop} {s : Shared} {κ : PyProof.Rows.KeyKind} {kd : SortKind} {a₀ : Array Keyed}
structure RI (κ : PyProof.Rows.KeyKind) (kd : SortKind) (a₀ : Array Keyed) (hi : Nat) (st : SortSt) : Prop where
  tb : TB κ kd a₀ st
  runs : Runs (pendingOf st).toList 0 hi
  srt : ∀ x ∈ (pendingOf st).toList, (seg (arrOf st).toList x.1 x.2.1).Pairwise (Le κ)

theorem wpS_mergeR (L : LtOk κ kd prog w A s) (h0 : ∀ p ∈ a₀.toList, Has κ p) {st : SortSt} {i hi : Nat} {Q : Bool → SortSt → Prop} (R : RI κ kd a₀ hi st) (hhi : hi ≤ a₀.size) (hi1 : i + 1 < (pendingOf st).size)
    (q : ∀ st', RI κ kd a₀ hi st' → (pendingOf st').size + 1 = (pendingOf st).size → (∀ s n, hi ≤ s → seg (arrOf st').toList s n = seg (arrOf st).toList s n) → Q true st') : wpS (model prog w) A E s (mergeAt' i) Q st := by
  have hlen := R.tb.size
  have hlp : (pendingOf st).toList.length = (pendingOf st).size := by simp
  have hp : (pendingOf st).toList = (pendingOf st).toList.take i ++ (pendingOf st).toList[i]'(by omega) :: (pendingOf st).toList[i + 1]'(by omega) :: (pendingOf st).toList.drop (i + 2) := by
    rw [← List.drop_eq_getElem_cons (by omega), ← List.drop_eq_getElem_cons (by omega), List.take_append_drop]
  have g1 : (pendingOf st)[i]? = some ((pendingOf st).toList[i]'(by omega)) := by
    rw [Array.getElem?_eq_getElem (by omega)]; simp
  have g2 : (pendingOf st)[i + 1]? = some ((pendingOf st).toList[i + 1]'(by omega)) := by
    rw [Array.getElem?_eq_getElem (by omega)]; simp
  have ht : ((pendingOf st).toList.take i).length = i := by rw [List.length_take]; omega
  generalize hx : (pendingOf st).toList[i]'(by omega) = x at hp g1
  generalize hy : (pendingOf st).toList[i + 1]'(by omega) = y at hp g2
  obtain ⟨sa, na, pw⟩ := x
  obtain ⟨sb, nb, pw2⟩ := y
  have rr := R.runs
  rw [hp] at rr
  obtain ⟨c, r1, r2⟩ := Runs.append.mp rr
  obtain ⟨e1, hna, e2, hnb, r3⟩ := r2
  dsimp only at e1 hna e2 hnb r3
  have l1 := r1.le
  have l3 := r3.le
  have m1 : (sa, na, pw) ∈ (pendingOf st).toList := by rw [hp]; simp
  have m2 : (sb, nb, pw2) ∈ (pendingOf st).toList := by rw [hp]; simp
  refine wpS_mergeAt L h0 R.tb g1 g2 (by omega) hna hnb (by omega) (R.srt _ m1) (R.srt _ m2) fun st' hk hf hpd hm => ?_
  obtain ⟨m, el, pm, sm⟩ := hm.ex
  have lm : m.length = na + nb := by rw [pm.length_eq]; exact seg_length (by omega)
  have htk : ((arrOf st).toList.take sa).length = sa := by rw [List.length_take]; omega
  have pl : (pendingOf st').toList = (pendingOf st).toList.take i ++ (sa, na + nb, pw) :: (pendingOf st).toList.drop (i + 2) := by
    rw [hpd, Array.toList_eraseIdxIfInBounds, Array.toList_setIfInBounds]
    conv => lhs; rw [hp]
    rw [List.set_append, if_neg (by omega), ht, Nat.sub_self, List.set_cons_zero, List.eraseIdx_append_of_length_le (by omega), ht, show i + 1 - i = 1 by omega]
    rfl
  refine q st' ⟨⟨?_, hk, hf⟩, ?_, ?_⟩ ?_ (fun s n hs => by rw [el, seg_after (by rw [List.length_append, htk, lm]) (by omega)])
  · refine Array.Perm.trans ?_ R.tb.perm
    rw [Array.perm_iff_toList_perm, el]
    conv => rhs; rw [whole (l := (arrOf st).toList) (i := sa) (n := na + nb)]
    exact List.Perm.append_right _ (List.Perm.append_left _ pm)
  · rw [pl]
    refine Runs.append.mpr ⟨c, r1, e1, by show 0 < na + nb; omega, ?_⟩
    show Runs _ (c + (na + nb)) hi
    rw [← Nat.add_assoc]
    exact r3
  · intro z hz
    rw [pl] at hz
    rw [el]
    rcases List.mem_append.mp hz with hz | hz
    · have b := r1.mem hz
      rw [List.append_assoc, seg_before (by omega) (by omega)]
      exact R.srt z (by rw [hp]; exact List.mem_append_left _ hz)
    · rcases List.mem_cons.mp hz with rfl | hz
      · rw [seg_mid htk lm]
        exact sm
      · have b := r3.mem hz
        rw [seg_after (by rw [List.length_append, htk, lm]) (by omega)]
        exact R.srt z (by rw [hp]; exact List.mem_append_right _ (List.mem_cons_of_mem _ (List.mem_cons_of_mem _ hz)))
  · have z1 : (pendingOf st').toList.length = (pendingOf st').size := by simp
    rw [← z1, pl, ← hlp, List.length_append, List.length_cons, List.length_drop, ht]
    omega


theorem ite_pred {c : Prop} [Decidable c] (n : Nat) : (if c then n - 1 else n) ≤ n := by
  split <;> omega
theorem RI.sb {st st2 : SortSt} {lo N : Nat} (R : RI κ kd a₀ lo st) (B : SB κ kd st lo N st2) : RI κ kd a₀ lo st2 := by
  refine ⟨⟨B.perm.trans R.tb.perm, B.kind, B.failed⟩, by rw [B.pend]; exact R.runs, fun x hx => ?_⟩
  rw [B.pend] at hx
  have b := R.runs.mem hx
  rw [seg_same (ys := arrOf st) fun i h1 h2 => B.out i (.inl (by omega))]
  exact R.srt x hx
theorem RI.push {st : SortSt} {lo n : Nat} (R : RI κ kd a₀ lo st) (hn : 0 < n) (hs : (seg (arrOf st).toList lo n).Pairwise (Le κ)) : RI κ kd a₀ (lo + n) (setPending st ((pendingOf st).push (lo, n, 0))) := by
  have e : ((pendingOf st).push (lo, n, 0)).toList = (pendingOf st).toList ++ [(lo, n, 0)] := Array.toList_push
  refine ⟨⟨R.tb.perm, R.tb.kind, R.tb.failed⟩, ?_, ?_⟩
  · show Runs ((pendingOf st).push (lo, n, 0)).toList 0 (lo + n)
    rw [e]
    exact Runs.append.mpr ⟨lo, R.runs, rfl, hn, rfl⟩
  · show ∀ x ∈ ((pendingOf st).push (lo, n, 0)).toList, (seg (arrOf st).toList x.1 x.2.1).Pairwise (Le κ)
    rw [e]
    intro x hx
    rcases List.mem_append.mp hx with hx | hx
    · exact R.srt x hx
    · rw [List.mem_singleton.mp hx]; exact hs
theorem Runs.modify {f : Nat × Nat × Nat → Nat × Nat × Nat} (hf : ∀ x, (f x).1 = x.1 ∧ (f x).2.1 = x.2.1) : ∀ {l : List (Nat × Nat × Nat)} {i a b : Nat}, Runs l a b → Runs (l.modify i f) a b
  | [], i, a, b, h => by rw [List.modify_nil]; exact h
  | x :: l, 0, a, b, h => by
    rw [List.modify_zero_cons]
    obtain ⟨h1, h2, h3⟩ := h
    exact ⟨(hf x).1.trans h1, by rw [(hf x).2]; exact h2, by rw [(hf x).2]; exact h3⟩
  | x :: l, i + 1, a, b, h => by
    rw [List.modify_succ_cons]
    obtain ⟨h1, h2, h3⟩ := h
    exact ⟨h1, h2, Runs.modify hf h3⟩
theorem mem_modify {f : Nat × Nat × Nat → Nat × Nat × Nat} (hf : ∀ x, (f x).1 = x.1 ∧ (f x).2.1 = x.2.1) : ∀ {l : List (Nat × Nat × Nat)} {i : Nat} {x : Nat × Nat × Nat}, x ∈ l.modify i f → ∃ y ∈ l, x.1 = y.1 ∧ x.2.1 = y.2.1
  | [], i, x, h => by rw [List.modify_nil] at h; cases h
  | y :: l, 0, x, h => by
    rw [List.modify_zero_cons] at h
    rcases List.mem_cons.mp h with rfl | h
    · exact ⟨y, List.mem_cons_self, hf y⟩
    · exact ⟨x, List.mem_cons_of_mem _ h, rfl, rfl⟩
  | y :: l, i + 1, x, h => by
    rw [List.modify_succ_cons] at h
    rcases List.mem_cons.mp h with rfl | h
    · exact ⟨x, List.mem_cons_self, rfl, rfl⟩
    · obtain ⟨z, hz, e⟩ := mem_modify hf h
      exact ⟨z, List.mem_cons_of_mem _ hz, e⟩
theorem RI.modify {st : SortSt} {lo i : Nat} {f : Nat × Nat × Nat → Nat × Nat × Nat} (hf : ∀ x, (f x).1 = x.1 ∧ (f x).2.1 = x.2.1) (R : RI κ kd a₀ lo st) : RI κ kd a₀ lo (setPending st ((pendingOf st).modify i f)) := by
  have e : ((pendingOf st).modify i f).toList = (pendingOf st).toList.modify i f := Array.toList_modify
  refine ⟨⟨R.tb.perm, R.tb.kind, R.tb.failed⟩, ?_, ?_⟩
  · show Runs ((pendingOf st).modify i f).toList 0 lo
    rw [e]
    exact Runs.modify hf R.runs
  · show ∀ x ∈ ((pendingOf st).modify i f).toList, (seg (arrOf st).toList x.1 x.2.1).Pairwise (Le κ)
    rw [e]
    intro x hx
    obtain ⟨y, hy, e1, e2⟩ := mem_modify hf hx
    rw [e1, e2]
    exact R.srt y hy

set_option maxHeartbeats 4000000 in
theorem wpS_sortRuns (L : LtOk κ kd prog w A s) (h0 : ∀ p ∈ a₀.toList, Has κ p) {st : SortSt} {Q : Unit → SortSt → Prop} (hB : TB κ kd a₀ st) (hp : pendingOf st = #[]) (h2 : 2 ≤ a₀.size)
    (q : ∀ st', (arrOf st').Perm a₀ → failedOf st' = none → (arrOf st').toList.Pairwise (Le κ) → Q () st') : wpS (model prog w) A E s sortRuns' Q st := by
  rw [sortRuns'_eq]
  dsimp only
  refine wpS_bind (wpS_get ?_)
  have hsz : (arrOf st).size = a₀.size := hB.perm.size_eq
  rw [hsz]
  generalize hmr : minRun' a₀.size a₀.size 0 = mr
  have R0 : RI κ kd a₀ 0 st := ⟨hB, by rw [hp]; rfl, fun x hx => by rw [hp] at hx; cases hx⟩
  refine wpS_bind (wpS_mono (wpS_forRange
    (I := fun x c st' => ∃ lo, c = (none, lo) ∧ RI κ kd a₀ lo st' ∧ lo ≤ a₀.size ∧ x ≤ lo)
    (Q := fun c st' => c = (none, a₀.size) ∧ RI κ kd a₀ a₀.size st') ?step ?fin ⟨0, rfl, R0, Nat.zero_le _, Nat.le_refl _⟩) ?post)
  case fin =>
    rintro c st' ⟨lo, rfl, R, h1, h2⟩
    have e : lo = a₀.size := by omega
    subst e
    exact ⟨rfl, R⟩
  case post =>
    rintro c st' ⟨rfl, R⟩
    dsimp only
    refine wpS_bind (wpS_mono (wpS_forRange
      (I := fun x c st'' => c = (none, ()) ∧ RI κ kd a₀ a₀.size st'' ∧ (pendingOf st'').size ≤ max 1 (a₀.size - x))
      (Q := fun c st'' => c = (none, ()) ∧ RI κ kd a₀ a₀.size st'' ∧ (pendingOf st'').size ≤ 1) ?s2 ?f2 ?i2) ?p2)
    case i2 =>
      refine ⟨rfl, R, ?_⟩
      have := R.runs.le
      have e : (pendingOf st').toList.length = (pendingOf st').size := by simp
      omega
    case f2 =>
      rintro c st'' ⟨rfl, R', h⟩
      exact ⟨rfl, R', by omega⟩
    case p2 =>
      rintro c st'' ⟨rfl, R', h⟩
      refine wpS_pure (q st'' R'.tb.perm R'.tb.failed ?_)
      have rr := R'.runs
      have ss := R'.srt
      have e : (pendingOf st'').toList.length = (pendingOf st'').size := by simp
      cases hl : (pendingOf st'').toList with
      | nil =>
        rw [hl] at rr
        have : 0 = a₀.size := rr
        omega
      | cons x r =>
        rw [hl] at rr ss e
        have hr : r = [] := by
          rw [List.length_cons] at e
          exact List.length_eq_zero_iff.mp (by omega)
        subst hr
        obtain ⟨e1, _, e2⟩ := rr
        have e2' : 0 + x.2.1 = a₀.size := e2
        have := ss x List.mem_cons_self
        rw [e1] at this
        have hlen := R'.tb.size
        unfold seg at this
        rw [List.drop_zero, List.take_of_length_le (by omega)] at this
        exact this
    case s2 =>
      rintro x c st'' _ hx ⟨rfl, R', h⟩
      refine wpS_bind (wpS_get ?_)
      by_cases c1 : (pendingOf st'').size ≤ 1
      · rw [if_pos c1]
        exact wpS_pure ⟨rfl, R', c1⟩
      rw [if_neg c1]
      refine wpS_bind (wpS_mergeR L h0 R' (Nat.le_refl _) ?_ fun st3 R3 hs3 _ => ?_)
      · exact Nat.lt_of_le_of_lt (Nat.succ_le_succ (ite_pred _)) (by omega)
      · exact wpS_pure ⟨rfl, R3, by omega⟩
  case step =>
    rintro x c st1 _ hx ⟨lo, rfl, R1, hlo, hxl⟩
    dsimp only
    by_cases c1 : lo ≥ a₀.size
    · rw [if_pos c1]
      have e : lo = a₀.size := by omega
      subst e
      exact wpS_pure ⟨rfl, R1⟩
    rw [if_neg c1]
    have hs1 : (arrOf st1).size = a₀.size := R1.tb.perm.size_eq
    have hH1 := R1.tb.has h0
    have B1 : SB κ kd st1 lo (a₀.size - lo) st1 := ⟨Array.Perm.refl _, R1.tb.kind, R1.tb.failed, rfl, fun _ _ => rfl⟩
    refine wpS_bind (wpS_countRunL L hH1 (by omega) (by omega) B1 fun m st2 B2 hm1 hm2 hs2 => ?_)
    dsimp only
    by_cases c2 : m < mr
    · rw [if_pos c2]
      refine wpS_bind (wpS_lift (wpAny_rule ⟨rfl, ?_⟩))
      refine wpS_bind (wpS_binarySortL L hH1 (n := min (a₀.size - lo) mr) (by omega) (by omega) (by omega) B2 hs2 fun st3 B3 hs3 => ?_)
      rw [if_neg (by simp)]
      have R3 := R1.sb B3
      have hsz3 : (arrOf st3).size = a₀.size := R3.tb.perm.size_eq
      have sg := asc_seg hs3 (by omega)
      generalize hn : min (a₀.size - lo) mr = n at sg
      have hn0 : 0 < n := by omega
      have hnl : lo + n ≤ a₀.size := by omega
      refine wpS_bind (wpS_get ?_)
      cases hbk : (pendingOf st3).back? with
      | none =>
        dsimp only
        exact wpS_bind (wpS_modify (wpS_pure ⟨_, rfl, R3.push hn0 sg, hnl, by omega⟩))
      | some z =>
        obtain ⟨s1, n1, p1⟩ := z
        dsimp only
        refine wpS_bind (wpS_mono (wpS_forRange
          (I := fun _ c st' => c = (none, ()) ∧ RI κ kd a₀ lo st' ∧ (seg (arrOf st').toList lo n).Pairwise (Le κ))
          (Q := fun c st' => c = (none, ()) ∧ RI κ kd a₀ lo st' ∧ (seg (arrOf st').toList lo n).Pairwise (Le κ)) ?_ (fun _ _ h => h) ⟨rfl, R3, sg⟩) ?_)
        · rintro y c st4 _ hy ⟨rfl, R4, sg4⟩
          refine wpS_bind (wpS_get ?_)
          by_cases c4 : (pendingOf st4).size > 1
          · rw [if_pos c4]
            have g : (pendingOf st4)[(pendingOf st4).size - 2]? = some ((pendingOf st4)[(pendingOf st4).size - 2]'(by omega)) := Array.getElem?_eq_getElem (by omega)
            rw [g]
            dsimp only
            split
            · exact wpS_pure ⟨rfl, R4, sg4⟩
            · refine wpS_bind (wpS_mergeR L h0 R4 (by omega) (by omega) fun st5 R5 _ hs5 => ?_)
              exact wpS_pure ⟨rfl, R5, by rw [hs5 lo n (Nat.le_refl _)]; exact sg4⟩
          · rw [if_neg c4]
            exact wpS_pure ⟨rfl, R4, sg4⟩
        · rintro c st4 ⟨rfl, R4, sg4⟩
          dsimp only
          refine wpS_bind (wpS_modify (wpS_bind (wpS_modify (wpS_pure ⟨_, rfl, ?_, hnl, by omega⟩))))
          refine RI.push (RI.modify ?_ R4) hn0 sg4
          exact fun _ => ⟨rfl, rfl⟩
    · rw [if_neg c2]
      have R3 := R1.sb B2
      have hsz3 : (arrOf st2).size = a₀.size := R3.tb.perm.size_eq
      have sg := asc_seg hs2 (by omega)
      have hn0 : 0 < m := by omega
      have hnl : lo + m ≤ a₀.size := by omega
      refine wpS_bind (wpS_get ?_)
      cases hbk : (pendingOf st2).back? with
      | none =>
        dsimp only
        exact wpS_bind (wpS_modify (wpS_pure ⟨_, rfl, R3.push hn0 sg, hnl, by omega⟩))
      | some z =>
        obtain ⟨s1, n1, p1⟩ := z
        dsimp only
        refine wpS_bind (wpS_mono (wpS_forRange
          (I := fun _ c st' => c = (none, ()) ∧ RI κ kd a₀ lo st' ∧ (seg (arrOf st').toList lo m).Pairwise (Le κ))
          (Q := fun c st' => c = (none, ()) ∧ RI κ kd a₀ lo st' ∧ (seg (arrOf st').toList lo m).Pairwise (Le κ)) ?_ (fun _ _ h => h) ⟨rfl, R3, sg⟩) ?_)
        · rintro y c st4 _ hy ⟨rfl, R4, sg4⟩
          refine wpS_bind (wpS_get ?_)
          by_cases c4 : (pendingOf st4).size > 1
          · rw [if_pos c4]
            have g : (pendingOf st4)[(pendingOf st4).size - 2]? = some ((pendingOf st4)[(pendingOf st4).size - 2]'(by omega)) := Array.getElem?_eq_getElem (by omega)
            rw [g]
            dsimp only
            split
            · exact wpS_pure ⟨rfl, R4, sg4⟩
            · refine wpS_bind (wpS_mergeR L h0 R4 (by omega) (by omega) fun st5 R5 _ hs5 => ?_)
              exact wpS_pure ⟨rfl, R5, by rw [hs5 lo m (Nat.le_refl _)]; exact sg4⟩
          · rw [if_neg c4]
            exact wpS_pure ⟨rfl, R4, sg4⟩
        · rintro c st4 ⟨rfl, R4, sg4⟩
          dsimp only
          refine wpS_bind (wpS_modify (wpS_bind (wpS_modify (wpS_pure ⟨_, rfl, ?_, hnl, by omega⟩))))
          refine RI.push (RI.modify ?_ R4) hn0 sg4
          exact fun _ => ⟨rfl, rfl⟩
end
end TS
set_option Elab.async false
set_option linter.all false
set_option maxRecDepth 100000
namespace TS
open PySem PyProof.Rows
section
variable {prog : Program} {w : World} {A : Around} {E : Value → Shared → Prop} {s : Shared} {κ : PyProof.Rows.KeyKind} {kd : SortKind}
def kv (κ : PyProof.Rows.KeyKind) (v : Value) : κ.α := (κ.keyOf v).getD κ.dflt
/-- a list in the order of its keys -/
def Sorted (κ : PyProof.Rows.KeyKind) (l : List Value) : Prop := l.Pairwise fun u v => κ.kle (kv κ u) (kv κ v)
theorem mem_pairs {vs : List Value} {p : Keyed} (h : p ∈ (pairsOf vs).toList) : p.1 = p.2 ∧ p.1 ∈ vs := by
  rw [pairsOf_toList] at h
  exact mem_zip_self h
theorem out_perm {vs : List Value} {xs : Array Keyed} (hp : xs.Perm (pairsOf vs)) : (xs.map (·.2)).toList.Perm vs := by
  have h1 : xs.toList.Perm (vs.zip vs) := by rw [← pairsOf_toList]; exact Array.perm_iff_toList_perm.mp hp
  have h2 := h1.map (·.2)
  rw [Array.toList_map]
  rwa [List.map_snd_zip (Nat.le_refl _)] at h2
theorem out_sorted {vs : List Value} {xs : Array Keyed} (hp : xs.Perm (pairsOf vs)) (hs : xs.toList.Pairwise (Le κ)) : Sorted κ (xs.map (·.2)).toList := by
  unfold Sorted
  rw [Array.toList_map, List.pairwise_map]
  refine hs.imp_of_mem fun {p q} hp' hq' h => ?_
  have e1 := (mem_pairs ((Array.perm_iff_toList_perm.mp hp).mem_iff.mp hp')).1
  have e2 := (mem_pairs ((Array.perm_iff_toList_perm.mp hp).mem_iff.mp hq')).1
  show κ.kle (kv κ p.2) (kv κ q.2)
  rw [← e1, ← e2]
  exact h

theorem pw_short {α : Type} {R : α → α → Prop} : ∀ {l : List α}, l.length < 2 → l.Pairwise R
  | [], _ => .nil
  | [x], _ => List.pairwise_singleton _ _
  | _ :: _ :: _, h => absurd h (by rw [List.length_cons, List.length_cons]; omega)

theorem list_sort_gen {a : Addr} {vs : List Value} {n : Nat} {P : PySem.Fin → Shared → Prop} (ho : s.heap.get? a = some (seqObj "list" vs.toArray n)) (h0 : ∀ v ∈ vs, ∃ k, κ.keyOf v = some k)
    (hkk : ∀ h', (∀ b o, b ≠ a → s.heap.get? b = some o → h'.get? b = some o) → 2 ≤ vs.length → ∀ (Q : SortKind → Shared → Prop), Q kd { s with heap := h' } → wpAny (model prog w) A (keyKind' vs.toArray) Q E { s with heap := h' })
    (hL : ∀ h', (∀ b o, b ≠ a → s.heap.get? b = some o → h'.get? b = some o) → LtOk κ kd prog w A { s with heap := h' }) (hz : vs.length ≤ sizeLine)
    (h : ∀ out : Array Value, out.toList.Perm vs → Sorted κ out.toList → P (.done (.ret .none)) { s with heap := sortedHeap s.heap a vs out }) :
    wpAny (model prog w) A (Builtin.«list.sort» ⟨[.ref a], []⟩) P E s := by
  rw [list_sort_plain]
  have ha : a < s.heap.objs.size := Heap.lt_size ho
  refine wpAny_bind (listItems_at ho rfl ?_)
  refine wpAny_bind (listUpdate_at ho rfl ?_)
  obtain ⟨e1, ho1⟩ : ∃ e1, (s.heap.update a (Obj.mapSeq fun _ => #[])).get? a = some (seqObj "list" #[] e1) := ⟨_, get?_update_seq ho (fun _ => #[])⟩
  refine wpAny_bind (seqEpoch_at ho1 rfl ?_)
  refine wpAny_bind (wpAny_newTuple ?_)
  refine wpAny_bind (wpAny_newList ?_)
  refine wpAny_holding ?_
  have ho6 : (((s.heap.update a (Obj.mapSeq fun _ => #[])).push (seqObj "tuple" vs.toArray 0)).push (seqObj "list" #[] 0)).get? a = some (seqObj "list" #[] e1) := by
    rw [Heap.get?_push_ne _ _ _ (by rw [size_push', Heap.size_update]; exact Nat.ne_of_lt (Nat.lt_succ_of_lt ha)), Heap.get?_push_ne _ _ _ (by rw [Heap.size_update]; exact Nat.ne_of_lt ha)]
    exact ho1
  have kp : ∀ b o, b ≠ a → s.heap.get? b = some o → (((s.heap.update a (Obj.mapSeq fun _ => #[])).push (seqObj "tuple" vs.toArray 0)).push (seqObj "list" #[] 0)).get? b = some o := fun b o hb e =>
    Heap.get?_push_of_some _ (Heap.get?_push_of_some _ ((Heap.get?_update_other _ _ (Ne.symm hb)).trans e))
  show wpAny (model prog w) A _ P E { s with heap := ((s.heap.update a (Obj.mapSeq fun _ => #[])).push (seqObj "tuple" vs.toArray 0)).push (seqObj "list" #[] 0) }
  dsimp only
  have hsz : vs.toArray.size = vs.length := by simp
  by_cases h2 : vs.toArray.size < 2
  · rw [if_pos h2, if_pos h2]
    refine wpAny_bind (wpAny_pure ?_)
    rw [StateT.run_pure]
    refine wpAny_bind (wpAny_pure ?_)
    dsimp only
    refine wpAny_bind (seqEpoch_at ho6 rfl ?_)
    refine wpAny_bind (listUpdate_at ho6 rfl ?_ (hsz2 := by rw [Array.size_map]; show (pairsOf vs).size ≤ _; rw [pairsOf_size]; exact Nat.le_succ_of_le hz))
    simp only [bne_self_eq_false, Bool.false_eq_true, if_false]
    refine wpAny_pure (h _ (out_perm (Array.Perm.refl (pairsOf vs))) ?_)
    exact pw_short (Nat.lt_of_le_of_lt (Nat.le_of_eq (out_perm (Array.Perm.refl (pairsOf vs))).length_eq) (by omega))
  · rw [if_neg h2, if_neg h2]
    refine wpAny_bind (hkk _ kp (by omega) _ ?_)
    refine wpAny_bind (wpAny_mono (wpS_sortRuns (hL _ kp) (a₀ := pairsOf vs) (st := SortSt.mk' kd (vs.toArray.zip vs.toArray) #[] 7 none)
      (Q := fun _ st' => (arrOf st').Perm (pairsOf vs) ∧ failedOf st' = none ∧ (arrOf st').toList.Pairwise (Le κ))
      (fun p hp => h0 _ (mem_pairs hp).2) ⟨Array.Perm.refl _, rfl, rfl⟩ rfl (by rw [pairsOf_size]; omega) fun st' a1 a2 a3 => ⟨a1, a2, a3⟩) ?_ fun _ _ e => e)
    rintro ⟨⟨⟩, st'⟩ s' ⟨rfl, hp, hf, hs⟩
    dsimp only
    refine wpAny_bind (seqEpoch_at ho6 rfl ?_)
    refine wpAny_bind (listUpdate_at ho6 rfl ?_ (hsz2 := by refine Nat.le_trans (Nat.le_of_eq ((Array.size_map ..).trans (hp.size_eq.trans (pairsOf_size _)))) (Nat.le_succ_of_le hz)))
    rw [hf]
    simp only [bne_self_eq_false, Bool.false_eq_true, if_false]
    exact wpAny_pure (h _ (out_perm hp) (out_sorted hp hs))

/-- what stood there stands, and the new list -/
theorem sortedHeap_keep {h : Heap} {vs : List Value} {out : Array Value} {b : Addr} {o : Obj} (e : h.get? b = some o) : (sortedHeap (h.push (seqObj "list" vs.toArray 0)) h.objs.size vs out).get? b = some o := by
  rw [sortedHeap_old (Nat.ne_of_lt (Heap.lt_size e)) (by rw [size_push']; exact Nat.lt_succ_of_lt (Heap.lt_size e))]
  exact Heap.get?_push_of_some _ e
theorem sortedHeap_new {h : Heap} {vs : List Value} {out : Array Value} : ∃ e, (sortedHeap (h.push (seqObj "list" vs.toArray 0)) h.objs.size vs out).get? h.objs.size = some (seqObj "list" out e) :=
  sortedHeap_at (Heap.get?_push_size _ rfl)
end
end TS
set_option Elab.async false
set_option linter.all false
set_option maxRecDepth 100000
namespace TS
open PySem PyProof.Rows
section
variable {prog : Program} {w : World} {A : Around} {E : Value → Shared → Prop} {s : Shared} {κ : PyProof.Rows.KeyKind} {kd : SortKind}
/-- what is asked of what was collected -/
structure Col (κ : PyProof.Rows.KeyKind) (kd : SortKind) (prog : Program) (w : World) (E : Value → Shared → Prop) (vs : List Value) (s2 : Shared) : Prop where
  keys : ∀ v ∈ vs, ∃ k, κ.keyOf v = some k
  kind : ∀ (A' : Around) h', (∀ b o, s2.heap.get? b = some o → h'.get? b = some o) → 2 ≤ vs.length → ∀ (Q : SortKind → Shared → Prop), Q kd { s2 with heap := h' } → wpAny (model prog w) A' (keyKind' vs.toArray) Q E { s2 with heap := h' }
  lt : ∀ (A' : Around) h', (∀ b o, s2.heap.get? b = some o → h'.get? b = some o) → LtOk κ kd prog w A' { s2 with heap := h' }
  size : vs.length ≤ sizeLine
theorem sorted_gen2 {x : Value} {Q : Value → Shared → Prop}
    (hcol : ∀ (A' : Around), A'.handled = A.handled → wpAny (model prog w) A' (collect x) (fun vs s2 => Col κ kd prog w E vs s2 ∧ ∀ (out : Array Value) h', out.toList.Perm vs → Sorted κ out.toList → (∀ b o, s2.heap.get? b = some o → h'.get? b = some o) →
      (∃ e, h'.get? s2.heap.objs.size = some (seqObj "list" out e)) → Q (.ref s2.heap.objs.size) { s2 with heap := h' }) E s) :
    wpAny (model prog w) A (call (.builtin "sorted") [x]) Q E s := by
  refine Calls.call_function_entry kind_sorted plain_sorted entry_sorted (args_sorted1 _) ?_
  unfold Builtin.«sorted»
  refine wpAny_bind (m := checkCount "sorted" 1 1 _) (wpAny_pure ?_)
  refine wpAny_bind (wpAny_mono (hcol _ rfl) (fun vs s2 hc => ?_) fun _ _ e => e)
  obtain ⟨⟨h0, hkk, hL, hz⟩, h⟩ := hc
  refine wpAny_bind (wpAny_newList ?_)
  have hoL : (s2.heap.push (seqObj "list" vs.toArray 0)).get? s2.heap.objs.size = some (seqObj "list" vs.toArray 0) := Heap.get?_push_size _ rfl
  have up : ∀ {h' : Heap}, (∀ b o, b ≠ s2.heap.objs.size → (s2.heap.push (seqObj "list" vs.toArray 0)).get? b = some o → h'.get? b = some o) → ∀ b o, s2.heap.get? b = some o → h'.get? b = some o := fun k b o e =>
    k b o (Nat.ne_of_lt (Heap.lt_size e)) (Heap.get?_push_of_some _ e)
  show wpAny _ _ _ _ _ { s2 with heap := s2.heap.push (seqObj "list" vs.toArray 0) }
  refine wpAny_bind (wpAny_holding (wpAny_call_entry slot_list_sort ⟨_, hoL, rfl⟩ entry_list_sort (list_sort_gen hoL h0 (fun h' k hl Q' hq => hkk _ h' (up k) hl Q' hq) (fun h' k => hL _ h' (up k)) hz fun out a1 a2 => ⟨_, rfl, ?_⟩) (args_list_sort _)))
  exact wpAny_pure ⟨_, rfl, h out _ a1 a2 (fun b o e => sortedHeap_keep e) sortedHeap_new⟩

@[reducible] def intK : PyProof.Rows.KeyKind where
  α := Int
  blt a b := decide (a < b)
  irrefl a := by simp
  trans a b c h1 h2 := by simp only [decide_eq_true_eq] at *; omega
  negTrans a b c h := by simp only [decide_eq_true_eq] at *; omega
  total a b h1 h2 := by simp only [decide_eq_false_iff_not] at *; omega
  keyOf v := match v with | .int x _ => some x | _ => none
  dflt := 0
theorem lt_ints : LtOk intK oneType' prog w A s := by
  intro E x y a b Q ha hb h
  rw [keyLt'_oneType]
  cases x <;> simp only [intK, reduceCtorEq, Option.some.injEq] at ha
  cases y <;> simp only [intK, reduceCtorEq, Option.some.injEq] at hb
  cases ha; cases hb
  exact oneLt_int h
theorem lt_strs : LtOk PyProof.Rows.strKind oneType' prog w A s := by
  intro E x y a b Q ha hb h
  rw [keyLt'_oneType]
  exact strKind_oneLt prog w A E s x y a b ha hb h
theorem kind_strs {vs : List Value} (hv : ∀ v ∈ vs, ∃ x t, v = Value.str x t) (h2 : 2 ≤ vs.length) {Q : SortKind → Shared → Prop} (h : Q oneType' s) : wpAny (model prog w) A (keyKind' vs.toArray) Q E s :=
  PySem.W.kas_kind (T := .type "str") h2 (fun v hm => by obtain ⟨x, t, rfl⟩ := hv v hm; exact PySem.W.Looks.of_pure rfl) (by decide) (by decide) h
theorem kind_ints {vs : List Value} (hv : ∀ v ∈ vs, ∃ x t, v = Value.int x t) (h2 : 2 ≤ vs.length) {Q : SortKind → Shared → Prop} (h : Q oneType' s) : wpAny (model prog w) A (keyKind' vs.toArray) Q E s :=
  PySem.W.kas_kind (T := .type "int") h2 (fun v hm => by obtain ⟨x, t, rfl⟩ := hv v hm; exact PySem.W.Looks.of_pure rfl) (by decide) (by decide) h

end
end TS
set_option Elab.async false
set_option linter.all false
set_option maxRecDepth 100000
namespace SW
open PySem PyProof.Rows
theorem new_led (t : SetTable) (es : Array (Int × Value)) (h : Int) (x : Value) : (layNew t es h x).2.1.led = t.led := by
  unfold layNew
  split
  · dsimp only
    unfold SetTable.orStandIn
    split <;> rfl
  · rfl
theorem relaid_keeps {t t' : SetTable} {hs : Array Int} {n : Nat} {ord : Array Nat} (e : t.relaid hs n = some (t', ord)) : t'.led = t.led ∧ t'.plain = t.plain := by
  unfold SetTable.relaid SetTable.laid at e
  cases hc : SetTable.layClean (SetTable.sizeAbove n - 1) hs with
  | none => rw [hc] at e; cases e
  | some ow =>
    rw [hc] at e
    simp only [Option.bind_eq_bind, Option.bind_some, Option.pure_def, Option.some.injEq, Prod.mk.injEq] at e
    rw [← e.1]
    exact ⟨rfl, rfl⟩
theorem relay_led (t : SetTable) (es : Array (Int × Value)) (n : Nat) : (relayAll t es n).2.1.led = t.led := by
  unfold relayAll
  split
  · rename_i t' ord e
    have k := relaid_keeps e
    dsimp only
    split
    · exact k.1
    · rfl
  · rfl
theorem relay_plain (t : SetTable) (es : Array (Int × Value)) (n : Nat) (hp : t.plain = false) : (relayAll t es n).2.1.plain = false := by
  unfold relayAll
  split
  · rename_i t' ord e
    have k := relaid_keeps e
    dsimp only
    split
    · exact k.2.trans hp
    · rfl
  · rfl

def vk : Value → Str
  | .str x _ => x
  | _ => ⟨#[]⟩
def stp (ks : List Str) (x : Str) : List Str := if x ∈ ks then ks else ks ++ [x]
theorem stp_in {ks : List Str} {x : Str} (h : x ∈ ks) : stp ks x = ks := if_pos h
theorem stp_out {ks : List Str} {x : Str} (h : ¬ x ∈ ks) : stp ks x = ks ++ [x] := if_neg h
theorem stp_nodup {ks : List Str} (h : ks.Nodup) (x : Str) : (stp ks x).Nodup := by
  unfold stp
  split
  · exact h
  · rename_i hn
    refine List.nodup_append.mpr ⟨h, by simp, fun a ha b hb e => hn ?_⟩
    rw [List.mem_singleton] at hb
    rw [← hb, ← e]; exact ha
/-- a list without what comes again -/
def dd (l : List Str) : List Str := l.foldl stp []
theorem stp_mem {ks : List Str} {x y : Str} : y ∈ stp ks x ↔ y ∈ ks ∨ y = x := by
  unfold stp
  split
  · rename_i h
    exact ⟨.inl, fun z => z.elim id fun e => e ▸ h⟩
  · rw [List.mem_append, List.mem_singleton]
theorem fold_nodup : ∀ (l : List Str) {ks : List Str}, ks.Nodup → (l.foldl stp ks).Nodup
  | [], _, h => h
  | x :: r, _, h => by rw [List.foldl_cons]; exact fold_nodup r (stp_nodup h x)
theorem fold_mem : ∀ (l : List Str) {ks : List Str} {y : Str}, y ∈ l.foldl stp ks ↔ y ∈ ks ∨ y ∈ l
  | [], _, _ => by simp
  | x :: r, ks, y => by
    rw [List.foldl_cons, fold_mem r, stp_mem, List.mem_cons, or_assoc]
theorem dd_nodup (l : List Str) : (dd l).Nodup := fold_nodup l List.nodup_nil
theorem dd_mem {l : List Str} {y : Str} : y ∈ dd l ↔ y ∈ l := by unfold dd; rw [fold_mem]; simp
theorem fold_len : ∀ (l : List Str) {ks : List Str}, (l.foldl stp ks).length ≤ ks.length + l.length
  | [], _ => by simp
  | x :: r, ks => by
    rw [List.foldl_cons]
    have h1 := fold_len r (ks := stp ks x)
    have h2 : (stp ks x).length ≤ ks.length + 1 := by unfold stp; split <;> simp
    rw [List.length_cons]; omega
theorem dd_len (l : List Str) : (dd l).length ≤ l.length := by have := fold_len l (ks := []); simpa [dd] using this

/-- the entries of a set of texts -/
structure Ent (w : World) (es : Array (Int × Value)) (t : SetTable) (ks : List Str) : Prop where
  el : ∀ e ∈ es.toList, ∃ x tk, e = (hashStr w x, Value.str x tk)
  perm : (es.toList.map fun e => vk e.2).Perm ks
  nd : ks.Nodup
  bnd : es.size < scanBound
  fit : t.fits es.size = true
  led : w.params.followText "set-order" = false → t.led = true
  pl : 0 < es.size → t.plain = false
def SetStr (w : World) (h : Heap) (a : Addr) (ks : List Str) : Prop := ∃ o es ep t, h.get? a = some o ∧ o.ExactSet ∧ o.data = .set es ep t ∧ Ent w es t ks
theorem SetStr.at {w : World} {h h' : Heap} {a : Addr} {ks : List Str} (x : SetStr w h a ks) (e : ∀ o, h.get? a = some o → h'.get? a = some o) : SetStr w h' a ks :=
  let ⟨o, es, ep, t, ho, r⟩ := x; ⟨o, es, ep, t, e o ho, r⟩
theorem Ent.size {w : World} {es : Array (Int × Value)} {t : SetTable} {ks : List Str} (x : Ent w es t ks) : es.size = ks.length := by
  have := x.perm.length_eq
  rw [List.length_map, Array.length_toList] at this
  exact this

section
variable {prog : Program} {w : World} {A : Around} {E : Value → Shared → Prop} {s : Shared}
theorem stored_get {h : Heap} {a : Addr} {o : Obj} {es es' : Array (Int × Value)} {ep : Nat} {t t' : SetTable} (ho : h.get? a = some o) (hd : o.data = .set es ep t) :
    (h.update a (Obj.putSet es' t')).get? a = some { o with data := .set es' (ep + 1) t' } := by
  have := Heap.get?_update_self (Obj.putSet es' t') ho (by rw [putSet_of es' t' hd]; rfl)
  rw [putSet_of es' t' hd] at this
  exact this
theorem Ent.elems {es : Array (Int × Value)} {t : SetTable} {ks : List Str} (x : Ent w es t ks) : ElemsOf (PySem.strKind prog w) es.toList := fun e he => by
  obtain ⟨y, u, rfl⟩ := x.el e he
  exact ⟨⟨y, by simp [PySem.strKind, Value.isStrOf], rfl⟩, rfl⟩
theorem add_tail {g : Bool → Sem Unit} (hg : ∀ (b : Bool) (s₁ : Shared) (Q' : Unit → Shared → Prop), Q' () s₁ → wpAny (model prog w) A (g b) Q' E s₁)
    {a : Addr} {o : Obj} {es es1 : Array (Int × Value)} {ep : Nat} {t t2 : SetTable} {ks : List Str} (ho : s.heap.get? a = some o) (hex : o.ExactSet) (hd : o.data = .set es ep t) (en : Ent w es1 t2 ks) (hp2 : t2.plain = false)
    {wd : Bool} {R : Option Bool → Shared → Prop} (h : ∀ h', Heap.SameBut a s.heap h' → SetStr w h' a ks → R (some true) { s with heap := h' }) :
    wpAny (model prog w) A (do
        storeSet a es1 t2
        if (!wd && t2.tooFull) = true then do
            g (relayAll t2 es1 (SetTable.grown es1.size)).2.2
            storeSet a (relayAll t2 es1 (SetTable.grown es1.size)).1 (relayAll t2 es1 (SetTable.grown es1.size)).2.1
            pure (some true)
          else pure (some true)) R E s := by
  refine wpAny_bind (wpAny_storeSet_of ho hd ?_ (fits_of_scanBound en.bnd))
  have g1 := stored_get (es' := es1) (t' := t2) ho hd
  have sb1 := Heap.SameBut.update s.heap a (Obj.putSet es1 t2)
  split
  · have hp := relayAll_perm t2 es1 (SetTable.grown es1.size)
    have hf := relayAll_fits t2 es1 (SetTable.grown es1.size)
    have hl := relay_led t2 es1 (SetTable.grown es1.size)
    have hq := relay_plain t2 es1 (SetTable.grown es1.size) hp2
    generalize relayAll t2 es1 (SetTable.grown es1.size) = z at hp hf hl hq ⊢
    obtain ⟨es2, t3, gave⟩ := z
    dsimp only at hp hf hl hq ⊢
    have hsz : es2.size = es1.size := by rw [← Array.length_toList, hp.length_eq, Array.length_toList]
    refine wpAny_bind (hg _ _ _ ?_)
    refine wpAny_bind (wpAny_storeSet_of g1 rfl ?_ (fits_of_scanBound (by rw [hsz]; exact en.bnd)))
    refine wpAny_pure (h _ (sb1.trans (Heap.SameBut.update _ a _)) ⟨_, es2, ep + 1 + 1, t3, stored_get g1 rfl, hex, rfl, ?_⟩)
    exact ⟨fun e he => en.el e (hp.mem_iff.mp he), (hp.map _).trans en.perm, en.nd, by rw [hsz]; exact en.bnd, hf, fun z => hl.trans (en.led z), fun _ => hq⟩
  · exact wpAny_pure (h _ sb1 ⟨_, es1, ep + 1, t2, g1, hex, rfl, en⟩)

theorem add_str {a : Addr} {ks : List Str} {x : Str} {tk : Tok} {Q : Bool → Shared → Prop} (hS : SetStr w s.heap a ks) (hroom : ks.length + 1 < scanBound)
    (h : ∀ h' b, Heap.SameBut a s.heap h' → SetStr w h' a (stp ks x) → Q b { s with heap := h' }) : wpAny (model prog w) A (setAddHashed a (.str x tk) (hashStr w x)) Q E s := by
  obtain ⟨o, es, ep, t, ho, hex, hd, en⟩ := hS
  have E0 : ElemsOf (PySem.strKind prog w) es.toList := en.elems
  have hk : (PySem.strKind prog w).is x (.str x tk) = true := by simp [PySem.strKind, Value.isStrOf]
  have hin : ∀ e ∈ es.toList, ((PySem.strKind prog w).is x e.2 = true ↔ vk e.2 = x) := fun e he => by
    obtain ⟨y, u, rfl⟩ := en.el e he
    constructor
    · intro q
      obtain ⟨u', q'⟩ := Value.isStrOf_shape (x := x) (v := Value.str y u) q
      cases q'; rfl
    · intro q
      have q' : y = x := q
      subst q'
      simp [PySem.strKind, Value.isStrOf]
  have hmem : x ∈ ks ↔ ∃ e ∈ es.toList, (PySem.strKind prog w).is x e.2 = true := by
    rw [← en.perm.mem_iff, List.mem_map]
    exact ⟨fun ⟨e, he, q⟩ => ⟨e, he, (hin e he).mpr q⟩, fun ⟨e, he, q⟩ => ⟨e, he, (hin e he).mp q⟩⟩
  unfold setAddHashed setAddHashedIn
  refine wpAny_holding (wpAny_bind (wpAny_setState_of ho hd en.fit ?_))
  dsimp only
  rw [byScan_of (knd := PySem.strKind prog w) rfl en.bnd E0]
  simp only [↓reduceIte]
  unfold setAddByScan
  refine wpAny_bind (wpAny_bind (wpAny_rule (wpAny_bind (wpAny_setScan_of (knd := PySem.strKind prog w) (k := x) hk ho hd en.fit E0 ?_))))
  cases hr : List.findIdx? (fun e => (PySem.strKind prog w).is x e.2) es.toList with
  | some j =>
    dsimp only
    obtain ⟨hj, hpj, _⟩ := List.findIdx?_eq_some_iff_getElem.mp hr
    have hx : x ∈ ks := hmem.mpr ⟨es.toList[j], List.getElem_mem hj, hpj⟩
    refine wpAny_pure (wpAny_pure ?_)
    exact h s.heap false (Heap.SameBut.refl a s.heap) (by rw [stp_in hx]; exact ⟨o, es, ep, t, ho, hex, hd, en⟩)
  | none =>
    dsimp only
    have hx : ¬ x ∈ ks := fun z => by
      obtain ⟨e, he, q⟩ := hmem.mp z
      have := List.findIdx?_eq_none_iff.mp hr e he
      rw [q] at this; cases this
    have hgw : ∀ (b : Bool) {s₁ : Shared} {Q' : Unit → Shared → Prop}, Q' () s₁ → wpAny (model prog w) A (match b with | true => rule "set.scan.the-table-gave-way" | false => pure ()) Q' E s₁ :=
      fun b s₁ Q' hq => by cases b <;> first | exact wpAny_pure hq | exact wpAny_rule hq
    have hperm := layNew_perm t es (hashStr w x) (.str x tk)
    have hfits := layNew_fits t es (hashStr w x) (.str x tk)
    have hled := new_led t es (hashStr w x) (.str x tk)
    generalize hL : layNew t es (hashStr w x) (.str x tk) = z at hperm hfits hled
    obtain ⟨es1, t1, wd, gave⟩ := z
    dsimp only at hperm hfits hled ⊢
    rw [Array.toList_push] at hperm
    have hsz : es1.size = es.size + 1 := by rw [← Array.length_toList, hperm.length_eq, List.length_append, Array.length_toList]; rfl
    have en1 : ∀ t2 : SetTable, t2.fits es1.size = true → t2.led = t1.led → t2.plain = false → Ent w es1 t2 (stp ks x) := fun t2 f l p => by
      rw [stp_out hx]
      refine ⟨fun e he => ?_, ?_, ?_, ?_, f, fun z => l.trans (hled.trans (en.led z)), fun _ => p⟩
      · rcases List.mem_append.mp (hperm.mem_iff.mp he) with he | he
        · exact en.el e he
        · rw [List.mem_singleton] at he
          exact ⟨x, tk, he⟩
      · refine (hperm.map _).trans ?_
        rw [List.map_append]
        exact en.perm.append_right _
      · have := stp_nodup en.nd x
        rwa [stp_out hx] at this
      · rw [hsz, en.size]; exact hroom
    refine wpAny_bind (hgw _ ?_)
    by_cases hpl : t1.plain = true
    · rw [if_pos hpl]
      refine wpAny_bind ?_
      rw [hashByValue_scannable 8 (x := Value.str x tk) rfl]
      refine wpAny_pure ?_
      refine add_tail (ks := stp ks x) ?_ ho hex hd (en1 _ ?_ ?_ ?_) ?_ ?_
      · intro b s₁ Q' hq; cases b <;> first | exact wpAny_pure hq | exact wpAny_rule hq
      · exact SetTable.fits_plain_off hfits
      · rfl
      · rfl
      · rfl
      · intro h' sb hS'; dsimp only; exact wpAny_pure (h h' true sb hS')
    · rw [if_neg hpl]
      refine wpAny_bind (wpAny_pure ?_)
      simp only [↓reduceIte]
      refine add_tail (ks := stp ks x) ?_ ho hex hd (en1 _ hfits rfl (Bool.eq_false_iff.mpr hpl)) (Bool.eq_false_iff.mpr hpl) ?_
      · intro b s₁ Q' hq; cases b <;> first | exact wpAny_pure hq | exact wpAny_rule hq
      · intro h' sb hS'; dsimp only; exact wpAny_pure (h h' true sb hS')
end
section
variable {prog : Program} {w : World} {A : Around} {R : Result → Shared → Prop} {I : Addr} {fp wr : List Addr} {G : Array GenState → Array GenState → Prop} {n : Nat} {P : Nat → Value → Prop} {St : Nat → Shared → Prop}
def met (val : Nat → Str) (i : Nat) : List Str := dd ((List.range i).map val)
theorem met_succ (val : Nat → Str) (i : Nat) : met val (i + 1) = stp (met val i) (val i) := by
  unfold met dd; rw [List.range_succ, List.map_append, List.foldl_append]; rfl
theorem met_len (val : Nat → Str) (i : Nat) : (met val i).length ≤ i := by
  have := dd_len ((List.range i).map val)
  rw [List.length_map, List.length_range] at this
  exact this
theorem upd_loop (W : WalksS prog w A.in1 I fp wr G n P St) (S : Addr) (hSf : S ∉ fp) (val : Nat → Str) (hval : ∀ i v, P i v → ∃ t, v = .str (val i) t) (hb : n + 1 < scanBound) :
    ∀ (k i : Nat) (s : Shared), n - i = k → i ≤ n → St i s → SetStr w s.heap S (met val i) →
      (∀ s', Moved (S :: wr) G s s' → SetStr w s'.heap S (met val n) → R (.ok (.ret .none)) s') →
      codeAny (model prog w) A (.builtin "set.update.loop" ⟨[.ref S, .ref I], []⟩) R s := by
  have hSw : S ∉ wr := fun h => hSf (W.sub _ h)
  have hsub : ∀ b ∈ wr, b ∈ S :: wr := fun b hb => List.mem_cons_of_mem _ hb
  intro k
  induction k with
  | zero =>
    intro i s hk hi hst hS hR
    have hin : i = n := by omega
    subst hin
    refine codeAny_builtin PyProof.Rows.F.entry_set_update_loop ?_
    rw [Around.under_plainId PyProof.Rows.F.plain_set_update_loop _]
    show wpAny _ A.in1 (pyNext (.ref I) >>= _) _ _ s
    refine wpAny_bind (W.done s _ _ hst fun s' hm => ?_)
    show wpAny _ A.in1 (ret Value.none) _ _ s'
    exact wpAny_pure (hR s' (hm.mono hsub) (hS.at fun o e => hm.heap S _ hSw e))
  | succ k ih =>
    intro i s hk hi hst hS hR
    have hlt : i < n := by omega
    refine codeAny_builtin PyProof.Rows.F.entry_set_update_loop ?_
    rw [Around.under_plainId PyProof.Rows.F.plain_set_update_loop _]
    show wpAny _ A.in1 (pyNext (.ref I) >>= _) _ _ s
    refine wpAny_bind (W.item i s _ _ hlt hst fun v s' hP hst' hm => ?_)
    obtain ⟨t, rfl⟩ := hval i v hP
    have hS' : SetStr w s'.heap S (met val i) := hS.at fun o e => hm.heap S _ hSw e
    show wpAny _ A.in1 (holding [Value.str (val i) t] (setAdd S (.str (val i) t)) >>= _) _ _ s'
    refine wpAny_bind (wpAny_holding ?_)
    unfold setAdd
    refine wpAny_holding ?_
    refine wpAny_bind (wpAny_pyHash_str ?_)
    have hroom : (met val i).length + 1 < scanBound := by have := met_len val i; omega
    refine add_str (s := { s' with toks := s'.toks + 1 }) hS' hroom fun h' b hsb hS2 => ?_
    have hSi : SetStr w h' S (met val (i + 1)) := by rw [met_succ]; exact hS2
    refine wpAny_pure ⟨plainId_quiet PyProof.Rows.F.plain_set_update_loop _, ih (i + 1) _ (by omega) hlt (W.frame _ s' _ _ hst' (Nat.le_succ _) fun b hb o e => ?_) hSi fun s'' hm'' hS'' => ?_⟩
    · rw [hsb.2 b (fun h : b = S => hSf (by rw [← h]; exact hb))]; exact e
    · refine hR s'' (Moved.trans W.gtrans ((hm.mono hsub).then_heap (Nat.le_succ _) fun b o hb e => ?_) hm'') hS''
      rw [hsb.2 b (fun h : b = S => hb (by rw [h]; exact List.mem_cons_self))]; exact e
end
section
variable {prog : Program} {w : World} {A : Around} {E : Value → Shared → Prop} {s : Shared}
abbrev newSetObj (w : World) : Obj := { cls := .type "set", dict := none, data := .set #[] 0 (.fresh 0 0 (!w.params.followText "set-order")) }
theorem new_ent : SetStr w (s.heap.push (newSetObj w)) s.heap.objs.size [] :=
  ⟨_, #[], 0, _, Heap.get?_push_size _ rfl, ⟨rfl, rfl, rfl⟩, rfl, fun e he => by simp at he, by simp, List.nodup_nil, by decide, by rfl, fun z => by rw [z]; rfl, fun z => absurd z (by decide)⟩
theorem set_new_led (a : Value) {Q1 : Value → Shared → Prop} (h : Q1 (.ref s.heap.objs.size) { s with heap := s.heap.push (newSetObj w) }) :
    codeAny (model prog w) A (.call (.builtin "set.__new__") ⟨[.type "set", a], []⟩) (wants Q1 E) s := by
  refine codeAny_of_tree ?_
  show wpAny _ A.in1 (do checkBuiltinCall "set.__new__" ⟨[.type "set", a], []⟩; again (.builtin "set.__new__" ⟨[.type "set", a], []⟩)) _ _ s
  refine wpAny_bind (wpAny_of_eq (PySem.F.newCall_set_1 a) (wpAny_pure ⟨plainId_quiet PySem.F.plain_set_new _, codeAny_builtin PySem.F.entry_set_new ?_⟩))
  rw [Around.under_plainId PySem.F.plain_set_new _]
  unfold Builtin.«set.__new__» Builtin.Frozenset.newClass
  have hsub := sub_set_self
  obtain ⟨hp, g, d, tk, os⟩ := s
  dsimp only
  wp_walk
  refine wpAny_askSetting (wpAny_pure ?_)
  dsimp only
  simp only [newObj]
  refine wpAny_bind (wpAny_alloc (wpAny_pure ?_))
  exact wpAny_pure h

set_option maxRecDepth 100000 in
set_option maxHeartbeats 4000000 in
theorem call_set_strs {l : Addr} {items : Array Value} {xs : List Str} {Q : Value → Shared → Prop} (hh : A.handled = none) (hl : s.heap.IsList l items) (hi : ∀ (i : Nat) v, items[i]? = some v → ∃ t, v = .str (xs.getD i ⟨#[]⟩) t) (hn : items.size = xs.length) (hb : xs.length + 1 < scanBound)
    (h : ∀ (h' : Heap) (tk : Nat), SetStr w h' s.heap.objs.size (dd xs) → (∀ b o, b < s.heap.objs.size → s.heap.get? b = some o → h'.get? b = some o) → Q (.ref s.heap.objs.size) { s with heap := h', toks := tk }) :
    wpAny (model prog w) A (call (.type "set") [.ref l]) Q E s := by
  have emet : met (fun i => xs.getD i ⟨#[]⟩) items.size = dd xs := by
    unfold met
    congr 1
    rw [hn]
    refine List.ext_getElem (by simp) fun i h1 h2 => ?_
    simp only [List.getElem_map, List.getElem_range]
    rw [List.getD_eq_getElem?_getD, List.getElem?_eq_getElem h2]
    rfl
  obtain ⟨c, tl, hmro⟩ := PySem.F.called_set.mro
  have hmade := PySem.F.called_set.made
  have hsub := PySem.F.called_set.sub
  refine wpAny_call (codeAny_of_tree ?_)
  show wpAny _ _ (callAny (.type "set") _) _ _ _
  refine wpAny_pure ⟨Code.quiet_builtin _ (by decide +kernel), codeAny_builtin PySem.F.entry_type_call ?_⟩
  rw [Around.under_plain (weight_type_call_type "set" [.ref l] []) rfl]
  have h1 := PySem.F.called_set.notType
  have h2 := PySem.F.called_set.canCreate
  have hct := PySem.F.typeCall_set_1 (.ref l)
  repeat (any_goals (first | assumption | wp_step))
  refine codeAny_mono (set_new_led (.ref l) (E := E) (Q1 := fun obj s1 => obj = .ref s.heap.objs.size ∧ s1 = { s with heap := s.heap.push (newSetObj w) }) ⟨rfl, rfl⟩) fun r s1 hr => ?_
  cases r with
  | error e => exact hr
  | ok fl =>
    cases fl with
    | ret obj =>
      obtain ⟨rfl, rfl⟩ := hr
      have hS : (s.heap.push (newSetObj w)).get? s.heap.objs.size = some (newSetObj w) := Heap.get?_push_size _ rfl
      have hT : Shared.TypeIs { s with heap := s.heap.push (newSetObj w) } (.ref s.heap.objs.size) "set" := ⟨_, hS, rfl⟩
      have hli := PySem.F.called_set.init.lookup
      have hbi := PySem.F.called_set.init.bind (.ref s.heap.objs.size)
      repeat (any_goals (first | assumption | wp_step))
      refine codeAny_mono (codeAny_call_builtin (R := wants (fun r s2 => r = .none ∧ ∃ h' tk, s2 = { s with heap := h', toks := tk } ∧ SetStr w h' s.heap.objs.size (dd xs) ∧
          (∀ b o, b < s.heap.objs.size → s.heap.get? b = some o → h'.get? b = some o)) E) PySem.F.called_set.init.plain PySem.F.entry_set_init (check_set_init_1 hT ?_)) fun r2 s2 hr2 => ?_
      · obtain ⟨ol, hol, hcl, nl, hdl⟩ := hl
        obtain ⟨ocls, odict, odata, oslots⟩ := ol
        simp only at hcl hdl
        subst hcl; subst hdl
        have hol' : (s.heap.push (newSetObj w)).get? l = some { cls := .type "list", dict := odict, data := .seq items nl, slots := oslots } := Heap.get?_push_of_some _ hol
        have hsls := PySem.F.sub_list_set
        have hslf := PySem.F.sub_list_frozenset
        have hne : (Value.type "list" == Value.type "dict") = false := by decide
        have hl1 : (s.heap.push (newSetObj w)).IsList l items := ⟨_, hol', rfl, nl, rfl⟩
        unfold Builtin.«set.__init__» noKeywords Builtin.Frozenset.updateFrom
        generalize hPI : pyIter = PI
        wp_walk
        subst hPI
        refine wpAny_pyIter_list hl1 ?_
        refine wpAny_bind (wpAny_runValue ?_)
        have hlS : l < s.heap.objs.size := Heap.lt_size hol
        have hh3 : A.in1.in1.in1.handled = none := by simp [hh]
        have hneI : l ≠ (s.heap.push (newSetObj w)).objs.size := by
          rw [Heap.size_push]; exact Nat.ne_of_lt (Nat.lt_succ_of_lt hlS)
        have hSf : s.heap.objs.size ∉ [(s.heap.push (newSetObj w)).objs.size, l] := by
          rw [Heap.size_push]; simp only [List.mem_cons, List.mem_singleton, List.not_mem_nil, or_false, not_or]
          exact ⟨Nat.ne_of_lt (Nat.lt_succ_self _), Nat.ne_of_gt hlS⟩
        refine upd_loop ((Walks.list hh3 _ l hneI items).toS) s.heap.objs.size hSf (fun i => xs.getD i ⟨#[]⟩) hi (by rw [hn]; exact hb) (items.size - 0) 0 _ (by omega) (Nat.zero_le _)
          ⟨⟨_, Heap.get?_push_size _ rfl, rfl, rfl⟩, (hl1.push _)⟩ ?hS0 ?hR
        case hS0 => exact SetStr.at (new_ent (s := s)) fun o e => Heap.get?_push_of_some _ e
        case hR =>
          intro s' hm hS'
          rw [emet] at hS'
          obtain ⟨h', g', d', tk', os'⟩ := s'
          have eg : g' = s.gens := hm.gens
          have ed : d' = s.drawn := hm.drawn
          have eo : os' = s.os := hm.os
          subst eg; subst ed; subst eo
          show wpAny _ _ _ _ _ _
          refine wpAny_pure ?_
          show wpAny _ _ (ret Value.none) _ _ _
          refine wpAny_pure ⟨rfl, h', tk', rfl, hS', fun b o hb e => ?_⟩
          have hb1 : b ≠ s.heap.objs.size := Nat.ne_of_lt hb
          have hb2 : b ≠ (s.heap.push (newSetObj w)).objs.size := by
            rw [Heap.size_push]; exact Nat.ne_of_lt (Nat.lt_succ_of_lt hb)
          exact hm.heap b o (by simp only [List.mem_cons, List.mem_singleton, List.not_mem_nil, or_false, not_or]; exact ⟨hb1, hb2⟩) (Heap.get?_push_of_some _ (Heap.get?_push_of_some _ e))
      · cases r2 with
        | error e => exact hr2
        | ok fl2 =>
          cases fl2 with
          | ret r =>
            obtain ⟨rfl, h', tk, rfl, hS', hk'⟩ := hr2
            repeat (any_goals (first | assumption | wp_step))
            exact h _ _ hS' hk'
          | _ => exact hr2.elim
    | _ => exact hr.elim
end
end SW
set_option Elab.async false
set_option linter.all false
set_option maxRecDepth 100000
namespace SW
open PySem PyProof.Rows
theorem own_si : Manifest.owners.lookup (String.ofList ['r', 'o', 't', 'a', 'r', 'e', 't', 'i', '_', 't', 'e', 's'].reverse) = some Manifest.sig_set_iterator := by kernel_rfl
theorem sl_next : Slot "set_iterator" "__next__" "set_iterator.__next__" :=
  .of (owner := "set_iterator") (n := "__next__") (by rw [typeLookup_type, builtinLookup_eq_fast]; kernel_rfl) (by decide +kernel) (by decide +kernel) (by decide +kernel)
    (by first | exact .inl (by decide +kernel) | exact .inr (by decide +kernel)) (by rw [isSubtype_type]; kernel_rfl)
theorem en_next : entryFor table "set_iterator.__next__" = some Builtin.«set_iterator.__next__» := entryFor_of_tree (by kernel_rfl)
theorem ar_next (a : Value) : argsOk "set_iterator.__next__" ⟨[a], []⟩ := by
  unfold argsOk; rw [signature?_of (id := "set_iterator.__next__") (n := ['_', '_', 't', 'x', 'e', 'n', '_', '_']) (o := ['r', 'o', 't', 'a', 'r', 'e', 't', 'i', '_', 't', 'e', 's']) (by kernel_rfl) own_si]; kernel_rfl
theorem sl_iter : Slot "set_iterator" "__iter__" "set_iterator.__iter__" :=
  .of (owner := "set_iterator") (n := "__iter__") (by rw [typeLookup_type, builtinLookup_eq_fast]; kernel_rfl) (by decide +kernel) (by decide +kernel) (by decide +kernel)
    (by first | exact .inl (by decide +kernel) | exact .inr (by decide +kernel)) (by rw [isSubtype_type]; kernel_rfl)
theorem en_iter : entryFor table "set_iterator.__iter__" = some Builtin.«dict_keyiterator.__iter__» := entryFor_alias (id' := "dict_keyiterator.__iter__") (by kernel_rfl) rfl (by decide +kernel) (by kernel_rfl)
theorem ar_iter (a : Value) : argsOk "set_iterator.__iter__" ⟨[a], []⟩ := by
  unfold argsOk; rw [signature?_of (id := "set_iterator.__iter__") (n := ['_', '_', 'r', 'e', 't', 'i', '_', '_']) (o := ['r', 'o', 't', 'a', 'r', 'e', 't', 'i', '_', 't', 'e', 's']) (by kernel_rfl) own_si]; kernel_rfl
theorem en_set_iter : entryFor table "set.__iter__" = some Builtin.«frozenset.__iter__» := entryFor_alias (id' := "frozenset.__iter__") (by kernel_rfl) rfl (by decide +kernel) (by kernel_rfl)

theorem erase_perm {α : Type} : ∀ {l : List α} {i : Nat} (h : i < l.length), (l[i] :: l.eraseIdx i).Perm l
  | x :: r, 0, _ => .refl _
  | x :: r, i + 1, h => by
    rw [List.eraseIdx_cons_succ, List.getElem_cons_succ]
    exact (List.Perm.swap ..).trans (.cons x (erase_perm (l := r) (i := i) (by simpa using h)))
theorem pick_go {α : Type} (next : Nat → Nat) : ∀ (fuel k : Nat) (left : List α) (out : Array α), left.length = fuel → (pickOrder.go next fuel k left out).toList.Perm (out.toList ++ left)
  | 0, k, left, out, h => by
    have : left = [] := List.eq_nil_of_length_eq_zero h
    subst this
    unfold pickOrder.go
    rw [List.append_nil]
  | fuel + 1, k, left, out, h => by
    unfold pickOrder.go
    have hi : next k % left.length < left.length := Nat.mod_lt _ (by omega)
    rw [List.getElem?_eq_getElem hi]
    dsimp only
    refine (pick_go next fuel (k + 1) (left.eraseIdx (next k % left.length)) (out.push left[next k % left.length]) (by rw [List.length_eraseIdx_of_lt hi]; omega)).trans ?_
    rw [Array.toList_push, List.append_assoc]
    exact List.Perm.append_left _ (erase_perm hi)
theorem pick_perm {α : Type} (next : Nat → Nat) (xs : Array α) : (pickOrder next xs).toList.Perm xs.toList := by
  have := pick_go next xs.size 0 xs.toList #[] (by simp)
  simpa [pickOrder] using this
section
variable {M : Model} {A : Around} {E : Value → Shared → Prop} {s : Shared}
theorem choose_any {src : Source} {n : Nat} {Q : Nat → Shared → Prop} (hn : n ≠ 0) (h : ∀ i, i < n → Q i { s with drawn := s.drawn.bump src }) : wpAny M A (choose src n) Q E s := fun G p hG => by
  unfold choose
  rw [Sem.wp_choose]
  refine ⟨hn, ?_⟩
  have := h _ (Nat.mod_lt (M.w.draws src (s.drawn.get src)) (Nat.pos_of_ne_zero hn))
  simpa using this
theorem draw_any {α : Type} : ∀ (n : Nat) (xs : List α) {s : Shared} {Q : List α → Shared → Prop}, xs.length = n → (∀ ys d, ys.Perm xs → Q ys { s with drawn := d }) → wpAny M A (drawOrder n xs) Q E s
  | 0, xs, s, Q, h, hQ => by
    have : xs = [] := List.eq_nil_of_length_eq_zero h
    subst this
    unfold drawOrder
    exact wpAny_pure (hQ [] s.drawn .nil)
  | n + 1, [], s, Q, h, hQ => by cases h
  | n + 1, x :: r, s, Q, h, hQ => by
    unfold drawOrder
    refine wpAny_bind (choose_any (by simp) fun i hi => ?_)
    rw [List.getElem?_eq_getElem hi]
    dsimp only
    refine wpAny_bind (draw_any n ((x :: r).eraseIdx i) (by rw [List.length_eraseIdx_of_lt hi]; omega) fun ys d hp => wpAny_pure ?_)
    exact hQ _ d ((hp.cons _).trans (erase_perm hi))
end
def SetIt (h : Heap) (it : Addr) (first : Value) (i : Nat) (a : Addr) (n ep : Nat) : Prop := ∃ o, h.get? it = some o ∧ o.cls = .type "set_iterator" ∧ o.data = .fields #[first, .int i 0, .ref a, .int n 0, .int ep 0]
section
variable {prog : Program} {w : World} {A : Around} {E : Value → Shared → Prop} {s : Shared} {it a : Addr} {n ep i : Nat} {first : Value}
theorem SetIt.typeIs (x : SetIt s.heap it first i a n ep) : s.TypeIs (.ref it) "set_iterator" := let ⟨o, ho, hc, _⟩ := x; ⟨o, ho, hc⟩
theorem SetIt.at {h h' : Heap} (x : SetIt h it first i a n ep) (e : ∀ o, h.get? it = some o → h'.get? it = some o) : SetIt h' it first i a n ep := let ⟨o, ho, r⟩ := x; ⟨o, e o ho, r⟩
theorem it_self {Q : Value → Shared → Prop} (x : SetIt s.heap it first i a n ep) (h : Q (.ref it) s) : wpAny (model prog w) A (pyIter (.ref it)) Q E s := by
  refine wpAny_pyIter_slot x.typeIs sl_iter (wpAny_call_entry sl_iter x.typeIs en_iter ?_ (ar_iter _))
  show wpAny _ _ (ret (.ref it)) _ _ s
  exact wpAny_pure ⟨_, rfl, "set_iterator", _, x.typeIs, sl_next.lookup, h⟩
theorem it_put {h : Heap} {k : Nat} {v : Value} (x : SetIt h it first i a n ep) : ∃ o, (h.update it (Obj.mapFields (·.setIfInBounds k v))).get? it = some o ∧ o.cls = .type "set_iterator" ∧ o.data = .fields (#[first, .int i 0, .ref a, .int n 0, .int ep 0].setIfInBounds k v) := by
  obtain ⟨o, ho, hc, hd⟩ := x
  exact ⟨_, Heap.get?_update_self _ ho (Obj.isFreed_of_fields (Obj.data_mapFields hd _)), (Obj.cls_mapFields ..).trans hc, Obj.data_mapFields hd _⟩

theorem stop_end {Q : Option Value → Shared → Prop} (hh : A.handled = none) (hQ : ∀ h', (∀ b o, s.heap.get? b = some o → h'.get? b = some o) → Q none { s with heap := h' }) :
    wpAny (model prog w) A.in1 (do raiseNew (← newExc (.type "StopIteration") []) : Sem PySem.Fin) (fun f s' => ∃ r, f = .done (.ret r) ∧ False) (fun e s' => wpAny (model prog w) A (do if ← isInstance e (.type "StopIteration") then pure none else throw e : Sem (Option Value)) Q E s') s := by
  refine wpAny_bind ?_
  simp only [newExc, newTuple]
  refine wpAny_bind (wpAny_newObj_type ?_ (by size_fits))
  refine wpAny_bind (m := firstArgMember _ _) (wpAny_of_eq (a := Value.none) (by first | rfl | (simp only [firstArgMember]; rfl)) ?_)
  refine wpAny_newObj_type ?_ (by size_fits)
  simp only [raiseNew]
  refine wpAny_bind (wpAny_handled ?_)
  rw [show A.in1.handled = none from hh]
  refine wpAny_bind (wpAny_pure (wpAny_throw ?_))
  refine wpAny_bind (wpAny_isInstance (T := "StopIteration") (b := true) ⟨_, Heap.get?_push_size _ rfl, rfl⟩ isSubtype_stop ?_)
  exact wpAny_pure (hQ _ fun b o e => Heap.get?_push_of_some _ (Heap.get?_push_of_some _ e))
end
end SW
set_option Elab.async false
set_option linter.all false
set_option maxRecDepth 100000
namespace SW
open PySem PyProof.Rows
section
variable {prog : Program} {w : World} {A : Around} {E : Value → Shared → Prop} {s : Shared} {it a : Addr} {n ep i : Nat} {first : Value}
theorem nx_int {slot nx : Nat} {es : Array (Int × Value)} {t : SetTable} {o : Obj} {x : Value} {Q : Option Value → Shared → Prop} (hit : SetIt s.heap it (.int slot 0) i a es.size ep) (ho : s.heap.get? a = some o) (hd : o.data = .set es ep t) (hf : t.fits es.size = true)
    (hstep : ∀ (A' : Around) (E' : Value → Shared → Prop) (Q' : Option (Value × Nat) → Shared → Prop), Q' (some (x, nx)) s → wpAny (model prog w) A' (setNext a slot i ep) Q' E' s)
    (hQ : ∀ h', SetIt h' it (.int nx 0) (i + 1) a es.size ep → Heap.SameBut it s.heap h' → Q (some x) { s with heap := h' }) : wpAny (model prog w) A (pyNext (.ref it)) Q E s := by
  obtain ⟨oi, hoi, hci, hdi⟩ := id hit
  unfold pyNext
  refine wpAny_bind (wpAny_attempt (wpAny_callSpecial?_slot (name := Str.ofString "__next__") hit.typeIs sl_next (wpAny_call_entry sl_next hit.typeIs en_next ?_ (ar_next _))))
  unfold Builtin.«set_iterator.__next__»
  refine wpAny_bind (wpAny_pure ?_)
  refine wpAny_bind (wpAny_fieldsOf hoi hdi ?_)
  dsimp only
  refine wpAny_bind (wpAny_setEntries_of ho hd hf ?_)
  rw [if_neg (by simp)]
  simp only [Int.toNat_natCast]
  refine wpAny_bind (hstep _ _ _ ?_)
  dsimp only
  refine wpAny_bind (wpAny_setField hoi hdi (by simp) ?_)
  obtain ⟨o2, ho2, hc2, hd2⟩ := it_put (k := 0) (v := rawInt (nx : Int)) hit
  refine wpAny_bind (wpAny_setField ho2 hd2 (by simp) (wpAny_pure ⟨x, rfl, wpAny_pure (hQ _ ?_ ((Heap.SameBut.update ..).trans (Heap.SameBut.update ..)))⟩))
  exact ⟨_, Heap.get?_update_self _ ho2 (Obj.isFreed_of_fields (Obj.data_mapFields hd2 _)), (Obj.cls_mapFields ..).trans hc2, by
    rw [Obj.data_mapFields hd2]; simp [rawInt]⟩
theorem nx_end {slot : Nat} {es : Array (Int × Value)} {t : SetTable} {o : Obj} {Q : Option Value → Shared → Prop} (hh : A.handled = none) (hit : SetIt s.heap it (.int slot 0) i a es.size ep) (ho : s.heap.get? a = some o) (hd : o.data = .set es ep t) (hf : t.fits es.size = true)
    (hstep : ∀ (A' : Around) (E' : Value → Shared → Prop) (Q' : Option (Value × Nat) → Shared → Prop), Q' none s → wpAny (model prog w) A' (setNext a slot i ep) Q' E' s)
    (hQ : ∀ h', (∀ b o, b ≠ it → s.heap.get? b = some o → h'.get? b = some o) → Q none { s with heap := h' }) : wpAny (model prog w) A (pyNext (.ref it)) Q E s := by
  obtain ⟨oi, hoi, hci, hdi⟩ := id hit
  unfold pyNext
  refine wpAny_bind (wpAny_attempt (wpAny_callSpecial?_slot (name := Str.ofString "__next__") hit.typeIs sl_next (wpAny_call_entry sl_next hit.typeIs en_next ?_ (ar_next _))))
  unfold Builtin.«set_iterator.__next__»
  refine wpAny_bind (wpAny_pure ?_)
  refine wpAny_bind (wpAny_fieldsOf hoi hdi ?_)
  dsimp only
  refine wpAny_bind (wpAny_setEntries_of ho hd hf ?_)
  rw [if_neg (by simp)]
  simp only [Int.toNat_natCast]
  refine wpAny_bind (hstep _ _ _ ?_)
  dsimp only
  refine wpAny_bind (wpAny_setField hoi hdi (by simp) ?_)
  refine wpAny_mono (stop_end (A := A) (E := E) (Q := Q) hh fun h' k => hQ h' fun b o hb e => k b o ((Heap.get?_update_other _ _ (Ne.symm hb)).trans e)) (fun f s' z => ?_) fun e s' z => z
  obtain ⟨_, _, z⟩ := z
  exact z.elim
theorem nx_tup {p : Addr} {pl : Nat} {op : Obj} {places : Array Value} {np : Nat} {es : Array (Int × Value)} {t : SetTable} {o : Obj} {x : Value} {hx : Int} {tp : Tok} {Q : Option Value → Shared → Prop} (hit : SetIt s.heap it (.ref p) i a es.size ep) (ho : s.heap.get? a = some o) (hd : o.data = .set es ep t) (hf : t.fits es.size = true)
    (hp : s.heap.get? p = some op) (hdp : op.data = .seq places np) (hi : places[i]? = some (.int (pl : Int) tp)) (he : es[pl]? = some (hx, x))
    (hQ : ∀ h', SetIt h' it (.ref p) (i + 1) a es.size ep → Heap.SameBut it s.heap h' → Q (some x) { s with heap := h' }) : wpAny (model prog w) A (pyNext (.ref it)) Q E s := by
  obtain ⟨oi, hoi, hci, hdi⟩ := id hit
  unfold pyNext
  refine wpAny_bind (wpAny_attempt (wpAny_callSpecial?_slot (name := Str.ofString "__next__") hit.typeIs sl_next (wpAny_call_entry sl_next hit.typeIs en_next ?_ (ar_next _))))
  unfold Builtin.«set_iterator.__next__»
  refine wpAny_bind (wpAny_pure ?_)
  refine wpAny_bind (wpAny_fieldsOf hoi hdi ?_)
  dsimp only
  refine wpAny_bind (wpAny_setEntries_of ho hd hf ?_)
  rw [if_neg (by simp)]
  refine wpAny_bind (wpAny_seqItems hp hdp ?_)
  dsimp only
  rw [Int.toNat_natCast, hi]
  dsimp only
  unfold setNextDrawn
  refine wpAny_bind (wpAny_bind (wpAny_setState_of ho hd hf ?_))
  dsimp only
  rw [if_neg (by simp), Int.toNat_natCast, he]
  dsimp only
  refine wpAny_pure ?_
  refine wpAny_bind (wpAny_setField hoi hdi (by simp) (wpAny_pure ⟨x, rfl, wpAny_pure (hQ _ ?_ (Heap.SameBut.update ..))⟩))
  exact ⟨_, Heap.get?_update_self _ hoi (Obj.isFreed_of_fields (Obj.data_mapFields hdi _)), (Obj.cls_mapFields ..).trans hci, by
    rw [Obj.data_mapFields hdi]; simp [rawInt]⟩
theorem nx_tend {p : Addr} {op : Obj} {places : Array Value} {np : Nat} {es : Array (Int × Value)} {t : SetTable} {o : Obj} {Q : Option Value → Shared → Prop} (hh : A.handled = none) (hit : SetIt s.heap it (.ref p) i a es.size ep) (ho : s.heap.get? a = some o) (hd : o.data = .set es ep t) (hf : t.fits es.size = true)
    (hp : s.heap.get? p = some op) (hdp : op.data = .seq places np) (hi : places[i]? = none)
    (hQ : ∀ h', (∀ b o, b ≠ it → s.heap.get? b = some o → h'.get? b = some o) → Q none { s with heap := h' }) : wpAny (model prog w) A (pyNext (.ref it)) Q E s := by
  obtain ⟨oi, hoi, hci, hdi⟩ := id hit
  unfold pyNext
  refine wpAny_bind (wpAny_attempt (wpAny_callSpecial?_slot (name := Str.ofString "__next__") hit.typeIs sl_next (wpAny_call_entry sl_next hit.typeIs en_next ?_ (ar_next _))))
  unfold Builtin.«set_iterator.__next__»
  refine wpAny_bind (wpAny_pure ?_)
  refine wpAny_bind (wpAny_fieldsOf hoi hdi ?_)
  dsimp only
  refine wpAny_bind (wpAny_setEntries_of ho hd hf ?_)
  rw [if_neg (by simp)]
  refine wpAny_bind (wpAny_seqItems hp hdp ?_)
  dsimp only
  rw [Int.toNat_natCast, hi]
  dsimp only
  refine wpAny_bind (wpAny_setField hoi hdi (by simp) ?_)
  obtain ⟨o2, ho2, hc2, hd2⟩ := it_put (k := 0) (v := rawInt 0) hit
  refine wpAny_bind (wpAny_setField ho2 hd2 (by simp) ?_)
  refine wpAny_mono (stop_end (A := A) (E := E) (Q := Q) hh fun h' k => hQ h' fun b o hb e => k b o ((Heap.get?_update_other _ _ (Ne.symm hb)).trans ((Heap.get?_update_other _ _ (Ne.symm hb)).trans e))) (fun f s' z => ?_) fun e s' z => z
  obtain ⟨_, _, z⟩ := z
  exact z.elim

theorem by_text {Q : Bool → Shared → Prop} (h : Q (w.params.followText "set-order") s) : wpAny (model prog w) A setsByText Q E s := by
  unfold setsByText
  exact wpAny_bind (wpAny_askSetting (wpAny_pure h))
theorem step_text {slot : Nat} {es : Array (Int × Value)} {t : SetTable} {o : Obj} (hb : w.params.followText "set-order" = true) (ho : s.heap.get? a = some o) (hd : o.data = .set es ep t) (hf : t.fits es.size = true) {Q : Option (Value × Nat) → Shared → Prop}
    (h : Q (((pickOrder (w.params.setOrder a ep) es)[i]?).map fun e => (e.2, slot)) s) : wpAny (model prog w) A (setNext a slot i ep) Q E s := by
  unfold setNext
  refine wpAny_bind (wpAny_setState_of ho hd hf ?_)
  dsimp only
  refine wpAny_bind (by_text ?_)
  rw [if_pos hb, if_neg (by simp)]
  unfold setWalk
  refine wpAny_bind (wpAny_bind (wpAny_setState_of ho hd hf ?_))
  dsimp only
  refine wpAny_bind (by_text ?_)
  rw [if_pos hb]
  exact wpAny_bind (wpAny_askSetting (wpAny_pure (wpAny_pure h)))
theorem below_zero (xs : Array Nat) (h : xs.size ≤ 1) : SetTable.below xs 0 = 0 := by
  unfold SetTable.below
  rcases Nat.lt_or_ge xs.size 1 with h0 | h1
  · have : xs.size = 0 := by omega
    rw [this]; rfl
  · have : xs.size = 1 := by omega
    rw [this]
    unfold SetTable.below.go
    simp [SetTable.below.go]
theorem below_one (xs : Array Nat) {j : Nat} (h : xs.size = 1) (hj : xs[0]? = some j) : SetTable.below xs (j + 1) = 1 := by
  unfold SetTable.below
  rw [h]
  unfold SetTable.below.go
  have e : xs.getD 0 (j + 1) = j := by rw [Array.getD_eq_getD_getElem?, hj]; rfl
  simp [SetTable.below.go, e]
theorem step_small {slot : Nat} {es : Array (Int × Value)} {t : SetTable} {o : Obj} (hb : w.params.followText "set-order" = false) (hl : t.led = true) (ho : s.heap.get? a = some o) (hd : o.data = .set es ep t) (hf : t.fits es.size = true) (hs : es.size ≤ 1) {Q : Option (Value × Nat) → Shared → Prop}
    (h : Q (match es[SetTable.below t.place slot]?, t.place[SetTable.below t.place slot]? with | some (_, x), some j => some (x, j + 1) | _, _ => none) s) : wpAny (model prog w) A (setNext a slot i ep) Q E s := by
  unfold setNext
  refine wpAny_bind (wpAny_setState_of ho hd hf ?_)
  dsimp only
  refine wpAny_bind (by_text ?_)
  rw [if_neg (by rw [hb]; simp)]
  split
  · rename_i z
    have z' : (!t.plain && decide (es.size > 1)) = true := z
    simp at z'
    omega
  · refine wpAny_bind ?_
    show wpAny _ _ (if (!t.led && !es.isEmpty) = true then unsupported "set:maker-not-led" else pure ()) _ _ _
    rw [if_neg (by rw [hl]; simp)]
    exact wpAny_pure (wpAny_pure h)

/-- the walk's state: the iterator at its i-th turn, the set as it stands (and the drawn places) -/
def StA (it a : Addr) (o : Obj) (n ep : Nat) (i : Nat) (h : Heap) : Prop := SetIt h it (.int ((0 : Nat) : Int) 0) i a n ep ∧ h.get? a = some o
theorem walk_text {es : Array (Int × Value)} {t : SetTable} {o : Obj} (hh : A.handled = none) (hb : w.params.followText "set-order" = true) (hd : o.data = .set es ep t) (hf : t.fits es.size = true) (hne : a ≠ it) :
    Walks prog w A it [it, a] [it] ((pickOrder (w.params.setOrder a ep) es).toList.map (·.2)).length (fun i v => ((pickOrder (w.params.setOrder a ep) es).toList.map (·.2))[i]? = some v) (StA it a o es.size ep) where
  sub := fun b hb => by simp at hb; simp [hb]
  frame := fun _ _ _ st hk => ⟨st.1.at fun o e => hk it (by simp) o e, hk a (by simp) _ st.2⟩
  item := fun i s Q E hi st hQ => by
    have hi' : i < (pickOrder (w.params.setOrder a ep) es).size := by simpa using hi
    refine nx_int (nx := 0) (x := (pickOrder (w.params.setOrder a ep) es)[i].2) st.1 st.2 hd hf (fun A' E' Q' q => step_text hb st.2 hd hf ?_) fun h' x sb => hQ _ h' s.toks ?_ ⟨x, (sb.2 a hne).trans st.2⟩ fun b o hb e => (sb.2 b (by simpa using hb)).trans e
    · rw [Array.getElem?_eq_getElem hi']; exact q
    · rw [List.getElem?_map, Array.getElem?_toList, Array.getElem?_eq_getElem hi']; rfl
  done := fun s Q E st hQ => by
    refine nx_end hh st.1 st.2 hd hf (fun A' E' Q' q => step_text hb st.2 hd hf ?_) fun h' k => hQ h' s.toks fun b o hb e => k b o (by simpa using hb) e
    rw [List.length_map, Array.length_toList, Array.getElem?_eq_none (Nat.le_refl _)]
    exact q
  self := fun _ _ _ _ st hQ => it_self st.1 hQ
def slotB (t : SetTable) (i : Nat) : Nat := if i = 0 then 0 else (t.place[0]?).getD 0 + 1
def StB (it a : Addr) (o : Obj) (t : SetTable) (n ep : Nat) (i : Nat) (h : Heap) : Prop := SetIt h it (.int ((slotB t i : Nat) : Int) 0) i a n ep ∧ h.get? a = some o ∧ i ≤ n
theorem walk_small {es : Array (Int × Value)} {t : SetTable} {o : Obj} (hh : A.handled = none) (hb : w.params.followText "set-order" = false) (hl : t.led = true) (hd : o.data = .set es ep t) (hf : t.fits es.size = true) (hs : es.size ≤ 1) (hne : a ≠ it) :
    Walks prog w A it [it, a] [it] (es.toList.map (·.2)).length (fun i v => (es.toList.map (·.2))[i]? = some v) (StB it a o t es.size ep) where
  sub := fun b hb => by simp at hb; simp [hb]
  frame := fun _ _ _ st hk => ⟨st.1.at fun o e => hk it (by simp) o e, hk a (by simp) _ st.2.1, st.2.2⟩
  item := fun i s Q E hi st hQ => by
    have hi' : i < es.size := by simpa using hi
    have i0 : i = 0 := by omega
    subst i0
    have hps : t.place.size = es.size := by
      simp only [SetTable.fits, Bool.and_eq_true, beq_iff_eq] at hf
      exact hf.1
    have hp : 0 < t.place.size := by omega
    refine nx_int (nx := t.place[0] + 1) (x := es[0].2) st.1 st.2.1 hd hf (fun A' E' Q' q => step_small hb hl st.2.1 hd hf hs ?_) fun h' x sb => hQ _ h' s.toks ?_ ⟨?_, (sb.2 a hne).trans st.2.1, hi'⟩ fun b o hb e => (sb.2 b (by simpa using hb)).trans e
    · have e : SetTable.below t.place (slotB t 0) = 0 := below_zero _ (by omega)
      rw [e, Array.getElem?_eq_getElem hi', Array.getElem?_eq_getElem hp]; exact q
    · rw [List.getElem?_map, Array.getElem?_toList, Array.getElem?_eq_getElem hi']; rfl
    · have e : slotB t (0 + 1) = t.place[0] + 1 := by
        unfold slotB
        rw [if_neg (by omega), Array.getElem?_eq_getElem hp]; rfl
      rw [e]; exact x
  done := fun s Q E st hQ => by
    have hps : t.place.size = es.size := by
      simp only [SetTable.fits, Bool.and_eq_true, beq_iff_eq] at hf
      exact hf.1
    refine nx_end hh st.1 st.2.1 hd hf (fun A' E' Q' q => step_small hb hl st.2.1 hd hf hs ?_) fun h' k => hQ h' s.toks fun b o hb e => k b o (by simpa using hb) e
    rw [List.length_map, Array.length_toList]
    rcases Nat.lt_or_ge es.size 1 with h0 | h1
    · have e0 : es.size = 0 := by omega
      have e1 : SetTable.below t.place (slotB t es.size) = 0 := by
        have : slotB t es.size = 0 := by unfold slotB; rw [if_pos e0]
        rw [this]; exact below_zero _ (by omega)
      rw [e1, Array.getElem?_eq_none (by omega)]
      exact q
    · have e0 : es.size = 1 := by omega
      have hp : 0 < t.place.size := by omega
      have e1 : SetTable.below t.place (slotB t es.size) = 1 := by
        have : slotB t es.size = t.place[0] + 1 := by unfold slotB; rw [if_neg (by omega), Array.getElem?_eq_getElem hp]; rfl
        rw [this]; exact below_one _ (by omega) (Array.getElem?_eq_getElem hp)
      rw [e1, Array.getElem?_eq_none (by omega)]
      exact q
  self := fun _ _ _ _ st hQ => it_self st.1 hQ
def placesOf (ps : List Nat) : Array Value := (ps.map fun (k : Nat) => rawInt (k : Int)).toArray
def StC (it a p : Addr) (o op : Obj) (n ep : Nat) (i : Nat) (h : Heap) : Prop := SetIt h it (.ref p) i a n ep ∧ h.get? a = some o ∧ h.get? p = some op
def drawnOrd (es : Array (Int × Value)) (ps : List Nat) : List Value := ps.map fun k => (es.getD k (0, Value.none)).2
theorem walk_drawn {p : Addr} {op : Obj} {np : Nat} {ps : List Nat} {es : Array (Int × Value)} {t : SetTable} {o : Obj} (hh : A.handled = none) (hd : o.data = .set es ep t) (hf : t.fits es.size = true) (hdp : op.data = .seq (placesOf ps) np) (hps : ∀ k ∈ ps, k < es.size) (hne : a ≠ it) (hnp : p ≠ it) :
    Walks prog w A it [it, a, p] [it] (drawnOrd es ps).length (fun i v => (drawnOrd es ps)[i]? = some v) (StC it a p o op es.size ep) where
  sub := fun b hb => by simp at hb; simp [hb]
  frame := fun _ _ _ st hk => ⟨st.1.at fun o e => hk it (by simp) o e, hk a (by simp) _ st.2.1, hk p (by simp) _ st.2.2⟩
  item := fun i s Q E hi st hQ => by
    have hi' : i < ps.length := by simpa [drawnOrd] using hi
    have hk := hps _ (List.getElem_mem hi')
    refine nx_tup (pl := ps[i]) (tp := 0) (x := es[ps[i]].2) (hx := es[ps[i]].1) st.1 st.2.1 hd hf st.2.2 hdp ?_ (Array.getElem?_eq_getElem hk) fun h' x sb => hQ _ h' s.toks ?_ ⟨x, (sb.2 a hne).trans st.2.1, (sb.2 p hnp).trans st.2.2⟩ fun b o hb e => (sb.2 b (by simpa using hb)).trans e
    · unfold placesOf
      rw [List.getElem?_toArray, List.getElem?_map, List.getElem?_eq_getElem hi']; rfl
    · unfold drawnOrd
      rw [List.getElem?_map, List.getElem?_eq_getElem hi', Option.map_some, Array.getD_eq_getD_getElem?, Array.getElem?_eq_getElem hk]; rfl
  done := fun s Q E st hQ => by
    refine nx_tend hh st.1 st.2.1 hd hf st.2.2 hdp ?_ fun h' k => hQ h' s.toks fun b o hb e => k b o (by simpa using hb) e
    unfold placesOf drawnOrd
    rw [List.getElem?_toArray, List.getElem?_map, List.length_map, List.getElem?_eq_none (Nat.le_refl _)]; rfl
  self := fun _ _ _ _ st hQ => it_self st.1 hQ
end
end SW
set_option Elab.async false
set_option linter.all false
set_option maxRecDepth 100000
namespace SW
open PySem PyProof.Rows
section
variable {prog : Program} {w : World} {A : Around} {E : Value → Shared → Prop} {s : Shared}
theorem Ent.strs {es : Array (Int × Value)} {t : SetTable} {ks : List Str} (x : Ent w es t ks) : ∀ v ∈ es.toList.map (·.2), ∃ y u, v = Value.str y u := fun v hv => by
  obtain ⟨e, he, rfl⟩ := List.mem_map.mp hv
  obtain ⟨y, u, rfl⟩ := x.el e he
  exact ⟨y, u, rfl⟩
theorem iter_set {a : Addr} {ks : List Str} {Q : Value → Shared → Prop} (hS : SetStr w s.heap a ks)
    (hQ : ∀ (ord : List Value) (it : Addr) (fp : List Addr) (St : Nat → Heap → Prop) (h' : Heap) (d : Drawn), (ord.map vk).Perm ks → (∀ v ∈ ord, ∃ x t, v = Value.str x t) → (∀ b o, s.heap.get? b = some o → h'.get? b = some o) →
      (∀ A' : Around, A'.handled = none → Walks prog w A' it fp [it] ord.length (fun i v => ord[i]? = some v) St) → St 0 h' → s.heap.objs.size ≤ it → (∀ b ∈ fp, b = a ∨ s.heap.objs.size ≤ b) → Q (.ref it) { s with heap := h', drawn := d }) :
    wpAny (model prog w) A (pyIter (.ref a)) Q E s := by
  obtain ⟨o, es, ep, t, ho, hex, hd, en⟩ := hS
  have hT : s.TypeIs (.ref a) "set" := ⟨o, ho, hex.1⟩
  have hlt : a < s.heap.objs.size := Heap.lt_size ho
  refine wpAny_pyIter_slot hT PySem.F.slot_set_iter (wpAny_call_entry PySem.F.slot_set_iter hT en_set_iter ?_ (PySem.F.args_set_iter_1 _))
  unfold Builtin.«frozenset.__iter__» Builtin.Frozenset.slot0 slotArgs
  simp only [List.isEmpty_nil, Bool.not_true, Bool.false_eq_true, ↓reduceIte, bind_assoc, List.length_nil, bne_self_eq_false]
  unfold Builtin.Frozenset.addrOf Builtin.Frozenset.sizeOf
  refine wpAny_bind (wpAny_pure ?_)
  try dsimp only
  refine wpAny_bind (wpAny_pure ?_)
  refine wpAny_bind (wpAny_bind (wpAny_setEntries_of ho hd en.fit (wpAny_pure ?_)))
  unfold setDrawn
  refine wpAny_bind (wpAny_bind (wpAny_setState_of ho hd en.fit ?_))
  dsimp only
  refine wpAny_bind (by_text (wpAny_pure ?_))
  have fin : ∀ (first : Value) (h1 : Heap) (d : Drawn) (Q1 : Value → Shared → Prop), h1.get? a = some o → Q1 (.ref h1.objs.size) { s with heap := h1.push { cls := .type "set_iterator", data := .fields #[first, .int ((0 : Nat) : Int) 0, .ref a, .int es.size 0, .int ep 0] }, drawn := d } →
      wpAny (model prog w) A.in1 (do
        let e ← setEpoch a
        let v ← newFields "set_iterator" [first, rawInt 0, Value.ref a, rawInt (es.size : Int), rawInt (e : Int)]
        ret v) (fun fin s' => ∃ v, fin = PySem.Fin.done (Flow.ret v) ∧ ∃ T' r, s'.TypeIs v T' ∧ typeLookup (Value.type T') (Str.ofString "__next__") = pure (some r) ∧ Q1 v s') E { s with heap := h1, drawn := d } := by
    intro first h1 d Q1 hg hq
    refine wpAny_bind (wpAny_setEpoch_of (s := { s with heap := h1, drawn := d }) hg hd en.fit ?_)
    unfold newFields
    refine wpAny_bind (wpAny_newObj_type (wpAny_pure ⟨_, rfl, "set_iterator", _, ⟨_, Heap.get?_push_size _ rfl, rfl⟩, sl_next.lookup, ?_⟩))
    exact hq
  split
  · rename_i z
    have z' : (!w.params.followText "set-order" && (!t.plain && decide (es.size > 1))) = true := z
    refine wpAny_bind (draw_any es.size (List.range es.size) (by simp) fun ps d hp => ?_)
    refine wpAny_bind (wpAny_newTuple ?_ (hsz := by rw [List.length_map, hp.length_eq, List.length_range]; exact fits_of_scanBound en.bnd))
    have hps : ∀ k ∈ ps, k < es.size := fun k hk => List.mem_range.mp (hp.mem_iff.mp hk)
    have hga := Heap.get?_push_of_some (seqObj "tuple" (placesOf ps) 0) ho
    refine fin (.ref s.heap.objs.size) (s.heap.push (seqObj "tuple" (placesOf ps) 0)) d Q hga ?_
    have e1 : (drawnOrd es ps).Perm (es.toList.map (·.2)) := by
      unfold drawnOrd
      refine (hp.map _).trans (List.Perm.of_eq ?_)
      refine List.ext_getElem (by simp) fun i h1 h2 => ?_
      have hi : i < es.size := by simpa using h2
      simp only [List.getElem_map, List.getElem_range, Array.getElem_toList]
      rw [Array.getD_eq_getD_getElem?, Array.getElem?_eq_getElem hi]
      rfl
    refine hQ (drawnOrd es ps) (s.heap.push (seqObj "tuple" (placesOf ps) 0)).objs.size [(s.heap.push (seqObj "tuple" (placesOf ps) 0)).objs.size, a, s.heap.objs.size] (StC (s.heap.push (seqObj "tuple" (placesOf ps) 0)).objs.size a s.heap.objs.size o (seqObj "tuple" (placesOf ps) 0) es.size ep) _ d ?_ ?_ ?_ ?_ ?_ ?_ ?_
    · have e0 : ((es.toList.map (·.2)).map vk).Perm ks := by rw [List.map_map]; exact en.perm
      exact (e1.map vk).trans e0
    · exact fun v hv => en.strs v (e1.mem_iff.mp hv)
    · exact fun b o e => Heap.get?_push_of_some _ (Heap.get?_push_of_some _ e)
    · exact fun A' hA => walk_drawn hA hd en.fit rfl hps (by rw [size_push']; exact Nat.ne_of_lt (Nat.lt_succ_of_lt hlt)) (by rw [size_push']; exact Nat.ne_of_lt (Nat.lt_succ_self _))
    · exact ⟨⟨_, Heap.get?_push_size _ rfl, rfl, rfl⟩, Heap.get?_push_of_some _ hga, Heap.get?_push_of_some _ (Heap.get?_push_size _ rfl)⟩
    · rw [size_push']; exact Nat.le_succ _
    · intro b hb
      simp only [List.mem_cons, List.not_mem_nil, or_false] at hb
      rcases hb with rfl | rfl | rfl
      · right; rw [size_push']; exact Nat.le_succ _
      · exact .inl rfl
      · exact .inr (Nat.le_refl _)
  · rename_i z
    have z' : ¬ (!w.params.followText "set-order" && (!t.plain && decide (es.size > 1))) = true := z
    refine wpAny_bind (wpAny_pure ?_)
    refine fin (rawInt 0) s.heap s.drawn Q ho ?_
    have hne : a ≠ s.heap.objs.size := Nat.ne_of_lt hlt
    have hk : ∀ b o, s.heap.get? b = some o → (s.heap.push { cls := .type "set_iterator", data := .fields #[rawInt 0, .int ((0 : Nat) : Int) 0, .ref a, .int es.size 0, .int ep 0] }).get? b = some o := fun b o e => Heap.get?_push_of_some _ e
    have hfp : ∀ b ∈ [s.heap.objs.size, a], b = a ∨ s.heap.objs.size ≤ b := fun b hb => by
      simp only [List.mem_cons, List.not_mem_nil, or_false] at hb
      rcases hb with rfl | rfl
      · exact .inr (Nat.le_refl _)
      · exact .inl rfl
    cases hb : w.params.followText "set-order" with
    | true =>
      have e1 : ((pickOrder (w.params.setOrder a ep) es).toList.map (·.2)).Perm (es.toList.map (·.2)) := (pick_perm _ es).map _
      refine hQ _ s.heap.objs.size [s.heap.objs.size, a] (StA s.heap.objs.size a o es.size ep) _ s.drawn ((e1.map vk).trans (by rw [List.map_map]; exact en.perm)) (fun v hv => en.strs v (e1.mem_iff.mp hv)) hk (fun A' hA => walk_text hA hb hd en.fit hne) ⟨⟨_, Heap.get?_push_size _ rfl, rfl, rfl⟩, hk _ _ ho⟩ (Nat.le_refl _) hfp
    | false =>
      have hs : es.size ≤ 1 := by
        rw [hb] at z'
        rcases Nat.lt_or_ge 1 es.size with h1 | h1
        · rw [en.pl (by omega)] at z'
          simp at z'
          omega
        · exact h1
      refine hQ _ s.heap.objs.size [s.heap.objs.size, a] (StB s.heap.objs.size a o t es.size ep) _ s.drawn (by rw [List.map_map]; exact en.perm) en.strs hk (fun A' hA => walk_small hA hb (en.led hb) hd en.fit hs hne) ⟨⟨_, Heap.get?_push_size _ rfl, rfl, rfl⟩, hk _ _ ho, Nat.zero_le _⟩ (Nat.le_refl _) hfp

/-- what is collected out of a set or a dict: the items of its iterator, one by one -/
theorem collect_by {T : String} {a : Addr} {o : Obj} {P : List Value → Prop} {Q : List Value → Shared → Prop} (hT : T = "set" ∨ T = "dict") (hh : A.handled = none) (ho : s.heap.get? a = some o) (hc : o.cls = .type T)
    (hiter : ∀ (h1 : Heap) (A' : Around) (Q1 : Value → Shared → Prop), (∀ b o, s.heap.get? b = some o → h1.get? b = some o) → h1.objs.size = s.heap.objs.size + 1 →
      (∀ (ord : List Value) (it : Addr) (fp : List Addr) (St : Nat → Heap → Prop) (h' : Heap) (d : Drawn), ord.length ≤ sizeLine → (∀ b o, h1.get? b = some o → h'.get? b = some o) →
        (∀ A' : Around, A'.handled = none → Walks prog w A' it fp [it] ord.length (fun i v => ord[i]? = some v) St) → St 0 h' → h1.objs.size ≤ it → s.heap.objs.size ∉ fp → P ord → Q1 (.ref it) { s with heap := h', drawn := d }) →
      wpAny (model prog w) A' (pyIter (.ref a)) Q1 E { s with heap := h1 })
    (hQ : ∀ ord s', P ord → (∀ b o, s.heap.get? b = some o → s'.heap.get? b = some o) → s'.gens = s.gens → s'.os = s.os → s.heap.objs.size ≤ s'.heap.objs.size → Q ord s') :
    wpAny (model prog w) A (collect (.ref a)) Q E s := by
  have hlt : a < s.heap.objs.size := Heap.lt_size ho
  unfold collect
  refine wpAny_bind (wpAny_runValue (codeAny_builtin PySem.F.entry_proto_collect ?_))
  rw [Around.under_plainId PySem.F.plain_proto_collect _]
  show wpAny _ A.in1 (newList [] >>= fun l => again (.builtin "list.__iadd__" ⟨[l, .ref a], []⟩)) _ _ s
  refine wpAny_bind (wpAny_newObj_type ?_)
  refine wpAny_pure ⟨plainId_quiet PySem.F.plain_list_iadd _, codeAny_builtin PySem.F.entry_list_iadd ?_⟩
  rw [Around.under_plainId PySem.F.plain_list_iadd _]
  have hS1 : (s.heap.push { cls := .type "list", data := .seq ([] : List Value).toArray }).get? s.heap.objs.size = some { cls := .type "list", data := .seq ([] : List Value).toArray } := Heap.get?_push_size _ rfl
  have ho1 : (s.heap.push { cls := .type "list", data := .seq ([] : List Value).toArray }).get? a = some o := Heap.get?_push_of_some _ ho
  have h1 : Builtin.List.listSameRef (.ref s.heap.objs.size) (.ref a) = false := by simp [Builtin.List.listSameRef]; exact Nat.ne_of_gt hlt
  show wpAny _ A.in1 (Builtin.List.listExtendWith (.ref s.heap.objs.size) (.ref a) (.ref s.heap.objs.size)) _ _ _
  unfold Builtin.List.listExtendWith
  refine wpAny_bind (wpAny_typeOf (T := T) ⟨o, ho1, hc⟩ ?_)
  have h2 : (Value.type T == Value.type "list") = false ∧ (Value.type T == Value.type "tuple") = false := by rcases hT with rfl | rfl <;> exact ⟨by decide, by decide⟩
  simp only [h1, h2.1, h2.2, Bool.or_false, Bool.false_eq_true, if_false]
  refine wpAny_bind (hiter (s.heap.push { cls := .type "list", data := .seq ([] : List Value).toArray }) _ _ (fun b o e => Heap.get?_push_of_some _ e) (by rw [Heap.size_push]) fun ord it fp St h' d hn hk W st hle hnf hP => ?_)
  have ho2 : h'.get? a = some o := hk _ _ ho1
  have hS2 : h'.get? s.heap.objs.size = some { cls := .type "list", data := .seq ([] : List Value).toArray } := hk _ _ hS1
  have hTy : Shared.TypeIs { s with heap := h', drawn := d } (.ref a) T := ⟨o, ho2, hc⟩
  refine wpAny_bind (wpAny_holding ?_)
  have hint : ∀ (Q2 : Bool → Shared → Prop), Q2 false { s with heap := h', drawn := d } → wpAny (model prog w) A.in1 (Builtin.List.listLengthHint (Value.ref a)) Q2 E { s with heap := h', drawn := d } := by
    intro Q2 q2
    unfold Builtin.List.listLengthHint
    rcases hT with rfl | rfl
    · refine wpAny_bind (wpAny_specialOf hTy PySem.F.slot_set_len.lookup ?_)
      (generalize hid : ("set.__len__" : String) = id0; (fail_if_success (clear hid id0)); wp_delta; rw [show splitId id0 = some ("set", "__len__") from by subst hid; decide +kernel]; subst hid)
      refine wpAny_bind (wpAny_isInstance (b := true) hTy (by rw [isSubtype_type]; kernel_rfl) ?_)
      rw [if_neg (by decide)]
      dsimp only
      rw [if_pos (by decide +kernel)]
      refine wpAny_bind (wpAny_typeOf hTy ?_)
      exact wpAny_pure q2
    · refine wpAny_bind (wpAny_specialOf hTy PySem.F.slot_dict_len.lookup ?_)
      (generalize hid : ("dict.__len__" : String) = id0; (fail_if_success (clear hid id0)); wp_delta; rw [show splitId id0 = some ("dict", "__len__") from by subst hid; decide +kernel]; subst hid)
      refine wpAny_bind (wpAny_isInstance (b := true) hTy (by rw [isSubtype_type]; kernel_rfl) ?_)
      rw [if_neg (by decide)]
      dsimp only
      rw [if_pos (by decide +kernel)]
      refine wpAny_bind (wpAny_typeOf hTy ?_)
      exact wpAny_pure q2
  refine hint _ ?_
  rw [if_pos (by rcases hT with rfl | rfl <;> decide +kernel)]
  refine wpAny_bind (wpAny_rule ?_)
  refine wpAny_bind ?_
  show wpAny _ A.in1 (updateSeq s.heap.objs.size (·.push .none) >>= fun _ => updateSeq s.heap.objs.size (·.pop)) _ _ _
  refine wpAny_bind (wpAny_updateSeq hS2 rfl ?_)
  have hS3 := Heap.get?_update_self (Obj.mapSeq (·.push Value.none)) hS2 rfl
  refine wpAny_updateSeq hS3 rfl ?_
  have hS4 := Heap.get?_update_self (Obj.mapSeq (·.pop)) hS3 rfl
  have oth : ∀ b o, b ≠ s.heap.objs.size → h'.get? b = some o → ((h'.update s.heap.objs.size (Obj.mapSeq (·.push Value.none))).update s.heap.objs.size (Obj.mapSeq (·.pop))).get? b = some o :=
    fun b o hb e => (Heap.get?_update_other _ _ (Ne.symm hb)).trans ((Heap.get?_update_other _ _ (Ne.symm hb)).trans e)
  have hW := W A.in1 hh
  refine wpAny_pure ⟨plainId_quiet PySem.F.plain_extend_loop _, codeAny_extend_loopS (hW.toS) hn _ hnf _ ord.length 0 _ _ _ rfl (Nat.zero_le _) (hW.frame 0 h' _ st fun b hb o e => oth b o (fun z => hnf (z ▸ hb)) e) hS4 (ItemsOf.nil _) fun s' acc c' hm hS' hacc => ?_⟩
  show wpAny _ A (load s.heap.objs.size >>= _) _ _ s'
  refine wpAny_bind (wpAny_load hS' ?_)
  have eacc : acc.toList = ord := by
    refine List.ext_getElem (by rw [Array.length_toList]; exact hacc.1) fun i h1 h2 => ?_
    have h1' : i < acc.size := by simpa using h1
    have : ord[i]? = some acc[i] := hacc.2 i acc[i] (Array.getElem?_eq_getElem h1')
    rw [List.getElem?_eq_getElem h2] at this
    rw [Array.getElem_toList]
    exact (Option.some.inj this).symm
  refine wpAny_pure ?_
  show Q acc.toList s'
  rw [eacc]
  have hkp : ∀ b o, s.heap.get? b = some o → s'.heap.get? b = some o := fun b o e => by
    have hb : b ≠ s.heap.objs.size := Nat.ne_of_lt (Heap.lt_size e)
    have hb2 : b ≠ it := by
      intro z
      have := Heap.lt_size e
      rw [z] at this
      have h3 : s.heap.objs.size + 1 ≤ it := by rw [Heap.size_push] at hle; exact hle
      exact absurd (Nat.lt_of_lt_of_le this (Nat.le_of_succ_le h3)) (Nat.lt_irrefl _)
    exact hm.heap b o (by simp [hb, hb2]) (oth b o hb (hk b o (Heap.get?_push_of_some _ e)))
  exact hQ ord s' hP hkp hm.gens hm.os (Nat.le_of_lt (Heap.lt_size hS'))

theorem collect_set {a : Addr} {ks : List Str} {Q : List Value → Shared → Prop} (hh : A.handled = none) (hS : SetStr w s.heap a ks)
    (hQ : ∀ ord s', (ord.map vk).Perm ks → (∀ v ∈ ord, ∃ x t, v = Value.str x t) → (∀ b o, s.heap.get? b = some o → s'.heap.get? b = some o) → s'.gens = s.gens → s'.os = s.os → s.heap.objs.size ≤ s'.heap.objs.size → Q ord s') :
    wpAny (model prog w) A (collect (.ref a)) Q E s := by
  obtain ⟨o, es, ep, t, ho, hex, hd, en⟩ := id hS
  refine collect_by (T := "set") (P := fun ord => (ord.map vk).Perm ks ∧ ∀ v ∈ ord, ∃ x t, v = Value.str x t) (.inl rfl) hh ho hex.1 (fun h1 A' Q1 hk hsz q => ?_) fun ord s' hp => hQ ord s' hp.1 hp.2
  refine iter_set (s := { s with heap := h1 }) (hS.at fun o e => hk a o e) fun ord it fp St h' d p1 p2 p3 p4 p5 p6 p7 => q ord it fp St h' d ?_ p3 p4 p5 p6 ?_ ⟨p1, p2⟩
  · have := p1.length_eq
    rw [List.length_map] at this
    rw [this, ← en.size]
    exact fits_of_scanBound en.bnd
  · intro hm
    have hlt : a < s.heap.objs.size := Heap.lt_size ho
    rcases p7 _ hm with z | z
    · exact absurd hlt (by rw [← z]; exact Nat.lt_irrefl _)
    · have z' : h1.objs.size ≤ s.heap.objs.size := z
      rw [hsz] at z'
      exact absurd z' (Nat.not_succ_le_self _)
end
end SW
namespace IW
open PySem PyProof.Rows SW
def Good (t : SetTable) : Prop := t.place.toList.Pairwise (· < ·) ∧ t.dummies = #[]
section
variable {xs : Array Nat} {j : Nat}
theorem rise_at (h : xs.toList.Pairwise (· < ·)) {i k : Nat} (hik : i < k) (hk : k < xs.size) : xs[i]'(by omega) < xs[k] := by
  have := List.pairwise_iff_getElem.mp h i k (by simp; omega) (by simpa using hk) hik
  simpa using this
theorem go_spec (h : xs.toList.Pairwise (· < ·)) : ∀ (fuel lo hi : Nat), hi - lo ≤ fuel → lo ≤ hi → hi ≤ xs.size → (∀ i (q : i < xs.size), i < lo → xs[i] < j) → (∀ i (q : i < xs.size), hi ≤ i → j ≤ xs[i]) →
    SetTable.below.go xs j fuel lo hi ≤ xs.size ∧ (∀ i (q : i < xs.size), i < SetTable.below.go xs j fuel lo hi → xs[i] < j) ∧ ∀ i (q : i < xs.size), SetTable.below.go xs j fuel lo hi ≤ i → j ≤ xs[i]
  | 0, lo, hi, hf, hl, hs, a, b => by
    unfold SetTable.below.go
    have : lo = hi := by omega
    subst this
    exact ⟨hs, a, b⟩
  | fuel + 1, lo, hi, hf, hl, hs, a, b => by
    unfold SetTable.below.go
    split
    · rename_i hlt
      dsimp only
      have hm : (lo + hi) / 2 < xs.size := by omega
      have e : xs.getD ((lo + hi) / 2) j = xs[(lo + hi) / 2] := by rw [Array.getD_eq_getD_getElem?, Array.getElem?_eq_getElem hm]; rfl
      rw [e]
      split
      · rename_i hc
        refine go_spec h fuel _ _ (by omega) (by omega) hs (fun i q hi' => ?_) b
        rcases Nat.lt_or_ge i ((lo + hi) / 2) with g | g
        · exact Nat.lt_trans (rise_at h g hm) hc
        · have : i = (lo + hi) / 2 := by omega
          subst this
          exact hc
      · rename_i hc
        refine go_spec h fuel _ _ (by omega) (by omega) (by omega) a (fun i q hi' => ?_)
        rcases Nat.lt_or_ge ((lo + hi) / 2) i with g | g
        · have := rise_at h g q
          omega
        · have : i = (lo + hi) / 2 := by omega
          subst this
          omega
    · have : lo = hi := by omega
      subst this
      exact ⟨hs, a, b⟩
theorem below_spec (h : xs.toList.Pairwise (· < ·)) : SetTable.below xs j ≤ xs.size ∧ (∀ i (q : i < xs.size), i < SetTable.below xs j → xs[i] < j) ∧ ∀ i (q : i < xs.size), SetTable.below xs j ≤ i → j ≤ xs[i] := by
  unfold SetTable.below
  exact go_spec h _ _ _ (by omega) (by omega) (Nat.le_refl _) (fun i _ q => by omega) (fun i q g => by omega)
theorem below_eq (h : xs.toList.Pairwise (· < ·)) {r : Nat} (hr : r ≤ xs.size) (a : ∀ i (q : i < xs.size), i < r → xs[i] < j) (b : ∀ i (q : i < xs.size), r ≤ i → j ≤ xs[i]) : SetTable.below xs j = r := by
  obtain ⟨c1, c2, c3⟩ := below_spec (j := j) h
  rcases Nat.lt_trichotomy (SetTable.below xs j) r with g | g | g
  · have h1 := a _ (by omega) g
    have h2 := c3 _ (by omega) (Nat.le_refl _)
    omega
  · exact g
  · have h1 := c2 r (by omega) g
    have h2 := b r (by omega) (Nat.le_refl _)
    omega
theorem rise_put (h : xs.toList.Pairwise (· < ·)) (hn : xs[SetTable.below xs j]? ≠ some j) : (SetTable.insertAt xs (SetTable.below xs j) j).toList.Pairwise (· < ·) := by
  obtain ⟨c1, c2, c3⟩ := below_spec (j := j) h
  rw [SetTable.toList_insertAt]
  generalize SetTable.below xs j = p at *
  have lo : ∀ a ∈ xs.toList.take p, a < j := fun a ha => by
    obtain ⟨i, hi, rfl⟩ := List.getElem_of_mem ha
    rw [List.length_take] at hi
    rw [List.getElem_take]
    have := c2 i (by have := Array.length_toList (xs := xs); omega) (by omega)
    simpa using this
  have hiB : ∀ a ∈ xs.toList.drop p, j < a := fun a ha => by
    obtain ⟨i, hi, rfl⟩ := List.getElem_of_mem ha
    rw [List.length_drop] at hi
    rw [List.getElem_drop]
    have hq : p + i < xs.size := by have := Array.length_toList (xs := xs); omega
    have hge := c3 (p + i) hq (by omega)
    have hx : xs.toList[p + i]'(by rw [Array.length_toList]; exact hq) = xs[p + i] := by simp
    rw [hx]
    rcases Nat.lt_or_ge j xs[p + i] with g | g
    · exact g
    · have ge : xs[p + i] = j := by omega
      rcases Nat.eq_zero_or_pos i with z | z
      · subst z
        exact absurd (by rw [Array.getElem?_eq_getElem (show p < xs.size by omega)]; exact congrArg some ge) hn
      · have h1 := rise_at h (show p < p + i by omega) hq
        have h2 := c3 p (by omega) (Nat.le_refl _)
        omega
  rw [List.pairwise_append]
  refine ⟨h.sublist (List.take_sublist _ _), List.pairwise_cons.mpr ⟨hiB, h.sublist (List.drop_sublist _ _)⟩, fun a ha b hb => ?_⟩
  rcases List.mem_cons.mp hb with rfl | hb
  · exact lo a ha
  · exact Nat.lt_trans (lo a ha) (hiB b hb)
end
theorem has_nil (j : Nat) : SetTable.has #[] j = false := by simp [SetTable.has]
theorem probe_empty {t : SetTable} {hA : Nat → Int} {h : Int} (hd : t.dummies = #[]) : ∀ (fuel : Nat) (p : SetTable.Probe) {j : Nat} {d : Option Nat}, p.dummy = none → SetTable.probe.go t hA h fuel p = some (.empty j d) → d = none ∧ t.place[SetTable.below t.place j]? ≠ some j
  | 0, p, j, d, hp, e => by unfold SetTable.probe.go at e; cases e
  | fuel + 1, p, j, d, hp, e => by
    unfold SetTable.probe.go at e
    have adv : ∀ q : SetTable.Probe, q.dummy = none → (t.advance q).dummy = none := fun q hq => by
      unfold SetTable.advance
      split
      · exact hq
      · exact hq
    split at e
    · rename_i hs
      cases e
      refine ⟨hp, fun z => ?_⟩
      unfold SetTable.slot at hs
      dsimp only at hs
      rw [z] at hs
      simp at hs
    · rename_i hs
      unfold SetTable.slot at hs
      dsimp only at hs
      rw [hd, has_nil] at hs
      split at hs <;> simp at hs
    · split at e
      · cases e
      · exact probe_empty hd fuel _ (adv p hp) e
theorem good_fresh (b : Bool) : Good (.fresh 0 0 b) := ⟨.nil, rfl⟩
theorem good_standIn (t : SetTable) (n : Nat) : Good (t.standIn n) := ⟨by
  show (Array.range n).toList.Pairwise (· < ·)
  rw [Array.toList_range]
  exact List.pairwise_lt_range, rfl⟩
theorem good_or {t : SetTable} (h : Good t) (n : Nat) : Good (t.orStandIn n) := by
  unfold SetTable.orStandIn
  split
  · exact h
  · exact good_standIn t n
theorem good_new {t : SetTable} (g : Good t) (es : Array (Int × Value)) (h : Int) (x : Value) : Good (layNew t es h x).2.1 := by
  unfold layNew
  split
  · rename_i slot wd hf
    dsimp only
    refine good_or ?_ _
    unfold SetTable.freeSlot at hf
    split at hf
    · rename_i j d hp
      unfold SetTable.probe at hp
      obtain ⟨rfl, hn⟩ := probe_empty g.2 _ _ rfl hp
      simp only [Option.getD_none, Option.isSome_none, Option.some.injEq, Prod.mk.injEq] at hf
      obtain ⟨rfl, _⟩ := hf
      refine ⟨rise_put g.1 hn, ?_⟩
      show (if SetTable.has t.dummies j then _ else t.dummies) = #[]
      rw [g.2, has_nil]
      rfl
    · cases hf
  · exact good_standIn t _
theorem live_rise (owner : Array (Option Nat)) (n : Nat) : ((((List.range n).filterMap fun j => (owner.getD j none).map (j, ·)).map (·.1)).toArray).toList.Pairwise (· < ·) := by
  rw [List.toList_toArray, List.pairwise_map, List.pairwise_filterMap]
  refine List.pairwise_lt_range.imp fun {a b} hab x hx y hy => ?_
  cases h1 : owner.getD a none with
  | none => rw [h1] at hx; cases hx
  | some u =>
    cases h2 : owner.getD b none with
    | none => rw [h2] at hy; cases hy
    | some v =>
      rw [h1] at hx
      rw [h2] at hy
      cases hx
      cases hy
      exact hab
theorem good_relay {t : SetTable} (es : Array (Int × Value)) (wanted : Nat) : Good (relayAll t es wanted).2.1 := by
  unfold relayAll
  split
  · rename_i t' order hr
    dsimp only
    split
    · unfold SetTable.relaid SetTable.laid at hr
      cases hl : SetTable.layClean (SetTable.sizeAbove wanted - 1) (es.map (·.1)) with
      | none => rw [hl] at hr; cases hr
      | some owner =>
        rw [hl] at hr
        cases hr
        exact ⟨live_rise owner _, rfl⟩
    · exact good_standIn t _
  · exact good_standIn t _
section
variable {prog : Program} {w : World} {A : Around} {E : Value → Shared → Prop} {s : Shared} {it a : Addr} {n ep i : Nat} {first : Value}
theorem step_table {slot : Nat} {es : Array (Int × Value)} {t : SetTable} {o : Obj} (hb : w.params.followText "set-order" = false) (hl : t.led = true) (ho : s.heap.get? a = some o) (hd : o.data = .set es ep t) (hf : t.fits es.size = true) (hs : ¬ (!t.plain && decide (es.size > 1)) = true) {Q : Option (Value × Nat) → Shared → Prop}
    (h : Q (match es[SetTable.below t.place slot]?, t.place[SetTable.below t.place slot]? with | some (_, x), some j => some (x, j + 1) | _, _ => none) s) : wpAny (model prog w) A (setNext a slot i ep) Q E s := by
  unfold setNext
  refine wpAny_bind (wpAny_setState_of ho hd hf ?_)
  dsimp only
  refine wpAny_bind (by_text ?_)
  rw [if_neg (by rw [hb]; simp)]
  split
  · rename_i z
    exact absurd z hs
  · refine wpAny_bind ?_
    show wpAny _ _ (if (!t.led && !es.isEmpty) = true then unsupported "set:maker-not-led" else pure ()) _ _ _
    rw [if_neg (by rw [hl]; simp)]
    exact wpAny_pure (wpAny_pure h)
def slotT (t : SetTable) (i : Nat) : Nat := if i = 0 then 0 else (t.place[i - 1]?).getD 0 + 1
theorem below_slot {t : SetTable} (g : Good t) {i : Nat} (hi : i ≤ t.place.size) : SetTable.below t.place (slotT t i) = i := by
  unfold slotT
  split
  · rename_i z
    subst z
    exact below_eq g.1 hi (fun i _ q => by omega) fun _ _ _ => Nat.zero_le _
  · rename_i z
    have hlt : i - 1 < t.place.size := by omega
    rw [Array.getElem?_eq_getElem hlt]
    refine below_eq g.1 hi (fun k q hk => ?_) fun k q hk => ?_
    · show t.place[k] < t.place[i - 1] + 1
      rcases Nat.lt_or_ge k (i - 1) with g' | g'
      · have := rise_at g.1 g' hlt
        omega
      · have : k = i - 1 := by omega
        subst this
        omega
    · show t.place[i - 1] + 1 ≤ t.place[k]
      have := rise_at g.1 (show i - 1 < k by omega) q
      omega
def StT (it a : Addr) (o : Obj) (t : SetTable) (n ep : Nat) (i : Nat) (h : Heap) : Prop := SetIt h it (.int ((slotT t i : Nat) : Int) 0) i a n ep ∧ h.get? a = some o ∧ i ≤ n
theorem walk_table {es : Array (Int × Value)} {t : SetTable} {o : Obj} (hh : A.handled = none) (hb : w.params.followText "set-order" = false) (hl : t.led = true) (hd : o.data = .set es ep t) (hf : t.fits es.size = true) (g : Good t) (hs : ¬ (!t.plain && decide (es.size > 1)) = true) (hne : a ≠ it) :
    Walks prog w A it [it, a] [it] (es.toList.map (·.2)).length (fun i v => (es.toList.map (·.2))[i]? = some v) (StT it a o t es.size ep) where
  sub := fun b hb => by simp at hb; simp [hb]
  frame := fun _ _ _ st hk => ⟨st.1.at fun o e => hk it (by simp) o e, hk a (by simp) _ st.2.1, st.2.2⟩
  item := fun i s Q E hi st hQ => by
    have hi' : i < es.size := by simpa using hi
    have hps : t.place.size = es.size := by
      simp only [SetTable.fits, Bool.and_eq_true, beq_iff_eq] at hf
      exact hf.1
    have hp : i < t.place.size := by omega
    refine nx_int (nx := t.place[i] + 1) (x := es[i].2) st.1 st.2.1 hd hf (fun A' E' Q' q => step_table hb hl st.2.1 hd hf hs ?_) fun h' x sb => hQ _ h' s.toks ?_ ⟨?_, (sb.2 a hne).trans st.2.1, hi'⟩ fun b o hb e => (sb.2 b (by simpa using hb)).trans e
    · rw [below_slot g (by omega), Array.getElem?_eq_getElem hi', Array.getElem?_eq_getElem hp]; exact q
    · rw [List.getElem?_map, Array.getElem?_toList, Array.getElem?_eq_getElem hi']; rfl
    · have e : slotT t (i + 1) = t.place[i] + 1 := by
        unfold slotT
        rw [if_neg (by omega), Nat.add_sub_cancel, Array.getElem?_eq_getElem hp]; rfl
      rw [e]; exact x
  done := fun s Q E st hQ => by
    have hps : t.place.size = es.size := by
      simp only [SetTable.fits, Bool.and_eq_true, beq_iff_eq] at hf
      exact hf.1
    refine nx_end hh st.1 st.2.1 hd hf (fun A' E' Q' q => step_table hb hl st.2.1 hd hf hs ?_) fun h' k => hQ h' s.toks fun b o hb e => k b o (by simpa using hb) e
    rw [List.length_map, Array.length_toList, below_slot g (by omega), Array.getElem?_eq_none (Nat.le_refl _)]
    exact q
  self := fun _ _ _ _ st hQ => it_self st.1 hQ
end
end IW
namespace IW
open PySem PyProof.Rows SW
def vk : Value → Int
  | .int x _ => x
  | _ => 0
def stp (ks : List Int) (x : Int) : List Int := if x ∈ ks then ks else ks ++ [x]
theorem stp_in {ks : List Int} {x : Int} (h : x ∈ ks) : stp ks x = ks := if_pos h
theorem stp_out {ks : List Int} {x : Int} (h : ¬ x ∈ ks) : stp ks x = ks ++ [x] := if_neg h
theorem stp_nodup {ks : List Int} (h : ks.Nodup) (x : Int) : (stp ks x).Nodup := by
  unfold stp
  split
  · exact h
  · rename_i hn
    refine List.nodup_append.mpr ⟨h, by simp, fun a ha b hb e => hn ?_⟩
    rw [List.mem_singleton] at hb
    rw [← hb, ← e]; exact ha
/-- a list without what comes again -/
def dd (l : List Int) : List Int := l.foldl stp []
theorem stp_mem {ks : List Int} {x y : Int} : y ∈ stp ks x ↔ y ∈ ks ∨ y = x := by
  unfold stp
  split
  · rename_i h
    exact ⟨.inl, fun z => z.elim id fun e => e ▸ h⟩
  · rw [List.mem_append, List.mem_singleton]
theorem fold_nodup : ∀ (l : List Int) {ks : List Int}, ks.Nodup → (l.foldl stp ks).Nodup
  | [], _, h => h
  | x :: r, _, h => by rw [List.foldl_cons]; exact fold_nodup r (stp_nodup h x)
theorem fold_mem : ∀ (l : List Int) {ks : List Int} {y : Int}, y ∈ l.foldl stp ks ↔ y ∈ ks ∨ y ∈ l
  | [], _, _ => by simp
  | x :: r, ks, y => by
    rw [List.foldl_cons, fold_mem r, stp_mem, List.mem_cons, or_assoc]
theorem dd_nodup (l : List Int) : (dd l).Nodup := fold_nodup l List.nodup_nil
theorem dd_mem {l : List Int} {y : Int} : y ∈ dd l ↔ y ∈ l := by unfold dd; rw [fold_mem]; simp
theorem fold_len : ∀ (l : List Int) {ks : List Int}, (l.foldl stp ks).length ≤ ks.length + l.length
  | [], _ => by simp
  | x :: r, ks => by
    rw [List.foldl_cons]
    have h1 := fold_len r (ks := stp ks x)
    have h2 : (stp ks x).length ≤ ks.length + 1 := by unfold stp; split <;> simp
    rw [List.length_cons]; omega
theorem dd_len (l : List Int) : (dd l).length ≤ l.length := by have := fold_len l (ks := []); simpa [dd] using this

/-- the entries of a set of texts -/
structure Ent (w : World) (es : Array (Int × Value)) (t : SetTable) (ks : List Int) : Prop where
  el : ∀ e ∈ es.toList, ∃ x tk, e = (hashInt x, Value.int x tk)
  perm : (es.toList.map fun e => vk e.2).Perm ks
  nd : ks.Nodup
  bnd : es.size < scanBound
  fit : t.fits es.size = true
  led : w.params.followText "set-order" = false → t.led = true
  gd : Good t
def SetInt (w : World) (h : Heap) (a : Addr) (ks : List Int) : Prop := ∃ o es ep t, h.get? a = some o ∧ o.ExactSet ∧ o.data = .set es ep t ∧ Ent w es t ks
theorem SetInt.at {w : World} {h h' : Heap} {a : Addr} {ks : List Int} (x : SetInt w h a ks) (e : ∀ o, h.get? a = some o → h'.get? a = some o) : SetInt w h' a ks :=
  let ⟨o, es, ep, t, ho, r⟩ := x; ⟨o, es, ep, t, e o ho, r⟩
theorem Ent.size {w : World} {es : Array (Int × Value)} {t : SetTable} {ks : List Int} (x : Ent w es t ks) : es.size = ks.length := by
  have := x.perm.length_eq
  rw [List.length_map, Array.length_toList] at this
  exact this

section
variable {prog : Program} {w : World} {A : Around} {E : Value → Shared → Prop} {s : Shared}
theorem Ent.elems {es : Array (Int × Value)} {t : SetTable} {ks : List Int} (x : Ent w es t ks) : ElemsOf (PySem.intKind prog w) es.toList := fun e he => by
  obtain ⟨y, u, rfl⟩ := x.el e he
  exact ⟨⟨y, by simp [PySem.intKind, Value.isInt], rfl⟩, rfl⟩
theorem add_tail {g : Bool → Sem Unit} (hg : ∀ (b : Bool) (s₁ : Shared) (Q' : Unit → Shared → Prop), Q' () s₁ → wpAny (model prog w) A (g b) Q' E s₁)
    {a : Addr} {o : Obj} {es es1 : Array (Int × Value)} {ep : Nat} {t t2 : SetTable} {ks : List Int} (ho : s.heap.get? a = some o) (hex : o.ExactSet) (hd : o.data = .set es ep t) (en : Ent w es1 t2 ks)
    {wd : Bool} {R : Option Bool → Shared → Prop} (h : ∀ h', Heap.SameBut a s.heap h' → SetInt w h' a ks → R (some true) { s with heap := h' }) :
    wpAny (model prog w) A (do
        storeSet a es1 t2
        if (!wd && t2.tooFull) = true then do
            g (relayAll t2 es1 (SetTable.grown es1.size)).2.2
            storeSet a (relayAll t2 es1 (SetTable.grown es1.size)).1 (relayAll t2 es1 (SetTable.grown es1.size)).2.1
            pure (some true)
          else pure (some true)) R E s := by
  refine wpAny_bind (wpAny_storeSet_of ho hd ?_ (fits_of_scanBound en.bnd))
  have g1 := stored_get (es' := es1) (t' := t2) ho hd
  have sb1 := Heap.SameBut.update s.heap a (Obj.putSet es1 t2)
  split
  · have hp := relayAll_perm t2 es1 (SetTable.grown es1.size)
    have hf := relayAll_fits t2 es1 (SetTable.grown es1.size)
    have hl := relay_led t2 es1 (SetTable.grown es1.size)
    have hq := good_relay (t := t2) es1 (SetTable.grown es1.size)
    generalize relayAll t2 es1 (SetTable.grown es1.size) = z at hp hf hl hq ⊢
    obtain ⟨es2, t3, gave⟩ := z
    dsimp only at hp hf hl hq ⊢
    have hsz : es2.size = es1.size := by rw [← Array.length_toList, hp.length_eq, Array.length_toList]
    refine wpAny_bind (hg _ _ _ ?_)
    refine wpAny_bind (wpAny_storeSet_of g1 rfl ?_ (fits_of_scanBound (by rw [hsz]; exact en.bnd)))
    refine wpAny_pure (h _ (sb1.trans (Heap.SameBut.update _ a _)) ⟨_, es2, ep + 1 + 1, t3, stored_get g1 rfl, hex, rfl, ?_⟩)
    exact ⟨fun e he => en.el e (hp.mem_iff.mp he), (hp.map _).trans en.perm, en.nd, by rw [hsz]; exact en.bnd, hf, fun z => hl.trans (en.led z), hq⟩
  · exact wpAny_pure (h _ sb1 ⟨_, es1, ep + 1, t2, g1, hex, rfl, en⟩)

theorem add_int {a : Addr} {ks : List Int} {x : Int} {tk : Tok} {Q : Bool → Shared → Prop} (hS : SetInt w s.heap a ks) (hroom : ks.length + 1 < scanBound)
    (h : ∀ h' b, Heap.SameBut a s.heap h' → SetInt w h' a (stp ks x) → Q b { s with heap := h' }) : wpAny (model prog w) A (setAddHashed a (.int x tk) (hashInt x)) Q E s := by
  obtain ⟨o, es, ep, t, ho, hex, hd, en⟩ := hS
  have E0 : ElemsOf (PySem.intKind prog w) es.toList := en.elems
  have hk : (PySem.intKind prog w).is x (.int x tk) = true := by simp [PySem.intKind, Value.isInt]
  have hin : ∀ e ∈ es.toList, ((PySem.intKind prog w).is x e.2 = true ↔ vk e.2 = x) := fun e he => by
    obtain ⟨y, u, rfl⟩ := en.el e he
    constructor
    · intro q
      obtain ⟨u', q'⟩ := Value.isInt_shape (k := x) (v := Value.int y u) q
      cases q'; rfl
    · intro q
      have q' : y = x := q
      subst q'
      simp [PySem.intKind, Value.isInt]
  have hmem : x ∈ ks ↔ ∃ e ∈ es.toList, (PySem.intKind prog w).is x e.2 = true := by
    rw [← en.perm.mem_iff, List.mem_map]
    exact ⟨fun ⟨e, he, q⟩ => ⟨e, he, (hin e he).mpr q⟩, fun ⟨e, he, q⟩ => ⟨e, he, (hin e he).mp q⟩⟩
  unfold setAddHashed setAddHashedIn
  refine wpAny_holding (wpAny_bind (wpAny_setState_of ho hd en.fit ?_))
  dsimp only
  rw [byScan_of (knd := PySem.intKind prog w) rfl en.bnd E0]
  simp only [↓reduceIte]
  unfold setAddByScan
  refine wpAny_bind (wpAny_bind (wpAny_rule (wpAny_bind (wpAny_setScan_of (knd := PySem.intKind prog w) (k := x) hk ho hd en.fit E0 ?_))))
  cases hr : List.findIdx? (fun e => (PySem.intKind prog w).is x e.2) es.toList with
  | some j =>
    dsimp only
    obtain ⟨hj, hpj, _⟩ := List.findIdx?_eq_some_iff_getElem.mp hr
    have hx : x ∈ ks := hmem.mpr ⟨es.toList[j], List.getElem_mem hj, hpj⟩
    refine wpAny_pure (wpAny_pure ?_)
    exact h s.heap false (Heap.SameBut.refl a s.heap) (by rw [stp_in hx]; exact ⟨o, es, ep, t, ho, hex, hd, en⟩)
  | none =>
    dsimp only
    have hx : ¬ x ∈ ks := fun z => by
      obtain ⟨e, he, q⟩ := hmem.mp z
      have := List.findIdx?_eq_none_iff.mp hr e he
      rw [q] at this; cases this
    have hgw : ∀ (b : Bool) {s₁ : Shared} {Q' : Unit → Shared → Prop}, Q' () s₁ → wpAny (model prog w) A (match b with | true => rule "set.scan.the-table-gave-way" | false => pure ()) Q' E s₁ :=
      fun b s₁ Q' hq => by cases b <;> first | exact wpAny_pure hq | exact wpAny_rule hq
    have hperm := layNew_perm t es (hashInt x) (.int x tk)
    have hfits := layNew_fits t es (hashInt x) (.int x tk)
    have hled := new_led t es (hashInt x) (.int x tk)
    have hgd := good_new en.gd es (hashInt x) (.int x tk)
    generalize hL : layNew t es (hashInt x) (.int x tk) = z at hperm hfits hled hgd
    obtain ⟨es1, t1, wd, gave⟩ := z
    dsimp only at hperm hfits hled hgd ⊢
    rw [Array.toList_push] at hperm
    have hsz : es1.size = es.size + 1 := by rw [← Array.length_toList, hperm.length_eq, List.length_append, Array.length_toList]; rfl
    have en1 : ∀ t2 : SetTable, t2.fits es1.size = true → t2.led = t1.led → Good t2 → Ent w es1 t2 (stp ks x) := fun t2 f l p => by
      rw [stp_out hx]
      refine ⟨fun e he => ?_, ?_, ?_, ?_, f, fun z => l.trans (hled.trans (en.led z)), p⟩
      · rcases List.mem_append.mp (hperm.mem_iff.mp he) with he | he
        · exact en.el e he
        · rw [List.mem_singleton] at he
          exact ⟨x, tk, he⟩
      · refine (hperm.map _).trans ?_
        rw [List.map_append]
        exact en.perm.append_right _
      · have := stp_nodup en.nd x
        rwa [stp_out hx] at this
      · rw [hsz, en.size]; exact hroom
    refine wpAny_bind (hgw _ ?_)
    by_cases hpl : t1.plain = true
    · rw [if_pos hpl]
      refine wpAny_bind ?_
      rw [hashByValue_scannable 8 (x := Value.int x tk) rfl]
      refine wpAny_pure ?_
      refine add_tail (ks := stp ks x) ?_ ho hex hd (en1 _ hfits rfl hgd) ?_
      · intro b s₁ Q' hq; cases b <;> first | exact wpAny_pure hq | exact wpAny_rule hq
      · intro h' sb hS'; dsimp only; exact wpAny_pure (h h' true sb hS')
    · rw [if_neg hpl]
      refine wpAny_bind (wpAny_pure ?_)
      simp only [↓reduceIte]
      refine add_tail (ks := stp ks x) ?_ ho hex hd (en1 _ hfits rfl hgd) ?_
      · intro b s₁ Q' hq; cases b <;> first | exact wpAny_pure hq | exact wpAny_rule hq
      · intro h' sb hS'; dsimp only; exact wpAny_pure (h h' true sb hS')
end
section
variable {prog : Program} {w : World} {A : Around} {R : Result → Shared → Prop} {I : Addr} {fp wr : List Addr} {G : Array GenState → Array GenState → Prop} {n : Nat} {P : Nat → Value → Prop} {St : Nat → Shared → Prop}
def met (val : Nat → Int) (i : Nat) : List Int := dd ((List.range i).map val)
theorem met_succ (val : Nat → Int) (i : Nat) : met val (i + 1) = stp (met val i) (val i) := by
  unfold met dd; rw [List.range_succ, List.map_append, List.foldl_append]; rfl
theorem met_len (val : Nat → Int) (i : Nat) : (met val i).length ≤ i := by
  have := dd_len ((List.range i).map val)
  rw [List.length_map, List.length_range] at this
  exact this
theorem upd_loop (W : WalksS prog w A.in1 I fp wr G n P St) (S : Addr) (hSf : S ∉ fp) (val : Nat → Int) (hval : ∀ i v, P i v → ∃ t, v = .int (val i) t) (hb : n + 1 < scanBound) :
    ∀ (k i : Nat) (s : Shared), n - i = k → i ≤ n → St i s → SetInt w s.heap S (met val i) →
      (∀ s', Moved (S :: wr) G s s' → SetInt w s'.heap S (met val n) → R (.ok (.ret .none)) s') →
      codeAny (model prog w) A (.builtin "set.update.loop" ⟨[.ref S, .ref I], []⟩) R s := by
  have hSw : S ∉ wr := fun h => hSf (W.sub _ h)
  have hsub : ∀ b ∈ wr, b ∈ S :: wr := fun b hb => List.mem_cons_of_mem _ hb
  intro k
  induction k with
  | zero =>
    intro i s hk hi hst hS hR
    have hin : i = n := by omega
    subst hin
    refine codeAny_builtin PyProof.Rows.F.entry_set_update_loop ?_
    rw [Around.under_plainId PyProof.Rows.F.plain_set_update_loop _]
    show wpAny _ A.in1 (pyNext (.ref I) >>= _) _ _ s
    refine wpAny_bind (W.done s _ _ hst fun s' hm => ?_)
    show wpAny _ A.in1 (ret Value.none) _ _ s'
    exact wpAny_pure (hR s' (hm.mono hsub) (hS.at fun o e => hm.heap S _ hSw e))
  | succ k ih =>
    intro i s hk hi hst hS hR
    have hlt : i < n := by omega
    refine codeAny_builtin PyProof.Rows.F.entry_set_update_loop ?_
    rw [Around.under_plainId PyProof.Rows.F.plain_set_update_loop _]
    show wpAny _ A.in1 (pyNext (.ref I) >>= _) _ _ s
    refine wpAny_bind (W.item i s _ _ hlt hst fun v s' hP hst' hm => ?_)
    obtain ⟨t, rfl⟩ := hval i v hP
    have hS' : SetInt w s'.heap S (met val i) := hS.at fun o e => hm.heap S _ hSw e
    show wpAny _ A.in1 (holding [Value.int (val i) t] (setAdd S (.int (val i) t)) >>= _) _ _ s'
    refine wpAny_bind (wpAny_holding ?_)
    unfold setAdd
    refine wpAny_holding ?_
    refine wpAny_bind (wpAny_pyHash_int ?_)
    have hroom : (met val i).length + 1 < scanBound := by have := met_len val i; omega
    refine add_int (s := { s' with toks := s'.toks + 1 }) hS' hroom fun h' b hsb hS2 => ?_
    have hSi : SetInt w h' S (met val (i + 1)) := by rw [met_succ]; exact hS2
    refine wpAny_pure ⟨plainId_quiet PyProof.Rows.F.plain_set_update_loop _, ih (i + 1) _ (by omega) hlt (W.frame _ s' _ _ hst' (Nat.le_succ _) fun b hb o e => ?_) hSi fun s'' hm'' hS'' => ?_⟩
    · rw [hsb.2 b (fun h : b = S => hSf (by rw [← h]; exact hb))]; exact e
    · refine hR s'' (Moved.trans W.gtrans ((hm.mono hsub).then_heap (Nat.le_succ _) fun b o hb e => ?_) hm'') hS''
      rw [hsb.2 b (fun h : b = S => hb (by rw [h]; exact List.mem_cons_self))]; exact e
end
section
variable {prog : Program} {w : World} {A : Around} {E : Value → Shared → Prop} {s : Shared}
theorem new_ent : SetInt w (s.heap.push (newSetObj w)) s.heap.objs.size [] :=
  ⟨_, #[], 0, _, Heap.get?_push_size _ rfl, ⟨rfl, rfl, rfl⟩, rfl, fun e he => by simp at he, by simp, List.nodup_nil, by decide, by rfl, fun z => by rw [z]; rfl, good_fresh _⟩
set_option maxRecDepth 100000 in
set_option maxHeartbeats 4000000 in
theorem call_set_ints {l : Addr} {items : Array Value} {xs : List Int} {Q : Value → Shared → Prop} (hh : A.handled = none) (hl : s.heap.IsList l items) (hi : ∀ (i : Nat) v, items[i]? = some v → ∃ t, v = .int (xs.getD i 0) t) (hn : items.size = xs.length) (hb : xs.length + 1 < scanBound)
    (h : ∀ (h' : Heap) (tk : Nat), SetInt w h' s.heap.objs.size (dd xs) → (∀ b o, b < s.heap.objs.size → s.heap.get? b = some o → h'.get? b = some o) → Q (.ref s.heap.objs.size) { s with heap := h', toks := tk }) :
    wpAny (model prog w) A (call (.type "set") [.ref l]) Q E s := by
  have emet : met (fun i => xs.getD i 0) items.size = dd xs := by
    unfold met
    congr 1
    rw [hn]
    refine List.ext_getElem (by simp) fun i h1 h2 => ?_
    simp only [List.getElem_map, List.getElem_range]
    rw [List.getD_eq_getElem?_getD, List.getElem?_eq_getElem h2]
    rfl
  obtain ⟨c, tl, hmro⟩ := PySem.F.called_set.mro
  have hmade := PySem.F.called_set.made
  have hsub := PySem.F.called_set.sub
  refine wpAny_call (codeAny_of_tree ?_)
  show wpAny _ _ (callAny (.type "set") _) _ _ _
  refine wpAny_pure ⟨Code.quiet_builtin _ (by decide +kernel), codeAny_builtin PySem.F.entry_type_call ?_⟩
  rw [Around.under_plain (weight_type_call_type "set" [.ref l] []) rfl]
  have h1 := PySem.F.called_set.notType
  have h2 := PySem.F.called_set.canCreate
  have hct := PySem.F.typeCall_set_1 (.ref l)
  repeat (any_goals (first | assumption | wp_step))
  refine codeAny_mono (set_new_led (.ref l) (E := E) (Q1 := fun obj s1 => obj = .ref s.heap.objs.size ∧ s1 = { s with heap := s.heap.push (newSetObj w) }) ⟨rfl, rfl⟩) fun r s1 hr => ?_
  cases r with
  | error e => exact hr
  | ok fl =>
    cases fl with
    | ret obj =>
      obtain ⟨rfl, rfl⟩ := hr
      have hS : (s.heap.push (newSetObj w)).get? s.heap.objs.size = some (newSetObj w) := Heap.get?_push_size _ rfl
      have hT : Shared.TypeIs { s with heap := s.heap.push (newSetObj w) } (.ref s.heap.objs.size) "set" := ⟨_, hS, rfl⟩
      have hli := PySem.F.called_set.init.lookup
      have hbi := PySem.F.called_set.init.bind (.ref s.heap.objs.size)
      repeat (any_goals (first | assumption | wp_step))
      refine codeAny_mono (codeAny_call_builtin (R := wants (fun r s2 => r = .none ∧ ∃ h' tk, s2 = { s with heap := h', toks := tk } ∧ SetInt w h' s.heap.objs.size (dd xs) ∧
          (∀ b o, b < s.heap.objs.size → s.heap.get? b = some o → h'.get? b = some o)) E) PySem.F.called_set.init.plain PySem.F.entry_set_init (check_set_init_1 hT ?_)) fun r2 s2 hr2 => ?_
      · obtain ⟨ol, hol, hcl, nl, hdl⟩ := hl
        obtain ⟨ocls, odict, odata, oslots⟩ := ol
        simp only at hcl hdl
        subst hcl; subst hdl
        have hol' : (s.heap.push (newSetObj w)).get? l = some { cls := .type "list", dict := odict, data := .seq items nl, slots := oslots } := Heap.get?_push_of_some _ hol
        have hsls := PySem.F.sub_list_set
        have hslf := PySem.F.sub_list_frozenset
        have hne : (Value.type "list" == Value.type "dict") = false := by decide
        have hl1 : (s.heap.push (newSetObj w)).IsList l items := ⟨_, hol', rfl, nl, rfl⟩
        unfold Builtin.«set.__init__» noKeywords Builtin.Frozenset.updateFrom
        generalize hPI : pyIter = PI
        wp_walk
        subst hPI
        refine wpAny_pyIter_list hl1 ?_
        refine wpAny_bind (wpAny_runValue ?_)
        have hlS : l < s.heap.objs.size := Heap.lt_size hol
        have hh3 : A.in1.in1.in1.handled = none := by simp [hh]
        have hneI : l ≠ (s.heap.push (newSetObj w)).objs.size := by
          rw [Heap.size_push]; exact Nat.ne_of_lt (Nat.lt_succ_of_lt hlS)
        have hSf : s.heap.objs.size ∉ [(s.heap.push (newSetObj w)).objs.size, l] := by
          rw [Heap.size_push]; simp only [List.mem_cons, List.mem_singleton, List.not_mem_nil, or_false, not_or]
          exact ⟨Nat.ne_of_lt (Nat.lt_succ_self _), Nat.ne_of_gt hlS⟩
        refine upd_loop ((Walks.list hh3 _ l hneI items).toS) s.heap.objs.size hSf (fun i => xs.getD i 0) hi (by rw [hn]; exact hb) (items.size - 0) 0 _ (by omega) (Nat.zero_le _)
          ⟨⟨_, Heap.get?_push_size _ rfl, rfl, rfl⟩, (hl1.push _)⟩ ?hS0 ?hR
        case hS0 => exact SetInt.at (new_ent (s := s)) fun o e => Heap.get?_push_of_some _ e
        case hR =>
          intro s' hm hS'
          rw [emet] at hS'
          obtain ⟨h', g', d', tk', os'⟩ := s'
          have eg : g' = s.gens := hm.gens
          have ed : d' = s.drawn := hm.drawn
          have eo : os' = s.os := hm.os
          subst eg; subst ed; subst eo
          show wpAny _ _ _ _ _ _
          refine wpAny_pure ?_
          show wpAny _ _ (ret Value.none) _ _ _
          refine wpAny_pure ⟨rfl, h', tk', rfl, hS', fun b o hb e => ?_⟩
          have hb1 : b ≠ s.heap.objs.size := Nat.ne_of_lt hb
          have hb2 : b ≠ (s.heap.push (newSetObj w)).objs.size := by
            rw [Heap.size_push]; exact Nat.ne_of_lt (Nat.lt_succ_of_lt hb)
          exact hm.heap b o (by simp only [List.mem_cons, List.mem_singleton, List.not_mem_nil, or_false, not_or]; exact ⟨hb1, hb2⟩) (Heap.get?_push_of_some _ (Heap.get?_push_of_some _ e))
      · cases r2 with
        | error e => exact hr2
        | ok fl2 =>
          cases fl2 with
          | ret r =>
            obtain ⟨rfl, h', tk, rfl, hS', hk'⟩ := hr2
            repeat (any_goals (first | assumption | wp_step))
            exact h _ _ hS' hk'
          | _ => exact hr2.elim
    | _ => exact hr.elim
end
section
variable {prog : Program} {w : World} {A : Around} {E : Value → Shared → Prop} {s : Shared}
theorem Ent.ints {es : Array (Int × Value)} {t : SetTable} {ks : List Int} (x : Ent w es t ks) : ∀ v ∈ es.toList.map (·.2), ∃ y u, v = Value.int y u := fun v hv => by
  obtain ⟨e, he, rfl⟩ := List.mem_map.mp hv
  obtain ⟨y, u, rfl⟩ := x.el e he
  exact ⟨y, u, rfl⟩
theorem iter_set {a : Addr} {ks : List Int} {Q : Value → Shared → Prop} (hS : SetInt w s.heap a ks)
    (hQ : ∀ (ord : List Value) (it : Addr) (fp : List Addr) (St : Nat → Heap → Prop) (h' : Heap) (d : Drawn), (ord.map vk).Perm ks → (∀ v ∈ ord, ∃ x t, v = Value.int x t) → (∀ b o, s.heap.get? b = some o → h'.get? b = some o) →
      (∀ A' : Around, A'.handled = none → Walks prog w A' it fp [it] ord.length (fun i v => ord[i]? = some v) St) → St 0 h' → s.heap.objs.size ≤ it → (∀ b ∈ fp, b = a ∨ s.heap.objs.size ≤ b) → Q (.ref it) { s with heap := h', drawn := d }) :
    wpAny (model prog w) A (pyIter (.ref a)) Q E s := by
  obtain ⟨o, es, ep, t, ho, hex, hd, en⟩ := hS
  have hT : s.TypeIs (.ref a) "set" := ⟨o, ho, hex.1⟩
  have hlt : a < s.heap.objs.size := Heap.lt_size ho
  refine wpAny_pyIter_slot hT PySem.F.slot_set_iter (wpAny_call_entry PySem.F.slot_set_iter hT en_set_iter ?_ (PySem.F.args_set_iter_1 _))
  unfold Builtin.«frozenset.__iter__» Builtin.Frozenset.slot0 slotArgs
  simp only [List.isEmpty_nil, Bool.not_true, Bool.false_eq_true, ↓reduceIte, bind_assoc, List.length_nil, bne_self_eq_false]
  unfold Builtin.Frozenset.addrOf Builtin.Frozenset.sizeOf
  refine wpAny_bind (wpAny_pure ?_)
  try dsimp only
  refine wpAny_bind (wpAny_pure ?_)
  refine wpAny_bind (wpAny_bind (wpAny_setEntries_of ho hd en.fit (wpAny_pure ?_)))
  unfold setDrawn
  refine wpAny_bind (wpAny_bind (wpAny_setState_of ho hd en.fit ?_))
  dsimp only
  refine wpAny_bind (by_text (wpAny_pure ?_))
  have fin : ∀ (first : Value) (h1 : Heap) (d : Drawn) (Q1 : Value → Shared → Prop), h1.get? a = some o → Q1 (.ref h1.objs.size) { s with heap := h1.push { cls := .type "set_iterator", data := .fields #[first, .int ((0 : Nat) : Int) 0, .ref a, .int es.size 0, .int ep 0] }, drawn := d } →
      wpAny (model prog w) A.in1 (do
        let e ← setEpoch a
        let v ← newFields "set_iterator" [first, rawInt 0, Value.ref a, rawInt (es.size : Int), rawInt (e : Int)]
        ret v) (fun fin s' => ∃ v, fin = PySem.Fin.done (Flow.ret v) ∧ ∃ T' r, s'.TypeIs v T' ∧ typeLookup (Value.type T') (Str.ofString "__next__") = pure (some r) ∧ Q1 v s') E { s with heap := h1, drawn := d } := by
    intro first h1 d Q1 hg hq
    refine wpAny_bind (wpAny_setEpoch_of (s := { s with heap := h1, drawn := d }) hg hd en.fit ?_)
    unfold newFields
    refine wpAny_bind (wpAny_newObj_type (wpAny_pure ⟨_, rfl, "set_iterator", _, ⟨_, Heap.get?_push_size _ rfl, rfl⟩, sl_next.lookup, ?_⟩))
    exact hq
  split
  · rename_i z
    have z' : (!w.params.followText "set-order" && (!t.plain && decide (es.size > 1))) = true := z
    refine wpAny_bind (draw_any es.size (List.range es.size) (by simp) fun ps d hp => ?_)
    refine wpAny_bind (wpAny_newTuple ?_ (hsz := by rw [List.length_map, hp.length_eq, List.length_range]; exact fits_of_scanBound en.bnd))
    have hps : ∀ k ∈ ps, k < es.size := fun k hk => List.mem_range.mp (hp.mem_iff.mp hk)
    have hga := Heap.get?_push_of_some (seqObj "tuple" (placesOf ps) 0) ho
    refine fin (.ref s.heap.objs.size) (s.heap.push (seqObj "tuple" (placesOf ps) 0)) d Q hga ?_
    have e1 : (drawnOrd es ps).Perm (es.toList.map (·.2)) := by
      unfold drawnOrd
      refine (hp.map _).trans (List.Perm.of_eq ?_)
      refine List.ext_getElem (by simp) fun i h1 h2 => ?_
      have hi : i < es.size := by simpa using h2
      simp only [List.getElem_map, List.getElem_range, Array.getElem_toList]
      rw [Array.getD_eq_getD_getElem?, Array.getElem?_eq_getElem hi]
      rfl
    refine hQ (drawnOrd es ps) (s.heap.push (seqObj "tuple" (placesOf ps) 0)).objs.size [(s.heap.push (seqObj "tuple" (placesOf ps) 0)).objs.size, a, s.heap.objs.size] (StC (s.heap.push (seqObj "tuple" (placesOf ps) 0)).objs.size a s.heap.objs.size o (seqObj "tuple" (placesOf ps) 0) es.size ep) _ d ?_ ?_ ?_ ?_ ?_ ?_ ?_
    · have e0 : ((es.toList.map (·.2)).map vk).Perm ks := by rw [List.map_map]; exact en.perm
      exact (e1.map vk).trans e0
    · exact fun v hv => en.ints v (e1.mem_iff.mp hv)
    · exact fun b o e => Heap.get?_push_of_some _ (Heap.get?_push_of_some _ e)
    · exact fun A' hA => walk_drawn hA hd en.fit rfl hps (by rw [size_push']; exact Nat.ne_of_lt (Nat.lt_succ_of_lt hlt)) (by rw [size_push']; exact Nat.ne_of_lt (Nat.lt_succ_self _))
    · exact ⟨⟨_, Heap.get?_push_size _ rfl, rfl, rfl⟩, Heap.get?_push_of_some _ hga, Heap.get?_push_of_some _ (Heap.get?_push_size _ rfl)⟩
    · rw [size_push']; exact Nat.le_succ _
    · intro b hb
      simp only [List.mem_cons, List.not_mem_nil, or_false] at hb
      rcases hb with rfl | rfl | rfl
      · right; rw [size_push']; exact Nat.le_succ _
      · exact .inl rfl
      · exact .inr (Nat.le_refl _)
  · rename_i z
    have z' : ¬ (!w.params.followText "set-order" && (!t.plain && decide (es.size > 1))) = true := z
    refine wpAny_bind (wpAny_pure ?_)
    refine fin (rawInt 0) s.heap s.drawn Q ho ?_
    have hne : a ≠ s.heap.objs.size := Nat.ne_of_lt hlt
    have hk : ∀ b o, s.heap.get? b = some o → (s.heap.push { cls := .type "set_iterator", data := .fields #[rawInt 0, .int ((0 : Nat) : Int) 0, .ref a, .int es.size 0, .int ep 0] }).get? b = some o := fun b o e => Heap.get?_push_of_some _ e
    have hfp : ∀ b ∈ [s.heap.objs.size, a], b = a ∨ s.heap.objs.size ≤ b := fun b hb => by
      simp only [List.mem_cons, List.not_mem_nil, or_false] at hb
      rcases hb with rfl | rfl
      · exact .inr (Nat.le_refl _)
      · exact .inl rfl
    cases hb : w.params.followText "set-order" with
    | true =>
      have e1 : ((pickOrder (w.params.setOrder a ep) es).toList.map (·.2)).Perm (es.toList.map (·.2)) := (pick_perm _ es).map _
      refine hQ _ s.heap.objs.size [s.heap.objs.size, a] (StA s.heap.objs.size a o es.size ep) _ s.drawn ((e1.map vk).trans (by rw [List.map_map]; exact en.perm)) (fun v hv => en.ints v (e1.mem_iff.mp hv)) hk (fun A' hA => walk_text hA hb hd en.fit hne) ⟨⟨_, Heap.get?_push_size _ rfl, rfl, rfl⟩, hk _ _ ho⟩ (Nat.le_refl _) hfp
    | false =>
      have hs : ¬ (!t.plain && decide (es.size > 1)) = true := by
        rw [hb] at z'
        simpa using z'
      refine hQ _ s.heap.objs.size [s.heap.objs.size, a] (StT s.heap.objs.size a o t es.size ep) _ s.drawn (by rw [List.map_map]; exact en.perm) en.ints hk (fun A' hA => walk_table hA hb (en.led hb) hd en.fit en.gd hs hne) ⟨⟨_, Heap.get?_push_size _ rfl, rfl, rfl⟩, hk _ _ ho, Nat.zero_le _⟩ (Nat.le_refl _) hfp

theorem collect_set {a : Addr} {ks : List Int} {Q : List Value → Shared → Prop} (hh : A.handled = none) (hS : SetInt w s.heap a ks)
    (hQ : ∀ ord s', (ord.map vk).Perm ks → (∀ v ∈ ord, ∃ x t, v = Value.int x t) → (∀ b o, s.heap.get? b = some o → s'.heap.get? b = some o) → s'.gens = s.gens → s'.os = s.os → s.heap.objs.size ≤ s'.heap.objs.size → Q ord s') :
    wpAny (model prog w) A (collect (.ref a)) Q E s := by
  obtain ⟨o, es, ep, t, ho, hex, hd, en⟩ := id hS
  refine collect_by (T := "set") (P := fun ord => (ord.map vk).Perm ks ∧ ∀ v ∈ ord, ∃ x t, v = Value.int x t) (.inl rfl) hh ho hex.1 (fun h1 A' Q1 hk hsz q => ?_) fun ord s' hp => hQ ord s' hp.1 hp.2
  refine iter_set (s := { s with heap := h1 }) (hS.at fun o e => hk a o e) fun ord it fp St h' d p1 p2 p3 p4 p5 p6 p7 => q ord it fp St h' d ?_ p3 p4 p5 p6 ?_ ⟨p1, p2⟩
  · have := p1.length_eq
    rw [List.length_map] at this
    rw [this, ← en.size]
    exact fits_of_scanBound en.bnd
  · intro hm
    have hlt : a < s.heap.objs.size := Heap.lt_size ho
    rcases p7 _ hm with z | z
    · exact absurd hlt (by rw [← z]; exact Nat.lt_irrefl _)
    · have z' : h1.objs.size ≤ s.heap.objs.size := z
      rw [hsz] at z'
      exact absurd z' (Nat.not_succ_le_self _)
end
end IW
set_option linter.all false
namespace MA
theorem mem_unique {α : Type} {R : α → α → Prop} (irr : ∀ a, ¬ R a a) (tr : ∀ a b c, R a b → R b c → R a c) : ∀ {l₁ l₂ : List α}, l₁.Pairwise R → l₂.Pairwise R → (∀ x, x ∈ l₁ ↔ x ∈ l₂) → l₁ = l₂
  | [], [], _, _, _ => rfl
  | [], b :: l₂, _, _, h => by have := (h b).mpr List.mem_cons_self; cases this
  | a :: l₁, [], _, _, h => by have := (h a).mp List.mem_cons_self; cases this
  | a :: l₁, b :: l₂, h1, h2, h => by
    rw [List.pairwise_cons] at h1 h2
    have e : a = b := by
      rcases List.mem_cons.mp ((h a).mp List.mem_cons_self) with e | ha
      · exact e
      · rcases List.mem_cons.mp ((h b).mpr List.mem_cons_self) with e | hb
        · exact e.symm
        · exact absurd (tr _ _ _ (h1.1 b hb) (h2.1 a ha)) (irr a)
    subst e
    refine congrArg (a :: ·) (mem_unique irr tr h1.2 h2.2 fun x => ⟨fun hx => ?_, fun hx => ?_⟩)
    · rcases List.mem_cons.mp ((h x).mp (List.mem_cons_of_mem _ hx)) with e | z
      · subst e; exact absurd (h1.1 x hx) (irr x)
      · exact z
    · rcases List.mem_cons.mp ((h x).mpr (List.mem_cons_of_mem _ hx)) with e | z
      · subst e; exact absurd (h2.1 x hx) (irr x)
      · exact z
theorem nodup_of {α : Type} {R : α → α → Prop} (irr : ∀ a, ¬ R a a) {l : List α} (h : l.Pairwise R) : l.Nodup :=
  h.imp fun {a b} r e => by subst e; exact irr a r
/-- what is ordered and has no twice is strictly ordered -/
theorem strict {α : Type} {R Le : α → α → Prop} (hs : ∀ a b, Le a b → a ≠ b → R a b) {l : List α} (h : l.Pairwise Le) (hn : l.Nodup) : l.Pairwise R :=
  (h.and hn).imp fun {a b} z => hs a b z.1 z.2
/-- as many as a list without twice, and all of it there: the same but for the order -/
theorem perm_of_sub {α : Type} [DecidableEq α] : ∀ {d l : List α}, d.Nodup → (∀ x ∈ d, x ∈ l) → l.length ≤ d.length → l.Perm d
  | [], l, _, _, h => by
    have : l = [] := List.eq_nil_of_length_eq_zero (by simpa using h)
    subst this; exact .nil
  | a :: d, l, hn, hs, h => by
    rw [List.nodup_cons] at hn
    have ha : a ∈ l := hs a List.mem_cons_self
    have p : l.Perm (a :: l.erase a) := List.perm_cons_erase ha
    refine p.trans (.cons a (perm_of_sub hn.2 (fun x hx => ?_) ?_))
    · have hx' := hs x (List.mem_cons_of_mem _ hx)
      have ne : x ≠ a := fun e => hn.1 (e ▸ hx)
      exact (List.mem_erase_of_ne ne).mpr hx'
    · rw [List.length_erase_of_mem ha]
      rw [List.length_cons] at h
      omega

def plt (a b : List Nat) : Prop := a.length < b.length ∨ (a.length = b.length ∧ a < b)
theorem plt_irr (a : List Nat) : ¬ plt a a := by
  rintro (h | ⟨_, h⟩)
  · omega
  · exact List.lt_irrefl a h
theorem plt_trans (a b c : List Nat) : plt a b → plt b c → plt a c := by
  rintro (h | ⟨e, h⟩) (k | ⟨f, k⟩)
  · exact .inl (by omega)
  · exact .inl (by omega)
  · exact .inl (by omega)
  · exact .inr ⟨e.trans f, List.lt_trans h k⟩
end MA
set_option linter.all false
namespace MB
open MA
/-- x begins at place i of t -/
def At (x t : List Nat) (i : Nat) : Prop := i + x.length ≤ t.length ∧ (t.drop i).take x.length = x
def PartOf (x t : List Nat) : Prop := ∃ i, At x t i
def slc (t : List Nat) (i k : Nat) : List Nat := (t.drop i).take k
theorem slc_len {t : List Nat} {i k : Nat} (h : i + k ≤ t.length) : (slc t i k).length = k := by
  unfold slc
  rw [List.length_take, List.length_drop]; omega
theorem slc_at {t : List Nat} {i k : Nat} (h : i + k ≤ t.length) : At (slc t i k) t i := by
  refine ⟨by rw [slc_len h]; exact h, ?_⟩
  rw [slc_len h]; rfl
theorem At.slc {x t : List Nat} {i : Nat} (h : At x t i) : slc t i x.length = x := h.2
theorem PartOf.len {x t : List Nat} (h : PartOf x t) : x.length ≤ t.length := by obtain ⟨i, h⟩ := h; have := h.1; omega
theorem part_nil (t : List Nat) : PartOf [] t := ⟨0, by simp [At]⟩
theorem eq_iff_at {x t : List Nat} {i : Nat} (hi : i ≤ t.length) : slc t i x.length = x ↔ At x t i := by
  constructor
  · intro h
    refine ⟨?_, h⟩
    have := congrArg List.length h
    unfold MB.slc at this
    rw [List.length_take, List.length_drop] at this
    omega
  · exact fun h => h.2
structure IsParts (t : List Nat) (ps : List (List Nat)) : Prop where
  ord : ps.Pairwise plt
  mem : ∀ x, x ∈ ps ↔ PartOf x t
theorem IsParts.uniq {t : List Nat} {a b : List (List Nat)} (h : IsParts t a) (k : IsParts t b) : a = b := mem_unique plt_irr plt_trans h.ord k.ord fun x => (h.mem x).trans (k.mem x).symm
theorem IsParts.nil {t : List Nat} {a : List (List Nat)} (h : IsParts t a) : [] ∈ a := (h.mem []).mpr (part_nil t)
def slices (t : List Nat) (k : Nat) : List (List Nat) := (List.range (t.length - k + 1)).map fun i => slc t i k
theorem mem_slices {t x : List Nat} {k : Nat} (hk : k ≤ t.length) : x ∈ slices t k ↔ PartOf x t ∧ x.length = k := by
  unfold slices
  rw [List.mem_map]
  constructor
  · rintro ⟨i, hi, rfl⟩
    rw [List.mem_range] at hi
    exact ⟨⟨i, slc_at (by omega)⟩, slc_len (by omega)⟩
  · rintro ⟨⟨i, h⟩, e⟩
    exact ⟨i, List.mem_range.mpr (by have := h.1; omega), by rw [← e]; exact h.2⟩
/-- the parts of fewer than k letters -/
structure Upto (t : List Nat) (k : Nat) (ps : List (List Nat)) : Prop where
  ord : ps.Pairwise plt
  mem : ∀ x, x ∈ ps ↔ PartOf x t ∧ x.length < k
theorem Upto.zero (t : List Nat) : Upto t 0 [] := ⟨.nil, fun x => by simp⟩
theorem Upto.succ {t : List Nat} {k : Nat} {ps qs : List (List Nat)} (h : Upto t k ps) (hk : k ≤ t.length) (ho : qs.Pairwise (· < ·)) (hm : ∀ x, x ∈ qs ↔ x ∈ slices t k) : Upto t (k + 1) (ps ++ qs) := by
  have hl : ∀ x ∈ qs, x.length = k := fun x hx => ((mem_slices hk).mp ((hm x).mp hx)).2
  refine ⟨List.pairwise_append.mpr ⟨h.ord, ?_, fun x hx y hy => .inl ?_⟩, fun x => ?_⟩
  · exact ho.imp_of_mem fun {a b} ha hb z => .inr ⟨(hl a ha).trans (hl b hb).symm, z⟩
  · rw [hl y hy]; exact ((h.mem x).mp hx).2
  · rw [List.mem_append, h.mem, hm, mem_slices hk]
    constructor
    · rintro (⟨a, b⟩ | ⟨a, b⟩)
      · exact ⟨a, by omega⟩
      · exact ⟨a, by omega⟩
    · rintro ⟨a, b⟩
      rcases Nat.lt_or_ge x.length k with c | c
      · exact .inl ⟨a, c⟩
      · exact .inr ⟨a, by omega⟩
theorem Upto.all {t : List Nat} {ps : List (List Nat)} (h : Upto t (t.length + 1) ps) : IsParts t ps :=
  ⟨h.ord, fun x => (h.mem x).trans ⟨fun z => z.1, fun z => ⟨z, by have := z.len; omega⟩⟩⟩

end MB
set_option linter.all false
namespace MC
open MA MB
end MC
namespace MT
def whereN (t x : List Nat) : List Nat := (List.range (t.length + 1)).filter fun i => decide (MB.slc t i x.length = x)
end MT
set_option linter.all false
namespace MM
open MA MB
section
variable {α : Type} [DecidableEq α]
def stp (ks : List α) (x : α) : List α := if x ∈ ks then ks else ks ++ [x]
def firsts (l : List α) : List α := l.foldl stp []
theorem firsts_snoc (l : List α) (x : α) : firsts (l ++ [x]) = stp (firsts l) x := by unfold firsts; rw [List.foldl_append]; rfl
theorem stp_mem {ks : List α} {x y : α} : y ∈ stp ks x ↔ y ∈ ks ∨ y = x := by
  unfold stp
  split
  · rename_i h
    exact ⟨.inl, fun z => z.elim id fun e => e ▸ h⟩
  · simp
theorem stp_nodup {ks : List α} (h : ks.Nodup) (x : α) : (stp ks x).Nodup := by
  unfold stp
  split
  · exact h
  · rename_i hx
    rw [List.nodup_append]
    exact ⟨h, by simp, fun a ha b hb e => hx (by rw [List.mem_singleton] at hb; rw [← hb, ← e]; exact ha)⟩
theorem fold_mem : ∀ (l : List α) {ks : List α} {y : α}, y ∈ l.foldl stp ks ↔ y ∈ ks ∨ y ∈ l
  | [], ks, y => by simp
  | x :: l, ks, y => by rw [List.foldl_cons, fold_mem l, stp_mem, List.mem_cons, or_assoc]
theorem fold_nodup : ∀ (l : List α) {ks : List α}, ks.Nodup → (l.foldl stp ks).Nodup
  | [], _, h => h
  | x :: l, _, h => fold_nodup l (stp_nodup h x)
theorem firsts_mem {l : List α} {y : α} : y ∈ firsts l ↔ y ∈ l := by unfold firsts; rw [fold_mem]; simp
theorem firsts_nodup (l : List α) : (firsts l).Nodup := fold_nodup l List.nodup_nil
theorem stp_pre (ks : List α) (x : α) : ∃ r, stp ks x = ks ++ r := by
  unfold stp
  split
  · exact ⟨[], by simp⟩
  · exact ⟨[x], rfl⟩
theorem fold_pre : ∀ (l : List α) (ks : List α), ∃ r, l.foldl stp ks = ks ++ r
  | [], ks => ⟨[], by simp⟩
  | x :: l, ks => by
    obtain ⟨r, h⟩ := stp_pre ks x
    obtain ⟨q, h2⟩ := fold_pre l (stp ks x)
    exact ⟨r ++ q, by rw [List.foldl_cons, h2, h, List.append_assoc]⟩
theorem firsts_pre (l m : List α) : ∃ r, firsts (l ++ m) = firsts l ++ r := by
  unfold firsts
  rw [List.foldl_append]
  exact fold_pre m _
def ix (l : List α) (x : α) : Nat := @List.idxOf α instBEqOfDecidableEq x l
theorem idx_pre {l r : List α} {x : α} (h : x ∈ l) : ix (l ++ r) x = ix l x := by
  unfold ix
  rw [List.idxOf_append, if_pos h]
theorem idx_lt {l : List α} {x : α} (h : x ∈ l) : ix l x < l.length := by unfold ix; exact List.idxOf_lt_length_of_mem h
theorem idx_at {l : List α} {x : α} (h : x ∈ l) : l[ix l x]? = some x := by
  rw [List.getElem?_eq_getElem (idx_lt h)]
  unfold ix
  exact congrArg some (List.getElem_idxOf _)
theorem idx_inj {l : List α} {x y : α} (hx : x ∈ l) (hy : y ∈ l) (h : ix l x = ix l y) : x = y := by
  have e1 := idx_at hx
  have e2 := idx_at hy
  rw [h, e2] at e1
  exact (Option.some.inj e1).symm
theorem idx_new {l : List α} {x : α} (h : x ∉ l) : ix (l ++ [x]) x = l.length := by
  unfold ix
  rw [List.idxOf_append, if_neg h]
  simp
theorem idx_of {l : List α} (nd : l.Nodup) {i : Nat} {x : α} (h : l[i]? = some x) : ix l x = i := by
  have hx : x ∈ l := List.mem_of_getElem? h
  have h1 := idx_at hx
  have hi := (List.getElem?_eq_some_iff.mp h).1
  have q := idx_lt hx
  rw [List.getElem?_eq_getElem q] at h1
  rw [List.getElem?_eq_getElem hi] at h
  have e : l[ix l x] = l[i] := by rw [Option.some.inj h1, Option.some.inj h]
  rcases Nat.lt_trichotomy (ix l x) i with z | z | z
  · exact absurd e (List.pairwise_iff_getElem.mp nd _ _ q hi z)
  · exact z
  · exact absurd e.symm (List.pairwise_iff_getElem.mp nd _ _ hi q z)
end
def ends (t x : List Nat) : List Nat := (MT.whereN t x).map (· + x.length)
theorem mem_ends {t x : List Nat} {e : Nat} : e ∈ ends t x ↔ x.length ≤ e ∧ At x t (e - x.length) := by
  unfold ends MT.whereN
  rw [List.mem_map]
  constructor
  · rintro ⟨i, hi, rfl⟩
    rw [List.mem_filter, List.mem_range, decide_eq_true_eq] at hi
    refine ⟨by omega, ?_⟩
    rw [Nat.add_sub_cancel]
    exact (eq_iff_at (by omega)).mp hi.2
  · rintro ⟨h1, h2⟩
    have := h2.1
    refine ⟨e - x.length, ?_, by omega⟩
    rw [List.mem_filter, List.mem_range, decide_eq_true_eq]
    exact ⟨by omega, h2.slc⟩
theorem ends_le {t x : List Nat} {e : Nat} (h : e ∈ ends t x) : e ≤ t.length := by
  obtain ⟨h1, h2⟩ := mem_ends.mp h
  have := h2.1
  omega
theorem ends_ord (t x : List Nat) : (ends t x).Pairwise (· < ·) := by
  unfold ends MT.whereN
  rw [List.pairwise_map]
  exact (List.pairwise_lt_range.filter _).imp fun {a b} h => by omega
theorem ends_ext {t x y : List Nat} : ends t x = ends t y ↔ ∀ e, e ∈ ends t x ↔ e ∈ ends t y :=
  ⟨fun h e => by rw [h], fun h => mem_unique (fun a => Nat.lt_irrefl a) (fun a b c => Nat.lt_trans) (ends_ord t x) (ends_ord t y) h⟩
theorem at_snoc {t x : List Nat} {c i : Nat} : At (x ++ [c]) t i ↔ At x t i ∧ t[i + x.length]? = some c := by
  unfold At
  rw [List.length_append, List.length_singleton, List.take_succ, List.getElem?_drop]
  constructor
  · rintro ⟨h1, h2⟩
    have hl : ((t.drop i).take x.length).length = x.length := by rw [List.length_take, List.length_drop]; omega
    obtain ⟨a, b⟩ := List.append_inj h2 hl
    refine ⟨⟨by omega, a⟩, ?_⟩
    rw [List.getElem?_eq_getElem (by omega)] at b ⊢
    simpa using b
  · rintro ⟨⟨h1, h2⟩, h3⟩
    have := (List.getElem?_eq_some_iff.mp h3).1
    refine ⟨by omega, ?_⟩
    rw [h2, h3]
    rfl
theorem ends_snoc {t x : List Nat} {c e : Nat} : e ∈ ends t (x ++ [c]) ↔ ∃ d, e = d + 1 ∧ d ∈ ends t x ∧ t[d]? = some c := by
  rw [mem_ends, List.length_append, List.length_singleton, at_snoc]
  constructor
  · rintro ⟨h1, h2, h3⟩
    refine ⟨e - 1, by omega, mem_ends.mpr ⟨by omega, by rw [show e - 1 - x.length = e - (x.length + 1) by omega]; exact h2⟩, ?_⟩
    rw [← h3]; congr 1; omega
  · rintro ⟨d, rfl, h1, h2⟩
    obtain ⟨h3, h4⟩ := mem_ends.mp h1
    refine ⟨by omega, by rw [show d + 1 - (x.length + 1) = d - x.length by omega]; exact h4, ?_⟩
    rw [← h2]; congr 1; omega
theorem ends_snoc_eq {t x y : List Nat} {c : Nat} (h : ends t x = ends t y) : ends t (x ++ [c]) = ends t (y ++ [c]) := by
  rw [ends_ext]
  intro e
  rw [ends_snoc, ends_snoc, h]
theorem part_iff {t x : List Nat} : PartOf x t ↔ ends t x ≠ [] := by
  constructor
  · rintro ⟨i, h⟩ e
    have : i + x.length ∈ ends t x := mem_ends.mpr ⟨by omega, by rw [Nat.add_sub_cancel]; exact h⟩
    rw [e] at this
    cases this
  · intro h
    obtain ⟨e, he⟩ := List.exists_mem_of_ne_nil _ h
    exact ⟨_, (mem_ends.mp he).2⟩
theorem part_of_ends {t x y : List Nat} (h : ends t x = ends t y) (hx : PartOf x t) : PartOf y t := by
  rw [part_iff] at hx ⊢
  rw [← h]; exact hx
theorem part_init {t x : List Nat} {c : Nat} (h : PartOf (x ++ [c]) t) : PartOf x t := by
  obtain ⟨i, h⟩ := h
  exact ⟨i, (at_snoc.mp h).1⟩
theorem tail_part {t : List Nat} {i : Nat} (hi : i ≤ t.length) : PartOf (t.drop i) t := ⟨i, by rw [List.length_drop]; omega, by rw [List.take_of_length_le (Nat.le_refl _)]⟩
def cls (t : List Nat) (ps : List (List Nat)) : List (List Nat) := firsts (ps.map (ends t))
def rm (t : List Nat) (ps : List (List Nat)) (x : List Nat) : Nat := ix (cls t ps) (ends t x)
section
variable {t : List Nat} {ps : List (List Nat)}
theorem cls_mem {x : List Nat} (h : x ∈ ps) : ends t x ∈ cls t ps := by unfold cls; exact firsts_mem.mpr (List.mem_map.mpr ⟨x, h, rfl⟩)
theorem cls_nodup (t : List Nat) (ps : List (List Nat)) : (cls t ps).Nodup := firsts_nodup _
theorem cls_len {l : List (List Nat)} : (cls t l).length ≤ l.length := by
  unfold cls
  have : ∀ (m ks : List (List Nat)), (m.foldl stp ks).length ≤ ks.length + m.length := fun m => by
    induction m with
    | nil => intro ks; simp
    | cons x m ih =>
      intro ks
      rw [List.foldl_cons, List.length_cons]
      have h1 := ih (stp ks x)
      have h2 : (stp ks x).length ≤ ks.length + 1 := by
        unfold stp
        split
        · omega
        · rw [List.length_append, List.length_singleton]; omega
      omega
  have := this (l.map (ends t)) []
  rw [List.length_map] at this
  simpa [firsts] using this
theorem rm_lt {x : List Nat} (h : x ∈ ps) : rm t ps x < (cls t ps).length := idx_lt (cls_mem h)
theorem rm_eq {x y : List Nat} (hx : x ∈ ps) (hy : y ∈ ps) : rm t ps x = rm t ps y ↔ ends t x = ends t y :=
  ⟨fun h => idx_inj (cls_mem hx) (cls_mem hy) h, fun h => by unfold rm; rw [h]⟩
theorem rm_all {r : Nat} (h : r < (cls t ps).length) : ∃ x ∈ ps, rm t ps x = r := by
  have hm : (cls t ps)[r] ∈ cls t ps := List.getElem_mem h
  obtain ⟨x, hx, e⟩ := List.mem_map.mp (firsts_mem.mp hm)
  refine ⟨x, hx, ?_⟩
  unfold rm
  rw [e]
  exact idx_of (firsts_nodup _) (List.getElem?_eq_getElem h)
theorem rm_snoc {l : List (List Nat)} {x : List Nat} : cls t (l ++ [x]) = stp (cls t l) (ends t x) := by
  unfold cls
  rw [List.map_append]
  exact firsts_snoc _ _
theorem rm_pre {l m : List (List Nat)} {x : List Nat} (h : x ∈ l) : rm t (l ++ m) x = rm t l x := by
  unfold rm cls
  rw [List.map_append]
  obtain ⟨r, e⟩ := firsts_pre (l.map (ends t)) (m.map (ends t))
  rw [e]
  exact idx_pre (firsts_mem.mpr (List.mem_map.mpr ⟨x, h, rfl⟩))
end
end MM
set_option linter.all false
namespace MM
open MA MB
section
variable {t : List Nat} {ps : List (List Nat)}
/-- what the machine's rooms and ends are -/
structure IsMach (t : List Nat) (ps : List (List Nat)) (rooms : List (List (List Nat × Int))) (es : List Int) : Prop where
  len : rooms.length = (cls t ps).length
  srt : ∀ L ∈ rooms, L.Pairwise fun a b => a.1 < b.1
  mem : ∀ (r : Nat) L, rooms[r]? = some L → ∀ z, z ∈ L ↔ ∃ x c, z = ([c], ((rm t ps (x ++ [c]) : Nat) : Int)) ∧ PartOf (x ++ [c]) t ∧ rm t ps x = r
  eord : es.Pairwise (· < ·)
  emem : ∀ e, e ∈ es ↔ ∃ i, i ≤ t.length ∧ e = ((rm t ps (t.drop i) : Nat) : Int)
theorem parts_head (P : IsParts t ps) : ∃ m, ps = [] :: m := by
  cases ps with
  | nil => have := P.nil; cases this
  | cons y m =>
    refine ⟨m, ?_⟩
    rcases List.mem_cons.mp P.nil with e | e
    · rw [e]
    · have := (List.pairwise_cons.mp P.ord).1 [] e
      rcases this with h | ⟨_, h⟩
      · simp at h
      · exact absurd h (by simp)
theorem rm_nil (P : IsParts t ps) : rm t ps [] = 0 := by
  obtain ⟨m, rfl⟩ := parts_head P
  have := rm_pre (t := t) (l := [[]]) (m := m) (x := []) (by simp)
  rw [List.singleton_append] at this
  rw [this]
  unfold rm cls firsts ix
  simp [stp]
/-- the room of a new end-set, of an old one -/
theorem rm_new {l m : List (List Nat)} {x : List Nat} (h : ends t x ∉ cls t l) : rm t (l ++ x :: m) x = (cls t l).length := by
  have e : l ++ x :: m = (l ++ [x]) ++ m := by simp
  rw [e, rm_pre (by simp)]
  unfold rm
  rw [rm_snoc]
  unfold stp
  rw [if_neg h]
  exact idx_new h
theorem rm_old {l m : List (List Nat)} {x : List Nat} (h : ends t x ∈ cls t l) : ix (cls t l) (ends t x) = rm t (l ++ m) x := by
  unfold rm cls
  rw [List.map_append]
  obtain ⟨r, e⟩ := firsts_pre (l.map (ends t)) (m.map (ends t))
  rw [e]
  exact (idx_pre h).symm
variable {rooms : List (List (List Nat × Int))} {es : List Int}
theorem IsMach.room (M : IsMach t ps rooms es) {x : List Nat} (h : x ∈ ps) : ∃ L, rooms[rm t ps x]? = some L := ⟨_, List.getElem?_eq_getElem (by rw [M.len]; exact rm_lt h)⟩
theorem IsMach.line (M : IsMach t ps rooms es) (P : IsParts t ps) {x : List Nat} {c : Nat} {L : List (List Nat × Int)} (hL : rooms[rm t ps x]? = some L) (h : PartOf (x ++ [c]) t) : ([c], ((rm t ps (x ++ [c]) : Nat) : Int)) ∈ L :=
  (M.mem _ L hL _).mpr ⟨x, c, rfl, h, rfl⟩
theorem IsMach.back (M : IsMach t ps rooms es) (P : IsParts t ps) {x : List Nat} (hx : x ∈ ps) {l : List Nat} {g : Int} {L : List (List Nat × Int)} (hL : rooms[rm t ps x]? = some L) (h : (l, g) ∈ L) :
    ∃ c, l = [c] ∧ PartOf (x ++ [c]) t ∧ g = ((rm t ps (x ++ [c]) : Nat) : Int) := by
  obtain ⟨y, c, e, hp, hr⟩ := (M.mem _ L hL _).mp h
  cases e
  have hy : y ∈ ps := (P.mem y).mpr (part_init hp)
  have he : ends t y = ends t x := (rm_eq hy hx).mp hr
  have he2 := ends_snoc_eq (c := c) he
  refine ⟨c, rfl, part_of_ends he2 hp, ?_⟩
  congr 1
  exact (rm_eq ((P.mem _).mpr hp) ((P.mem _).mpr (part_of_ends he2 hp))).mpr he2
theorem IsMach.form (M : IsMach t ps rooms es) (P : IsParts t ps) {L : List (List Nat × Int)} (hL : L ∈ rooms) {z : List Nat × Int} (hz : z ∈ L) : (∃ c, z.1 = [c] ∧ ∃ x, PartOf (x ++ [c]) t) ∧ 0 ≤ z.2 ∧ z.2 < (rooms.length : Int) := by
  obtain ⟨r, hr⟩ := List.mem_iff_getElem?.mp hL
  obtain ⟨x, c, rfl, hp, _⟩ := (M.mem r L hr z).mp hz
  have := rm_lt (t := t) ((P.mem _).mpr hp)
  refine ⟨⟨c, rfl, x, hp⟩, by show (0 : Int) ≤ ((rm t ps (x ++ [c]) : Nat) : Int); omega, ?_⟩
  show ((rm t ps (x ++ [c]) : Nat) : Int) < (rooms.length : Int)
  rw [M.len]; omega
theorem IsMach.pos (M : IsMach t ps rooms es) (P : IsParts t ps) : 0 < rooms.length := by
  have := rm_lt (t := t) P.nil
  rw [M.len]; omega
end
end MM
set_option linter.all false
namespace MM
open MA MB
section
variable {t : List Nat} {ps : List (List Nat)}
structure Wd (t : List Nat) (ps : List (List Nat)) (r : Nat) (l : List (List Nat)) (zs : List (List Nat × Int)) : Prop where
  nd : zs.Pairwise fun a b => a.1 ≠ b.1
  mem : ∀ z, z ∈ zs ↔ ∃ x c, x ++ [c] ∈ l ∧ rm t ps x = r ∧ z = ([c], ((rm t ps (x ++ [c]) : Nat) : Int))
  len : zs.length ≤ l.length
theorem Wd.nil (r : Nat) : Wd t ps r [] [] := ⟨.nil, fun z => by simp, Nat.le_refl _⟩
theorem Wd.skip {r : Nat} {l : List (List Nat)} {zs : List (List Nat × Int)} (h : Wd t ps r l zs) : Wd t ps r (l ++ [[]]) zs := ⟨h.nd, fun z => by
  rw [h.mem]
  constructor
  · rintro ⟨x, c, a, b⟩
    exact ⟨x, c, List.mem_append_left _ a, b⟩
  · rintro ⟨x, c, a, b⟩
    refine ⟨x, c, ?_, b⟩
    rcases List.mem_append.mp a with a | a
    · exact a
    · simp at a, by rw [List.length_append]; have := h.len; omega⟩
theorem Wd.other {r : Nat} {l : List (List Nat)} {zs : List (List Nat × Int)} (h : Wd t ps r l zs) {x : List Nat} {c : Nat} (hr : rm t ps x ≠ r) : Wd t ps r (l ++ [x ++ [c]]) zs := ⟨h.nd, fun z => by
  rw [h.mem]
  constructor
  · rintro ⟨x, c, a, b⟩
    exact ⟨x, c, List.mem_append_left _ a, b⟩
  · rintro ⟨y, d, a, b⟩
    refine ⟨y, d, ?_, b⟩
    rcases List.mem_append.mp a with a | a
    · exact a
    · rw [List.mem_singleton] at a
      have := (List.append_inj' a rfl).1
      rw [this] at b
      exact absurd b.1 hr, by rw [List.length_append]; have := h.len; omega⟩
theorem Wd.same {r : Nat} {l : List (List Nat)} {zs : List (List Nat × Int)} (h : Wd t ps r l zs) {x : List Nat} {c : Nat} (hr : rm t ps x = r) (hm : ([c], ((rm t ps (x ++ [c]) : Nat) : Int)) ∈ zs) : Wd t ps r (l ++ [x ++ [c]]) zs := ⟨h.nd, fun z => by
  constructor
  · intro hz
    obtain ⟨y, d, a, b⟩ := (h.mem z).mp hz
    exact ⟨y, d, List.mem_append_left _ a, b⟩
  · rintro ⟨y, d, a, b1, rfl⟩
    rcases List.mem_append.mp a with a | a
    · exact (h.mem _).mpr ⟨y, d, a, b1, rfl⟩
    · rw [List.mem_singleton] at a
      obtain ⟨e1, e2⟩ := List.append_inj' a rfl
      cases e2
      rw [e1]
      exact hm, by rw [List.length_append]; have := h.len; omega⟩
theorem Wd.new {r : Nat} {l : List (List Nat)} {zs : List (List Nat × Int)} (h : Wd t ps r l zs) {x : List Nat} {c : Nat} (hr : rm t ps x = r) (hn : ∀ z ∈ zs, z.1 ≠ [c]) : Wd t ps r (l ++ [x ++ [c]]) (zs ++ [([c], ((rm t ps (x ++ [c]) : Nat) : Int))]) := ⟨by
  rw [List.pairwise_append]
  exact ⟨h.nd, by simp, fun a ha b hb => by rw [List.mem_singleton] at hb; rw [hb]; exact hn a ha⟩, fun z => by
  rw [List.mem_append, h.mem, List.mem_singleton]
  constructor
  · rintro (⟨y, d, a, b⟩ | rfl)
    · exact ⟨y, d, List.mem_append_left _ a, b⟩
    · exact ⟨x, c, by simp, hr, rfl⟩
  · rintro ⟨y, d, a, b1, rfl⟩
    rcases List.mem_append.mp a with a | a
    · exact .inl ⟨y, d, a, b1, rfl⟩
    · rw [List.mem_singleton] at a
      obtain ⟨e1, e2⟩ := List.append_inj' a rfl
      cases e2
      rw [e1]
      exact .inr rfl, by rw [List.length_append, List.length_append, List.length_singleton, List.length_singleton]; have := h.len; omega⟩
theorem Wd.cases {r : Nat} {l : List (List Nat)} {zs : List (List Nat × Int)} (h : Wd t ps r l zs) (P : IsParts t ps) (hl : ∀ y ∈ l, y ∈ ps) {x : List Nat} {c : Nat} (hx : x ++ [c] ∈ ps) (hr : rm t ps x = r) :
    ([c], ((rm t ps (x ++ [c]) : Nat) : Int)) ∈ zs ∨ ∀ z ∈ zs, z.1 ≠ [c] := by
  by_cases q : ∃ z ∈ zs, z.1 = [c]
  · obtain ⟨z, hz, e⟩ := q
    obtain ⟨y, d, a, b, rfl⟩ := (h.mem z).mp hz
    obtain rfl : d = c := by have e' : [d] = [c] := e; injection e'
    have py := (P.mem _).mp (hl _ a)
    have px := (P.mem _).mp hx
    have he : ends t y = ends t x := (rm_eq ((P.mem _).mpr (part_init py)) ((P.mem _).mpr (part_init px))).mp (by rw [b, hr])
    have he2 := ends_snoc_eq (c := d) he
    have : rm t ps (y ++ [d]) = rm t ps (x ++ [d]) := (rm_eq (hl _ a) hx).mpr he2
    rw [this] at hz
    exact .inl hz
  · exact .inr fun z hz e => q ⟨z, hz, e⟩
/-- the machine, as it was made -/
theorem mach_of (P : IsParts t ps) {Z : Nat → List (List Nat × Int)} {rooms : List (List (List Nat × Int))} {es : List Int} (hZ : ∀ r, r < (cls t ps).length → Wd t ps r ps (Z r)) (hl : rooms.length = (cls t ps).length)
    (hr : ∀ (r : Nat) L, rooms[r]? = some L → L.Perm (Z r) ∧ L.Pairwise fun a b => a.1 < b.1) (he : es.Pairwise (· < ·)) (hm : ∀ e, e ∈ es ↔ ∃ i, i ≤ t.length ∧ e = ((rm t ps (t.drop i) : Nat) : Int)) : IsMach t ps rooms es where
  len := hl
  srt := fun L hL => by
    obtain ⟨r, h⟩ := List.mem_iff_getElem?.mp hL
    exact (hr r L h).2
  mem := fun r L h z => by
    have hlt : r < (cls t ps).length := by rw [← hl]; exact (List.getElem?_eq_some_iff.mp h).1
    rw [(hr r L h).1.mem_iff, (hZ r hlt).mem]
    constructor
    · rintro ⟨x, c, a, b, e⟩
      exact ⟨x, c, e, (P.mem _).mp a, b⟩
    · rintro ⟨x, c, e, a, b⟩
      exact ⟨x, c, (P.mem _).mpr a, b, e⟩
  eord := he
  emem := hm
/-- pairs in order, letters apart -/
theorem max_room (P : IsParts t ps) {m : Int} (h1 : m ∈ ps.map fun x => ((rm t ps x : Nat) : Int)) (h2 : ∀ n ∈ ps.map (fun x => ((rm t ps x : Nat) : Int)), n ≤ m) : (m + 1).toNat = (cls t ps).length ∧ 0 ≤ m := by
  obtain ⟨x, hx, rfl⟩ := List.mem_map.mp h1
  have hlt := rm_lt (t := t) hx
  obtain ⟨y, hy, e⟩ := rm_all (t := t) (ps := ps) (r := (cls t ps).length - 1) (by omega)
  have := h2 _ (List.mem_map.mpr ⟨y, hy, rfl⟩)
  rw [e] at this
  omega
end
end MM
set_option linter.all false
namespace MM
open MA MB
theorem len_sub {α : Type} [DecidableEq α] {l m : List α} (h : l.Nodup) (hs : ∀ x ∈ l, x ∈ m) : l.length ≤ m.length := by
  rcases Nat.lt_or_ge m.length l.length with g | g
  · have := (perm_of_sub h hs (Nat.le_of_lt g)).length_eq
    omega
  · exact g
theorem len_out {α : Type} [DecidableEq α] {l : List α} (h : l.Nodup) (a : α) : l.length ≤ (l.filter fun x => decide (x ≠ a)).length + 1 := by
  have : ∀ x ∈ l, x ∈ a :: l.filter fun x => decide (x ≠ a) := fun x hx => by
    by_cases e : x = a
    · rw [e]; exact List.mem_cons_self
    · exact List.mem_cons_of_mem _ (List.mem_filter.mpr ⟨hx, decide_eq_true e⟩)
  have := len_sub h this
  rwa [List.length_cons] at this
theorem ends_suf {t x : List Nat} {e : Nat} : e ∈ ends t x ↔ e ≤ t.length ∧ x <:+ t.take e := by
  rw [mem_ends]
  unfold At
  constructor
  · rintro ⟨h1, h2, h3⟩
    refine ⟨by omega, t.take (e - x.length), ?_⟩
    have : t.take e = t.take (e - x.length) ++ (t.drop (e - x.length)).take x.length := by
      rw [← List.take_add]
      congr 1; omega
    rw [this, h3]
  · rintro ⟨h1, h2⟩
    have hl := h2.length_le
    rw [List.length_take] at hl
    refine ⟨by omega, by omega, ?_⟩
    have e1 := List.suffix_iff_eq_drop.mp h2
    rw [List.length_take, Nat.min_eq_left h1, List.drop_take] at e1
    rw [show e - (e - x.length) = x.length by omega] at e1
    exact e1.symm
theorem suf_ends {t x z : List Nat} (h : x <:+ z) {e : Nat} (he : e ∈ ends t z) : e ∈ ends t x := by
  rw [ends_suf] at he ⊢
  exact ⟨he.1, h.trans he.2⟩
theorem both_end {t x y : List Nat} {e : Nat} (hx : e ∈ ends t x) (hy : e ∈ ends t y) (h : x.length ≤ y.length) : x <:+ y := List.suffix_of_suffix_length_le (ends_suf.mp hx).2 (ends_suf.mp hy).2 h
/-- the classes of all slices -/
def allp (t : List Nat) : List (List Nat) := (List.range (t.length + 1)).flatMap fun i => (List.range (t.length + 1)).map fun k => slc t i k
def CL (t : List Nat) : List (List Nat) := firsts ((allp t).map (ends t))
theorem mem_CL {t s : List Nat} : s ∈ CL t ↔ ∃ x, PartOf x t ∧ s = ends t x := by
  unfold CL
  rw [firsts_mem, List.mem_map]
  constructor
  · rintro ⟨x, hx, rfl⟩
    refine ⟨x, ?_, rfl⟩
    unfold allp at hx
    rw [List.mem_flatMap] at hx
    obtain ⟨i, hi, hx⟩ := hx
    obtain ⟨k, hk, rfl⟩ := List.mem_map.mp hx
    have hi' := List.mem_range.mp hi
    refine ⟨i, ?_, ?_⟩
    · unfold slc; rw [List.length_take, List.length_drop]; omega
    · unfold slc
      rw [List.length_take, List.length_drop]
      rcases Nat.le_total k (t.length - i) with g | g
      · rw [Nat.min_eq_left g]
      · rw [Nat.min_eq_right g, List.take_of_length_le (by rw [List.length_drop]; exact Nat.le_refl _), List.take_of_length_le (by rw [List.length_drop]; exact g)]
  · rintro ⟨x, ⟨i, h1, h2⟩, rfl⟩
    refine ⟨x, ?_, rfl⟩
    unfold allp
    rw [List.mem_flatMap]
    exact ⟨i, List.mem_range.mpr (by omega), List.mem_map.mpr ⟨x.length, List.mem_range.mpr (by omega), h2⟩⟩
theorem nodup_CL (t : List Nat) : (CL t).Nodup := firsts_nodup _
theorem CL_cls {t : List Nat} {ps : List (List Nat)} (P : IsParts t ps) : (cls t ps).length = (CL t).length := by
  have m : ∀ s, s ∈ cls t ps ↔ s ∈ CL t := fun s => by
    rw [mem_CL]
    unfold cls
    rw [firsts_mem, List.mem_map]
    exact ⟨fun ⟨x, hx, e⟩ => ⟨x, (P.mem x).mp hx, e.symm⟩, fun ⟨x, hx, e⟩ => ⟨x, (P.mem x).mpr hx, e.symm⟩⟩
  have a := len_sub (cls_nodup t ps) fun s hs => (m s).mp hs
  have b := len_sub (nodup_CL t) fun s hs => (m s).mpr hs
  omega
section
variable {t : List Nat} {c : Nat}
theorem take_snoc {e : Nat} (h : e ≤ t.length) : (t ++ [c]).take e = t.take e := List.take_append_of_le_length h
theorem ends_more {x : List Nat} {e : Nat} : e ∈ ends (t ++ [c]) x ↔ e ∈ ends t x ∨ (e = t.length + 1 ∧ x <:+ t ++ [c]) := by
  rw [ends_suf, ends_suf]
  have hl : (t ++ [c]).length = t.length + 1 := by simp
  rw [hl]
  constructor
  · rintro ⟨h1, h2⟩
    rcases Nat.lt_or_ge t.length e with g | g
    · have : e = t.length + 1 := by omega
      subst this
      rw [List.take_of_length_le (by rw [hl]; exact Nat.le_refl _)] at h2
      exact .inr ⟨rfl, h2⟩
    · rw [take_snoc g] at h2
      exact .inl ⟨g, h2⟩
  · rintro (⟨h1, h2⟩ | ⟨rfl, h2⟩)
    · exact ⟨by omega, by rw [take_snoc h1]; exact h2⟩
    · exact ⟨Nat.le_refl _, by rw [List.take_of_length_le (by rw [hl]; exact Nat.le_refl _)]; exact h2⟩
def cutE (n : Nat) (s : List Nat) : List Nat := s.filter fun e => decide (e ≤ n)
theorem cutE_ends (x : List Nat) : cutE t.length (ends (t ++ [c]) x) = ends t x := by
  refine mem_unique (R := (· < ·)) (fun a => Nat.lt_irrefl a) (fun a b c => Nat.lt_trans) ((ends_ord _ _).filter _) (ends_ord _ _) fun e => ?_
  unfold cutE
  rw [List.mem_filter, ends_more, decide_eq_true_eq]
  constructor
  · rintro ⟨h | ⟨h, _⟩, h2⟩
    · exact h
    · omega
  · intro h
    exact ⟨.inl h, ends_le h⟩
theorem longest_old (t : List Nat) (c : Nat) : ∃ z, z <:+ t ++ [c] ∧ PartOf z t ∧ ∀ y, y <:+ t ++ [c] → PartOf y t → y.length ≤ z.length := by
  have key : ∀ k : Nat, (∃ z, z <:+ t ++ [c] ∧ PartOf z t ∧ z.length ≤ k ∧ ∀ y, y <:+ t ++ [c] → PartOf y t → y.length ≤ k → y.length ≤ z.length) := by
    intro k
    induction k with
    | zero => exact ⟨[], List.nil_suffix, part_nil t, Nat.le_refl _, fun y _ _ h => h⟩
    | succ k ih =>
      obtain ⟨z, z1, z2, z3, z4⟩ := ih
      by_cases q : ∃ y, y <:+ t ++ [c] ∧ PartOf y t ∧ y.length = k + 1
      · obtain ⟨y, y1, y2, y3⟩ := q
        exact ⟨y, y1, y2, by omega, fun u _ _ h => by omega⟩
      · refine ⟨z, z1, z2, by omega, fun u u1 u2 h => ?_⟩
        rcases Nat.lt_or_ge u.length (k + 1) with g | g
        · exact z4 u u1 u2 (by omega)
        · exact absurd ⟨u, u1, u2, by omega⟩ q
  obtain ⟨z, z1, z2, _, z4⟩ := key t.length
  exact ⟨z, z1, z2, fun y y1 y2 => z4 y y1 y2 y2.len⟩
theorem split_one {x y z : List Nat} (z1 : z <:+ t ++ [c]) (z2 : PartOf z t) (z3 : ∀ y, y <:+ t ++ [c] → PartOf y t → y.length ≤ z.length) (hx : PartOf x t) (hxs : x <:+ t ++ [c]) (hys : ¬ y <:+ t ++ [c]) (he : ends t x = ends t y) : ends t x = ends t z := by
  have hxz : x <:+ z := List.suffix_of_suffix_length_le hxs z1 (z3 x hxs hx)
  obtain ⟨e, hz⟩ := List.exists_mem_of_ne_nil _ (part_iff.mp z2)
  have hey : e ∈ ends t y := by rw [← he]; exact suf_ends hxz hz
  have hlt : z.length ≤ y.length := by
    rcases Nat.le_total y.length z.length with g | g
    · exact absurd ((both_end hey hz g).trans z1) hys
    · exact g
  have hzy : z <:+ y := both_end hz hey hlt
  rw [ends_ext]
  intro d
  constructor
  · intro h
    rw [he] at h
    exact suf_ends hzy h
  · intro h
    exact suf_ends hxz h
theorem more_eq {x y : List Nat} (he : ends t x = ends t y) (h : x <:+ t ++ [c] ↔ y <:+ t ++ [c]) : ends (t ++ [c]) x = ends (t ++ [c]) y := by
  rw [ends_ext]
  intro e
  rw [ends_more, ends_more, he, h]
theorem new_end {x : List Nat} (hx : PartOf x (t ++ [c])) (h : ¬ PartOf x t) : ends (t ++ [c]) x = [t.length + 1] := by
  have e0 : ends t x = [] := by
    rw [part_iff] at h
    exact Decidable.of_not_not h
  refine mem_unique (R := (· < ·)) (fun a => Nat.lt_irrefl a) (fun a b c => Nat.lt_trans) (ends_ord _ _) (by simp) fun e => ?_
  obtain ⟨d, hd⟩ := List.exists_mem_of_ne_nil _ (part_iff.mp hx)
  rw [ends_more, e0] at hd
  rw [ends_more, e0, List.mem_singleton]
  rcases hd with hd | ⟨_, hs⟩
  · cases hd
  · constructor
    · rintro (h | ⟨h, _⟩)
      · cases h
      · exact h
    · intro h
      exact .inr ⟨h, hs⟩
theorem step_two (t : List Nat) (c : Nat) : (CL (t ++ [c])).length ≤ (CL t).length + 2 ∧ ((CL (t ++ [c])).length ≤ (CL t).length + 1 ∨ ∃ z y, z <:+ t ++ [c] ∧ PartOf z t ∧ ends t y = ends t z ∧ ¬ y <:+ t ++ [c]) := by
  obtain ⟨z, z1, z2, z3⟩ := longest_old t c
  have nd := nodup_CL (t ++ [c])
  have l1 := len_out nd [t.length + 1]
  have nd1 := nd.sublist (List.filter_sublist (p := fun x => decide (x ≠ [t.length + 1])))
  have l2 := len_out nd1 (ends (t ++ [c]) z)
  have nd2 := nd1.sublist (List.filter_sublist (p := fun x => decide (x ≠ ends (t ++ [c]) z)))
  have old : ∀ s ∈ (CL (t ++ [c])).filter (fun x => decide (x ≠ [t.length + 1])), ∃ x, PartOf x t ∧ s = ends (t ++ [c]) x := by
    intro s hs
    obtain ⟨h1, h2⟩ := List.mem_filter.mp hs
    obtain ⟨x, hx, rfl⟩ := mem_CL.mp h1
    refine ⟨x, ?_, rfl⟩
    by_cases q : PartOf x t
    · exact q
    · exact absurd (new_end hx q) (of_decide_eq_true h2)
  have sub : ∀ {l : List (List Nat)}, (∀ s ∈ l, s ∈ (CL (t ++ [c])).filter (fun x => decide (x ≠ [t.length + 1]))) → l.Nodup → (∀ s ∈ l, ∀ s' ∈ l, cutE t.length s = cutE t.length s' → s = s') → l.length ≤ (CL t).length := by
    intro l hl hnd hinj
    rw [← List.length_map (f := cutE t.length)]
    refine len_sub ?_ fun u hu => ?_
    · exact List.pairwise_map.mpr (hnd.imp_of_mem fun {a b} ha hb n e => n (hinj a ha b hb e))
    · obtain ⟨s, hs, rfl⟩ := List.mem_map.mp hu
      obtain ⟨x, hx, rfl⟩ := old s (hl s hs)
      rw [cutE_ends]
      exact mem_CL.mpr ⟨x, hx, rfl⟩
  constructor
  · have := sub (fun s hs => (List.mem_filter.mp hs).1) nd2 fun s hs s' hs' e => by
      obtain ⟨h1, n1⟩ := List.mem_filter.mp hs
      obtain ⟨h2, n2⟩ := List.mem_filter.mp hs'
      obtain ⟨x, hx, rfl⟩ := old s h1
      obtain ⟨y, hy, rfl⟩ := old s' h2
      rw [cutE_ends, cutE_ends] at e
      by_cases qx : x <:+ t ++ [c]
      · by_cases qy : y <:+ t ++ [c]
        · exact more_eq e (iff_of_true qx qy)
        · have := split_one z1 z2 z3 hx qx qy e
          exact absurd (more_eq this (iff_of_true qx z1)) (of_decide_eq_true n1)
      · by_cases qy : y <:+ t ++ [c]
        · have := split_one z1 z2 z3 hy qy qx e.symm
          exact absurd (more_eq this (iff_of_true qy z1)) (of_decide_eq_true n2)
        · exact more_eq e (iff_of_false qx qy)
    omega
  · by_cases q : ∃ y, ends t y = ends t z ∧ ¬ y <:+ t ++ [c]
    · obtain ⟨y, h1, h2⟩ := q
      exact .inr ⟨z, y, z1, z2, h1, h2⟩
    · refine .inl ?_
      have := sub (fun s hs => hs) nd1 fun s hs s' hs' e => by
        obtain ⟨x, hx, rfl⟩ := old s hs
        obtain ⟨y, hy, rfl⟩ := old s' hs'
        rw [cutE_ends, cutE_ends] at e
        by_cases qx : x <:+ t ++ [c]
        · by_cases qy : y <:+ t ++ [c]
          · exact more_eq e (iff_of_true qx qy)
          · exact absurd ⟨y, by rw [← e]; exact split_one z1 z2 z3 hx qx qy e, qy⟩ q
        · by_cases qy : y <:+ t ++ [c]
          · exact absurd ⟨x, by rw [e]; exact split_one z1 z2 z3 hy qy qx e.symm, qx⟩ q
          · exact more_eq e (iff_of_false qx qy)
      omega
end
def LM (t w : List Nat) : Prop := ∀ y, ends t y = ends t w → y.length ≤ w.length
theorem lm_init {t v : List Nat} {c : Nat} (h : LM t (v ++ [c])) : LM t v := fun y hy => by
  have := h (y ++ [c]) (ends_snoc_eq hy)
  simp only [List.length_append, List.length_singleton] at this
  omega
theorem lm_pre {t : List Nat} : ∀ {s v : List Nat}, LM t (v ++ s) → LM t v := fun {s} => by
  induction s with
  | nil => intro v h; rwa [List.append_nil] at h
  | cons c s ih =>
    intro v h
    have e : v ++ c :: s = (v ++ [c]) ++ s := by simp
    rw [e] at h
    exact lm_init (ih h)
theorem lm_take {t : List Nat} {k : Nat} (hk : k ≤ t.length) : LM t (t.take k) := fun y hy => by
  have h1 : k ∈ ends t (t.take k) := ends_suf.mpr ⟨hk, List.suffix_refl _⟩
  rw [← hy] at h1
  have := (mem_ends.mp h1).1
  rw [List.length_take]
  omega
theorem not_lm {t z y : List Nat} {c : Nat} (hz : z <:+ t ++ [c]) (hp : PartOf z t) (he : ends t y = ends t z) (hy : ¬ y <:+ t ++ [c]) : ¬ LM t z := by
  intro h
  have hl := h y he
  obtain ⟨e, q⟩ := List.exists_mem_of_ne_nil _ (part_iff.mp hp)
  exact hy ((both_end (by rw [he]; exact q) q hl).trans hz)
/-- the texts with the most rooms -/
theorem nlm_of {a b m : Nat} {z : List Nat} (hab : a ≠ b) (hp : PartOf z (a :: List.replicate m b)) (h : ¬ LM (a :: List.replicate m b) z) : z = List.replicate m b := by
  obtain ⟨e, he⟩ := List.exists_mem_of_ne_nil _ (part_iff.mp hp)
  obtain ⟨h1, h2⟩ := ends_suf.mp he
  have hlen : (a :: List.replicate m b).length = m + 1 := by simp
  rw [hlen] at h1
  cases e with
  | zero =>
    rw [List.take_zero, List.suffix_nil] at h2
    subst h2
    exact absurd (lm_take (t := a :: List.replicate m b) (Nat.zero_le _)) h
  | succ k =>
    have tk : (a :: List.replicate m b).take (k + 1) = a :: List.replicate k b := by
      rw [List.take_succ_cons, List.take_replicate, Nat.min_eq_left (by omega)]
    rw [tk, List.suffix_cons_iff] at h2
    rcases h2 with h2 | h2
    · rw [← tk] at h2
      rw [h2] at h
      exact absurd (lm_take (by rw [hlen]; omega)) h
    · have hz : z = List.replicate z.length b := by
        obtain ⟨q, hq⟩ := h2
        exact List.eq_replicate_of_mem fun x hx => (List.mem_replicate.mp (by rw [← hq]; exact List.mem_append_right _ hx)).2
      have hzl : z.length ≤ k := by have := h2.length_le; rwa [List.length_replicate] at this
      rcases Nat.lt_or_ge z.length m with g | g
      · exfalso
        apply h
        intro y hy
        rcases Nat.lt_or_ge z.length y.length with gy | gy
        · exfalso
          have tk1 : (a :: List.replicate m b).take (z.length + 1) = a :: List.replicate z.length b := by
            rw [List.take_succ_cons, List.take_replicate, Nat.min_eq_left (by omega)]
          have tk2 : (a :: List.replicate m b).take (z.length + 2) = a :: List.replicate (z.length + 1) b := by
            rw [List.take_succ_cons, List.take_replicate, Nat.min_eq_left (by omega)]
          have e1 : z.length + 1 ∈ ends (a :: List.replicate m b) z := ends_suf.mpr ⟨by rw [hlen]; omega, by rw [tk1, List.suffix_cons_iff]; exact .inr (by rw [← hz]; exact List.suffix_refl _)⟩
          have e2 : z.length + 2 ∈ ends (a :: List.replicate m b) z := ends_suf.mpr ⟨by rw [hlen]; omega, by rw [tk2, List.suffix_cons_iff, List.replicate_succ, List.suffix_cons_iff]; exact .inr (.inr (by rw [← hz]; exact List.suffix_refl _))⟩
          rw [← hy] at e1 e2
          have s1 := (ends_suf.mp e1).2
          have s2 := (ends_suf.mp e2).2
          rw [tk1] at s1
          rw [tk2, List.suffix_cons_iff] at s2
          have y1 : y = a :: List.replicate z.length b := s1.eq_of_length (by have := s1.length_le; simp only [List.length_cons, List.length_replicate] at this ⊢; omega)
          rcases s2 with s2 | s2
          · rw [y1] at s2
            have := congrArg List.length s2
            simp at this
          · rw [y1] at s2
            obtain ⟨q, hq⟩ := s2
            have : a ∈ List.replicate (z.length + 1) b := by rw [← hq]; exact List.mem_append_right _ List.mem_cons_self
            exact hab (List.mem_replicate.mp this).2
        · exact gy
      · have : z.length = m := by omega
        rw [hz, this]
theorem lm_same {a n : Nat} {z : List Nat} (hp : PartOf z (List.replicate n a)) : LM (List.replicate n a) z := by
  obtain ⟨e, he⟩ := List.exists_mem_of_ne_nil _ (part_iff.mp hp)
  obtain ⟨h1, h2⟩ := ends_suf.mp he
  rw [List.length_replicate] at h1
  rw [List.take_replicate, Nat.min_eq_left h1] at h2
  have hl := h2.length_le
  rw [List.length_replicate] at hl
  have hz : z = (List.replicate n a).take z.length := by
    obtain ⟨q, hq⟩ := h2
    rw [List.take_replicate, Nat.min_eq_left (by omega)]
    exact List.eq_replicate_of_mem fun x hx => (List.mem_replicate.mp (by rw [← hq]; exact List.mem_append_right _ hx)).2
  rw [hz]
  exact lm_take (by rw [List.length_replicate]; omega)
theorem most (n : Nat) : ∀ t : List Nat, t.length = n + 2 → (CL t).length ≤ 2 * n + 3 ∧ ((CL t).length = 2 * n + 3 → ∃ a b, t = a :: List.replicate (n + 1) b ∧ (1 ≤ n → a ≠ b)) := by
  have h0 : (CL []).length ≤ 1 := by decide
  have h1 : ∀ a, (CL [a]).length ≤ 2 := fun a => by
    rcases (step_two [] a).2 with h | ⟨z, y, s1, s2, s3, s4⟩
    · rw [List.nil_append] at h; omega
    · exact absurd (lm_same (n := 0) (a := a) (by exact s2)) (by exact not_lm s1 s2 s3 s4)
  induction n with
  | zero =>
    intro t ht
    match t, ht with
    | [a, b], _ =>
      refine ⟨?_, fun _ => ⟨a, b, rfl, fun h => by omega⟩⟩
      have := h1 a
      rcases (step_two [a] b).2 with h | ⟨z, y, s1, s2, s3, s4⟩
      · have e : [a] ++ [b] = [a, b] := rfl
        rw [e] at h; omega
      · exact absurd (lm_same (n := 1) (a := a) (by exact s2)) (by exact not_lm s1 s2 s3 s4)
  | succ n ih =>
    intro t ht
    obtain ⟨u, c, rfl⟩ : ∃ u c, t = u ++ [c] := by
      have : t ≠ [] := fun e => by rw [e] at ht; simp at ht
      exact ⟨t.dropLast, t.getLast this, (List.dropLast_concat_getLast this).symm⟩
    have hu : u.length = n + 2 := by simp only [List.length_append, List.length_singleton] at ht; omega
    obtain ⟨i1, i2⟩ := ih u hu
    obtain ⟨s1, s2⟩ := step_two u c
    refine ⟨by omega, fun hfull => ?_⟩
    obtain ⟨a, b, rfl, _⟩ := i2 (by omega)
    rcases s2 with h | ⟨z, y, q1, q2, q3, q4⟩
    · omega
    · have nl := not_lm q1 q2 q3 q4
      by_cases hab : a = b
      · subst hab
        have e : a :: List.replicate (n + 1) a = List.replicate (n + 2) a := rfl
        rw [e] at q2 nl
        exact absurd (lm_same q2) nl
      · have hz := nlm_of hab q2 nl
        rw [hz, List.suffix_concat_iff] at q1
        refine ⟨a, b, ?_, fun _ => hab⟩
        rcases q1 with q1 | ⟨v, q1, _⟩
        · simp at q1
        · have : c = b := by
            have hm : c ∈ List.replicate (n + 1) b := by rw [q1]; simp
            exact (List.mem_replicate.mp hm).2
          rw [this, List.cons_append, ← List.replicate_succ']
end MM
set_option linter.all false
namespace MM
open MA MB
theorem len_split {α : Type} (p : α → Bool) : ∀ l : List α, l.length = (l.filter p).length + (l.filter fun x => !p x).length
  | [] => rfl
  | x :: l => by
    have ih := len_split p l
    cases h : p x with
    | true => rw [List.filter_cons_of_pos h, List.filter_cons_of_neg (by simp [h]), List.length_cons, List.length_cons]; omega
    | false => rw [List.filter_cons_of_neg (by simp [h]), List.filter_cons_of_pos (by simp [h]), List.length_cons, List.length_cons]; omega
section
variable {t : List Nat} {ps : List (List Nat)}
theorem lm_uniq {x y : List Nat} (hx : LM t x) (hy : LM t y) (hp : PartOf x t) (h : ends t x = ends t y) : x = y := by
  have l1 := hx y h.symm
  have l2 := hy x h
  obtain ⟨e, he⟩ := List.exists_mem_of_ne_nil _ (part_iff.mp hp)
  exact (both_end he (by rw [← h]; exact he) l2).eq_of_length (by omega)
theorem lm_rep' : ∀ (k : Nat) (x : List Nat), PartOf x t → t.length - x.length = k → ∃ u, PartOf u t ∧ ends t u = ends t x ∧ LM t u := by
  intro k
  induction k using Nat.strongRecOn with
  | _ k ih =>
    intro x hx hk
    by_cases q : LM t x
    · exact ⟨x, hx, rfl, q⟩
    · obtain ⟨y, hy, hl⟩ : ∃ y, ends t y = ends t x ∧ x.length < y.length := by
        refine Classical.byContradiction fun n => q fun y hy => ?_
        rcases Nat.lt_or_ge x.length y.length with g | g
        · exact absurd ⟨y, hy, g⟩ n
        · exact g
      have hp := part_of_ends hy.symm hx
      have := hp.len
      obtain ⟨u, u1, u2, u3⟩ := ih (t.length - y.length) (by omega) y hp rfl
      exact ⟨u, u1, u2.trans hy, u3⟩
theorem lm_rep (P : IsParts t ps) {r : Nat} (h : r < (cls t ps).length) : ∃ u, PartOf u t ∧ rm t ps u = r ∧ LM t u := by
  obtain ⟨x, hx, e⟩ := rm_all (t := t) h
  obtain ⟨u, u1, u2, u3⟩ := lm_rep' _ x ((P.mem x).mp hx) rfl
  exact ⟨u, u1, by rw [← e]; exact (rm_eq ((P.mem u).mpr u1) hx).mpr u2, u3⟩
variable {rooms : List (List (List Nat × Int))} {es : List Int}
/-- each line as a word -/
theorem line_words (P : IsParts t ps) (M : IsMach t ps rooms es) : ∃ W : List (List Nat), W.length = (rooms.map List.length).sum ∧ W.Nodup ∧ ∀ w ∈ W, PartOf w t ∧ ∃ u c, w = u ++ [c] ∧ LM t u := by
  have ex : ∃ u : Nat → List Nat, ∀ r, r < (cls t ps).length → PartOf (u r) t ∧ rm t ps (u r) = r ∧ LM t (u r) := by
    refine ⟨fun r => if h : r < (cls t ps).length then Classical.choose (lm_rep P h) else [], fun r h => ?_⟩
    simp only [dif_pos h]
    exact Classical.choose_spec (lm_rep P h)
  obtain ⟨u, hu⟩ := ex
  refine ⟨(List.range rooms.length).flatMap fun r => (rooms.getD r []).map fun z => u r ++ z.1, ?_, ?_, ?_⟩
  · rw [List.length_flatMap]
    congr 1
    refine List.ext_getElem (by simp) fun i h1 h2 => ?_
    rw [List.length_map] at h2
    simp only [List.getElem_map, List.getElem_range, List.length_map]
    rw [List.getD_eq_getElem?_getD, List.getElem?_eq_getElem h2]
    rfl
  · unfold List.Nodup
    rw [List.pairwise_flatMap]
    refine ⟨fun r hr => ?_, ?_⟩
    · have hr' := List.mem_range.mp hr
      have e : rooms.getD r [] = rooms[r] := by rw [List.getD_eq_getElem?_getD, List.getElem?_eq_getElem hr']; rfl
      rw [e, List.pairwise_map]
      refine (M.srt _ (List.getElem_mem hr')).imp fun {a b} h e => ?_
      rw [List.append_cancel_left e] at h
      exact List.lt_irrefl _ h
    · refine List.pairwise_lt_range.imp_of_mem fun {a b} ha hb hab x hx y hy e => ?_
      have ha' := List.mem_range.mp ha
      have hb' := List.mem_range.mp hb
      obtain ⟨z, hz, rfl⟩ := List.mem_map.mp hx
      obtain ⟨z', hz', rfl⟩ := List.mem_map.mp hy
      have ea : rooms.getD a [] = rooms[a] := by rw [List.getD_eq_getElem?_getD, List.getElem?_eq_getElem ha']; rfl
      have eb : rooms.getD b [] = rooms[b] := by rw [List.getD_eq_getElem?_getD, List.getElem?_eq_getElem hb']; rfl
      rw [ea] at hz
      rw [eb] at hz'
      obtain ⟨⟨c, hc, _⟩, _⟩ := M.form P (List.getElem_mem ha') hz
      obtain ⟨⟨d, hd, _⟩, _⟩ := M.form P (List.getElem_mem hb') hz'
      rw [hc, hd] at e
      have e1 := (List.append_inj' e rfl).1
      have h1 := (hu a (by rw [← M.len]; exact ha')).2.1
      have h2 := (hu b (by rw [← M.len]; exact hb')).2.1
      rw [e1, h2] at h1
      omega
  · intro w hw
    rw [List.mem_flatMap] at hw
    obtain ⟨r, hr, hw⟩ := hw
    have hr' := List.mem_range.mp hr
    obtain ⟨z, hz, rfl⟩ := List.mem_map.mp hw
    have e : rooms.getD r [] = rooms[r] := by rw [List.getD_eq_getElem?_getD, List.getElem?_eq_getElem hr']; rfl
    rw [e] at hz
    obtain ⟨u1, u2, u3⟩ := hu r (by rw [← M.len]; exact hr')
    obtain ⟨c, hc, hp, _⟩ := M.back P ((P.mem _).mpr u1) (L := rooms[r]) (by rw [u2]; exact List.getElem?_eq_getElem hr') (l := z.1) (g := z.2) hz
    rw [hc]
    exact ⟨hp, u r, c, rfl, u3⟩
/-- where a word begins -/
def plc (t w : List Nat) : Nat := (ends t w).headD 0 - w.length
theorem plc_at {w : List Nat} (h : PartOf w t) : At w t (plc t w) := by
  have hn := part_iff.mp h
  unfold plc
  cases he : ends t w with
  | nil => exact absurd he hn
  | cons e r =>
    have : e ∈ ends t w := by rw [he]; exact List.mem_cons_self
    exact (mem_ends.mp this).2
theorem ar1 {s s' A B C n : Nat} (h0 : s = s') (h : s = A + B) (h1 : A + 1 ≤ C) (h2 : B ≤ 1) (h3 : C ≤ 2 * (n - 2) + 3) (h4 : 3 ≤ n) : s' ≤ 3 * n - 4 := by omega
theorem ar2 {s s' A B C n : Nat} (h0 : s = s') (h : s = A + B) (h1 : A + 1 ≤ C) (h2 : B ≤ n - 1) (h3 : C < 2 * (n - 2) + 3) (h4 : 3 ≤ n) : s' ≤ 3 * n - 4 := by omega
theorem lines_le (P : IsParts t ps) (M : IsMach t ps rooms es) (hn : 3 ≤ t.length) : (rooms.map List.length).sum ≤ 3 * t.length - 4 := by
  obtain ⟨W, hl, nd, hW⟩ := line_words P M
  have dec : ∀ w, Decidable (LM t w) := fun w => Classical.propDecidable _
  have sp := len_split (fun w => @decide (LM t w) (dec w)) W
  /- the longest ones -/
  have hA : (W.filter fun w => @decide (LM t w) (dec w)).length + 1 ≤ (cls t ps).length := by
    have hsub : ∀ s ∈ ends t [] :: (W.filter fun w => @decide (LM t w) (dec w)).map (ends t), s ∈ cls t ps := by
      intro s hs
      rcases List.mem_cons.mp hs with rfl | hs
      · exact cls_mem P.nil
      · obtain ⟨w, hw, rfl⟩ := List.mem_map.mp hs
        exact cls_mem ((P.mem w).mpr (hW w (List.mem_filter.mp hw).1).1)
    have hnd : (ends t [] :: (W.filter fun w => @decide (LM t w) (dec w)).map (ends t)).Nodup := by
      rw [List.nodup_cons]
      refine ⟨fun h => ?_, ?_⟩
      · obtain ⟨w, hw, e⟩ := List.mem_map.mp h
        obtain ⟨_, u, c, e2, _⟩ := hW w (List.mem_filter.mp hw).1
        have h0 : 0 ∈ ends t [] := ends_suf.mpr ⟨Nat.zero_le _, List.nil_suffix⟩
        rw [← e] at h0
        have := (mem_ends.mp h0).1
        rw [e2] at this
        simp at this
      · refine List.pairwise_map.mpr ((nd.sublist List.filter_sublist).imp_of_mem fun {a b} ha hb n e => n ?_)
        obtain ⟨a1, a2⟩ := List.mem_filter.mp ha
        obtain ⟨b1, b2⟩ := List.mem_filter.mp hb
        exact lm_uniq (@of_decide_eq_true _ (dec a) a2) (@of_decide_eq_true _ (dec b) b2) (hW a a1).1 e
    have := len_sub hnd hsub
    rwa [List.length_cons, List.length_map] at this
  /- the others -/
  have hB : (W.filter fun w => !@decide (LM t w) (dec w)).length ≤ t.length - 1 := by
    rw [← List.length_range (n := t.length - 1), ← List.length_map (f := fun w => plc t w - 1)]
    have info : ∀ w ∈ W.filter (fun w => !@decide (LM t w) (dec w)), PartOf w t ∧ ¬ LM t w ∧ (∃ u c, w = u ++ [c] ∧ LM t u) ∧ 1 ≤ plc t w ∧ plc t w + w.length ≤ t.length ∧ 1 ≤ w.length := by
      intro w hw
      obtain ⟨h1, h2⟩ := List.mem_filter.mp hw
      have hnl : ¬ LM t w := by
        intro h
        rw [@decide_eq_true _ (dec w) h] at h2
        cases h2
      obtain ⟨hp, hu⟩ := hW w h1
      have ha := plc_at hp
      refine ⟨hp, hnl, hu, ?_, ha.1, ?_⟩
      · rcases Nat.eq_zero_or_pos (plc t w) with z | z
        · rw [z] at ha
          have : w = t.take w.length := by have := ha.2; rw [List.drop_zero] at this; exact this.symm
          rw [this] at hnl
          exact absurd (lm_take (by have := ha.1; omega)) hnl
        · exact z
      · obtain ⟨u, c, e, _⟩ := hu
        rw [e]; simp
    refine len_sub ?_ fun i hi => ?_
    · refine List.pairwise_map.mpr ((nd.sublist List.filter_sublist).imp_of_mem fun {a b} ha hb n e => n ?_)
      obtain ⟨a1, a2, a3, a4, a5, a6⟩ := info a ha
      obtain ⟨b1, b2, b3, b4, b5, b6⟩ := info b hb
      have e' : plc t a = plc t b := by omega
      have pa := (plc_at a1).2
      have pb := (plc_at b1).2
      rw [e'] at pa
      have core : ∀ x y : List Nat, ¬ LM t x → (∃ u c, y = u ++ [c] ∧ LM t u) → (t.drop (plc t b)).take x.length = x → (t.drop (plc t b)).take y.length = y → ¬ x.length < y.length := by
        rintro x y hx ⟨u, c, rfl, hu⟩ px py hlt
        rw [List.length_append, List.length_singleton] at hlt py
        have pu : (t.drop (plc t b)).take u.length = u := by
          have := congrArg (List.take u.length) py
          rw [List.take_take, Nat.min_eq_left (Nat.le_succ _), List.take_left'] at this
          · exact this
          · rfl
        have : u = x ++ ((t.drop (plc t b)).take u.length).drop x.length := by
          have h2 := (List.take_append_drop x.length ((t.drop (plc t b)).take u.length)).symm
          rw [List.take_take, Nat.min_eq_left (by omega), px] at h2
          rw [← h2, pu]
        rw [this] at hu
        exact hx (lm_pre hu)
      have c1 := core a b a2 b3 pa pb
      have c2 := core b a b2 a3 pb pa
      have hl : a.length = b.length := by omega
      rw [hl] at pa
      exact pa.symm.trans pb
    · obtain ⟨w, hw, rfl⟩ := List.mem_map.mp hi
      obtain ⟨a1, a2, a3, a4, a5, a6⟩ := info w hw
      exact List.mem_range.mpr (by omega)
  have hC := CL_cls P
  have k1 : 1 ≤ t.length - 2 := by omega
  obtain ⟨m1, m2⟩ := most (t.length - 2) t (by omega)
  rw [← hC] at m1 m2
  rcases Nat.lt_or_ge (cls t ps).length (2 * (t.length - 2) + 3) with g | g
  · exact ar2 hl sp hA hB g hn
  · obtain ⟨a, b, et, hab⟩ := m2 (Nat.le_antisymm m1 g)
    have hab' := hab k1
    have one : (W.filter fun w => !@decide (LM t w) (dec w)).length ≤ 1 := by
      have : ∀ w ∈ W.filter (fun w => !@decide (LM t w) (dec w)), w ∈ [List.replicate (t.length - 2 + 1) b] := by
        intro w hw
        obtain ⟨h1, h2⟩ := List.mem_filter.mp hw
        have hnl : ¬ LM t w := by
          intro h
          rw [@decide_eq_true _ (dec w) h] at h2
          cases h2
        rw [List.mem_singleton]
        have hp := (hW w h1).1
        generalize t.length - 2 = k at et ⊢
        rw [et] at hp hnl
        exact nlm_of hab' hp hnl
      have := len_sub (nd.sublist List.filter_sublist) this
      simpa using this
    exact ar1 hl sp hA one m1 hn
theorem rooms_le (P : IsParts t ps) (M : IsMach t ps rooms es) : (t.length ≤ 1 → rooms.length ≤ t.length + 1) ∧ (2 ≤ t.length → rooms.length ≤ 2 * t.length - 1) := by
  have hC := CL_cls P
  rw [M.len, hC]
  constructor
  · intro h
    match t, h with
    | [], _ => exact (by decide : (CL []).length ≤ 1)
    | [a], _ =>
      rcases (step_two [] a).2 with h | ⟨z, y, s1, s2, s3, s4⟩
      · rw [List.nil_append] at h
        have : (CL []).length ≤ 1 := by decide
        show (CL [a]).length ≤ 2
        omega
      · exact absurd (lm_same (n := 0) (a := a) (by exact s2)) (by exact not_lm s1 s2 s3 s4)
    | a :: b :: r, h => simp at h
  · intro h
    obtain ⟨m1, _⟩ := most (t.length - 2) t (by omega)
    omega
end
end MM
set_option linter.all false
namespace MM
open MA MB
/-- numbers under rooms: just the positive ones -/
structure HasN (N : Nat → Nat) (kvs : List (Nat × Nat)) : Prop where
  nd : (kvs.map (·.1)).Nodup
  mem : ∀ r c, (r, c) ∈ kvs ↔ 0 < c ∧ c = N r
theorem HasN.congr {N N' : Nat → Nat} {kvs : List (Nat × Nat)} (h : HasN N kvs) (e : ∀ r, N r = N' r) : HasN N' kvs := ⟨h.nd, fun r c => by rw [h.mem, e]⟩
theorem HasN.nil {N : Nat → Nat} (h : ∀ r, N r = 0) : HasN N [] := ⟨.nil, fun r c => by
  constructor
  · intro z; cases z
  · rintro ⟨h1, h2⟩; rw [h] at h2; omega⟩
theorem HasN.empty {N : Nat → Nat} {kvs : List (Nat × Nat)} (h : HasN N kvs) (e : ∀ r, N r = 0) : kvs = [] := by
  cases kvs with
  | nil => rfl
  | cons p r =>
    have := (h.mem p.1 p.2).mp List.mem_cons_self
    rw [e] at this
    omega
def putN (kvs : List (Nat × Nat)) (g v : Nat) : List (Nat × Nat) := if g ∈ kvs.map (·.1) then kvs.map (fun p => if p.1 = g then (p.1, v) else p) else kvs ++ [(g, v)]
theorem HasN.put {N : Nat → Nat} {kvs : List (Nat × Nat)} (h : HasN N kvs) (g : Nat) {w : Nat} (hw : 0 < w) : HasN (fun r => if r = g then N r + w else N r) (putN kvs g (N g + w)) := by
  unfold putN
  by_cases q : g ∈ kvs.map (·.1)
  · rw [if_pos q]
    refine ⟨?_, fun r c => ?_⟩
    · rw [List.map_map]
      have : ((fun p : Nat × Nat => p.1) ∘ fun p => if p.1 = g then (p.1, N g + w) else p) = fun p => p.1 := by
        funext p
        show (if p.1 = g then (p.1, N g + w) else p).1 = p.1
        split <;> rfl
      rw [this]
      exact h.nd
    · rw [List.mem_map]
      constructor
      · rintro ⟨p, hp, e⟩
        by_cases z : p.1 = g
        · rw [if_pos z] at e
          cases e
          exact ⟨by omega, by show N g + w = if p.1 = g then N p.1 + w else N p.1; rw [if_pos z, z]⟩
        · rw [if_neg z] at e
          subst e
          have := (h.mem r c).mp hp
          simp only [if_neg z]
          exact this
      · rintro ⟨h1, h2⟩
        by_cases z : r = g
        · subst z
          simp only [if_true] at h2
          obtain ⟨p, hp, e⟩ := List.mem_map.mp q
          exact ⟨p, hp, by rw [if_pos e, e, h2]⟩
        · simp only [if_neg z] at h2
          exact ⟨(r, c), (h.mem r c).mpr ⟨h1, h2⟩, if_neg z⟩
  · rw [if_neg q]
    have hN : N g = 0 := by
      rcases Nat.eq_zero_or_pos (N g) with z | z
      · exact z
      · exact absurd (List.mem_map.mpr ⟨_, (h.mem g (N g)).mpr ⟨z, rfl⟩, rfl⟩) q
    refine ⟨?_, fun r c => ?_⟩
    · rw [List.map_append, List.nodup_append]
      exact ⟨h.nd, by simp, fun a ha b hb e => q (by simp at hb; rw [← hb, ← e]; exact ha)⟩
    · rw [List.mem_append, h.mem, List.mem_singleton]
      constructor
      · rintro (⟨h1, h2⟩ | h)
        · by_cases z : r = g
          · subst z; omega
          · simp only [if_neg z]; exact ⟨h1, h2⟩
        · cases h
          exact ⟨by omega, by show N g + w = if g = g then N g + w else N g; rw [if_pos rfl]⟩
      · rintro ⟨h1, h2⟩
        by_cases z : r = g
        · subst z
          simp only [if_true] at h2
          exact .inr (by rw [h2])
        · simp only [if_neg z] at h2
          exact .inl ⟨h1, h2⟩
section
variable {t : List Nat} {ps : List (List Nat)}
def ofLen (ps : List (List Nat)) (k : Nat) : List (List Nat) := ps.filter fun x => decide (x.length = k)
def cnt (t : List Nat) (ps : List (List Nat)) (k r : Nat) : Nat := ((ofLen ps k).filter fun x => decide (rm t ps x = r)).length
theorem mem_len {k : Nat} {x : List Nat} : x ∈ ofLen ps k ↔ x ∈ ps ∧ x.length = k := by unfold ofLen; rw [List.mem_filter, decide_eq_true_eq]
theorem nd_len (nd : ps.Nodup) (k : Nat) : (ofLen ps k).Nodup := nd.sublist List.filter_sublist
theorem cnt_pos {k : Nat} {x : List Nat} (h : x ∈ ofLen ps k) : 0 < cnt t ps k (rm t ps x) := List.length_pos_of_mem (List.mem_filter.mpr ⟨h, decide_eq_true rfl⟩)
theorem HasN.key {k : Nat} {kvs : List (Nat × Nat)} (h : HasN (cnt t ps k) kvs) {x : List Nat} (hx : x ∈ ofLen ps k) : rm t ps x ∈ kvs.map (·.1) :=
  List.mem_map.mpr ⟨(rm t ps x, cnt t ps k (rm t ps x)), (h.mem _ _).mpr ⟨cnt_pos hx, rfl⟩, rfl⟩
theorem HasN.val {N : Nat → Nat} {kvs : List (Nat × Nat)} (h : HasN N kvs) {p : Nat × Nat} (hp : p ∈ kvs) : p.2 = N p.1 := ((h.mem p.1 p.2).mp hp).2
/-- the ways of a length are its parts -/
theorem sum_ways (nd : ps.Nodup) {k : Nat} {kvs : List (Nat × Nat)} (h : HasN (cnt t ps k) kvs) : (kvs.map (·.2)).sum = (ofLen ps k).length := by
  have e : kvs.map (·.2) = (kvs.map (·.1)).map (cnt t ps k) := by
    rw [List.map_map]
    exact List.map_congr_left fun p hp => h.val hp
  rw [e]
  have e2 : ((kvs.map (·.1)).map (cnt t ps k)).sum = ((kvs.map (·.1)).flatMap fun r => (ofLen ps k).filter fun x => decide (rm t ps x = r)).length := by rw [List.length_flatMap]; rfl
  rw [e2]
  have nB : ((kvs.map (·.1)).flatMap fun r => (ofLen ps k).filter fun x => decide (rm t ps x = r)).Nodup := by
    unfold List.Nodup
    rw [List.pairwise_flatMap]
    refine ⟨fun r _ => (nd_len nd k).sublist List.filter_sublist, h.nd.imp fun {a b} n x hx y hy e => n ?_⟩
    rw [← of_decide_eq_true (List.mem_filter.mp hx).2, ← of_decide_eq_true (List.mem_filter.mp hy).2, e]
  have a := len_sub nB (m := ofLen ps k) fun x hx => by
    rw [List.mem_flatMap] at hx
    obtain ⟨r, _, hx⟩ := hx
    exact (List.mem_filter.mp hx).1
  have b := len_sub (nd_len nd k) (m := (kvs.map (·.1)).flatMap fun r => (ofLen ps k).filter fun x => decide (rm t ps x = r)) fun x hx => by
    rw [List.mem_flatMap]
    exact ⟨_, h.key hx, List.mem_filter.mpr ⟨hx, decide_eq_true rfl⟩⟩
  omega
variable {rooms : List (List (List Nat × Int))} {es : List Int}
/-- how many of the lines lead to a room -/
def to (L : List (List Nat × Int)) (g : Nat) : Nat := (L.filter fun z => decide (z.2 = (g : Int))).length
theorem to_snoc (L : List (List Nat × Int)) (z : List Nat × Int) (g : Nat) : to (L ++ [z]) g = to L g + if z.2 = (g : Int) then 1 else 0 := by
  unfold to
  rw [List.filter_append, List.length_append]
  by_cases h : z.2 = (g : Int)
  · rw [if_pos h]; simp [h]
  · rw [if_neg h]; simp [h]
theorem sum_const {α : Type} (l : List α) (c : Nat) : (l.map fun _ => c).sum = l.length * c := by
  induction l with
  | nil => simp
  | cons x l ih => rw [List.map_cons, List.sum_cons, ih, List.length_cons, Nat.succ_mul]; omega
theorem next_ways (P : IsParts t ps) (M : IsMach t ps rooms es) {k : Nat} {kvs : List (Nat × Nat)} (h : HasN (cnt t ps k) kvs) (g : Nat) :
    (kvs.map fun p => to (rooms.getD p.1 []) g * cnt t ps k p.1).sum = cnt t ps (k + 1) g := by
  have nd : ps.Nodup := nodup_of plt_irr P.ord
  have e0 : (kvs.map fun p => to (rooms.getD p.1 []) g * cnt t ps k p.1) = (kvs.map (·.1)).map fun r => to (rooms.getD r []) g * cnt t ps k r := by rw [List.map_map]; rfl
  rw [e0]
  let B : List (List Nat) := (kvs.map (·.1)).flatMap fun r => ((rooms.getD r []).filter fun z => decide (z.2 = (g : Int))).flatMap fun z => ((ofLen ps k).filter fun x => decide (rm t ps x = r)).map fun x => x ++ z.1
  have eB : ((kvs.map (·.1)).map fun r => to (rooms.getD r []) g * cnt t ps k r).sum = B.length := by
    show _ = List.length (List.flatMap _ _)
    rw [List.length_flatMap]
    congr 1
    refine List.map_congr_left fun r _ => ?_
    rw [List.length_flatMap]
    have : (((rooms.getD r []).filter fun z => decide (z.2 = (g : Int))).map fun z => (((ofLen ps k).filter fun x => decide (rm t ps x = r)).map fun x => x ++ z.1).length) = ((rooms.getD r []).filter fun z => decide (z.2 = (g : Int))).map fun _ => cnt t ps k r := List.map_congr_left fun z _ => by rw [List.length_map]; rfl
    rw [this, sum_const]
    rfl
  rw [eB]
  have keys : ∀ r ∈ kvs.map (·.1), ∃ x, x ∈ ofLen ps k ∧ rm t ps x = r := fun r hr => by
    obtain ⟨p, hp, rfl⟩ := List.mem_map.mp hr
    obtain ⟨h1, h2⟩ := (h.mem p.1 p.2).mp hp
    have : 0 < cnt t ps k p.1 := by omega
    obtain ⟨x, hx⟩ := List.exists_mem_of_length_pos this
    obtain ⟨a, b⟩ := List.mem_filter.mp hx
    exact ⟨x, a, of_decide_eq_true b⟩
  have room : ∀ r ∈ kvs.map (·.1), rooms[r]? = some (rooms.getD r []) := fun r hr => by
    obtain ⟨x, hx, rfl⟩ := keys r hr
    obtain ⟨L, hL⟩ := M.room (mem_len.mp hx).1
    rw [List.getD_eq_getElem?_getD, hL]
    rfl
  have memB : ∀ y, y ∈ B ↔ y ∈ (ofLen ps (k + 1)).filter fun x => decide (rm t ps x = g) := by
    intro y
    show y ∈ List.flatMap _ _ ↔ _
    rw [List.mem_flatMap, List.mem_filter, decide_eq_true_eq, mem_len]
    constructor
    · rintro ⟨r, hr, hy⟩
      rw [List.mem_flatMap] at hy
      obtain ⟨z, hz, hy⟩ := hy
      obtain ⟨x, hx, rfl⟩ := List.mem_map.mp hy
      obtain ⟨hx1, hx2⟩ := List.mem_filter.mp hx
      have hx2 := of_decide_eq_true hx2
      obtain ⟨hz1, hz2⟩ := List.mem_filter.mp hz
      have hz2 := of_decide_eq_true hz2
      obtain ⟨xp, xl⟩ := mem_len.mp hx1
      obtain ⟨c, hc, hp, hg⟩ := M.back P xp (L := rooms.getD r []) (by rw [hx2]; exact room r hr) (l := z.1) (g := z.2) hz1
      rw [hc]
      refine ⟨⟨(P.mem _).mpr hp, by rw [List.length_append, List.length_singleton, xl]⟩, ?_⟩
      rw [hz2] at hg
      omega
    · rintro ⟨⟨hy, hyl⟩, hr⟩
      have hne : y ≠ [] := fun e => by rw [e] at hyl; simp at hyl
      obtain ⟨x, c, rfl⟩ : ∃ x c, y = x ++ [c] := ⟨y.dropLast, y.getLast hne, (List.dropLast_concat_getLast hne).symm⟩
      have hp := (P.mem _).mp hy
      have hx : x ∈ ofLen ps k := mem_len.mpr ⟨(P.mem _).mpr (part_init hp), by rw [List.length_append, List.length_singleton] at hyl; omega⟩
      refine ⟨rm t ps x, h.key hx, ?_⟩
      rw [List.mem_flatMap]
      refine ⟨([c], ((rm t ps (x ++ [c]) : Nat) : Int)), List.mem_filter.mpr ⟨M.line P (room _ (h.key hx)) hp, decide_eq_true ?_⟩, List.mem_map.mpr ⟨x, List.mem_filter.mpr ⟨hx, decide_eq_true rfl⟩, rfl⟩⟩
      show ((rm t ps (x ++ [c]) : Nat) : Int) = (g : Int)
      rw [hr]
  have nB : B.Nodup := by
    show List.Pairwise _ (List.flatMap _ _)
    rw [List.pairwise_flatMap]
    have letter : ∀ r ∈ kvs.map (·.1), ∀ z ∈ rooms.getD r [], ∃ c, z.1 = [c] := fun r hr z hz => by
      obtain ⟨⟨c, hc, _⟩, _⟩ := M.form P (List.mem_of_getElem? (room r hr)) hz
      exact ⟨c, hc⟩
    refine ⟨fun r hr => ?_, h.nd.imp_of_mem fun {a b} ha hb n x hx y hy e => n ?_⟩
    · rw [List.pairwise_flatMap]
      refine ⟨fun z hz => ?_, ?_⟩
      · exact List.pairwise_map.mpr (((nd_len nd k).sublist List.filter_sublist).imp fun {a b} n e => n (List.append_cancel_right e))
      · refine ((M.srt _ (List.mem_of_getElem? (room r hr))).sublist List.filter_sublist).imp_of_mem fun {z z'} hz hz' lt x hx y hy e => ?_
        obtain ⟨x1, _, rfl⟩ := List.mem_map.mp hx
        obtain ⟨y1, _, rfl⟩ := List.mem_map.mp hy
        obtain ⟨c, hc⟩ := letter r hr z (List.mem_filter.mp hz).1
        obtain ⟨d, hd⟩ := letter r hr z' (List.mem_filter.mp hz').1
        rw [hc, hd] at e lt
        have := (List.append_inj' e rfl).2
        rw [this] at lt
        exact List.lt_irrefl _ lt
    · rw [List.mem_flatMap] at hx hy
      obtain ⟨z, hz, hx⟩ := hx
      obtain ⟨z', hz', hy⟩ := hy
      obtain ⟨x1, hx1, rfl⟩ := List.mem_map.mp hx
      obtain ⟨y1, hy1, rfl⟩ := List.mem_map.mp hy
      obtain ⟨c, hc⟩ := letter a ha z (List.mem_filter.mp hz).1
      obtain ⟨d, hd⟩ := letter b hb z' (List.mem_filter.mp hz').1
      rw [hc, hd] at e
      have e1 := (List.append_inj' e rfl).1
      rw [← of_decide_eq_true (List.mem_filter.mp hx1).2, ← of_decide_eq_true (List.mem_filter.mp hy1).2, e1]
  have a := len_sub nB fun y hy => (memB y).mp hy
  have b := len_sub ((nd_len nd (k + 1)).sublist (List.filter_sublist (p := fun x => decide (rm t ps x = g)))) fun y hy => (memB y).mpr hy
  have : cnt t ps (k + 1) g = ((ofLen ps (k + 1)).filter fun x => decide (rm t ps x = g)).length := rfl
  omega
theorem first_ways (P : IsParts t ps) : HasN (cnt t ps 0) [(0, 1)] := by
  have nd : ps.Nodup := nodup_of plt_irr P.ord
  have e : ofLen ps 0 = [[]] := by
    have h1 := len_sub (nd_len nd 0) (m := [[]]) fun x hx => by
      rw [List.mem_singleton]
      exact List.eq_nil_of_length_eq_zero (mem_len.mp hx).2
    have h2 : [] ∈ ofLen ps 0 := mem_len.mpr ⟨P.nil, rfl⟩
    cases q : ofLen ps 0 with
    | nil => rw [q] at h2; cases h2
    | cons y r =>
      rw [q] at h1 h2
      have : r = [] := List.eq_nil_of_length_eq_zero (by rw [List.length_cons, List.length_singleton] at h1; omega)
      subst this
      rw [List.mem_singleton] at h2
      rw [h2]
  refine ⟨by simp, fun r c => ?_⟩
  unfold cnt
  rw [e, List.mem_singleton, Prod.mk.injEq]
  by_cases h : r = 0
  · subst h
    rw [List.filter_cons_of_pos (by rw [rm_nil P]; rfl)]
    simp
    omega
  · rw [List.filter_cons_of_neg (by rw [rm_nil P]; simpa using Ne.symm h)]
    simp [h]
    omega
theorem cnt_far (P : IsParts t ps) {k : Nat} (h : t.length < k) (r : Nat) : cnt t ps k r = 0 := by
  have : ofLen ps k = [] := by
    cases q : ofLen ps k with
    | nil => rfl
    | cons y s =>
      have hy : y ∈ ofLen ps k := by rw [q]; exact List.mem_cons_self
      obtain ⟨h1, h2⟩ := mem_len.mp hy
      have := ((P.mem y).mp h1).len
      omega
  unfold cnt
  rw [this]
  rfl
def shorter (ps : List (List Nat)) (k : Nat) : Nat := (ps.filter fun x => decide (x.length < k)).length
theorem shorter_zero : shorter ps 0 = 0 := by unfold shorter; rw [List.filter_eq_nil_iff.mpr fun x _ => by simp]; rfl
theorem shorter_succ (k : Nat) : ∀ ps : List (List Nat), shorter ps (k + 1) = shorter ps k + (ofLen ps k).length
  | [] => rfl
  | x :: ps => by
    have ih := shorter_succ k ps
    unfold shorter ofLen at *
    rcases Nat.lt_trichotomy x.length k with h | h | h
    · rw [List.filter_cons_of_pos (by simp; omega), List.filter_cons_of_pos (by simpa using h), List.filter_cons_of_neg (by simp; omega), List.length_cons, List.length_cons]; omega
    · rw [List.filter_cons_of_pos (by simp; omega), List.filter_cons_of_neg (by simp; omega), List.filter_cons_of_pos (by simpa using h), List.length_cons, List.length_cons]; omega
    · rw [List.filter_cons_of_neg (by simp; omega), List.filter_cons_of_neg (by simp; omega), List.filter_cons_of_neg (by simp; omega)]; exact ih
theorem shorter_all (P : IsParts t ps) {k : Nat} (h : t.length < k) : shorter ps k = ps.length := by
  unfold shorter
  rw [List.filter_eq_self.mpr fun x hx => ?_]
  have := ((P.mem x).mp hx).len
  exact decide_eq_true (by omega)
end
end MM
namespace L2
open PySem PySem.Spec PyProof.Rows
structure Cal (P : Program) (w : World) (K : PySem.W.Frag) (mg : Str → Option Value) (base : Heap) (k : Nat) (x : Str) (ps : List Str) (sp : Sp) : Prop where
  ex : ∃ f fd, FnOk P w K mg base CX0 k f fd ps sp ∧ Binds K fd ps [] ∧ PySem.W.keepIn K (.ref f) = true ∧ mg x = some (.ref f)
section
variable {X : Cx} {pins : List (Addr × Obj)} {σ : St} {H : Hp} {s : Shared}
theorem pe_own {k j : Nat} {x : Str} {ps : List Str} {sp : Sp} {e : Expr} {es : List Expr} {t : TA} {p pos : Pos} (C : Cal X.prog X.w X.K X.mg X.base k x ps sp) (hr : Room j X.A) (hg : Gl X x) (ha : PA X (e :: es) t) (hk : k ≤ j := by omega)
    (hdb : (x == ("__debug__" : Str)) = false := by decide) (he : starEach (e :: es) X.env = (false, eval e X.env) :: starEach es X.env := by rfl) (hpl : (backTo pos (starEach es X.env)).any (·.1) = false := by rfl) :
    PE X (.Call (.Name x p) (e :: es) [] pos) (tCall sp [] E0 t) := by
  obtain ⟨f, fd, F, b, kp, m⟩ := C.ex
  exact pe_call F (hr.mono hk) hg m kp b .nil pass0 ha hdb he hpl

theorem Inv.other (I : Inv X pins σ H s) {s' : Shared} (h1 : s'.heap = s.heap) (h2 : s'.os = s.os) (h3 : AllBare s'.gens) : Inv X pins σ H s' := by
  obtain ⟨h, g, d, t, o⟩ := s'
  obtain rfl : h = s.heap := h1
  obtain rfl : o = s.os := h2
  exact ⟨I.ok, I.os, h3, I.base, I.loc, I.cell, I.free, I.freeC, I.pin, I.hok, I.len⟩
/-- a new object, in any later state that keeps what stood -/
theorem Inv.grown (I : Inv X pins σ H s) {s' : Shared} {p : Addr} {o : HO} (k : ∀ b u, s.heap.get? b = some u → s'.heap.get? b = some u) (h2 : s'.os = s.os) (h3 : AllBare s'.gens) (hp : s.heap.objs.size ≤ p) (new : ObjOk X.prog X.w (upd H p o) s'.heap p o) :
    Inv X pins σ (upd H p o) s' := (I.laid (t' := s'.toks) (h' := s'.heap) k hp new).other rfl h2 h3

def SetO (w : World) (a : Addr) (ks : List Str) : HO := .ext fun h => SW.SetStr w h a ks
theorem setO_ok {P : Program} {w : World} {h : Heap} {a : Addr} {ks : List Str} (x : SW.SetStr w h a ks) : ObjOk P w H h a (SetO w a ks) := ⟨x, let ⟨o, _, _, _, e, _⟩ := x; ⟨o, e⟩, fun h1 h2 p k => SW.SetStr.at p k⟩
abbrev strsV (ls : List (List Nat)) : List V := ls.map fun l => V.str (S l)
theorem vals_at {xs : List V} {us : List Value} (r : Vals xs us) {i : Nat} {u : Value} (h : us[i]? = some u) : ∃ x, xs[i]? = some x ∧ RelV x u := by
  have hi : i < us.length := (List.getElem?_eq_some_iff.mp h).1
  have hi' : i < xs.length := by rw [r.length]; exact hi
  obtain ⟨u', h1, h2⟩ := r.get (i := i) (List.getElem?_eq_getElem hi')
  rw [h] at h1
  cases h1
  exact ⟨_, List.getElem?_eq_getElem hi', h2⟩
theorem call_set (hc : X.calm = true) : CallR X (.type "set") (fun xs H Q => ∃ p ls, xs = [.ref p] ∧ SqL X.K H p (strsV ls) ∧ ls.length + 1 < 4096 ∧ ∀ q, H q = none → Q (.ref q) (upd H q (SetO X.w q (SW.dd (ls.map S))))) := by
  intro pins s σ H xs us Q I r h
  obtain ⟨p, ls, rfl, hq, hb, q⟩ := h
  obtain ⟨u, rfl, rx⟩ := vals1 r
  cases rx
  obtain ⟨its, r', pl, hz⟩ := I.list hq
  have hlen := r'.length
  rw [List.length_map] at hlen
  refine SW.call_set_strs (xs := ls.map S) (I.ok.hd hc) pl.isList (fun i v hv => ?_) (by rw [List.size_toArray, List.length_map, hlen]) (by rw [List.length_map]; exact hb) fun h' tk hS k => ?_
  · obtain ⟨x, hx, rx⟩ := vals_at r' (i := i) (u := v) (by simpa using hv)
    rw [List.getElem?_map] at hx
    cases hl : ls[i]? with
    | none => rw [hl] at hx; cases hx
    | some l =>
      rw [hl] at hx
      cases hx
      obtain ⟨t, rfl⟩ := rx
      refine ⟨t, ?_⟩
      rw [List.getD_eq_getElem?_getD, List.getElem?_map, hl]
      rfl
  · exact ⟨.ref s.heap.objs.size, _, I.laid (t' := tk) (h' := h') (fun b o e => k b o (Heap.lt_size e) e) (Nat.le_refl _) (setO_ok hS), rfl, q _ (I.hok.fresh (Nat.le_refl _))⟩

theorem vals_perm {us vs : List Value} (p : us.Perm vs) : ∀ {xs : List V}, Vals xs vs → ∃ ys, Vals ys us ∧ ys.Perm xs := by
  induction p with
  | nil => intro xs r; cases r; exact ⟨[], .nil, .nil⟩
  | cons x p ih =>
    intro xs r
    cases r with
    | cons r t =>
      obtain ⟨ys, a, b⟩ := ih t
      exact ⟨_ :: ys, .cons r a, b.cons _⟩
  | swap x y l =>
    intro xs r
    cases r with
    | cons r t =>
      cases t with
      | cons r' t' => exact ⟨_, .cons r' (.cons r t'), .swap _ _ _⟩
  | trans p q ih1 ih2 =>
    intro xs r
    obtain ⟨zs, a, b⟩ := ih2 r
    obtain ⟨ys, c, d⟩ := ih1 a
    exact ⟨ys, c, d.trans b⟩
theorem perm_map_inv {α β : Type} {f : α → β} {ys ws : List β} (p : ys.Perm ws) : ∀ {zs : List α}, ws = zs.map f → ∃ zs' : List α, ys = zs'.map f ∧ zs'.Perm zs := by
  induction p with
  | nil => intro zs e; rw [eq_comm, List.map_eq_nil_iff] at e; subst e; exact ⟨[], rfl, .nil⟩
  | cons x p ih =>
    intro zs e
    cases zs with
    | nil => cases e
    | cons z zs =>
      rw [List.map_cons] at e
      injection e with e1 e2
      obtain ⟨zs', a, b⟩ := ih e2
      exact ⟨z :: zs', by rw [List.map_cons, a, e1], b.cons z⟩
  | swap x y l =>
    intro zs e
    match zs, e with
    | z1 :: z2 :: r, e =>
      rw [List.map_cons, List.map_cons] at e
      injection e with e1 e2
      injection e2 with e2 e3
      exact ⟨z2 :: z1 :: r, by rw [List.map_cons, List.map_cons, e1, e2, e3], .swap _ _ _⟩
  | trans p q ih1 ih2 =>
    intro zs e
    obtain ⟨zs1, a, b⟩ := ih2 e
    obtain ⟨zs2, c, d⟩ := ih1 a
    exact ⟨zs2, c, d.trans b⟩
theorem keys_map {α : Type} {κ : PyProof.Rows.KeyKind} {f : α → V} {kf : α → κ.α} : ∀ {zs : List α} {us : List Value}, Vals (zs.map f) us → (∀ z ∈ zs, ∀ u, RelV (f z) u → κ.keyOf u = some (kf z)) → us.map (TS.kv κ) = zs.map kf
  | [], _, r, _ => by cases r; rfl
  | z :: zs, _, r, h => by
    cases r with
    | cons r t =>
      rw [List.map_cons, List.map_cons, keys_map t fun z hz => h z (List.mem_cons_of_mem _ hz)]
      congr 1
      unfold TS.kv
      rw [h z List.mem_cons_self _ r]
      rfl
theorem sorted_fin {α : Type} {κ : PyProof.Rows.KeyKind} {f : α → V} {kf : α → κ.α} {zs : List α} {vs : List Value} {out : Array Value} (r : Vals (zs.map f) vs) (hk : ∀ z ∈ zs, ∀ u, RelV (f z) u → κ.keyOf u = some (kf z)) (hp : out.toList.Perm vs) (hs : TS.Sorted κ out.toList) :
    ∃ zs' : List α, Vals (zs'.map f) out.toList ∧ zs'.Perm zs ∧ zs'.Pairwise fun x y => κ.kle (kf x) (kf y) := by
  obtain ⟨ys, a, b⟩ := vals_perm hp r
  obtain ⟨zs', c, d⟩ := perm_map_inv b rfl
  subst c
  refine ⟨zs', a, d, ?_⟩
  have e := keys_map (κ := κ) (kf := kf) a fun z hz => hk z (d.mem_iff.mp hz)
  have h1 : (out.toList.map (TS.kv κ)).Pairwise κ.kle := List.pairwise_map.mpr hs
  rw [e] at h1
  exact List.pairwise_map.mp h1
theorem lst_new {s' : Shared} {p : Addr} {xs : List V} {out : Array Value} (hz : xs.length ≤ sizeLine) (r : Vals xs out.toList) (hn : ∃ e, s'.heap.get? p = some (seqObj "list" out e)) : ObjOk X.prog X.w (upd H p (.lst xs)) s'.heap p (.lst xs) := by
  obtain ⟨e, hn⟩ := hn
  exact ⟨hz, out.toList, e, r, by rw [hn]; try simp [seqObj]⟩
end
end L2
namespace L2
open PySem PySem.Spec PyProof.Rows
section
variable {X : Cx} {pins : List (Addr × Obj)} {σ : St} {H : Hp} {s : Shared}
theorem vals_all {α : Type} {f : α → V} {P : Value → Prop} : ∀ {zs : List α} {vs : List Value}, Vals (zs.map f) vs → (∀ z ∈ zs, ∀ u, RelV (f z) u → P u) → ∀ v ∈ vs, P v
  | [], _, r, _, v, hv => by cases r; cases hv
  | z :: zs, _, r, h, v, hv => by
    cases r with
    | cons r t =>
      rcases List.mem_cons.mp hv with rfl | hv
      · exact h z List.mem_cons_self _ r
      · exact vals_all t (fun z hz => h z (List.mem_cons_of_mem _ hz)) v hv
def rSortSet (w : World) : List V → Hp → VK → Prop := fun xs H Q => ∃ a ks, xs = [.ref a] ∧ H a = some (SetO w a ks) ∧ ∀ p (ls : List (List Nat)), H p = none → (ls.map S).Perm ks → (ls.Pairwise fun x y => ¬ y < x) → Q (.ref p) (upd H p (.lst (strsV ls)))
theorem vals_strs : ∀ {us : List Value}, (∀ v ∈ us, ∃ x t, v = Value.str x t) → Vals (strsV (us.map fun v => (SW.vk v).cps.toList)) us
  | [], _ => .nil
  | u :: us, h => by
    obtain ⟨x, t, rfl⟩ := h u List.mem_cons_self
    exact .cons ⟨t, rfl⟩ (vals_strs fun v hv => h v (List.mem_cons_of_mem _ hv))
theorem call_sortedSet (hc : X.calm = true) : CallR X (.builtin "sorted") (rSortSet X.w) := by
  intro pins s σ H xs us Q I r h
  obtain ⟨a, ks, rfl, hq, q⟩ := h
  obtain ⟨u, rfl, rx⟩ := vals1 r
  cases rx
  have hS : SW.SetStr X.w s.heap a ks := (I.hok a _ hq).1
  obtain ⟨o, es, ep, t, ho, hex, hd, en⟩ := id hS
  refine TS.sorted_gen2 (κ := PyProof.Rows.strKind) (kd := oneType') fun A' hA => SW.collect_set (hA.trans (I.ok.hd hc)) hS fun ord s2 p1 p2 k g o sz => ?_
  have hlen : ord.length ≤ sizeLine := by
    have e := p1.length_eq
    rw [List.length_map] at e
    rw [e, ← en.size]
    exact fits_of_scanBound en.bnd
  refine ⟨⟨fun v hv => ?_, fun A' h' k2 h2 Q' q' => TS.kind_strs p2 h2 q', fun A' h' k2 => TS.lt_strs, hlen⟩, fun out h' hp hs k2 hn => ?_⟩
  · obtain ⟨x, t, rfl⟩ := p2 v hv
    exact ⟨_, rfl⟩
  · have hall : ∀ v ∈ out.toList, ∃ x t, v = Value.str x t := fun v hv => p2 v (hp.mem_iff.mp hv)
    have rv := vals_strs hall
    have hl2 : (strsV (out.toList.map fun v => (SW.vk v).cps.toList)).length ≤ sizeLine := by rw [rv.length, hp.length_eq]; exact hlen
    refine ⟨.ref s2.heap.objs.size, _, I.grown (s' := { s2 with heap := h' }) (fun b u e => k2 b u (k b u e)) o (by rw [show ({ s2 with heap := h' } : Shared).gens = s.gens from g]; exact I.bare) sz (lst_new hl2 rv hn), rfl, q _ _ (I.hok.fresh sz) ?_ ?_⟩
    · have e : (out.toList.map fun v => (SW.vk v).cps.toList).map S = out.toList.map SW.vk := by
        rw [List.map_map]
        exact List.map_congr_left fun v _ => rfl
      rw [e]
      exact (hp.map _).trans p1
    · rw [List.pairwise_map]
      refine List.Pairwise.imp_of_mem (fun {x y} hx hy z => ?_) hs
      obtain ⟨a1, t1, rfl⟩ := hall x hx
      obtain ⟨a2, t2, rfl⟩ := hall y hy
      have z' : decide (a2.cps.toList < a1.cps.toList) = false := z
      exact of_decide_eq_false z'

theorem Inv.frozen (I : Inv X pins σ H s) {a : Addr} {kvs : List (Key × V)} {o : Obj} (e : H a = some (.dK kvs)) (ho : s.heap.get? a = some o) : Inv X pins σ (upd H a (.frz o (.dK kvs))) s := by
  have mu : Mut (H a) := by rw [e]; trivial
  have new : ObjOk X.prog X.w (upd H a (.frz o (.dK kvs))) s.heap a (.frz o (.dK kvs)) := ⟨ho, I.hok a _ e⟩
  exact (I.un (t' := s.toks) (h' := s.heap) (Un.write (e := a) mu (.inl rfl) (fun b u _ q => q) ⟨o, ho⟩) (HOk.write I.hok mu (.inl rfl) (fun b u _ q => q) ⟨o, ho⟩ new)).other rfl rfl I.bare
def Itd (a : Addr) (o : Obj) (kvs : List (Key × V)) : It :=
  ⟨fun i H => H a = some (.frz o (.dK kvs)) ∧ i < kvs.length, fun i H x H' => H' = H ∧ ∃ kv, kvs[i]? = some kv ∧ x = kV kv.1, fun i H => H a = some (.frz o (.dK kvs)) ∧ i = kvs.length⟩
theorem rel_key {k : Key} {v : Value} (h : keyIs k v = true) : RelV (kV k) v := by
  rcases keyIs_shape h with ⟨i, t, rfl, rfl⟩ | ⟨x, t, rfl, rfl⟩
  · exact ⟨t, rfl⟩
  · exact ⟨t, rfl⟩
theorem kv_at : ∀ {kvs : List (Key × V)} {vs : List (Key × Value)}, KV kvs vs → ∀ {i : Nat} {kv : Key × V}, kvs[i]? = some kv → ∃ u, vs[i]? = some (kv.1, u)
  | _, _, .nil, i, kv, e => by simp at e
  | _, _, .cons r t, 0, kv, e => by
    simp at e; subst e
    exact ⟨_, by simp; exact Prod.ext r.1.symm rfl⟩
  | _, _, .cons r t, i + 1, kv, e => by
    obtain ⟨u, h⟩ := kv_at (i := i) t (by simpa using e)
    exact ⟨u, by simpa using h⟩
theorem turn_dict {P : Program} {w : World} {K : PySem.W.Frag} {tg : Expr} {a it : Addr} {o : Obj} {es : Array DictEntry} {ep : Nat} {kvs : List (Key × V)} (hd : o.data = .dict es ep) :
    Turn P w K tg (Itd a o kvs) [it] it (fun i h => h.IsKeyIter it a i kvs.length ep) where
  mem := by simp
  obj := fun i h st b hb => by
    have e : b = it := by simpa using hb
    subst e
    obtain ⟨ob, e, c, d⟩ := st
    exact ⟨ob, e, fun v z => by rw [d] at z; cases z⟩
  keep := fun i h h' st k => let ⟨ob, e, r⟩ := st; ⟨ob, k it (by simp) ob e, r⟩
  item := by
    intro X hP hw hK hc i pins s σ H E I hf st hg
    subst hP hw hK
    obtain ⟨hg, hi⟩ := hg
    obtain ⟨f0, f1, f2, f3, f4, f5⟩ := hf it (by simp)
    obtain ⟨ho, _, hsm, vs, rv, o2, es2, ep2, ho2, hex, hd2, r2⟩ := I.hok a _ hg
    rw [ho] at ho2; cases ho2
    rw [hd] at hd2; cases hd2
    have hlen : kvs.length = vs.length := Paired.length rv
    obtain ⟨u, hu⟩ := kv_at rv (List.getElem?_eq_getElem hi)
    have hst : s.heap.IsKeyIter it a i vs.length ep := by rw [← hlen]; exact st
    refine wpAny_pyNext_dict_item (knd := mixKind X.prog X.w) hst ⟨o, es, ho, hex, hd, r2⟩ hu fun key h' hkey st' sb => ?_
    have I1 : Inv X pins σ H { s with heap := h' } := I.turned (t' := s.toks) (fun b o hb e => (sb.2 b hb).trans e) f0 f1 f3 f4 f5
    obtain ⟨ob, e, c, d⟩ := id st'
    refine ⟨key, rfl, go_of (s := { s with heap := h' }) e c d (by decide) ⟨kV kvs[i].1, H, I1, rel_key hkey, ⟨rfl, _, List.getElem?_eq_getElem hi, rfl⟩, ?_, fun b hb => (hf b hb).1⟩⟩
    rw [hlen]; exact st'
  done := by
    intro X hP hw hK hc i pins s σ H E I hf st hg
    subst hP hw hK
    obtain ⟨hg, hi⟩ := hg
    obtain ⟨f0, f1, f2, f3, f4, f5⟩ := hf it (by simp)
    obtain ⟨ho, _, hsm, vs, rv, o2, es2, ep2, ho2, hex, hd2, r2⟩ := I.hok a _ hg
    rw [ho] at ho2; cases ho2
    rw [hd] at hd2; cases hd2
    have hlen : kvs.length = vs.length := Paired.length rv
    have hst : s.heap.IsKeyIter it a i vs.length ep := by rw [← hlen]; exact st
    exact wpAny_pyNext_dict_end (knd := mixKind X.prog X.w) (I.ok.hd hc) hst ⟨o, es, ho, hex, hd, r2⟩ (by rw [hi, hlen]; exact List.getElem?_eq_none (Nat.le_refl _)) fun h' eb => ⟨rfl, I.turned (t' := s.toks) (fun b o hb e => eb b o hb e) f0 f1 f3 f4 f5⟩
  self := fun _ _ _ _ _ st h => wpAny_pyIter_keyiter st h
def iDict (tl : TE) : TI := fun σ H R => tl σ H fun x H1 => ∃ a kvs, x = .ref a ∧ H1 a = some (.dK kvs) ∧ ∀ o, R (Itd a o kvs) (upd H1 a (.frz o (.dK kvs)))
theorem pi_dict {tg l : Expr} {tl : TE} (hl : PE X l tl) : PI X tg l (iDict tl) := by
  intro pins s σ H R I h
  refine thn (hl pins s σ H _ I h) fun v s1 ⟨x, H1, I1, r1, q1⟩ => ?_
  obtain ⟨a, kvs, e, hq, q⟩ := q1
  subst e
  cases r1
  obtain ⟨_, hsm, vs, rv, o, es, ep, ho, hex, hd, r2⟩ := I1.hok a _ hq
  have hlen : kvs.length = vs.length := Paired.length rv
  refine wpAny_pyIter_dict (knd := mixKind X.prog X.w) hsm ⟨o, es, ho, hex, hd, r2⟩ ?_
  have I2 := I1.frozen hq ho
  have hne : s1.heap.objs.size ≠ a := Nat.ne_of_gt (Heap.lt_size ho)
  refine ⟨s1.heap.objs.size, [s1.heap.objs.size], _, _, _, rfl, I2.kept (t' := s1.toks) fun b o e => Heap.get?_push_of_some _ e, turn_dict hd, ⟨_, Heap.get?_push_size _ rfl, rfl, by rw [hlen]; rfl⟩, fun b hb => ?_, q o⟩
  have e : b = s1.heap.objs.size := by simpa using hb
  subst e
  exact I2.fpOk (Nat.le_refl _) (I2.hok.fresh (Nat.le_refl _))
theorem itis_dict (a : Addr) (o : Obj) (kvs : List (Key × V)) : ItIs (Itd a o kvs) (fun H => H a = some (.frz o (.dK kvs))) (kvs.map fun kv => kV kv.1) where
  go := fun i H q h => ⟨q, by simpa using h⟩
  yld := fun i H x H' q y h => by
    obtain ⟨rfl, kv, e, rfl⟩ := y
    exact ⟨rfl, by rw [List.getElem?_map, e]; rfl⟩
  stop := fun H q => ⟨q, by simp⟩
/-- a for over what is known -/
theorem for_is {J : It} {P : Hp → Prop} {xs : List V} {g : TG} {tb : TS} {D : Ends} {σ : St} {H : Hp} (hJ : ItIs J P xs) (Pv : Nat → St → Hp → Prop) (h0 : Pv 0 σ H) (hl : ∀ i σ H, i ≤ xs.length → Pv i σ H → P H)
    (hs : ∀ i x σ H, xs[i]? = some x → Pv i σ H → g x σ H fun σ2 H2 => tb { D with nx := Pv (i + 1), ct := Pv (i + 1), bk := D.nx } σ2 H2) (hd : ∀ σ H, Pv xs.length σ H → D.nx σ H) :
    ∃ W : Nat → Nat → St → Hp → Prop, (∃ m, W 0 m σ H) ∧ ∀ i m σ H, W i m σ H →
      (J.stop i H ∧ D.nx σ H) ∨ (J.go i H ∧ ∃ N : St → Hp → Prop, (∀ σ' H', N σ' H' → ∃ m', m' < m ∧ W (i + 1) m' σ' H') ∧ ∀ x H', J.yld i H x H' → g x σ H' fun σ2 H2 => tb { D with nx := N, ct := N, bk := D.nx } σ2 H2) := by
  refine ⟨fun i m σ H => m = xs.length - i ∧ i ≤ xs.length ∧ Pv i σ H, ⟨xs.length, by simp, Nat.zero_le _, h0⟩, ?_⟩
  rintro i m σ H ⟨rfl, hi, p⟩
  have q := hl i σ H hi p
  by_cases hlt : i < xs.length
  · refine .inr ⟨hJ.go i H q hlt, Pv (i + 1), fun σ' H' p' => ⟨xs.length - (i + 1), by omega, rfl, hlt, p'⟩, fun x H' y => ?_⟩
    obtain ⟨e, y2⟩ := hJ.yld i H x H' q y hlt
    subst e
    exact hs i x σ _ y2 p
  · have e : i = xs.length := by omega
    subst e
    exact .inl ⟨hJ.stop H q, hd σ H p⟩

theorem cut_nat (l : List Nat) (i j : Nat) : cutL l (some (i : Int)) (some (j : Int)) = (l.drop i).take (j - i) := by
  unfold cutL
  rw [HT.sIx_nat, HT.sIx_nat]
  rcases Nat.lt_or_ge i l.length with h | h
  · rw [Nat.min_eq_left (Nat.le_of_lt h)]
    rcases Nat.lt_or_ge j l.length with h' | h'
    · rw [Nat.min_eq_left (Nat.le_of_lt h')]
    · rw [Nat.min_eq_right h', List.take_of_length_le (by rw [List.length_drop]; omega), List.take_of_length_le (by rw [List.length_drop]; omega)]
  · rw [List.drop_of_length_le (by omega), List.drop_of_length_le h, List.take_nil, List.take_nil]
end
end L2
namespace L2
open PySem PySem.Spec PyProof.Rows
theorem comp_zr {α : Type} {zs : List α} {fx : α → V} {J : It} {P : Hp → Prop} {g : TG} {tc : TT} {te : TE} {D : Addr} {σ₀ : St} {H1 : Hp} {Q : Hp → Prop} (hJ : ItIs J P (zs.map fx)) (p : α → Bool) (R : α → V → Hp → Prop) (up : α → St)
    (hR : ∀ x y H H', SameT H H' → R x y H → R x y H') (hD : H1 D = none) (hl : zs.length ≤ sizeLine) (hP : ∀ H', Same H1 H' → P H')
    (hg : ∀ z σ H K, z ∈ zs → (σ = σ₀ ∨ ∃ y, σ = up y) → Same H1 H → K (up z) H → g (fx z) σ H K)
    (ht : ∀ z H K, z ∈ zs → Same H1 H → (∀ H', Same H H' → K (p z) H') → tc (up z) H K)
    (he : ∀ z H K, z ∈ zs → p z = true → Same H1 H → (∀ y H', Same H H' → R z y H' → K y H') → te (up z) H K)
    (hQ : ∀ ys H', Same H1 H' → H' D = some (.lst ys) → Paired (fun x y => R x y H') (zs.filter p) ys → Q H') :
    ∃ W : Nat → Nat → St → Hp → Prop, (∃ m, W 0 m σ₀ (upd H1 D (.lst []))) ∧ tCompW J g tc te D W Q := by
  refine ⟨fun i m σ H => m = zs.length - i ∧ i ≤ zs.length ∧ (σ = σ₀ ∨ ∃ z, σ = up z) ∧ Same H1 H ∧ ∃ ys, H D = some (.lst ys) ∧ Paired (fun x y => R x y H) ((zs.take i).filter p) ys, ⟨_, rfl, Nat.zero_le _, .inl rfl, same_new hD _, [], upd_same, by rw [List.take_zero]; exact .nil⟩, ?_⟩
  rintro i m σ H ⟨rfl, hi, hσ, hS, ys, hys, hr⟩
  have hp := hP H hS
  by_cases hlt : i < zs.length
  · refine .inr ⟨hJ.go i H hp (by rw [List.length_map]; exact hlt), fun x H2 hy => ?_⟩
    obtain ⟨rfl, hx⟩ := hJ.yld i H x H2 hp hy (by rw [List.length_map]; exact hlt)
    rw [List.getElem?_map, List.getElem?_eq_getElem hlt] at hx
    cases hx
    have hm : zs[i] ∈ zs := List.getElem_mem hlt
    refine hg zs[i] σ _ _ hm hσ hS (ht zs[i] _ _ hm hS fun H4 g4 => ?_)
    have tk : zs.take (i + 1) = zs.take i ++ [zs[i]] := by rw [List.take_add_one, List.getElem?_eq_getElem hlt]; rfl
    cases hpx : p zs[i] with
    | false =>
      refine ⟨zs.length - (i + 1), by omega, rfl, hlt, .inr ⟨_, rfl⟩, hS.trans g4, ys, g4 _ _ hys, ?_⟩
      rw [tk, List.filter_append]
      simp only [List.filter_cons, hpx, List.filter_nil, Bool.false_eq_true, if_false, List.append_nil]
      exact Paired.mapP hr fun a b => hR a b _ _ g4.t
    | true =>
      refine he zs[i] H4 _ hm hpx (hS.trans g4) fun y H5 g5 ry => ?_
      have e5 : H5 D = some (.lst ys) := g5 _ _ (g4 _ _ hys)
      have hlen : ys.length < sizeLine := by
        have e1 := Paired.length hr
        have e2 : ((zs.take i).filter p).length ≤ (zs.take i).length := List.length_filter_le _ _
        rw [List.length_take] at e2
        omega
      have tD : SameT H5 (upd H5 D (.lst (ys ++ [y]))) := sameT_lst e5
      refine ⟨ys, e5, hlen, zs.length - (i + 1), by omega, rfl, hlt, .inr ⟨_, rfl⟩, same_upd hD (hS.trans (g4.trans g5)) _, ys ++ [y], upd_same, ?_⟩
      rw [tk, List.filter_append]
      simp only [List.filter_cons, hpx, List.filter_nil, if_true]
      refine paired_snoc (Paired.mapP hr fun a b z => hR a b _ _ tD (hR a b _ _ g5.t (hR a b _ _ g4.t z))) (hR _ _ _ _ tD ry)
  · have e : i = zs.length := by omega
    subst e
    rw [List.take_length] at hr
    have hst := hJ.stop H hp
    rw [List.length_map] at hst
    exact .inl ⟨hst, hQ ys H hS hys hr⟩
theorem comp_zs {α : Type} {zs : List α} {fx : α → V} {J : It} {P : Hp → Prop} {g : TG} {tc : TT} {te : TE} {D : Addr} {σ₀ : St} {H1 : Hp} {Q : Hp → Prop} (hJ : ItIs J P (zs.map fx)) (p : α → Bool) (f : α → V) (up : α → St)
    (hD : H1 D = none) (hl : zs.length ≤ sizeLine) (hP : ∀ H', Same H1 H' → P H')
    (hg : ∀ z σ H K, z ∈ zs → (σ = σ₀ ∨ ∃ y, σ = up y) → Same H1 H → K (up z) H → g (fx z) σ H K)
    (ht : ∀ z H K, z ∈ zs → Same H1 H → (∀ H', Same H H' → K (p z) H') → tc (up z) H K)
    (he : ∀ z H K, z ∈ zs → p z = true → Same H1 H → (∀ H', Same H H' → K (f z) H') → te (up z) H K)
    (hQ : ∀ H', Same H1 H' → H' D = some (.lst ((zs.filter p).map f)) → Q H') :
    ∃ W : Nat → Nat → St → Hp → Prop, (∃ m, W 0 m σ₀ (upd H1 D (.lst []))) ∧ tCompW J g tc te D W Q :=
  comp_zr hJ p (fun x y _ => y = f x) up (fun _ _ _ _ _ h => h) hD hl hP hg ht (fun z H K h1 h2 h3 h4 => he z H K h1 h2 h3 fun H' g' => h4 (f z) H' g' rfl)
    fun ys H' g' e r => hQ H' g' (by rw [e, paired_map r])
/-- a def as it stands, for its callers -/
theorem Cal.mk' {P : Program} {w : World} {K : PySem.W.Frag} {mg : Str → Option Value} {base : Heap} {k : Nat} {x : Str} {ps : List Str} {sp : Sp} {f : Addr} {fd : FuncData} (F : FnOk P w K mg base CX0 k f fd ps sp) (b : Binds K fd ps []) (kp : PySem.W.keepIn K (.ref f) = true) (m : mg x = some (.ref f)) :
    Cal P w K mg base k x ps sp := ⟨f, fd, F, b, kp, m⟩
theorem key_S {a b : List Nat} : ((Sum.inr (S a) : Key) = Sum.inr (S b)) ↔ a = b := ⟨fun h => S_inj (Sum.inr.inj h), fun h => by rw [h]⟩
end L2
namespace L2
open PySem PySem.Spec PyProof.Rows
section
variable {X : Cx}
theorem pg_tupK {es : List Expr} {k : Nat} {t : TGs} {n : Nat} {pos : Pos} (K : PySem.W.Frag) (hc : X.calm = true) (h : PGs X es t) (hK : X.K = K := by rfl)
    (hn : (assignEach es X.env).length = n := by rfl) (hst : (assignEach es X.env).findIdx? (·.1) = none := by rfl) : PG X (.Tuple es k pos) (gTup K n t) := hK ▸ pg_tup hc h hn hst
theorem ix_listK (K : PySem.W.Frag) (h : X.K = K := by rfl) : IxR X (rIxL K) := h ▸ ix_list
theorem ix_tupK (K : PySem.W.Frag) (h : X.K = K := by rfl) : IxR X (rIxT K) := h ▸ ix_tup
def rLenQ (K : PySem.W.Frag) : List V → Hp → VK → Prop := fun xs H Q => ∃ p ys, xs = [.ref p] ∧ (SqL K H p ys ∨ SqT K H p ys) ∧ Q (.int ys.length) H
theorem call_len_seqK (K : PySem.W.Frag) (h : X.K = K := by rfl) : CallR X (.builtin "len") (rLenQ K) := CallR.k rLenQ call_len_seq h
def rTupOf (K : PySem.W.Frag) : List V → Hp → VK → Prop := fun xs H Q => ∃ p ys, xs = [.ref p] ∧ ((SqL K H p ys ∧ ∀ l, H l = none → Q (.ref l) (upd H l (.tup ys))) ∨ (SqT K H p ys ∧ Q (.ref p) H))
theorem call_tuple_ofK (K : PySem.W.Frag) (h : X.K = K := by rfl) : CallR X (.type "tuple") (rTupOf K) := CallR.k rTupOf call_tuple_of h
theorem hu0 {A : Around} {k : Nat} (hr : Room k A) : A.units < cLine := hr.units0
end
end L2
namespace L2
open PySem PySem.Spec PyProof.Rows
section
variable {K : PySem.W.Frag}
end
end L2
namespace L2
open PySem PySem.Spec PyProof.Rows
end L2
namespace L2
open PySem PySem.Spec PyProof.Rows
section
variable {X : Cx} {tg : Expr}
end
end L2
namespace L2
open PySem PySem.Spec PyProof.Rows
section
variable {X : Cx}
end
end L2
namespace L2
open PySem PySem.Spec PyProof.Rows
theorem preSum_list (ns : List Int) : ∀ j, j ≤ ns.length → preSum (fun i => ns.getD i 0) j = (ns.take j).sum
  | 0, _ => by simp [preSum]
  | j + 1, h => by
    rw [preSum, preSum_list ns j (by omega), List.take_add_one, List.getElem?_eq_getElem (show j < ns.length by omega), List.sum_append, List.getD_eq_getElem?_getD, List.getElem?_eq_getElem (show j < ns.length by omega)]
    simp
theorem ints_at {ns : List Int} {us : List Value} (r : Vals (ns.map V.int) us) (i : Nat) (v : Value) (h : us[i]? = some v) : ∃ t, v = .int (ns.getD i 0) t := by
  obtain ⟨x, hx, rx⟩ := vals_at r h
  rw [List.getElem?_map] at hx
  cases hn : ns[i]? with
  | none => rw [hn] at hx; cases hx
  | some n =>
    rw [hn] at hx
    cases hx
    obtain ⟨t, rfl⟩ := rx
    exact ⟨t, by rw [List.getD_eq_getElem?_getD, hn]; rfl⟩
section
variable {X : Cx}
def rSum (K : PySem.W.Frag) : List V → Hp → VK → Prop := fun xs H Q => ∃ (p : Addr) (ns : List Int), xs = [.ref p] ∧ (SqL K H p (ns.map V.int) ∨ SqT K H p (ns.map V.int)) ∧ Q (.int ns.sum) H
theorem call_sumI (hc : X.calm = true) : CallR X (.builtin "sum") (rSum X.K) := by
  intro pins s σ H xs us Q I r h
  obtain ⟨p, ns, rfl, hq, q⟩ := h
  obtain ⟨u, rfl, rx⟩ := vals1 r
  cases rx
  have fin : ∀ (its : List Value), Vals (ns.map V.int) its → preSum (fun i => ns.getD i 0) its.toArray.size = ns.sum := fun its rv => by
    have hl := rv.length
    rw [List.length_map] at hl
    rw [List.size_toArray, ← hl, preSum_list ns _ (Nat.le_refl _), List.take_length]
  rcases hq with hq | hq
  · obtain ⟨its, rv, pl, hz⟩ := I.list hq
    have hlt : p < s.heap.objs.size := let ⟨o, e, _⟩ := pl.isList; Heap.lt_size e
    refine call_sum_walkG (wpAny_pyIter_list pl.isList ?_)
    refine ⟨s.heap.objs.size, _, _, _, _, _, fun i => ns.getD i 0, rfl, Walks.list (show X.A.in1.handled = none from I.ok.hd hc) s.heap.objs.size p (Nat.ne_of_lt hlt) its.toArray, ⟨⟨_, Heap.get?_push_size _ rfl, rfl, rfl⟩, pl.isList.at fun o e => Heap.get?_push_of_some _ e⟩, fun b hb => ?_, fun i v hv => ints_at rv i v (by simpa using hv), fun h' tk t' kk => ?_⟩
    · have : b = s.heap.objs.size ∨ b = p := by simpa using hb
      rcases this with rfl | rfl
      · simp [Heap.push]
      · have : s.heap.objs.size < (s.heap.push { cls := .type "list_iterator", data := .fields #[.ref b, .int 0 0] }).objs.size := by simp [Heap.push]
        exact Nat.lt_trans hlt this
    · refine ⟨.int _, H, I.kept fun b o e => kk b o (fun z => absurd (Heap.lt_size e) (by rw [List.mem_singleton.mp z]; exact Nat.lt_irrefl _)) (Heap.get?_push_of_some _ e), ⟨t', rfl⟩, ?_⟩
      rw [fin its rv]
      exact q
  · obtain ⟨its, rv, pl, hz⟩ := I.tuple hq
    have pt : s.heap.IsTuple p its.toArray := pl
    have hlt : p < s.heap.objs.size := let ⟨o, e, _⟩ := pt; Heap.lt_size e
    refine call_sum_walkG (wpAny_pyIter_tuple pt ?_)
    refine ⟨s.heap.objs.size, _, _, _, _, _, fun i => ns.getD i 0, rfl, Walks.tuple (show X.A.in1.handled = none from I.ok.hd hc) s.heap.objs.size p (Nat.ne_of_lt hlt) its.toArray, ⟨⟨_, Heap.get?_push_size _ rfl, rfl, rfl⟩, pt.at fun o e => Heap.get?_push_of_some _ e⟩, fun b hb => ?_, fun i v hv => ints_at rv i v (by simpa using hv), fun h' tk t' kk => ?_⟩
    · have : b = s.heap.objs.size ∨ b = p := by simpa using hb
      rcases this with rfl | rfl
      · simp [Heap.push]
      · have : s.heap.objs.size < (s.heap.push { cls := .type "tuple_iterator", data := .fields #[.ref b, .int 0 0] }).objs.size := by simp [Heap.push]
        exact Nat.lt_trans hlt this
    · refine ⟨.int _, H, I.kept fun b o e => kk b o (fun z => absurd (Heap.lt_size e) (by rw [List.mem_singleton.mp z]; exact Nat.lt_irrefl _)) (Heap.get?_push_of_some _ e), ⟨t', rfl⟩, ?_⟩
      rw [fin its rv]
      exact q
theorem call_sumIK (K : PySem.W.Frag) (hc : X.calm = true) (h : X.K = K := by rfl) : CallR X (.builtin "sum") (rSum K) := h ▸ call_sumI hc
end
end L2
namespace L2
open PySem PySem.Spec PyProof.Rows
section
variable {X : Cx}
end
end L2
namespace L2
open PySem PySem.Spec PyProof.Rows
section
variable {X : Cx}
end
end L2
namespace L2
open PySem PySem.Spec PyProof.Rows
section
variable {X : Cx} {pins : List (Addr × Obj)} {σ : St} {H : Hp} {s : Shared}
def SetIO (w : World) (a : Addr) (ks : List Int) : HO := .ext fun h => IW.SetInt w h a ks
theorem setIO_ok {P : Program} {w : World} {h : Heap} {a : Addr} {ks : List Int} (x : IW.SetInt w h a ks) : ObjOk P w H h a (SetIO w a ks) := ⟨x, let ⟨o, _, _, _, e, _⟩ := x; ⟨o, e⟩, fun h1 h2 p k => IW.SetInt.at p k⟩
theorem call_setI (hc : X.calm = true) : CallR X (.type "set") (fun xs H Q => ∃ (p : Addr) (ns : List Int), xs = [.ref p] ∧ SqL X.K H p (ns.map V.int) ∧ ns.length + 1 < 4096 ∧ ∀ q, H q = none → Q (.ref q) (upd H q (SetIO X.w q (IW.dd ns)))) := by
  intro pins s σ H xs us Q I r h
  obtain ⟨p, ns, rfl, hq, hb, q⟩ := h
  obtain ⟨u, rfl, rx⟩ := vals1 r
  cases rx
  obtain ⟨its, r', pl, hz⟩ := I.list hq
  have hlen := r'.length
  rw [List.length_map] at hlen
  refine IW.call_set_ints (xs := ns) (I.ok.hd hc) pl.isList (fun i v hv => ?_) (by rw [List.size_toArray, hlen]) hb fun h' tk hS k => ?_
  · obtain ⟨x, hx, rx⟩ := vals_at r' (i := i) (u := v) (by simpa using hv)
    rw [List.getElem?_map] at hx
    cases hl : ns[i]? with
    | none => rw [hl] at hx; cases hx
    | some l =>
      rw [hl] at hx
      cases hx
      obtain ⟨t, rfl⟩ := rx
      refine ⟨t, ?_⟩
      rw [List.getD_eq_getElem?_getD, hl]
      rfl
  · exact ⟨.ref s.heap.objs.size, _, I.laid (t' := tk) (h' := h') (fun b o e => k b o (Heap.lt_size e) e) (Nat.le_refl _) (setIO_ok hS), rfl, q _ (I.hok.fresh (Nat.le_refl _))⟩
def rSortSetI (w : World) : List V → Hp → VK → Prop := fun xs H Q => ∃ (a : Addr) (ks : List Int), xs = [.ref a] ∧ H a = some (SetIO w a ks) ∧ ∀ (p : Addr) (ns : List Int), H p = none → ns.Perm ks → ns.Pairwise (· ≤ ·) → Q (.ref p) (upd H p (.lst (ns.map V.int)))
theorem vals_vks : ∀ {us : List Value}, (∀ v ∈ us, ∃ x t, v = Value.int x t) → Vals ((us.map IW.vk).map V.int) us
  | [], _ => .nil
  | u :: us, h => by
    obtain ⟨x, t, rfl⟩ := h u List.mem_cons_self
    exact .cons ⟨t, rfl⟩ (vals_vks fun v hv => h v (List.mem_cons_of_mem _ hv))
theorem call_sortedSetI (hc : X.calm = true) : CallR X (.builtin "sorted") (rSortSetI X.w) := by
  intro pins s σ H xs us Q I r h
  obtain ⟨a, ks, rfl, hq, q⟩ := h
  obtain ⟨u, rfl, rx⟩ := vals1 r
  cases rx
  have hS : IW.SetInt X.w s.heap a ks := (I.hok a _ hq).1
  obtain ⟨o, es, ep, t, ho, hex, hd, en⟩ := id hS
  refine TS.sorted_gen2 (κ := TS.intK) (kd := oneType') fun A' hA => IW.collect_set (hA.trans (I.ok.hd hc)) hS fun ord s2 p1 p2 k g o sz => ?_
  have hlen : ord.length ≤ sizeLine := by
    have e := p1.length_eq
    rw [List.length_map] at e
    rw [e, ← en.size]
    exact fits_of_scanBound en.bnd
  refine ⟨⟨fun v hv => ?_, fun A' h' k2 h2 Q' q' => TS.kind_ints p2 h2 q', fun A' h' k2 => TS.lt_ints, hlen⟩, fun out h' hp hs k2 hn => ?_⟩
  · obtain ⟨x, t, rfl⟩ := p2 v hv
    exact ⟨_, rfl⟩
  · have hall : ∀ v ∈ out.toList, ∃ x t, v = Value.int x t := fun v hv => p2 v (hp.mem_iff.mp hv)
    have rv := vals_vks hall
    have hl2 : ((out.toList.map IW.vk).map V.int).length ≤ sizeLine := by rw [rv.length, hp.length_eq]; exact hlen
    refine ⟨.ref s2.heap.objs.size, _, I.grown (s' := { s2 with heap := h' }) (fun b u e => k2 b u (k b u e)) o (by rw [show ({ s2 with heap := h' } : Shared).gens = s.gens from g]; exact I.bare) sz (lst_new hl2 rv hn), rfl, q _ _ (I.hok.fresh sz) ((hp.map _).trans p1) ?_⟩
    rw [List.pairwise_map]
    refine List.Pairwise.imp_of_mem (fun {x y} hx hy z => ?_) hs
    obtain ⟨a1, t1, rfl⟩ := hall x hx
    obtain ⟨a2, t2, rfl⟩ := hall y hy
    have z' : decide (a2 < a1) = false := z
    simp at z'
    exact z'
end
end L2
namespace DS
open PySem PyProof.Rows
section
variable {prog : Program} {w : World} {K : Type} [DecidableEq K] {knd : HeapKind prog w K} {A : Around} {E : Value → Shared → Prop} {s : Shared} {d a : Addr} {xs : List (K × Addr × Value)} {k : K} {v : Value}
/-- a new key at the end -/
theorem pushed {h : Heap} (hm : h.DictOfH knd d xs) (hkey : knd.is h k a) (hnot : k ∉ xs.map (·.1)) : (h.update d (Obj.mapDictKeys (·.push ⟨knd.hash k, .ref a, v⟩))).DictOfH knd d (xs ++ [(k, a, v)]) := by
  obtain ⟨o, es, ep, ho, hc, hd, he, his, hn⟩ := hm
  have sb : Heap.SameBut d h (h.update d (Obj.mapDictKeys (·.push ⟨knd.hash k, .ref a, v⟩))) := Heap.SameBut.update ..
  refine ⟨_, _, ep + 1, Heap.get?_update_self _ ho (Obj.isFreed_of_dict (Obj.data_mapDictKeys hd _)), hc.mapDictKeys _, Obj.data_mapDictKeys hd _, ?_, fun x hx => ?_, ?_⟩
  · rw [Array.toList_push, he, List.map_append]
    rfl
  · rcases List.mem_append.mp hx with hx | hx
    · exact knd.keeps (his x hx) ho hd sb
    · rw [List.mem_singleton.mp hx]
      exact knd.keeps hkey ho hd sb
  · rw [List.map_append, List.nodup_append]
    exact ⟨hn, by simp, fun x hx y hy e => hnot (by rw [List.map_cons, List.map_nil, List.mem_singleton] at hy; subst e; rw [show x = k from hy] at hx; exact hx)⟩
theorem setDefault {Q : Value → Shared → Prop} (hu : knd.room A) (hkey : knd.is s.heap k a) (hm : s.heap.DictOfH knd d xs) (hz : xs.length ≤ sizeLine)
    (old : ∀ p, atKey xs k = some p → Q p.2 { s with toks := s.toks + knd.draws k })
    (new : atKey xs k = none → ∀ h', h'.DictOfH knd d (storedH xs k a v) → Heap.SameBut d s.heap h' → Q v { s with heap := h', toks := s.toks + knd.draws k }) : wpAny (model prog w) A (dictSetDefault d (.ref a) v) Q E s := by
  have hm' := hm
  obtain ⟨o, es, ep, ho, hc, hd, he, his, hn⟩ := hm'
  unfold dictSetDefault
  refine wpAny_holding (wpAny_bind (knd.pyHash hu hkey (wpAny_bind (wpAny_dictFind_heap (s := { s with toks := s.toks + knd.draws k }) hu hkey ho hd he his hn (fun no => ?_) fun j p hj => ?_))))
  · have e0 := atKey_none_of_get no
    have m := pushed (v := v) hm hkey (not_mem_keys_of_get no)
    rw [← storedH_new e0] at m
    exact wpAny_bind (wpAny_rule (wpAny_bind (wpAny_updateDictKeys (hz := by have e := size_of_entries he; omega) (s := { s with toks := s.toks + knd.draws k }) ho hd (wpAny_pure (new e0 _ m (Heap.SameBut.update ..))))))
  · refine wpAny_bind (wpAny_dictEntries (s := { s with toks := s.toks + knd.draws k }) ho hd ?_)
    rw [entry_at he j, hj]
    exact wpAny_bind (wpAny_rule (wpAny_pure (old p (atKey_of_get hn hj))))
end
end DS
namespace L2
open PySem PySem.Spec PyProof.Rows
def rSetDefT : V → List V → Hp → VK → Prop := fun x xs H Q => ∃ a b kvs k v, x = .ref a ∧ xs = [.ref b, v] ∧ H a = some (.dT kvs) ∧ H b = some (.tup (k.map kV)) ∧ kvs.length < sizeLine ∧ (∀ u, valV kvs k = some u → Q u H) ∧ (valV kvs k = none → Q v (upd H a (.dT (putK kvs k v))))
theorem mt_setDefT {X : Cx} (hu : X.A.units + 1 < cLine) : MtR X "dict.setdefault" rSetDefT := by
  intro pins s σ H x xs u us Q I rx rs h
  obtain ⟨a, b, kvs, k, v, rfl, rfl, e, eb, l, q1, q2⟩ := h
  obtain ⟨ub, uv, rfl, rb, rv⟩ := vals2 rs
  cases rx
  cases rb
  obtain ⟨z, hd, ys, rel, dd⟩ := dt_of I.hok e
  have hz : ys.length ≤ sizeLine := by rw [← Paired.length rel]; exact z
  refine wpAny_call_entry PySem.F.slot_dict_setdefault dd.typeIs PySem.F.entry_dict_setdefault ?_ (PySem.F.args_dict_setdefault_3 _ _ _)
  unfold Builtin.«dict.setdefault»
  refine wpAny_bind ?_
  unfold Builtin.Dict.keyAndDefault
  refine wpAny_bind (wpAny_notOrdered_dict dd.typeIs (wpAny_bind (wpAny_pure (wpAny_bind (wpAny_pure (wpAny_bind (wpAny_pure (wpAny_pure ?_))))))))
  dsimp only
  rw [if_neg (by rw [hd]; exact Bool.false_ne_true)]
  refine wpAny_bind (DS.setDefault (k := k) (xs := ys) (v := uv) (tupleKind_room_in1 hu) (key_of I.hok eb) dd hz (fun p hp => ?_) fun e0 h' dd' hs => ?_)
  · have r := rel.val k
    rw [hp] at r
    cases e1 : valV kvs k with
    | none => rw [e1] at r; exact r.elim
    | some u =>
      rw [e1] at r
      exact wpAny_pure ⟨_, rfl, u, H, I.tok _, r, q1 u e1⟩
  · have r := rel.val k
    rw [e0] at r
    have e1 : valV kvs k = none := by
      cases e1 : valV kvs k with
      | none => rfl
      | some u => rw [e1] at r; exact r.elim
    have hl : (putK kvs k v).length ≤ sizeLine := by have := length_putK kvs k v; omega
    obtain ⟨ob, es, ep, hq, h2, h3, h4, _, h5⟩ := dd'
    have new : ObjOk X.prog X.w (upd H a (.dT (putK kvs k v))) h' a (.dT (putK kvs k v)) := by
      refine ⟨hl, hd, _, (rel.put k eb rv).keeps fun c zs ec => ?_, ob, es, ep, hq, h2, h3, h4, h5⟩
      rw [upd_ne (ne_of ec e (fun z => nomatch z))]
      exact ec
    exact wpAny_pure ⟨_, rfl, v, _, d_write I (by rw [e]; exact True.intro) hs ⟨ob, hq⟩ new, rv, q2 e1⟩
end L2
namespace TK
open PySem PyProof.Rows
section
variable {κ : PyProof.Rows.KeyKind} {tag : Keyed → Nat} {xs : Array Keyed}
end
section
variable {prog : Program} {w : World} {A : Around} {E : Value → Shared → Prop} {s : Shared} {a₀ : Array Keyed} {κ : PyProof.Rows.KeyKind} {tag : Keyed → Nat} {st : SortSt} {N n : Nat}
end
end TK
namespace TK
open PySem PyProof.Rows
section
variable {prog : Program} {w : World} {A : Around} {E : Value → Shared → Prop} {s : Shared} {P : PySem.Fin → Shared → Prop} {tg : Value → Nat} {kf : Nat → Str} {vs : List Value} {J : Shared → Prop} {Fz : Addr → Prop} {a kS : Addr} {f : Value} {e e1 : Nat}
end
section
variable {prog : Program} {w : World} {A : Around} {E : Value → Shared → Prop} {s : Shared}
end
end TK
namespace L2
open PySem PySem.Spec PyProof.Rows
section
variable {X : Cx} {pins : List (Addr × Obj)} {σ : St} {H : Hp} {s : Shared} {A' : Around} {N' : List Str} {ix : List (Option Nat)} {scope : Scope} {p qual : Str} {f c' : Addr}
end
section
variable {P : Addr} {pos : Pos} {q : Str} {H H' H'' : Hp}
end
section
variable {X : Cx} {pins : List (Addr × Obj)} {σ : St} {H : Hp} {s : Shared} {P c : Addr} {pos : Pos} {q : Str}
end
end L2
namespace L2
open PySem PySem.Spec PyProof.Rows
section
variable {X : Cx} {pins : List (Addr × Obj)} {σ : St} {H : Hp} {s : Shared}
/-- a thing of ours that was not told of yet is told of -/
theorem Inv.adopt {a : Addr} {o : HO} (I : Inv X pins σ H s) (h0 : X.s₀.heap.objs.size ≤ a) (hn : H a = none) (hL : a ≠ X.env.locals) (hc : ∀ x c, X.env.cells.lookup x = some c → c ≠ a) (hp : ∀ p ∈ X.pn ++ pins, p.1 ≠ a)
    (new : ObjOk X.prog X.w (upd H a o) s.heap a o) : Inv X pins σ (upd H a o) s := by
  refine ⟨I.ok, I.os, I.bare, ⟨I.base.keep, I.base.slot, fun b ob e n hx => ?_, I.base.there, fun b xs e => ?_, fun b ob u e => ?_, fun b ps e => ?_⟩, I.loc, I.cell, ?_, fun x c e => ?_, fun p h => ?_, fun b u e => ?_, I.len⟩
  · rw [upd_ne (Nat.ne_of_lt (Nat.lt_of_lt_of_le (Heap.lt_size e) h0))]; exact I.base.free b ob e n hx
  · have q := I.base.tups b xs e
    rw [upd_ne (ne_of_none q hn)]; exact q
  · have q := I.base.frzs b ob u e
    rw [upd_ne (ne_of_none q hn)]; exact q
  · obtain ⟨m, q⟩ := I.base.tbls b ps e
    exact ⟨m, by rw [upd_ne (ne_of_none q hn)]; exact q⟩
  · rw [upd_ne (Ne.symm hL)]; exact I.free
  · rw [upd_ne (hc x c e)]; exact I.freeC x c e
  · obtain ⟨e, n, r⟩ := I.pin p h
    exact ⟨e, by rw [upd_ne (hp p h)]; exact n, r⟩
  · by_cases z : b = a
    · subst z
      rw [upd_same] at e
      cases e
      exact new
    · rw [upd_ne z] at e
      exact (I.hok b u e).stay (fun _ _ _ g => g) (fun c g => by rw [upd_ne (ne_of_none g hn)]; exact g) fun c xs g => by rw [upd_ne (ne_of_none g hn)]; exact g
/-- an address that was not there yet -/
structure Fz (X : Cx) (pins : List (Addr × Obj)) (b : Addr) : Prop where
  s0 : X.s₀.heap.objs.size ≤ b
  loc : b ≠ X.env.locals
  cell : ∀ x c, X.env.cells.lookup x = some c → c ≠ b
  pin : ∀ p ∈ X.pn ++ pins, p.1 ≠ b
  frm : b ∉ frs X.stack
theorem Inv.fz {b : Addr} (I : Inv X pins σ H s) (h : s.heap.objs.size ≤ b) : Fz X pins b where
  s0 := Nat.le_trans I.sz h
  loc := Nat.ne_of_gt (Nat.lt_of_lt_of_le I.lt h)
  cell := fun x c e z => by
    obtain ⟨v, q⟩ := I.cell x c e
    exact absurd (Nat.lt_of_lt_of_le q.lt (by rw [z]; exact h)) (Nat.lt_irrefl _)
  pin := fun p hp z => absurd (Nat.lt_of_lt_of_le (Heap.lt_size (I.pin p hp).1) (by rw [z]; exact h)) (Nat.lt_irrefl _)
  frm := fun hb => by
    rcases List.mem_cons.mp (I.stkSub b hb) with z | z
    · exact absurd (Nat.lt_of_lt_of_le I.lt h) (by rw [z]; exact Nat.lt_irrefl _)
    · exact I.nofs h z
end
section
variable {X : Cx}
end
end L2
namespace DV
open PySem PyProof.Rows
theorem best_spec (val : Nat → Int) : ∀ k, argBest (fun i j => decide (val i > val j)) k ≤ k ∧ ∀ i ≤ k, val i ≤ val (argBest (fun i j => decide (val i > val j)) k)
  | 0 => ⟨Nat.le_refl _, fun i hi => by have : i = 0 := by omega
                                        subst this; exact Int.le_refl _⟩
  | k + 1 => by
    obtain ⟨a, b⟩ := best_spec val k
    unfold argBest
    by_cases h : val (k + 1) > val (argBest (fun i j => decide (val i > val j)) k)
    · rw [if_pos (decide_eq_true h)]
      refine ⟨Nat.le_refl _, fun i hi => ?_⟩
      rcases Nat.lt_or_ge i (k + 1) with g | g
      · have := b i (by omega)
        omega
      · have : i = k + 1 := by omega
        subst this
        exact Int.le_refl _
    · rw [if_neg (by simpa using h)]
      refine ⟨by omega, fun i hi => ?_⟩
      rcases Nat.lt_or_ge i (k + 1) with g | g
      · exact b i (by omega)
      · have : i = k + 1 := by omega
        subst this
        omega
def sblt (x y : List Nat × Int) : Bool := decide (x.1 < y.1) || (decide (x.1 = y.1) && decide (x.2 < y.2))
@[reducible] def spairK (f : Addr → Option (List Nat × Int)) : KeyKind where
  α := List Nat × Int
  blt := sblt
  irrefl a := by simp [sblt, List.lt_irrefl]
  trans a b c h1 h2 := by
    simp only [sblt, Bool.or_eq_true, Bool.and_eq_true, decide_eq_true_eq] at *
    rcases h1 with h1 | ⟨e1, h1⟩ <;> rcases h2 with h2 | ⟨e2, h2⟩
    · exact .inl (List.lt_trans h1 h2)
    · exact .inl (e2 ▸ h1)
    · exact .inl (e1 ▸ h2)
    · exact .inr ⟨e1.trans e2, by omega⟩
  negTrans a b c h := by
    simp only [sblt, Bool.or_eq_true, Bool.and_eq_true, decide_eq_true_eq] at *
    have tri : ∀ x y : List Nat, x < y ∨ x = y ∨ y < x := fun x y => by
      by_cases g : x < y
      · exact .inl g
      · by_cases g2 : y < x
        · exact .inr (.inr g2)
        · exact .inr (.inl (List.le_antisymm (List.not_lt.mp g2) (List.not_lt.mp g)))
    rcases h with h | ⟨e, h⟩
    · rcases tri a.1 b.1 with z | z | z
      · exact .inl (.inl z)
      · exact .inr (.inl (z ▸ h))
      · exact .inr (.inl (List.lt_trans z h))
    · rcases tri a.1 b.1 with z | z | z
      · exact .inl (.inl z)
      · by_cases hab : a.2 < b.2
        · exact .inl (.inr ⟨z, hab⟩)
        · exact .inr (.inr ⟨z ▸ e, by omega⟩)
      · exact .inr (.inl (e ▸ z))
  total a b h1 h2 := by
    simp only [sblt, Bool.or_eq_false_iff, Bool.and_eq_false_iff, decide_eq_false_iff_not] at *
    have e : a.1 = b.1 := List.le_antisymm (List.not_lt.mp h2.1) (List.not_lt.mp h1.1)
    have e2 : a.2 = b.2 := by
      rcases h1.2 with z | z
      · exact absurd e z
      · rcases h2.2 with y | y
        · exact absurd e.symm y
        · omega
    exact Prod.ext e e2
  keyOf v := match v with | .ref a => f a | _ => none
  dflt := ([], 0)
/-- where such a pair stands -/
def SPairAt (h : Heap) (a : Addr) (k : List Nat × Int) : Prop := ∃ o n i t x u, h.get? a = some o ∧ o.cls = .type "tuple" ∧ o.data = .seq #[.str x u, .int i t] n ∧ k = (x.cps.toList, i)
section
variable {prog : Program} {w : World} {A : Around} {E : Value → Shared → Prop} {s : Shared}
theorem lt_spairs {f : Addr → Option (List Nat × Int)} (hf : ∀ a k, f a = some k → SPairAt s.heap a k) : TS.LtOk (spairK f) (tuples' true) prog w A s := by
  intro E x y a b Q ha hb h
  cases x <;> simp only [spairK, reduceCtorEq] at ha
  cases y <;> simp only [spairK, reduceCtorEq] at hb
  obtain ⟨o1, n1, i, t, p, u, g1, c1, d1, rfl⟩ := hf _ _ ha
  obtain ⟨o2, n2, j, t2, q, u2, g2, c2, d2, rfl⟩ := hf _ _ hb
  refine PySem.W.kat_lt g1 d1 g2 d2 ?_
  show PySem.W.KatLex prog w A true (decide (2 < 2)) Q [(Value.str p u, Value.str q u2), (Value.int i t, Value.int j t2)] 0 s
  refine PySem.W.kat_cons (wpAny_eqBool_str ?_)
  by_cases e : p = q
  · subst e
    rw [decide_eq_true rfl]
    refine PySem.W.kat_yes (PySem.W.kat_cons (wpAny_eqBool_int ?_))
    by_cases e2 : i = j
    · subst e2
      rw [beq_self_eq_true]
      refine PySem.W.kat_yes (PySem.W.kat_nil ?_)
      have e3 : sblt (p.cps.toList, i) (p.cps.toList, i) = false := by simp [sblt, List.lt_irrefl]
      have h' : Q (sblt (p.cps.toList, i) (p.cps.toList, i)) s := h
      rw [e3] at h'
      exact h'
    · rw [beq_eq_false_iff_ne.mpr e2]
      refine PySem.W.kat_no ?_
      show wpAny (model prog w) A (oneLt' false (Value.int i t) (Value.int j t2)) Q (fun _ _ => False) s
      refine PySem.W.kat_one _ _ (PyProof.Rows.lt_int ?_)
      have e3 : sblt (p.cps.toList, i) (p.cps.toList, j) = decide (i < j) := by simp [sblt, List.lt_irrefl]
      have h' : Q (sblt (p.cps.toList, i) (p.cps.toList, j)) s := h
      rw [e3] at h'
      exact h'
  · rw [decide_eq_false e]
    refine PySem.W.kat_no ?_
    show wpAny (model prog w) A (oneLt' true (Value.str p u) (Value.str q u2)) Q (fun _ _ => False) s
    refine oneLt_str ?_
    have e3 : sblt (p.cps.toList, i) (q.cps.toList, j) = decide (p.cps.toList < q.cps.toList) := by
      have : p.cps.toList ≠ q.cps.toList := fun z => e (by cases p; cases q; simp at z; simp [z])
      simp [sblt, this]
    have h' : Q (sblt (p.cps.toList, i) (q.cps.toList, j)) s := h
    rw [e3] at h'
    exact h'
theorem tups_sp {f : Addr → Option (List Nat × Int)} {h : Heap} (hf : ∀ a k, f a = some k → SPairAt h a k) : ∀ {vs : List Value}, (∀ v ∈ vs, ∃ k, (spairK f).keyOf v = some k) → ∃ fs, PySem.W.KatTups h vs fs ∧ (∀ v ∈ fs, ∃ i t, v = Value.str i t) ∧ fs.length = vs.length
  | [], _ => ⟨[], trivial, fun v z => (by cases z), rfl⟩
  | v :: vs, hv => by
    obtain ⟨fs, a1, a2, a3⟩ := tups_sp hf (vs := vs) fun v z => hv v (List.mem_cons_of_mem _ z)
    obtain ⟨k, hk⟩ := hv v List.mem_cons_self
    cases v <;> simp only [spairK, reduceCtorEq] at hk
    obtain ⟨o1, n1, i, t, p, u, g1, c1, d1, rfl⟩ := hf _ _ hk
    refine ⟨Value.str p u :: fs, PySem.W.KatTups.cons g1 c1 d1 rfl a1, fun v z => ?_, by rw [List.length_cons, List.length_cons, a3]⟩
    rcases List.mem_cons.mp z with rfl | z
    · exact ⟨p, u, rfl⟩
    · exact a2 v z
theorem kind_sp {f : Addr → Option (List Nat × Int)} (hf : ∀ a k, f a = some k → SPairAt s.heap a k) {vs : List Value} (hv : ∀ v ∈ vs, ∃ k, (spairK f).keyOf v = some k) (h2 : 2 ≤ vs.length) {Q : SortKind → Shared → Prop} (h : Q (tuples' true) s) :
    wpAny (model prog w) A (keyKind' vs.toArray) Q E s := by
  obtain ⟨fs, a1, a2, a3⟩ := tups_sp hf hv
  exact PySem.W.kat_kind (T := .type "str") a1 (by omega) (fun v hm => by obtain ⟨x, t, rfl⟩ := a2 v hm; exact PySem.W.Looks.of_pure rfl) (by decide) h
end
end DV
namespace TS
open PySem PyProof.Rows
section
variable {prog : Program} {w : World} {A : Around} {E : Value → Shared → Prop} {s : Shared} {kd : SortKind}
/-- sorted, the kind of keys told behind what is collected -/
theorem sorted_gen3 {x : Value} {Q : Value → Shared → Prop}
    (hcol : ∀ (A' : Around), A'.handled = A.handled → wpAny (model prog w) A' (collect x) (fun vs s2 => ∃ κ : PyProof.Rows.KeyKind, Col κ kd prog w E vs s2 ∧ ∀ (out : Array Value) h', out.toList.Perm vs → Sorted κ out.toList → (∀ b o, s2.heap.get? b = some o → h'.get? b = some o) →
      (∃ e, h'.get? s2.heap.objs.size = some (seqObj "list" out e)) → Q (.ref s2.heap.objs.size) { s2 with heap := h' }) E s) :
    wpAny (model prog w) A (call (.builtin "sorted") [x]) Q E s := by
  refine Calls.call_function_entry kind_sorted plain_sorted entry_sorted (args_sorted1 _) ?_
  unfold Builtin.«sorted»
  refine wpAny_bind (m := checkCount "sorted" 1 1 _) (wpAny_pure ?_)
  refine wpAny_bind (wpAny_mono (hcol _ rfl) (fun vs s2 hc => ?_) fun _ _ e => e)
  obtain ⟨κ, ⟨h0, hkk, hL, hz⟩, h⟩ := hc
  refine wpAny_bind (wpAny_newList ?_)
  have hoL : (s2.heap.push (seqObj "list" vs.toArray 0)).get? s2.heap.objs.size = some (seqObj "list" vs.toArray 0) := Heap.get?_push_size _ rfl
  have up : ∀ {h' : Heap}, (∀ b o, b ≠ s2.heap.objs.size → (s2.heap.push (seqObj "list" vs.toArray 0)).get? b = some o → h'.get? b = some o) → ∀ b o, s2.heap.get? b = some o → h'.get? b = some o := fun k b o e =>
    k b o (Nat.ne_of_lt (Heap.lt_size e)) (Heap.get?_push_of_some _ e)
  show wpAny _ _ _ _ _ { s2 with heap := s2.heap.push (seqObj "list" vs.toArray 0) }
  refine wpAny_bind (wpAny_holding (wpAny_call_entry slot_list_sort ⟨_, hoL, rfl⟩ entry_list_sort (list_sort_gen hoL h0 (fun h' k hl Q' hq => hkk _ h' (up k) hl Q' hq) (fun h' k => hL _ h' (up k)) hz fun out a1 a2 => ⟨_, rfl, ?_⟩) (args_list_sort _)))
  exact wpAny_pure ⟨_, rfl, h out _ a1 a2 (fun b o e => sortedHeap_keep e) sortedHeap_new⟩
end
end TS
namespace L2
open PySem PySem.Spec PyProof.Rows
section
variable {X : Cx} {pins : List (Addr × Obj)} {σ : St} {H : Hp} {s : Shared}
def ValsO (a d : Addr) : HO := .ext fun h => h.IsValuesView a d
def ItemsO (a d : Addr) : HO := .ext fun h => h.IsItemsView a d
theorem valsO_ok {P : Program} {w : World} {h : Heap} {a d : Addr} (x : h.IsValuesView a d) : ObjOk P w H h a (ValsO a d) := ⟨x, let ⟨o, e, _⟩ := x; ⟨o, e⟩, fun h1 h2 p k => let ⟨o, e, r⟩ := p; ⟨o, k o e, r⟩⟩
theorem itemsO_ok {P : Program} {w : World} {h : Heap} {a d : Addr} (x : h.IsItemsView a d) : ObjOk P w H h a (ItemsO a d) := ⟨x, let ⟨o, e, _⟩ := x; ⟨o, e⟩, fun h1 h2 p k => let ⟨o, e, r⟩ := p; ⟨o, k o e, r⟩⟩
def rVals : V → List V → Hp → VK → Prop := fun x xs H Q => ∃ (d : Addr) (kvs : List (Key × V)), x = .ref d ∧ xs = [] ∧ H d = some (.dK kvs) ∧ ∀ q, H q = none → Q (.ref q) (upd H q (ValsO q d))
theorem mt_values : MtR X "dict.values" rVals := by
  intro pins s σ H x xs u us Q I rx rs h
  obtain ⟨d, kvs, rfl, rfl, e, q⟩ := h
  cases rx
  cases rs
  obtain ⟨z, hd, vs, rel, dd⟩ := dk_of I.hok e
  exact call_meetsIn PySem.F.slot_dict_values dd.typeIs PySem.F.entry_dict_values (PySem.F.args_dict_values_1 _) (meets_dict_values (mixKind X.prog X.w) d hd)
    ⟨⟨vs, dd⟩, ⟨.ref s.heap.objs.size, _, I.laid (t' := s.toks) (fun b o e => Heap.get?_push_of_some _ e) (Nat.le_refl _) (valsO_ok ⟨_, Heap.get?_push_size _ rfl, rfl, rfl⟩), rfl, q _ (I.hok.fresh (Nat.le_refl _))⟩⟩
def rItems : V → List V → Hp → VK → Prop := fun x xs H Q => ∃ (d : Addr) (kvs : List (Key × V)), x = .ref d ∧ xs = [] ∧ H d = some (.dK kvs) ∧ ∀ q, H q = none → Q (.ref q) (upd H q (ItemsO q d))
theorem mt_items : MtR X "dict.items" rItems := by
  intro pins s σ H x xs u us Q I rx rs h
  obtain ⟨d, kvs, rfl, rfl, e, q⟩ := h
  cases rx
  cases rs
  obtain ⟨z, hd, vs, rel, dd⟩ := dk_of I.hok e
  exact call_meetsIn PySem.F.slot_dict_items dd.typeIs PySem.F.entry_dict_items (PySem.F.args_dict_items_1 _) (meets_dict_items (mixKind X.prog X.w) d hd)
    ⟨⟨vs, dd⟩, ⟨.ref s.heap.objs.size, _, I.laid (t' := s.toks) (fun b o e => Heap.get?_push_of_some _ e) (Nat.le_refl _) (itemsO_ok ⟨_, Heap.get?_push_size _ rfl, rfl, rfl⟩), rfl, q _ (I.hok.fresh (Nat.le_refl _))⟩⟩
def rMaxV : List V → Hp → VK → Prop := fun xs H Q => ∃ (a d : Addr) (kvs : List (Key × V)) (ns : List Int), xs = [.ref a] ∧ H a = some (ValsO a d) ∧ H d = some (.dK kvs) ∧ kvs.map (·.2) = ns.map V.int ∧ ns ≠ [] ∧ ∀ m, m ∈ ns → (∀ n ∈ ns, n ≤ m) → Q (.int m) H
theorem kv_val : ∀ {kvs : List (Key × V)} {vs : List (Key × Value)}, KV kvs vs → ∀ {i : Nat} {kv : Key × Value}, vs[i]? = some kv → ∃ v, kvs[i]? = some (kv.1, v) ∧ RelV v kv.2
  | _, _, .nil, i, kv, e => by simp at e
  | _, _, .cons r t, 0, kv, e => by
    simp at e; subst e
    exact ⟨_, by simp; exact Prod.ext r.1 rfl, r.2⟩
  | _, _, .cons r t, i + 1, kv, e => by
    obtain ⟨v, a, b⟩ := kv_val t (i := i) (by simpa using e)
    exact ⟨v, by simpa using a, b⟩
theorem call_maxV (hc : X.calm = true) : CallR X (.builtin "max") rMaxV := by
  intro pins s σ H xs us Q I r h
  obtain ⟨a, d, kvs, ns, rfl, ha, hd, hk, hne, q⟩ := h
  obtain ⟨u, rfl, rx⟩ := vals1 r
  cases rx
  have hv : s.heap.IsValuesView a d := (I.hok a _ ha).1
  obtain ⟨z, hd', vs, rel, dd⟩ := dk_of I.hok hd
  obtain ⟨ep, hat⟩ := dd.dictAt
  have l1 : kvs.length = vs.length := Paired.length rel
  have l2 : kvs.length = ns.length := by have := congrArg List.length hk; simpa using this
  have hval : ∀ (i : Nat) (v : Value), (∃ k, vs[i]? = some (k, v)) → ∃ t, v = .int (ns.getD i 0) t := by
    rintro i v ⟨k, e⟩
    obtain ⟨v', e1, e2⟩ := kv_val rel e
    have : (kvs.map (·.2))[i]? = some v' := by rw [List.getElem?_map, e1]; rfl
    rw [hk, List.getElem?_map] at this
    cases hn : ns[i]? with
    | none => rw [hn] at this; cases this
    | some n =>
      rw [hn] at this
      cases this
      obtain ⟨t, rfl⟩ := e2
      exact ⟨t, by rw [List.getD_eq_getElem?_getD, hn]; rfl⟩
  have hlt : d < s.heap.objs.size := hat.lt_size
  have hpos : 0 < vs.length := by
    have : 0 < ns.length := List.length_pos_iff.mpr hne
    omega
  refine call_max_walk (wpAny_pyIter_values (knd := mixKind X.prog X.w) hv hat ?_)
  refine ⟨s.heap.objs.size, _, _, vs.length, _, _, fun i j => decide (ns.getD i 0 > ns.getD j 0), rfl, Walks.dictValues (knd := mixKind X.prog X.w) (show X.A.in1.handled = none from I.ok.hd hc) _ d (Nat.ne_of_lt hlt) vs ep, ⟨⟨_, Heap.get?_push_size _ rfl, rfl, rfl⟩, hat.push _⟩, ?_, hpos, CmpOf.ints_gt (fun i => ns.getD i 0) hval, ?_⟩
  · intro b hb
    simp only [List.mem_cons, List.not_mem_nil, or_false] at hb
    rw [Heap.size_push]
    rcases hb with rfl | rfl
    · exact Nat.lt_succ_self _
    · exact Nat.lt_succ_of_lt hlt
  · intro v h' tk hP keep
    obtain ⟨b1, b2⟩ := DV.best_spec (fun i => ns.getD i 0) (vs.length - 1)
    obtain ⟨t, rfl⟩ := hval _ _ hP
    refine ⟨.int _, H, I.kept (t' := tk) fun b o e => keep b o ?_ (Heap.get?_push_of_some _ e), ⟨t, rfl⟩, q _ ?_ ?_⟩
    · simp only [List.mem_cons, List.not_mem_nil, or_false]
      exact Nat.ne_of_lt (Heap.lt_size e)
    · have hl : argBest (fun i j => decide (ns.getD i 0 > ns.getD j 0)) (vs.length - 1) < ns.length := by omega
      rw [List.getD_eq_getElem?_getD, List.getElem?_eq_getElem hl]
      exact List.getElem_mem hl
    · intro n hn
      obtain ⟨i, hi, rfl⟩ := List.getElem_of_mem hn
      have := b2 i (by omega)
      rw [show ns.getD i 0 = ns[i] by rw [List.getD_eq_getElem?_getD, List.getElem?_eq_getElem hi]; rfl] at this
      exact this
/-- tuples that lie in the heap are told -/
theorem Inv.adopts : ∀ (ps : List (Addr × List V)) {H : Hp}, Inv X pins σ H s → (∀ p ∈ ps, Fz X pins p.1 ∧ H p.1 = none ∧ p.2.length ≤ sizeLine ∧ ∃ its, Vals p.2 its ∧ IsTup s.heap p.1 its.toArray) → (ps.map (·.1)).Nodup →
    ∃ H', Inv X pins σ H' s ∧ Same H H' ∧ (∀ p ∈ ps, H' p.1 = some (.tup p.2)) ∧ ∀ b, b ∉ ps.map (·.1) → H' b = H b
  | [], H, I, _, _ => ⟨H, I, Same.refl H, fun p hp => (by cases hp), fun _ _ => rfl⟩
  | p :: ps, H, I, h, nd => by
    obtain ⟨f, hn, hz, its, rv, it⟩ := h p List.mem_cons_self
    rw [List.map_cons, List.nodup_cons] at nd
    have I1 : Inv X pins σ (upd H p.1 (.tup p.2)) s := I.adopt f.s0 hn f.loc f.cell f.pin (show ObjOk X.prog X.w _ _ _ (.tup p.2) from ⟨hz, its, rv, it⟩)
    obtain ⟨H', I', sm, ht, ho⟩ := Inv.adopts ps I1 (fun p' hp' => by
      obtain ⟨f', hn', r'⟩ := h p' (List.mem_cons_of_mem _ hp')
      refine ⟨f', ?_, r'⟩
      rw [upd_ne (fun z => nd.1 (List.mem_map.mpr ⟨p', hp', z⟩))]
      exact hn') nd.2
    refine ⟨H', I', (same_new hn _).trans sm, fun p' hp' => ?_, fun b hb => ?_⟩
    · rcases List.mem_cons.mp hp' with rfl | hp'
      · exact sm _ _ upd_same
      · exact ht p' hp'
    · rw [List.map_cons, List.mem_cons, not_or] at hb
      rw [ho b hb.2, upd_ne hb.1]
/-- the pair at an address, by the tracked heap -/
def spOf (H : Hp) (a : Addr) : Option (List Nat × Int) := match H a with
  | some (.tup [.str z, .int i]) => some (z.cps.toList, i)
  | _ => none
theorem spOf_some {H : Hp} {a : Addr} {k : List Nat × Int} (h : spOf H a = some k) : ∃ z : Str, H a = some (.tup [.str z, .int k.2]) ∧ k.1 = z.cps.toList := by
  unfold spOf at h
  split at h
  · rename_i z i e
    cases h
    exact ⟨z, e, rfl⟩
  · cases h
theorem sp_at (I : Inv X pins σ H s) {h' : Heap} (k : ∀ b o, s.heap.get? b = some o → h'.get? b = some o) : ∀ a z, spOf H a = some z → DV.SPairAt h' a z := fun a z e => by
  obtain ⟨x, e, e2⟩ := spOf_some e
  obtain ⟨_, its, r, o, ho, hc, n, hd⟩ := I.hok a _ e
  cases r with
  | cons r1 t =>
    cases t with
    | cons r2 t =>
      cases t
      obtain ⟨t1, rfl⟩ := r1
      obtain ⟨t2, rfl⟩ := r2
      exact ⟨o, n, z.2, t2, x, t1, k a o ho, hc, hd, Prod.ext e2 rfl⟩
abbrev lineK (z : List Nat × Int) : Key × V := (.inr (S z.1), .int z.2)
abbrev lineV (z : List Nat × Int) : List V := [.str (S z.1), .int z.2]
def rSortItems : List V → Hp → VK → Prop := fun xs H Q => ∃ (a d : Addr) (zs : List (List Nat × Int)), xs = [.ref a] ∧ H a = some (ItemsO a d) ∧ H d = some (.dK (zs.map lineK)) ∧
  ∀ p (ps : List (Addr × List Nat × Int)) H', Same H H' → (ps.map (·.2)).Perm zs → (ps.Pairwise fun x y => DV.sblt y.2 x.2 = false) → (∀ z ∈ ps, H' z.1 = some (.tup (lineV z.2))) → H' p = some (.lst (ps.map fun z => V.ref z.1)) → Q (.ref p) H'
theorem get_zip {α β : Type} : ∀ {as : List α} {bs : List β} {i : Nat} {z : α × β}, (as.zip bs)[i]? = some z → as[i]? = some z.1 ∧ bs[i]? = some z.2
  | [], _, _, _, h => by simp at h
  | _ :: _, [], _, _, h => by simp at h
  | x :: as, y :: bs, 0, z, h => by simp at h; subst h; exact ⟨rfl, rfl⟩
  | x :: as, y :: bs, i + 1, z, h => by rw [List.zip_cons_cons, List.getElem?_cons_succ] at h; simp only [List.getElem?_cons_succ]; exact get_zip h
theorem call_sortedItems (hc : X.calm = true) : CallR X (.builtin "sorted") rSortItems := by
  intro pins s σ H xs us Q I r h
  obtain ⟨a, d, zs, rfl, ha, hd, q⟩ := h
  obtain ⟨u, rfl, rx⟩ := vals1 r
  cases rx
  have hv : s.heap.IsItemsView a d := (I.hok a _ ha).1
  obtain ⟨z, hd', vs, rel, dd⟩ := dk_of I.hok hd
  obtain ⟨ep, hat⟩ := dd.dictAt
  have l1 : (zs.map lineK).length = vs.length := Paired.length rel
  rw [List.length_map] at l1
  have hz : vs.length ≤ sizeLine := by rw [← l1, ← List.length_map (f := lineK)]; exact z
  refine TS.sorted_gen3 (kd := tuples' true) fun A' hA => PySem.W.kdx_collect (knd := mixKind X.prog X.w) (hA.trans (I.ok.hd hc)) hv hat hz fun h1 tk as k hl G => ?_
  have I1 : Inv X pins σ H { s with heap := h1, toks := tk } := I.kept (t' := tk) k
  have hab : ∀ b ∈ as, s.heap.objs.size ≤ b := fun b hb => Nat.le_of_lt (G.above b hb)
  have nd : as.Nodup := G.rise.imp fun {x y} g e => by subst e; exact absurd g (Nat.lt_irrefl _)
  have hall : ∀ p ∈ (as.zip zs).map (fun z => (z.1, lineV z.2)), Fz X pins p.1 ∧ H p.1 = none ∧ p.2.length ≤ sizeLine ∧ ∃ its, Vals p.2 its ∧ IsTup h1 p.1 its.toArray := by
    intro p hp
    obtain ⟨y, hy, rfl⟩ := List.mem_map.mp hp
    obtain ⟨j, hj⟩ := List.mem_iff_getElem?.mp hy
    obtain ⟨j1, j2⟩ := get_zip hj
    have hge := hab _ (List.mem_of_getElem? j1)
    refine ⟨I.fz hge, I.hok.fresh hge, (by show 2 ≤ sizeLine; rw [sizeLine_eq]; omega), ?_⟩
    obtain ⟨key, kk, x, e1, e2, e3⟩ := G.pairs j _ j1
    obtain ⟨v, e4, e5⟩ := kv_val rel e1
    rw [List.getElem?_map, j2] at e4
    cases e4
    exact ⟨[key, x], .cons (rel_key (k := .inr (S y.2.1)) (show keyIs _ _ = true from e2)) (.cons e5 .nil), ⟨_, e3, rfl, 0, rfl⟩⟩
  have hnd : (((as.zip zs).map (fun z => (z.1, lineV z.2))).map (·.1)).Nodup := by
    rw [List.map_map, show ((fun p : Addr × List V => p.1) ∘ fun z : Addr × List Nat × Int => (z.1, lineV z.2)) = Prod.fst from rfl, List.map_fst_zip (by omega)]
    exact nd
  obtain ⟨H2, I2, sm, ht, ho⟩ := Inv.adopts _ I1 hall hnd
  have hps : ∀ z ∈ as.zip zs, H2 z.1 = some (.tup (lineV z.2)) := fun z hz => ht _ (List.mem_map.mpr ⟨z, hz, rfl⟩)
  have hk : ∀ z ∈ as.zip zs, ∀ u, RelV (V.ref z.1) u → (DV.spairK (spOf H2)).keyOf u = some z.2 := fun z m u ru => by
    cases ru
    show spOf H2 z.1 = some z.2
    unfold spOf
    rw [hps z m]
    rfl
  have rv : Vals ((as.zip zs).map fun z => V.ref z.1) (as.map Value.ref) := by
    have e : ((as.zip zs).map fun z => V.ref z.1) = as.map V.ref := by
      rw [show (fun z : Addr × List Nat × Int => V.ref z.1) = V.ref ∘ Prod.fst from rfl, ← List.map_map, List.map_fst_zip (by omega)]
    rw [e]
    clear hl G nd hab hall hnd ht ho hps hk e
    induction as with
    | nil => exact .nil
    | cons b bs ih => exact .cons rfl ih
  refine ⟨DV.spairK (spOf H2), ⟨fun v hv => ?_, fun A' h' k2 h2 Q' q' => DV.kind_sp (sp_at I2 k2) (vals_all rv fun z m u ru => ⟨_, hk z m u ru⟩) h2 q', fun A' h' k2 => DV.lt_spairs (sp_at I2 k2), by rw [List.length_map]; omega⟩, fun out h' hp hs k2 hn => ?_⟩
  · exact vals_all rv (P := fun v => ∃ k, (DV.spairK (spOf H2)).keyOf v = some k) (fun z m u ru => ⟨_, hk z m u ru⟩) v hv
  · obtain ⟨ps, r', p1, p2⟩ := sorted_fin rv hk hp hs
    have hzl : (ps.map fun z => V.ref z.1).length ≤ sizeLine := by
      rw [List.length_map, p1.length_eq, List.length_zip]
      omega
    have hH : H2 h1.objs.size = none := I2.hok.fresh (Nat.le_refl _)
    refine ⟨.ref h1.objs.size, _, I2.grown (s' := { s with heap := h', toks := tk }) (fun b u e => k2 b u e) rfl I2.bare (Nat.le_refl _) (lst_new hzl r' hn), rfl, q _ ps _ (sm.trans (same_new hH _)) ?_ p2 (fun z hz => same_new hH _ _ _ (hps z (p1.mem_iff.mp hz))) upd_same⟩
    refine (p1.map _).trans (List.Perm.of_eq ?_)
    rw [List.map_snd_zip (by omega)]
theorem call_lenT : CallR X (.builtin "len") (fun xs H Q => ∃ (a : Addr) (kvs : List (List Key × V)), xs = [V.ref a] ∧ H a = some (.dT kvs) ∧ Q (.int kvs.length) H) := by
  intro pins s σ H xs us Q I r h
  obtain ⟨a, kvs, rfl, ha, q⟩ := h
  obtain ⟨u, rfl, ru⟩ := vals1 r
  cases ru
  obtain ⟨z, hd, ys, rel, dd⟩ := dt_of I.hok ha
  have hlen : kvs.length = ys.length := Paired.length rel
  obtain ⟨o, es, ep, ho, hc, hdat, he, _, _⟩ := id dd
  have hes : es.size = kvs.length := by rw [hlen, ← Array.length_toList, he, List.length_map]
  refine Calls.call_function_entry kind_len plain_len entry_len (args_len1 _) ?_
  unfold Builtin.«len»
  refine wpAny_bind (m := oneArg "len" _) (wpAny_pure ?_)
  refine wpAny_bind (m := callSpecial? (.ref a) (Str.ofString "__len__")) (wpAny_callSpecial?_slot (name := Str.ofString "__len__") dd.typeIs PySem.F.slot_dict_len
    (wpAny_call_entry PySem.F.slot_dict_len dd.typeIs PySem.F.entry_dict_len ?_ (PySem.F.args_dict_len_1 _)))
  show wpAny _ _ (dictSize a >>= _) _ _ s
  unfold dictSize
  refine wpAny_bind (wpAny_bind (wpAny_dictEntries ho hdat (wpAny_pure ?_)))
  refine wpAny_bind (wpAny_pendingCount_other hd ?_)
  refine wpAny_bind (wpAny_mkInt (wpAny_pure ⟨_, rfl, ?_⟩))
  rw [Nat.add_zero, hes]
  have hf : (kvs.length : Int) < 2 ^ 63 := by rw [sizeLine_eq] at z; omega
  refine wpAny_bind (wpAny_holding (wpAny_pure ?_))
  refine wpAny_bind (wpAny_letGo ?_)
  show wpAny _ _ (if ((kvs.length : Nat) : Int) < 0 then _ else _) _ _ _
  rw [if_neg (by omega)]
  show wpAny _ _ (if ((kvs.length : Nat) : Int) ≥ 2 ^ 63 then _ else _) _ _ _
  rw [if_neg (by omega)]
  exact wpAny_bind (wpAny_mkInt (wpAny_pure ⟨_, rfl, .int kvs.length, H, I.tok _, ⟨_, rfl⟩, q⟩))
end
end L2
namespace DP
open PySem PyProof.Rows
section
variable {prog : Program} {w : World} {A : Around} {E : Value → Shared → Prop} {s : Shared}
end
section
variable {prog : Program} {w : World} {A : Around} {R : Result → Shared → Prop} {K : Type} [DecidableEq K] {knd : KeyKind prog w K} {I d : Addr} {fp : List Addr} {items : Array Value} {St : Nat → Heap → Prop} {kvs : List (K × Value)} {h0 : Heap}
end
section
variable {prog : Program} {w : World} {A : Around} {E : Value → Shared → Prop} {s : Shared} {K : Type} [DecidableEq K] {knd : KeyKind prog w K}
end
end DP
namespace L2
open PySem PySem.Spec PyProof.Rows
section
variable {X : Cx} {pins : List (Addr × Obj)} {σ : St} {H : Hp} {s : Shared}
def rTupZ (K : PySem.W.Frag) : List V → Hp → VK → Prop := fun xs H Q => ∃ (p : Addr) (ys : List V), xs = [.ref p] ∧ SqL K H p ys ∧ ∀ (l : Addr) (o : Obj), H l = none → o.dict = none → o.cls = .type "tuple" → Q (.ref l) (upd H l (.frz o (.tup ys)))
theorem call_tupleZ : CallR X (.type "tuple") (rTupZ X.K) := by
  intro pins s σ H xs us Q I r h
  obtain ⟨p, ys, rfl, hq, q⟩ := h
  obtain ⟨u, rfl, rx⟩ := vals1 r
  cases rx
  obtain ⟨its, r', pl, hz⟩ := I.list hq
  have hlen := r'.length
  refine call_tuple_list pl.isList (fun h' kp => ?_) (by simp only [List.size_toArray] <;> omega)
  have I1 : Inv X pins σ H { s with heap := h' } := I.kept (t' := s.toks) kp
  have I2 : Inv X pins σ (upd H h'.objs.size (.frz { cls := .type "tuple", data := .seq its.toArray } (.tup ys))) { s with heap := h'.push { cls := .type "tuple", data := .seq its.toArray } } :=
    I1.laid (t' := s.toks) (fun b o e => Heap.get?_push_of_some _ e) (Nat.le_refl _) ⟨Heap.get?_push_size _ rfl, (show ObjOk X.prog X.w _ _ _ (.tup ys) from ⟨hz, its, r', IsTup.new _ _⟩)⟩
  exact ⟨.ref h'.objs.size, _, I2, rfl, q _ _ (I1.hok.fresh (Nat.le_refl _)) rfl rfl⟩
theorem call_tupleZK (K : PySem.W.Frag) (h : X.K = K := by rfl) : CallR X (.type "tuple") (rTupZ K) := h ▸ call_tupleZ
end
end L2
namespace L2
open PySem PySem.Spec PyProof.Rows
section
variable {X : Cx}
theorem pe_bm0K {o : Expr} {to : TE} {name : Str} {apos cpos : Pos} {T id : String} {r : V → List V → Hp → VK → Prop} (K : PySem.W.Frag) (pa : PlainAttrs T) (slot : Slot T name id) (hty : typeOf (.builtin id) = pure (.type "method_descriptor")) (hm : MtR X id r) (ho : PE X o to)
    (hK : X.K = K := by rfl) (hbase : attributeBase o name X.env (eval o X.env) = eval o X.env := by rfl) (hline : (apos.endLine == cpos.line) = true := by rfl) : PE X (.Call (.Attribute o name apos) [] [] cpos) (tBM0 K T r to) := hK ▸ pe_bm0 pa slot hty hm ho hbase hline
end
end L2
namespace L2
open PySem PySem.Spec PyProof.Rows
theorem comp_acc {α : Type} {zs : List α} {fx : α → V} {J : It} {P : Hp → Prop} {g : TG} {tc : TT} {te : TE} {D : Addr} {σ₀ : St} {H1 : Hp} {Q : Hp → Prop} (hJ : ItIs J P (zs.map fx)) (up : α → St) (Pv : Nat → List V → Hp → Prop)
    (hD : H1 D = none) (hl : zs.length ≤ sizeLine) (hP : ∀ H', Same H1 H' → P H')
    (hst : ∀ i ys H u v, H D = some (.lst u) → Pv i ys H → Pv i ys (upd H D (.lst v))) (h0 : Pv 0 [] (upd H1 D (.lst [])))
    (hg : ∀ z σ H K, z ∈ zs → (σ = σ₀ ∨ ∃ y, σ = up y) → Same H1 H → K (up z) H → g (fx z) σ H K)
    (ht : ∀ z H K, z ∈ zs → Same H1 H → K true H → tc (up z) H K)
    (he : ∀ (i : Nat) z H K ys, zs[i]? = some z → Same H1 H → Pv i ys H → H D = some (.lst ys) → ys.length = i → (∀ y H', Same H H' → Pv (i + 1) (ys ++ [y]) H' → K y H') → te (up z) H K)
    (hQ : ∀ ys H', Same H1 H' → H' D = some (.lst ys) → ys.length = zs.length → Pv zs.length ys H' → Q H') :
    ∃ W : Nat → Nat → St → Hp → Prop, (∃ m, W 0 m σ₀ (upd H1 D (.lst []))) ∧ tCompW J g tc te D W Q := by
  refine ⟨fun i m σ H => m = zs.length - i ∧ i ≤ zs.length ∧ (σ = σ₀ ∨ ∃ z, σ = up z) ∧ Same H1 H ∧ ∃ ys, H D = some (.lst ys) ∧ ys.length = i ∧ Pv i ys H, ⟨_, rfl, Nat.zero_le _, .inl rfl, same_new hD _, [], upd_same, rfl, h0⟩, ?_⟩
  rintro i m σ H ⟨rfl, hi, hσ, hS, ys, hys, hyl, hp⟩
  have hp' := hP H hS
  by_cases hlt : i < zs.length
  · refine .inr ⟨hJ.go i H hp' (by rw [List.length_map]; exact hlt), fun x H2 hy => ?_⟩
    obtain ⟨rfl, hx⟩ := hJ.yld i H x H2 hp' hy (by rw [List.length_map]; exact hlt)
    rw [List.getElem?_map, List.getElem?_eq_getElem hlt] at hx
    cases hx
    have hm : zs[i] ∈ zs := List.getElem_mem hlt
    refine hg zs[i] σ _ _ hm hσ hS (ht zs[i] _ _ hm hS ?_)
    rw [if_pos rfl]
    refine he i zs[i] _ _ ys (List.getElem?_eq_getElem hlt) hS hp hys hyl fun y H5 g5 p5 => ?_
    have e5 : H5 D = some (.lst ys) := g5 _ _ hys
    exact ⟨ys, e5, by omega, zs.length - (i + 1), by omega, rfl, hlt, .inr ⟨_, rfl⟩, same_upd hD (hS.trans g5) _, ys ++ [y], upd_same, by rw [List.length_append, List.length_singleton]; omega, hst _ _ _ _ _ e5 p5⟩
  · have e : i = zs.length := by omega
    subst e
    have hst' := hJ.stop H hp'
    rw [List.length_map] at hst'
    exact .inl ⟨hst', hQ ys H hS hys hyl hp⟩
def RoomAt (H : Hp) (r : Addr) (L : List (List Nat × Int)) : Prop := ∃ (o : Obj) (ps : List (Addr × List Nat × Int)), H r = some (.frz o (.tup (ps.map fun z => V.ref z.1))) ∧ o.dict = none ∧ ps.map (·.2) = L ∧ ∀ z ∈ ps, H z.1 = some (.tup (lineV z.2))
def RoomsAt (H : Hp) (p : Addr) (rooms : List (List (List Nat × Int))) : Prop := ∃ rs : List Addr, H p = some (.tup (rs.map V.ref)) ∧ Paired (fun r L => RoomAt H r L) rs rooms
def MachAt (H : Hp) (p : Addr) (rooms : List (List (List Nat × Int))) (es : List Int) : Prop := ∃ a b, H p = some (.tup [.ref a, .ref b]) ∧ RoomsAt H a rooms ∧ H b = some (.tup (es.map V.int))
section
variable {H H' : Hp}
theorem RoomAt.keep {r : Addr} {L : List (List Nat × Int)} (h : RoomAt H r L) (k : ∀ b o, (∀ ys, o ≠ .lst ys) → H b = some o → H' b = some o) : RoomAt H' r L := by
  obtain ⟨o, ps, h1, h2, h3, h4⟩ := h
  exact ⟨o, ps, k _ _ (fun _ e => nomatch e) h1, h2, h3, fun z hz => k _ _ (fun _ e => nomatch e) (h4 z hz)⟩
theorem RoomAt.same {r : Addr} {L : List (List Nat × Int)} (h : RoomAt H r L) (g : Same H H') : RoomAt H' r L := h.keep fun b o _ e => g b o e
theorem RoomAt.lst {r D : Addr} {L : List (List Nat × Int)} {u v : List V} (h : RoomAt H r L) (e : H D = some (.lst u)) : RoomAt (upd H D (.lst v)) r L := h.keep fun b o n q => by
  rw [upd_ne (ne_of q e (n u))]; exact q
theorem RoomsAt.same {p : Addr} {R : List (List (List Nat × Int))} (h : RoomsAt H p R) (g : Same H H') : RoomsAt H' p R := by
  obtain ⟨rs, a, b⟩ := h
  exact ⟨rs, g _ _ a, Paired.mapP b fun _ _ z => z.same g⟩
theorem paired_at {α β : Type} {F : α → β → Prop} : ∀ {l : List α} {m : List β}, Paired F l m → ∀ {i : Nat} {y : β}, m[i]? = some y → ∃ x, l[i]? = some x ∧ F x y
  | _, _, .nil, i, y, e => by simp at e
  | _, _, .cons r t, 0, y, e => by simp at e; subst e; exact ⟨_, rfl, r⟩
  | _, _, .cons r t, i + 1, y, e => by
    obtain ⟨x, a, b⟩ := paired_at t (i := i) (by simpa using e)
    exact ⟨x, by simpa using a, b⟩
theorem val_line {zs : List (List Nat × Int)} (h : zs.Pairwise fun a b => a.1 ≠ b.1) {l : List Nat} {g : Int} (hm : (l, g) ∈ zs) : valV (zs.map lineK) (.inr (S l)) = some (.int g) := by
  induction zs with
  | nil => cases hm
  | cons z zs ih =>
    rw [List.pairwise_cons] at h
    rw [List.map_cons]
    rcases List.mem_cons.mp hm with e | e
    · subst e
      exact valV_pos rfl
    · rw [valV_neg (fun e2 => h.1 _ e (key_S.mp e2))]
      exact ih h.2 e
theorem val_noline {zs : List (List Nat × Int)} {l : List Nat} (h : ∀ z ∈ zs, z.1 ≠ l) : valV (zs.map lineK) (.inr (S l)) = none := by
  induction zs with
  | nil => rfl
  | cons z zs ih =>
    rw [List.map_cons, valV_neg (fun e2 => h z List.mem_cons_self (key_S.mp e2))]
    exact ih fun y hy => h y (List.mem_cons_of_mem _ hy)
theorem put_line_new {zs : List (List Nat × Int)} {l : List Nat} {g : Int} (h : ∀ z ∈ zs, z.1 ≠ l) : putK (zs.map lineK) (.inr (S l)) (.int g) = (zs ++ [(l, g)]).map lineK := by
  rw [putK_new _ (val_noline h), List.map_append]
  rfl
theorem put_line_old {zs : List (List Nat × Int)} {l : List Nat} {g : Int} (h : zs.Pairwise fun a b => a.1 ≠ b.1) (hm : (l, g) ∈ zs) : putK (zs.map lineK) (.inr (S l)) (.int g) = zs.map lineK := by
  unfold putK
  rw [valV_any, val_line h hm, if_pos (show (some (V.int g)).isSome = true from rfl), List.map_map]
  refine List.map_congr_left fun z hz => ?_
  show (if (lineK z).1 = .inr (S l) then ((lineK z).1, V.int g) else lineK z) = lineK z
  split
  · rename_i e
    have e1 : z.1 = l := key_S.mp e
    have : z = (l, g) := by
      have hv := val_line h hm
      have hv2 := val_line (g := z.2) (l := l) h (by rw [← e1]; exact hz)
      rw [hv] at hv2
      have : g = z.2 := by injection hv2 with q; injection q
      exact Prod.ext e1 this.symm
    rw [this]
  · rfl
end
/-- the key of an end-set -/
abbrev eK (l : List Nat) : List Key := l.map fun (n : Nat) => (.inl (n : Int) : Key)
theorem eK_inj {a b : List Nat} (h : eK a = eK b) : a = b := by
  unfold eK at h
  induction a generalizing b with
  | nil => cases b with
    | nil => rfl
    | cons _ _ => cases h
  | cons x a ih => cases b with
    | nil => cases h
    | cons y b =>
      rw [List.map_cons, List.map_cons] at h
      injection h with h1 h2
      have := Sum.inl.inj h1
      rw [ih h2, show x = y by omega]
/-- numbers by end-sets -/
def nK (R : List (List Nat)) : List (List Key × V) := R.zipIdx.map fun p => (eK p.1, V.int (p.2 : Int))
theorem nK_len (R : List (List Nat)) : (nK R).length = R.length := by unfold nK; rw [List.length_map, List.length_zipIdx]
theorem nK_snoc (R : List (List Nat)) (x : List Nat) : nK (R ++ [x]) = nK R ++ [(eK x, V.int (R.length : Int))] := by
  unfold nK
  rw [List.zipIdx_append, List.map_append]
  simp
theorem val_nK_none {R : List (List Nat)} {x : List Nat} (h : x ∉ R) : valV (nK R) (eK x) = none := by
  cases q : valV (nK R) (eK x) with
  | none => rfl
  | some v =>
    have := valV_in q
    obtain ⟨p, hp, e⟩ := List.mem_map.mp this
    obtain ⟨z, hz, rfl⟩ := List.mem_map.mp hp
    have e' : z.1 = x := eK_inj e
    exact absurd (by rw [← e']; exact (List.mem_zipIdx' hz).2 ▸ List.getElem_mem _) h
theorem val_mem {κ : Type} [DecidableEq κ] : ∀ {kvs : List (κ × V)} {k : κ} {v : V}, (kvs.map (·.1)).Nodup → (k, v) ∈ kvs → valV kvs k = some v
  | [], _, _, _, h => by cases h
  | p :: r, k, v, nd, h => by
    rw [List.map_cons, List.nodup_cons] at nd
    rcases List.mem_cons.mp h with e | e
    · subst e
      exact valV_pos rfl
    · rw [valV_neg (fun z => nd.1 (List.mem_map.mpr ⟨_, e, z.symm⟩))]
      exact val_mem nd.2 e
theorem nK_keys (R : List (List Nat)) : (nK R).map (·.1) = R.map eK := by
  unfold nK
  rw [List.map_map, show ((fun p : List Key × V => p.1) ∘ fun p : List Nat × Nat => (eK p.1, V.int (p.2 : Int))) = eK ∘ Prod.fst from rfl, ← List.map_map, List.zipIdx_map_fst]
theorem val_nK {R : List (List Nat)} {x : List Nat} (nd : R.Nodup) (h : x ∈ R) : valV (nK R) (eK x) = some (.int ((MM.ix R x : Nat) : Int)) := by
  refine val_mem ?_ ?_
  · rw [nK_keys]
    exact List.pairwise_map.mpr (nd.imp fun {a b} n e => n (eK_inj e))
  · unfold nK
    refine List.mem_map.mpr ⟨(x, MM.ix R x), ?_, rfl⟩
    exact List.mem_zipIdx_iff_getElem?.mpr (MM.idx_at h)
theorem put_nK {R : List (List Nat)} {x : List Nat} (h : x ∉ R) : putK (nK R) (eK x) (.int (R.length : Int)) = nK (R ++ [x]) := by
  rw [putK_new _ (val_nK_none h), nK_snoc]
/-- rooms by parts -/
def rK (f : List Nat → Nat) (l : List (List Nat)) : List (Key × V) := l.map fun x => ((.inr (S x) : Key), V.int (f x : Int))
theorem rK_keys (f : List Nat → Nat) {l : List (List Nat)} (nd : l.Nodup) : ((rK f l).map (·.1)).Nodup := by
  unfold rK
  rw [List.map_map]
  exact List.pairwise_map.mpr (nd.imp fun {a b} n e => n (key_S.mp e))
theorem val_rK {f : List Nat → Nat} {l : List (List Nat)} {x : List Nat} (nd : l.Nodup) (h : x ∈ l) : valV (rK f l) (.inr (S x)) = some (.int (f x : Int)) := val_mem (rK_keys f nd) (List.mem_map.mpr ⟨x, h, rfl⟩)
theorem val_rK_none {f : List Nat → Nat} {l : List (List Nat)} {x : List Nat} (h : x ∉ l) : valV (rK f l) (.inr (S x)) = none := by
  cases q : valV (rK f l) (.inr (S x)) with
  | none => rfl
  | some v =>
    obtain ⟨p, hp, e⟩ := List.mem_map.mp (valV_in q)
    obtain ⟨z, hz, rfl⟩ := List.mem_map.mp hp
    exact absurd (by rw [← key_S.mp e]; exact hz) h
theorem put_rK {f : List Nat → Nat} {l : List (List Nat)} {x : List Nat} (h : x ∉ l) : putK (rK f l) (.inr (S x)) (.int (f x : Int)) = rK f (l ++ [x]) := by
  rw [putK_new _ (val_rK_none h)]
  unfold rK
  rw [List.map_append]
  rfl
end L2
namespace L2
open PySem PySem.Spec PyProof.Rows
section
variable {X : Cx} {pins : List (Addr × Obj)} {σ : St} {H : Hp} {s : Shared}
def rEqD0 : R2 := fun x y H Q => ∃ a b, x = .ref a ∧ y = .ref b ∧ H a = some (.dK []) ∧ H b = some (.dK []) ∧ Q (.bl true) H
theorem op_eqD0 (hu : X.A.units < cLine) : OpR X (compareOp .Eq) rEqD0 := by
  intro pins s σ H x y v u Q I rx ry h
  obtain ⟨a, b, rfl, rfl, ha, hb, q⟩ := h
  cases rx
  cases ry
  obtain ⟨_, sa, va, ra, da⟩ := dk_of I.hok ha
  obtain ⟨_, sb, vb, rb, db⟩ := dk_of I.hok hb
  cases ra
  cases rb
  exact PySem.W.keq_eq (knd := mixKind X.prog X.w) sa sb da db hu (fun _ => .nil) ⟨.bl true, H, I, rfl, q⟩
def iDictR (tl : TE) : TI := fun σ H R => tl σ H fun x H1 => ∃ a o kvs, x = .ref a ∧ H1 a = some (.frz o (.dK kvs)) ∧ R (Itd a o kvs) H1
theorem pi_dictR {tg l : Expr} {tl : TE} (hl : PE X l tl) : PI X tg l (iDictR tl) := by
  intro pins s σ H R I h
  refine thn (hl pins s σ H _ I h) fun v s1 ⟨x, H1, I1, r1, q1⟩ => ?_
  obtain ⟨a, o, kvs, e, hq, q⟩ := q1
  subst e
  cases r1
  obtain ⟨ho, _, hsm, vs, rv, o2, es, ep, ho2, hex, hd, r2⟩ := I1.hok a _ hq
  rw [ho] at ho2
  cases ho2
  have hlen : kvs.length = vs.length := Paired.length rv
  refine wpAny_pyIter_dict (knd := mixKind X.prog X.w) hsm ⟨o, es, ho, hex, hd, r2⟩ ?_
  have hne : s1.heap.objs.size ≠ a := Nat.ne_of_gt (Heap.lt_size ho)
  refine ⟨s1.heap.objs.size, [s1.heap.objs.size], _, _, _, rfl, I1.kept (t' := s1.toks) fun b o e => Heap.get?_push_of_some _ e, turn_dict hd, ⟨_, Heap.get?_push_size _ rfl, rfl, by rw [hlen]; rfl⟩, fun b hb => ?_, q⟩
  have e : b = s1.heap.objs.size := by simpa using hb
  subst e
  exact I1.fpOk (Nat.le_refl _) (I1.hok.fresh (Nat.le_refl _))
end
end L2
namespace K42
open PySem L2
def top (i : Nat) : Stmt := PySem.Challenge.pw_tailyard_k42_whole_few_rooms.main.body.getD i (.Pass ⟨0, 0, 0, 0⟩)
abbrev sCell : Stmt := top 10
abbrev sMixed : Stmt := top (10 + 1)
abbrev sDrawn : Stmt := top (10 + 2)
abbrev sText : Stmt := top (10 + 3)
abbrev Low (l : List Nat) : Prop := ∀ c ∈ l, 97 ≤ c ∧ c ≤ 122
theorem small {n : Nat} (h : n ≤ 1000000) : n ≤ sizeLine := by rw [sizeLine_eq]; omega

def spCell (K : PySem.W.Frag) : Sp := fun vs H Q _ => ∃ (a : Addr) (ns : List Int) (k : Int), vs = [.ref a, .int k] ∧ SqL K H a (ns.map V.int) ∧ ns.length ≤ 63 ∧ 0 ≤ k ∧ ∀ v, Q (.int v) H
def spMixed (K : PySem.W.Frag) : Sp := fun vs H Q _ => ∃ (a : Addr) (ns : List Int) (k : Int), vs = [.ref a, .int k] ∧ SqL K H a (ns.map V.int) ∧ ns.length ≤ 63 ∧ 0 ≤ k ∧ k ≤ 1000 ∧ ∀ v, 0 ≤ v → v < 2147483629 → Q (.int v) H
def spDrawn : Sp := fun vs H Q _ => ∃ n k : Int, vs = [.int n, .int k] ∧ 0 ≤ n ∧ n < 2147483629 ∧ 0 ≤ k ∧ k ≤ 1000 ∧ ∀ v, 0 ≤ v → v < 2147483629 → Q (.int v) H
def spText : Sp := fun vs H Q _ => ∃ n m : Int, vs = [.int n, .int m] ∧ 0 ≤ n ∧ n < 2147483629 ∧ 0 ≤ m ∧ m ≤ 100 ∧ ∀ l H', Same H H' → (l.length : Int) ≤ m → Low l → Q (.str (S l)) H'

theorem scCell : FnScope ["_law_script", "_law_k"] ["_law_script", "_law_k"] (defScope sCell) := ⟨rfl, rfl, rfl, by decide +kernel, rfl, by decide +kernel, by decide +kernel⟩
theorem scMixed : FnScope ["_law_script", "_law_k", "_law_drawn_here"] ["_law_script", "_law_k"] (defScope sMixed) := ⟨rfl, rfl, rfl, by decide +kernel, rfl, by decide +kernel, by decide +kernel⟩
theorem scDrawn : FnScope ["_law_number", "_law_k", "_law_drawn_here"] ["_law_number", "_law_k"] (defScope sDrawn) := ⟨rfl, rfl, rfl, by decide +kernel, rfl, by decide +kernel, by decide +kernel⟩
theorem scText : FnScope ["_law_number", "_law_most", "_law_letters", "_law_many", "_law_found", "_law_k", "_law_by"] ["_law_number", "_law_most"] (defScope sText) := ⟨rfl, rfl, rfl, by decide +kernel, rfl, by decide +kernel, by decide +kernel⟩

def ltrs : List V := [.str (S [97]), .str (S [97, 98]), .str (S [97, 98]), .str (S [97, 98, 99]), .str (S [97, 98, 99, 100]), .str (S [120, 121, 122]), .str (S [98, 109]),
  .str (S [97, 98, 99, 100, 101, 102, 103, 104, 105, 106, 107, 108, 109, 110, 111, 112, 113, 114, 115, 116, 117, 118, 119, 120, 121, 122])]
theorem ltrs_at {i : Int} (h0 : 0 ≤ i) (h8 : i < 8) : ∃ l : List Nat, atI ltrs i = some (.str (S l)) ∧ 1 ≤ l.length ∧ l.length ≤ 26 ∧ Low l := by
  have : i = 0 ∨ i = 1 ∨ i = 2 ∨ i = 3 ∨ i = 4 ∨ i = 5 ∨ i = 6 ∨ i = 7 := by omega
  rcases this with rfl | rfl | rfl | rfl | rfl | rfl | rfl | rfl <;> exact ⟨_, rfl, by decide, by decide, by unfold Low; decide⟩
theorem low_get {l : List Nat} (h : Low l) {i : Int} (h0 : 0 ≤ i) (h1 : i < l.length) : ∃ c, atI l i = some c ∧ 97 ≤ c ∧ c ≤ 122 := by
  have hk : i.toNat < l.length := by omega
  have e : atI l ((i.toNat : Nat) : Int) = some l[i.toNat] := atI_nat (List.getElem?_eq_getElem hk)
  rw [show ((i.toNat : Nat) : Int) = i by omega] at e
  exact ⟨_, e, h _ (List.getElem_mem hk)⟩
theorem low_app {a b : List Nat} (ha : Low a) (hb : Low b) : Low (a ++ b) := fun c hc => (List.mem_append.mp hc).elim (ha c) (hb c)
theorem low_cut {a : List Nat} (ha : Low a) (lo hi : Option Int) : Low (cutL a lo hi) := fun c hc => ha c (List.mem_of_mem_drop (List.mem_of_mem_take hc))
theorem low_rep {a : List Nat} (ha : Low a) (k : Int) : Low (repL a k) := fun c hc => by
  unfold repL at hc
  obtain ⟨l, hl, hc⟩ := List.mem_flatten.mp hc
  rw [(List.mem_replicate.mp hl).2] at hc
  exact ha c hc

section
variable {P : Program} {w : World} {K : PySem.W.Frag} {mg : Str → Option Value} {base : Heap} {f g : Addr} {fd gd : FuncData}
theorem okCell (F : Fun K "_law_cell_at" "_law_cell_at" sCell f fd) (ml : mg "len" = none) : FnOk P w K mg base CX0 1 f fd ["_law_script", "_law_k"] (spCell K) := by
  refine F.ok scCell (fun vs H Q E h => ?_) (fun cdv A outer s H vs Q E hr h => ?_)
  · obtain ⟨a, ns, k, rfl, _⟩ := h
    rfl
  obtain ⟨a, ns, k, rfl, hS, h63, h0, q⟩ := h
  refine ⟨_, pss_cons (ps_if (pt_cmpR op_lt (pv 1) (pe_callB call_len_seq rfl ml PySem.boot_len (pa_cons (pv 0) pa_nil)) (nomark _)) (pss_one (ps_ret (pe_ix ix_list (pv 0) (pv 1) (fun _ _ => rfl)))) pss_nil) (pss_one (ps_ret pe_int)), ?_⟩
  refine ⟨_, rfl, _, rfl, a, _, rfl, .inl hS, _, _, rfl, rfl, _, rfl, ?_⟩
  refine ite2 (fun c => ?_) (fun c => ?_)
  · have c' : k < (((ns.map V.int).length : Nat) : Int) := of_decide_eq_true c
    rw [List.length_map] at c'
    have hk : k.toNat < ns.length := by omega
    have e : atI (ns.map V.int) ((k.toNat : Nat) : Int) = some (.int ns[k.toNat]) := atI_nat (by rw [List.getElem?_map, List.getElem?_eq_getElem hk] <;> rfl)
    rw [show ((k.toNat : Nat) : Int) = k by omega] at e
    exact ⟨_, rfl, _, rfl, a, _, _, _, rfl, rfl, hS, e, q _⟩
  · exact q 0

theorem okMixed (F : Fun K "_law_mixed" "_law_mixed" sMixed f fd) (G : FnOk P w K mg base CX0 1 g gd ["_law_script", "_law_k"] (spCell K)) (bG : Binds K gd ["_law_script", "_law_k"] []) (kG : PySem.W.keepIn K (.ref g) = true) (mG : mg "_law_cell_at" = some (.ref g)) :
    FnOk P w K mg base CX0 2 f fd ["_law_script", "_law_k"] (spMixed K) := by
  refine F.ok scMixed (fun vs H Q E h => ?_) (fun cdv A outer s H vs Q E hr h => ?_)
  · obtain ⟨a, ns, k, rfl, _⟩ := h
    rfl
  obtain ⟨a, ns, k, rfl, hS, h63, h0, h1, q⟩ := h
  refine ⟨_, pss_cons (ps_set (i := 2) scMixed.nd rfl (Or.inl rfl) (pe_op op_mod (pe_op op_mul (pe_op op_add (pe_op op_add (pe_call G hr rfl mG kG bG .nil pass0 (pa_cons (pv 0) (pa_cons (pv 1) pa_nil))) (pe_op op_mul pe_int (pv 1))) pe_int) pe_int) pe_int))
    (pss_one (ps_ret (pe_op op_mod (pe_op op_add (pe_op op_add (pe_op op_mul (pv 2) (pv 2)) (pe_op op_mul pe_int (pv 2))) (pv 1)) pe_int))), ?_⟩
  refine ⟨_, rfl, _, rfl, a, ns, k, rfl, hS, h63, h0, fun v => ?_⟩
  refine ⟨_, rfl, _, _, rfl, rfl, .inl ⟨by decide, by decide⟩, _, _, rfl, rfl, _, _, rfl, rfl, _, _, rfl, rfl, .inr ⟨by decide, by decide⟩, _, _, rfl, rfl, (by show (0 : Int) < _; decide), ?_⟩
  have b0 := Int.emod_nonneg ((v + 7919 * k + 1) * 48271) (show (2147483647 : Int) ≠ 0 by decide)
  have b1 := Int.emod_lt_of_pos ((v + 7919 * k + 1) * 48271) (show (0 : Int) < 2147483647 by decide)
  refine ⟨_, rfl, _, rfl, _, _, rfl, rfl, .inl ⟨by omega, by omega⟩, _, rfl, _, _, rfl, rfl, .inl ⟨by decide, by decide⟩, _, _, rfl, rfl, _, rfl, _, _, rfl, rfl, _, _, rfl, rfl, (by show (0 : Int) < _; decide), ?_⟩
  exact q _ (Int.emod_nonneg _ (by decide)) (Int.emod_lt_of_pos _ (by decide))

theorem okDrawn (F : Fun K "_law_drawn" "_law_drawn" sDrawn f fd) : FnOk P w K mg base CX0 1 f fd ["_law_number", "_law_k"] spDrawn := by
  refine F.ok scDrawn (fun vs H Q E h => ?_) (fun cdv A outer s H vs Q E hr h => ?_)
  · obtain ⟨n, k, rfl, _⟩ := h
    rfl
  obtain ⟨n, k, rfl, hn0, hn1, h0, h1, q⟩ := h
  refine ⟨_, pss_cons (ps_set (i := 2) scDrawn.nd rfl (Or.inl rfl) (pe_op op_mod (pe_op op_mul (pe_op op_add (pe_op op_add (pv 0) (pe_op op_mul pe_int (pv 1))) pe_int) pe_int) pe_int))
    (pss_one (ps_ret (pe_op op_mod (pe_op op_add (pe_op op_add (pe_op op_mul (pv 2) (pv 2)) (pe_op op_mul pe_int (pv 2))) (pv 1)) pe_int))), ?_⟩
  refine ⟨_, rfl, _, rfl, _, _, rfl, rfl, .inl ⟨by decide, by decide⟩, _, _, rfl, rfl, _, _, rfl, rfl, _, _, rfl, rfl, .inr ⟨by decide, by decide⟩, _, _, rfl, rfl, (by show (0 : Int) < _; decide), ?_⟩
  have b0 := Int.emod_nonneg ((n + 104729 * k + 17) * 69621) (show (2147483647 : Int) ≠ 0 by decide)
  have b1 := Int.emod_lt_of_pos ((n + 104729 * k + 17) * 69621) (show (0 : Int) < 2147483647 by decide)
  refine ⟨_, rfl, _, rfl, _, _, rfl, rfl, .inl ⟨by omega, by omega⟩, _, rfl, _, _, rfl, rfl, .inl ⟨by decide, by decide⟩, _, _, rfl, rfl, _, rfl, _, _, rfl, rfl, _, _, rfl, rfl, (by show (0 : Int) < _; decide), ?_⟩
  exact q _ (Int.emod_nonneg _ (by decide)) (Int.emod_lt_of_pos _ (by decide))

set_option maxHeartbeats 4000000 in
theorem okText (F : Fun K "_law_text" "_law_text" sText f fd) (G : FnOk P w K mg base CX0 1 g gd ["_law_number", "_law_k"] spDrawn) (bG : Binds K gd ["_law_number", "_law_k"] []) (kG : PySem.W.keepIn K (.ref g) = true) (mG : mg "_law_drawn" = some (.ref g)) (ml : mg "len" = none) (mr : mg "range" = none) :
    FnOk P w K mg base CX0 2 f fd ["_law_number", "_law_most"] spText := by
  refine F.ok scText (fun vs H Q E h => ?_) (fun cdv A outer s H vs Q E hr h => ?_)
  · obtain ⟨n, m, rfl, _⟩ := h
    rfl
  obtain ⟨n, m, rfl, hn0, hn1, hm0, hm1, q⟩ := h
  refine ⟨_, pss_cons (ps_set (i := 2) scText.nd rfl (Or.inl rfl) (pe_ix ix_tup (pe_tup (pa_cons (pe_strS (l := [97]) rfl) (pa_cons (pe_strS (l := [97, 98]) rfl) (pa_cons (pe_strS (l := [97, 98]) rfl) (pa_cons (pe_strS (l := [97, 98, 99]) rfl) (pa_cons (pe_strS (l := [97, 98, 99, 100]) rfl)
      (pa_cons (pe_strS (l := [120, 121, 122]) rfl) (pa_cons (pe_strS (l := [98, 109]) rfl) (pa_cons (pe_strS (l := [97, 98, 99, 100, 101, 102, 103, 104, 105, 106, 107, 108, 109, 110, 111, 112, 113, 114, 115, 116, 117, 118, 119, 120, 121, 122]) rfl) pa_nil))))))))) (pe_op op_mod (pv 0) pe_int) (fun _ _ => rfl)))
    (pss_cons (ps_set (i := 3) scText.nd rfl (Or.inl rfl) (pe_op op_mod (pe_op op_fdiv (pv 0) pe_int) (pe_op op_add (pv 1) pe_int)))
    (pss_cons (ps_set (i := 4) scText.nd rfl (Or.inl rfl) (pe_strS (l := []) rfl))
    (pss_cons (ps_for PassesOwn.never rfl (pi_range1 rfl mr (pa_cons (pv 3) pa_nil)) (pg_name (i := 5) scText.nd rfl (Or.inl rfl))
      (pss_one (ps_set (i := 4) scText.nd rfl (Or.inl rfl) (pe_op op_addS (pv 4) (pe_ix ix_strS (pv 2) (pe_op op_mod (pe_call G hr rfl mG kG bG .nil pass0 (pa_cons (pv 0) (pa_cons (pv 5) pa_nil))) (pe_callB call_lenS rfl ml PySem.boot_len (pa_cons (pv 2) pa_nil))) (fun _ _ => rfl))))))
    (pss_cons (ps_if (PW.pt (pw_and (pt_cmpR op_eq (pe_op op_mod (pe_op op_fdiv (pv 0) pe_int) pe_int) pe_int (nomark _)) (pw_and1 (pt_cmpR op_gt (pv 3) pe_int (nomark _)))))
      (pss_cons (ps_set (i := 6) scText.nd rfl (Or.inl rfl) (pe_op op_add pe_int (pe_op op_mod (pe_op op_fdiv (pv 0) pe_int) (pe_op op_sub (pv 3) pe_int))))
        (pss_one (ps_set (i := 4) scText.nd rfl (Or.inl rfl) (pe_slice sl_str (pe_op op_mulS (pe_slice sl_str (pv 4) po_none (po_some (pv 6))) (pv 3)) po_none (po_some (pv 3)))))) pss_nil)
    (pss_one (ps_ret (pv 4))))))), ?_⟩
  refine ⟨(by show 8 ≤ sizeLine; exact small (by omega)), fun p hp => ?_⟩
  obtain ⟨lt, hlt, hl1, hl26, hlow⟩ := ltrs_at (Int.emod_nonneg n (by decide)) (Int.emod_lt_of_pos n (show (0 : Int) < 8 by decide))
  refine ⟨_, rfl, _, _, rfl, rfl, (by show (0 : Int) < _; decide), p, ltrs, _, _, rfl, rfl, SqT.of upd_same, hlt, ?_⟩
  have hm : 0 < m + 1 := by omega
  refine ⟨_, rfl, _, _, rfl, rfl, ⟨by decide, by decide⟩, _, rfl, _, _, rfl, rfl, _, _, rfl, rfl, hm, ?_⟩
  have a0 := Int.emod_nonneg (n / 8) (show m + 1 ≠ 0 by omega)
  have a1 := Int.emod_lt_of_pos (n / 8) hm
  refine ⟨_, rfl, _, rfl, by omega, by omega, ?_⟩
  have g0 : Same H (upd H p (.tup ltrs)) := same_new hp _
  refine for_range (n := (n / 8 % (m + 1)).toNat) (fun i σ H' => Same H H' ∧ ∃ l o, σ = [some (.int n), some (.int m), some (.str (S lt)), some (.int (n / 8 % (m + 1))), some (.str (S l)), o, none] ∧ l.length = i ∧ Low l) ⟨g0, [], _, rfl, rfl, fun c hc => by cases hc⟩ ?_ ?_
  · rintro i σ H' hi ⟨g1, l, o, rfl, hl, hL⟩
    refine ⟨_, rfl, _, rfl, _, rfl, _, rfl, n, _, rfl, hn0, hn1, by omega, by omega, fun v v0 v1 => ?_⟩
    refine ⟨_, rfl, lt, rfl, small (by omega), _, _, rfl, rfl, by omega, ?_⟩
    obtain ⟨c, hc, c0, c1⟩ := low_get hlow (Int.emod_nonneg v (show (lt.length : Int) ≠ 0 by omega)) (Int.emod_lt_of_pos v (show (0 : Int) < lt.length by omega))
    refine ⟨lt, _, c, rfl, rfl, small (by omega), hc, l, [c], rfl, rfl, small (by simp only [List.length_singleton]; omega), ?_⟩
    refine ⟨g1, l ++ [c], _, rfl, by rw [List.length_append, List.length_singleton, hl], low_app hL fun d hd => ?_⟩
    rw [List.mem_singleton.mp hd]
    exact ⟨c0, c1⟩
  · rintro σ H' ⟨g1, l, o, rfl, hl, hL⟩
    refine ⟨_, rfl, _, _, rfl, rfl, ⟨by decide, by decide⟩, _, _, rfl, rfl, (by show (0 : Int) < _; decide), rfl, _, rfl, ?_⟩
    refine ite2 (fun _ => ?_) (fun _ => ?_)
    · refine ⟨_, rfl, _, _, rfl, rfl, _, rfl, ?_⟩
      refine ite2 (fun c => ?_) (fun _ => ?_)
      · have c' : 1 < n / 8 % (m + 1) := of_decide_eq_true c
        refine ⟨_, rfl, _, _, rfl, rfl, ⟨by decide, by decide⟩, _, rfl, _, _, rfl, rfl, _, _, rfl, rfl, by omega, _, _, rfl, rfl, ?_⟩
        refine ⟨_, rfl, _, rfl, _, rfl, l, rfl, small (by omega), _, rfl, _, _, rfl, rfl, by omega, by omega, ?_, _, rfl, _, rfl, _, rfl, ?_, ?_⟩
        · have b1 := cutL_length l none (some (1 + n / 2400 % (n / 8 % (m + 1) - 1)))
          have b2 : (n / 8 % (m + 1)).toNat ≤ 100 := by omega
          exact Nat.le_trans (Nat.mul_le_mul (Nat.le_trans b1 (by omega : l.length ≤ 100)) b2) (by omega)
        · rw [repL_length]
          have b1 := cutL_length l none (some (1 + n / 2400 % (n / 8 % (m + 1) - 1)))
          have b2 : (n / 8 % (m + 1)).toNat ≤ 100 := by omega
          exact small (Nat.le_trans (Nat.mul_le_mul b2 (Nat.le_trans b1 (by omega : l.length ≤ 100))) (by omega))
        · refine ⟨_, rfl, ?_⟩
          refine q _ _ g1 ?_ (low_cut (low_rep (low_cut hL _ _) _) _ _)
          have := cutL_to_le (repL (cutL l none (some (1 + n / 2400 % (n / 8 % (m + 1) - 1)))) (n / 8 % (m + 1))) (k := n / 8 % (m + 1)) a0
          omega
      · exact ⟨_, rfl, q _ _ g1 (by omega) hL⟩
    · exact ⟨_, rfl, q _ _ g1 (by omega) hL⟩
end
end K42
namespace K42
open PySem L2
abbrev s_parts : Stmt := top 1
theorem sc_parts : FnScope ["text", "found", "length"] ["text"] (defScope s_parts) := ⟨rfl, rfl, rfl, by decide +kernel, rfl, by decide +kernel, by decide +kernel⟩
abbrev s_parts_of_length : Stmt := top 2
theorem sc_parts_of_length : FnScope ["text", "length"] ["text", "length"] (defScope s_parts_of_length) := ⟨rfl, rfl, rfl, by decide +kernel, rfl, by decide +kernel, by decide +kernel⟩
abbrev s_where : Stmt := top 4
theorem sc_where : FnScope ["text", "part"] ["text", "part"] (defScope s_where) := ⟨rfl, rfl, rfl, by decide +kernel, rfl, by decide +kernel, by decide +kernel⟩
def spPol : Sp := fun vs H Q _ => ∃ (t : List Nat) (k : Nat), vs = [.str (S t), .int k] ∧ k ≤ t.length ∧ t.length ≤ 100 ∧ ∀ p H', Same H H' → H' p = some (.lst (strsV (MB.slices t k))) → Q (.ref p) H'
def spParts : Sp := fun vs H Q _ => ∃ t, vs = [.str (S t)] ∧ t.length ≤ 100 ∧ ∀ ps p H', MB.IsParts t ps → ps.length ≤ 20000 → Same H H' → H' p = some (.tup (strsV ps)) → Q (.ref p) H'
abbrev placesV (l : List Nat) : List V := l.map fun (i : Nat) => V.int (0 + (i : Int))
def spWhere : Sp := fun vs H Q _ => ∃ t x, vs = [.str (S t), .str (S x)] ∧ t.length ≤ 100 ∧ x.length ≤ 1000 ∧ ∀ p H', Same H H' → H' p = some (.tup (placesV (MT.whereN t x))) → Q (.ref p) H'
theorem cut_slc (t : List Nat) (z k : Nat) : cutL t (some (0 + (z : Int))) (some (0 + (z : Int) + (k : Int))) = MB.slc t z k := by
  rw [show (0 + (z : Int)) = ((z : Nat) : Int) by omega, show ((z : Nat) : Int) + (k : Int) = ((z + k : Nat) : Int) by omega, cut_nat, show z + k - z = k by omega]
  rfl
section
variable {P : Program} {w : World} {K : PySem.W.Frag} {mg : Str → Option Value} {base : Heap} {f g : Addr} {fd gd : FuncData}
theorem okPol (F : Fun K "parts_of_length" "parts_of_length" s_parts_of_length f fd) (m_len : mg "len" = none) (m_range : mg "range" = none) : FnOk P w K mg base CX0 1 f fd ["text", "length"] spPol := by
  refine F.ok sc_parts_of_length (fun vs H Q E h => ?_) (fun cdv A outer s H vs Q E hr h => ?_)
  · obtain ⟨t, k, rfl, _⟩ := h
    rfl
  obtain ⟨t, k, rfl, hk, ht, q⟩ := h
  refine ⟨_, pss_one (ps_ret (pe_comp (N := ["text", "length"]) (N' := ["place", "text", "length"]) (ix := [none, some 0, some 1]) (fsc := defScope s_parts_of_length) (by exact ⟨rfl, by decide +kernel, by decide +kernel, by decide +kernel, by decide +kernel, rfl⟩) rfl (pi_range1 rfl m_range (pa_cons (pe_op op_add (pe_op op_sub (pe_callB call_lenS rfl m_len PySem.boot_len (pa_cons (pv 0) pa_nil)) (pv 1)) (pe_int)) pa_nil))
      (fun _ _ _ _ _ => pg_name (i := 0) (show (["place", "text", "length"] : List Str).Nodup by decide +kernel) rfl (Or.inl rfl)) (fun _ _ _ _ _ => pts_nil) (fun _ _ _ _ _ => pe_slice sl_str (pv 1) (po_some (pv 0)) (po_some (pe_op op_add (pv 0) (pv 2)))))), ?_⟩
  refine ⟨_, rfl, t, rfl, small (by omega), _, rfl, _, _, rfl, rfl, _, _, rfl, rfl, _, rfl, by omega, by omega, fun D hD => ?_⟩
  have en : ((t.length : Int) - (k : Int) + 1).toNat = t.length - k + 1 := by omega
  rw [en]
  refine comp_zs (itis_range 0 _) (fun _ => true) (fun i => .str (S (MB.slc t i k))) (fun i => [some (.int (0 + (i : Int))), some (.str (S t)), some (.int k)]) hD (by rw [List.length_range]; exact small (by omega)) (fun _ _ => trivial) ?_ (fun z H K _ _ k => k H (Same.refl H)) ?_ ?_
  · rintro z σ H K _ (rfl | ⟨y, rfl⟩) _ k
    · exact k
    · exact k
  · intro z H1 K hz _ hS k1
    refine ⟨_, rfl, _, rfl, _, rfl, _, rfl, _, rfl, _, _, rfl, rfl, _, rfl, t, rfl, small (by omega), ?_⟩
    rw [cut_slc]
    exact k1 H1 (Same.refl H1)
  · intro H' g' e
    refine q D H' g' ?_
    rw [e, List.filter_eq_self.mpr fun _ _ => rfl]
    unfold MB.slices strsV
    rw [List.map_map]
    rfl
theorem okWhere (F : Fun K "where" "where" s_where f fd) (m_len : mg "len" = none) (m_range : mg "range" = none) (m_tuple : mg "tuple" = none) : FnOk P w K mg base CX0 1 f fd ["text", "part"] spWhere := by
  refine F.ok sc_where (fun vs H Q E h => ?_) (fun cdv A outer s H vs Q E hr h => ?_)
  · obtain ⟨t, x, rfl, _⟩ := h
    rfl
  obtain ⟨t, x, rfl, ht, hx, q⟩ := h
  refine ⟨_, pss_one (ps_ret (pe_callTy (call_tuple_ofK K) rfl m_tuple PyProof.Rows.boot_tuple (pa_cons (pe_comp (N := ["text", "part"]) (N' := ["place", "part", "text"]) (ix := [none, some 1, some 0]) (fsc := defScope s_where) (by exact ⟨rfl, by decide +kernel, by decide +kernel, by decide +kernel, by decide +kernel, rfl⟩) rfl (pi_range1 rfl m_range (pa_cons (pe_op op_add (pe_callB call_lenS rfl m_len PySem.boot_len (pa_cons (pv 0) pa_nil)) (pe_int)) pa_nil))
      (fun _ _ _ _ _ => pg_name (i := 0) (show (["place", "part", "text"] : List Str).Nodup by decide +kernel) rfl (Or.inl rfl)) (fun _ _ _ _ _ => pts_one (pt_cmpR op_eqS (pe_slice sl_str (pv 2) (po_some (pv 0)) (po_some (pe_op op_add (pv 0) (pe_callB call_lenS rfl m_len PySem.boot_len (pa_cons (pv 1) pa_nil))))) (pv 1) (nomark _))) (fun _ _ _ _ _ => pv 0)) pa_nil))), ?_⟩
  refine ⟨_, rfl, t, rfl, small (by omega), _, _, rfl, rfl, _, rfl, by omega, by omega, fun D hD => ?_⟩
  have en : ((t.length : Int) + 1).toNat = t.length + 1 := by omega
  rw [en]
  refine comp_zs (itis_range 0 _) (fun i => decide (MB.slc t i x.length = x)) (fun i => .int (0 + (i : Int))) (fun i => [some (.int (0 + (i : Int))), some (.str (S x)), some (.str (S t))]) hD (by rw [List.length_range]; exact small (by omega)) (fun _ _ => trivial) ?_ ?_ ?_ ?_
  · rintro z σ H K _ (rfl | ⟨y, rfl⟩) _ k
    · exact k
    · exact k
  · intro z H1 K hz hS k1
    refine ⟨_, rfl, _, rfl, _, rfl, _, rfl, _, rfl, x, rfl, small (by omega), _, _, rfl, rfl, _, rfl, t, rfl, small (by omega), _, rfl, _, x, rfl, rfl, _, rfl, ?_⟩
    rw [cut_slc]
    exact k1 H1 (Same.refl H1)
  · intro z H1 K hz _ hS k1
    exact ⟨_, rfl, k1 H1 (Same.refl H1)⟩
  · intro H' g' e
    refine ⟨D, _, rfl, .inl ⟨SqL.of e, fun l hl => ?_⟩⟩
    exact q l _ (same_upd (g'.free hl) g' _) upd_same

theorem le_of_not {l : List (List Nat)} (h : l.Pairwise fun x y => ¬ y < x) (hn : l.Nodup) : l.Pairwise (· < ·) :=
  MA.strict (fun a b h1 h2 => by
    by_cases h3 : a < b
    · exact h3
    · exact absurd (List.le_antisymm (List.not_lt.mp h1) (List.not_lt.mp h3)) h2) h hn
theorem S_map_perm {ls zs : List (List Nat)} (h : (ls.map S).Perm (SW.dd (zs.map S))) : ls.Nodup ∧ ∀ x, x ∈ ls ↔ x ∈ zs := by
  have nd : (ls.map S).Nodup := h.nodup_iff.mpr (SW.dd_nodup _)
  refine ⟨?_, fun x => ?_⟩
  · exact (List.pairwise_map.mp nd).imp fun {a b} z e => z (by rw [e])
  · have m : ∀ (l : List (List Nat)), S x ∈ l.map S ↔ x ∈ l := fun l => ⟨fun z => by
      obtain ⟨y, hy, e⟩ := List.mem_map.mp z
      exact S_inj e ▸ hy, fun z => List.mem_map.mpr ⟨x, z, rfl⟩⟩
    rw [← m ls, h.mem_iff, SW.dd_mem, m]
theorem okParts (F : Fun K "parts" "parts" s_parts f fd) (C_parts_of_length : Cal P w K mg base 1 "parts_of_length" ["text", "length"] spPol) (m_len : mg "len" = none) (m_range : mg "range" = none) (m_tuple : mg "tuple" = none) (m_set : mg "set" = none) (m_sorted : mg "sorted" = none) :
    FnOk P w K mg base CX0 2 f fd ["text"] spParts := by
  refine F.ok sc_parts (fun vs H Q E h => ?_) (fun cdv A outer s H vs Q E hr h => ?_)
  · obtain ⟨t, rfl, _⟩ := h
    rfl
  obtain ⟨t, rfl, ht, q⟩ := h
  refine ⟨_, pss_cons (ps_set (i := 1) sc_parts.nd rfl (Or.inl rfl) (pe_lst (pa_nil)))
    (pss_cons (ps_for PassesOwn.never rfl (pi_range1 rfl m_range (pa_cons (pe_op op_add (pe_callB call_lenS rfl m_len PySem.boot_len (pa_cons (pv 0) pa_nil)) (pe_int)) pa_nil)) (pg_name (i := 2) sc_parts.nd rfl (Or.inl rfl))
      (pss_one (ps_expr (pe_bm PySem.F.plainAttrs_list PySem.F.slot_list_extend PySem.F.type_list_extend mt_extend (pv 1) (pa_cons (pe_callB (call_sortedSet rfl) rfl m_sorted PyProof.Rows.boot_sorted (pa_cons (pe_callTy (call_set rfl) rfl m_set PyProof.Rows.boot_set (pa_cons (pe_own C_parts_of_length hr rfl (pa_cons (pv 0) (pa_cons (pv 2) pa_nil))) pa_nil)) pa_nil)) pa_nil)))))
    (pss_one (ps_ret (pe_callTy (call_tuple_ofK K) rfl m_tuple PyProof.Rows.boot_tuple (pa_cons (pv 1) pa_nil))))), ?_⟩
  refine ⟨Nat.zero_le _, fun p hp => ?_⟩
  refine ⟨_, rfl, t, rfl, small (by omega), _, _, rfl, rfl, _, rfl, by omega, by omega, ?_⟩
  have en : ((t.length : Int) + 1).toNat = t.length + 1 := by omega
  rw [en]
  refine for_range (fun i σ H' => Same H H' ∧ ∃ ps o, σ = [some (.str (S t)), some (.ref p), o] ∧ H' p = some (.lst (strsV ps)) ∧ MB.Upto t i ps ∧ ps.length ≤ i * 101) ⟨same_new hp _, [], _, rfl, upd_same, MB.Upto.zero t, Nat.zero_le _⟩ ?_ ?_
  · rintro i σ H1 hi ⟨g1, ps, o, rfl, hps, hU, hl⟩
    have hi' : i ≤ t.length := by omega
    refine ⟨_, rfl, .inl ⟨rfl, _, SqL.of hps⟩, ?_⟩
    refine ⟨_, rfl, _, rfl, t, i, by rw [show (0 + (i : Int)) = ((i : Nat) : Int) by omega]; rfl, hi', ht, fun p2 H2 g2 h2 => ?_⟩
    refine ⟨p2, MB.slices t i, rfl, SqL.of h2, ?_, fun q1 hq1 => ?_⟩
    · unfold MB.slices
      rw [List.length_map, List.length_range]; omega
    refine ⟨q1, _, rfl, upd_same, fun p3 ls hp3 hperm hord => ?_⟩
    obtain ⟨nd, hm⟩ := S_map_perm hperm
    have hlen : ls.length ≤ 101 := by
      have e1 := hperm.length_eq
      have e2 := SW.dd_len ((MB.slices t i).map S)
      rw [List.length_map] at e1 e2
      have e4 : (MB.slices t i).length = t.length - i + 1 := by unfold MB.slices; rw [List.length_map, List.length_range]
      omega
    have e3 : Same H1 (upd (upd H2 q1 (SetO w q1 (SW.dd ((MB.slices t i).map S)))) p3 (.lst (strsV ls))) := g2.trans ((same_new hq1 _).trans (same_new hp3 _))
    have hpp := e3 _ _ hps
    refine ⟨p, p3, _, _, rfl, rfl, hpp, upd_same, ?_, ?_⟩
    · rw [List.length_map, List.length_map]
      have : i * 101 ≤ 100 * 101 := Nat.mul_le_mul_right _ (by omega)
      exact small (by omega)
    · refine ⟨?_, ps ++ ls, _, rfl, ?_, hU.succ hi' (le_of_not hord nd) hm, ?_⟩
      · exact same_upd hp (g1.trans e3) _
      · rw [upd_same]
        unfold strsV
        rw [List.map_append]
      · rw [List.length_append, Nat.succ_mul]; omega
  · rintro σ H1 ⟨g1, ps, o, rfl, hps, hU, hl⟩
    refine ⟨_, rfl, p, _, rfl, .inl ⟨SqL.of hps, fun l hlp => ?_⟩⟩
    refine q ps l _ hU.all ?_ (same_upd (g1.free hlp) g1 _) upd_same
    have : (t.length + 1) * 101 ≤ 101 * 101 := Nat.mul_le_mul_right _ (by omega)
    omega
end
end K42
namespace K42
open PySem L2
abbrev s_count_parts : Stmt := top 3
theorem sc_count_parts : FnScope ["text"] ["text"] (defScope s_count_parts) := ⟨rfl, rfl, rfl, by decide +kernel, rfl, by decide +kernel, by decide +kernel⟩
def spCount : Sp := fun vs H Q _ => ∃ t, vs = [.str (S t)] ∧ t.length ≤ 100 ∧ ∀ ps H', MB.IsParts t ps → ps.length ≤ 20000 → Same H H' → Q (.int ps.length) H'
section
variable {P : Program} {w : World} {K : PySem.W.Frag} {mg : Str → Option Value} {base : Heap} {f g : Addr} {fd gd : FuncData}
theorem okCount (F : Fun K "count_parts" "count_parts" s_count_parts f fd) (C_parts : Cal P w K mg base 2 "parts" ["text"] spParts) (m_len : mg "len" = none) : FnOk P w K mg base CX0 3 f fd ["text"] spCount := by
  refine F.ok sc_count_parts (fun vs H Q E h => ?_) (fun cdv A outer s H vs Q E hr h => ?_)
  · obtain ⟨t, rfl, _⟩ := h
    rfl
  obtain ⟨t, rfl, ht, q⟩ := h
  refine ⟨_, pss_one (ps_ret (pe_callB (call_len_seqK K) rfl m_len PySem.boot_len (pa_cons (pe_own C_parts hr rfl (pa_cons (pv 0) pa_nil)) pa_nil))), ?_⟩
  refine ⟨_, rfl, t, rfl, ht, fun ps p H' h1 h2 h3 h4 => ⟨p, _, rfl, .inr (SqT.of h4), ?_⟩⟩
  rw [List.length_map]
  exact q ps H' h1 h2 h3
end
end K42
namespace K42
open PySem L2
abbrev s_end_places : Stmt := top 8
theorem sc_end_places : FnScope ["text", "part"] ["text", "part"] (defScope s_end_places) := ⟨rfl, rfl, rfl, by decide +kernel, rfl, by decide +kernel, by decide +kernel⟩
abbrev s_rooms_by_part : Stmt := top 7
theorem sc_rooms_by_part : FnScope ["text", "numbers", "room_of", "part"] ["text"] (defScope s_rooms_by_part) := ⟨rfl, rfl, rfl, by decide +kernel, rfl, by decide +kernel, by decide +kernel⟩
def spEnds : Sp := fun vs H Q _ => ∃ t x, vs = [.str (S t), .str (S x)] ∧ t.length ≤ 100 ∧ x.length ≤ 1000 ∧ ∀ p H', Same H H' → H' p = some (.tup ((eK (MM.ends t x)).map kV)) → Q (.ref p) H'
def spRoomsBy : Sp := fun vs H Q _ => ∃ t, vs = [.str (S t)] ∧ t.length ≤ 100 ∧ ∀ ps d H', MB.IsParts t ps → ps.length ≤ 20000 → Same H H' → H' d = some (.dK (rK (MM.rm t ps) ps)) → H d = none → Q (.ref d) H'
theorem ends_V (t x : List Nat) : (MT.whereN t x).map (fun (i : Nat) => V.int (0 + (i : Int) + (x.length : Int))) = (eK (MM.ends t x)).map kV := by
  unfold eK MM.ends
  rw [List.map_map, List.map_map]
  refine List.map_congr_left fun i _ => ?_
  show V.int (0 + (i : Int) + (x.length : Int)) = V.int (((i + x.length : Nat)) : Int)
  congr 1
  omega
section
variable {P : Program} {w : World} {K : PySem.W.Frag} {mg : Str → Option Value} {base : Heap} {f g : Addr} {fd gd : FuncData}
set_option maxHeartbeats 4000000 in
theorem okEnds (F : Fun K "end_places" "end_places" s_end_places f fd) (C_where : Cal P w K mg base 1 "where" ["text", "part"] spWhere) (m_len : mg "len" = none) (m_tuple : mg "tuple" = none) : FnOk P w K mg base CX0 2 f fd ["text", "part"] spEnds := by
  refine F.ok sc_end_places (fun vs H Q E h => ?_) (fun cdv A outer s H vs Q E hr h => ?_)
  · obtain ⟨t, x, rfl, _⟩ := h
    rfl
  obtain ⟨t, x, rfl, ht, hx, q⟩ := h
  refine ⟨_, pss_one (ps_ret (pe_callTy (call_tuple_ofK K) rfl m_tuple PyProof.Rows.boot_tuple (pa_cons (pe_comp (N := ["text", "part"]) (N' := ["place", "part"]) (ix := [none, some 1]) (fsc := defScope s_end_places) (by exact ⟨rfl, by decide +kernel, by decide +kernel, by decide +kernel, by decide +kernel, rfl⟩) rfl (pi_tup (pe_own C_where hr rfl (pa_cons (pv 0) (pa_cons (pv 1) pa_nil))))
      (fun _ _ _ _ _ => pg_name (i := 0) (show (["place", "part"] : List Str).Nodup by decide +kernel) rfl (Or.inl rfl)) (fun _ _ _ _ _ => pts_nil) (fun _ _ _ _ _ => pe_op op_add (pv 0) (pe_callB call_lenS rfl m_len PySem.boot_len (pa_cons (pv 1) pa_nil)))) pa_nil))), ?_⟩
  refine ⟨_, rfl, _, rfl, t, x, rfl, ht, hx, fun p H1 g1 h1 => ⟨p, rfl, ⟨_, SqT.of h1⟩, fun D hD => ?_⟩⟩
  refine comp_zs (zs := MT.whereN t x) (fx := fun (i : Nat) => V.int (0 + (i : Int))) (itis_tup p _) (fun _ => true) (fun i => .int (0 + (i : Int) + (x.length : Int))) (fun i => [some (.int (0 + (i : Int))), some (.str (S x))]) hD ?_ (fun H' gg => SqT.of (gg _ _ h1)) ?_ ?_ ?_ ?_
  · have := List.length_filter_le (fun i => decide (MB.slc t i x.length = x)) (List.range (t.length + 1))
    rw [List.length_range] at this
    exact small (Nat.le_trans this (by omega))
  · rintro z σ H K _ (rfl | ⟨y, rfl⟩) _ k
    · exact k
    · exact k
  · intro z H2 K hz hS k1
    exact k1 H2 (Same.refl H2)
  · intro z H2 K hz _ hS k1
    exact ⟨_, rfl, _, rfl, x, rfl, small (by omega), _, _, rfl, rfl, k1 H2 (Same.refl H2)⟩
  · intro H2 g2 e
    rw [List.filter_eq_self.mpr fun _ _ => rfl, ends_V] at e
    exact ⟨D, _, rfl, .inl ⟨SqL.of e, fun l hl => q l _ (g1.trans (g2.trans (same_new hl _))) upd_same⟩⟩
set_option maxHeartbeats 4000000 in
theorem okRoomsBy (F : Fun K "rooms_by_part" "rooms_by_part" s_rooms_by_part f fd) (C_parts : Cal P w K mg base 2 "parts" ["text"] spParts) (C_end_places : Cal P w K mg base 2 "end_places" ["text", "part"] spEnds) (m_len : mg "len" = none) :
    FnOk P w K mg base CX0 3 f fd ["text"] spRoomsBy := by
  refine F.ok sc_rooms_by_part (fun vs H Q E h => ?_) (fun cdv A outer s H vs Q E hr h => ?_)
  · obtain ⟨t, rfl, _⟩ := h
    rfl
  obtain ⟨t, rfl, ht, q⟩ := h
  refine ⟨_, pss_cons (ps_set (i := 1) sc_rooms_by_part.nd rfl (Or.inl rfl) (pe_dnewT))
    (pss_cons (ps_set (i := 2) sc_rooms_by_part.nd rfl (Or.inl rfl) (pe_dnewK))
    (pss_cons (ps_for PassesOwn.never rfl (pi_tup (pe_own C_parts hr rfl (pa_cons (pv 0) pa_nil))) (pg_name (i := 3) sc_rooms_by_part.nd rfl (Or.inl rfl))
      (pss_one (ps_dput (hu_of hr) (pv 2) (pv 3) (pe_bmK K PySem.F.plainAttrs_dict PySem.F.slot_dict_setdefault PySem.F.type_dict_setdefault (mt_setDefT (hu_of hr)) (pv 1) (pa_cons (pe_own C_end_places hr rfl (pa_cons (pv 0) (pa_cons (pv 3) pa_nil))) (pa_cons (pe_callB call_lenT rfl m_len PySem.boot_len (pa_cons (pv 1) pa_nil)) pa_nil))) rfl)))
    (pss_one (ps_ret (pv 2))))), ?_⟩
  refine fun dn hdn => fun dr hdr => ⟨_, rfl, t, rfl, ht, fun ps p H1 hP hpl g1 h1 => ⟨p, rfl, ⟨_, SqT.of h1⟩, ?_⟩⟩
  have hdr0 : H dr = none ∧ dr ≠ dn := by
    refine ⟨?_, fun z => ?_⟩
    · by_cases z : dr = dn
      · rw [z]; exact hdn
      · rw [upd_ne z] at hdr; exact hdr
    · rw [z, upd_same] at hdr; cases hdr
  have hn1 : H1 dn = some (.dT []) := g1 _ _ (by rw [upd_ne (Ne.symm hdr0.2)]; exact upd_same)
  have hr1 : H1 dr = some (.dK []) := g1 _ _ upd_same
  have s1 : Same H H1 := fun b o e => g1 _ _ (same_upd hdr0.1 (same_new hdn _) _ b o e)
  have nd : ps.Nodup := MA.nodup_of MA.plt_irr hP.ord
  refine for_is (itis_tup p (strsV ps)) (fun i σ H' => Same H H' ∧ H' p = some (.tup (strsV ps)) ∧ H' dn = some (.dT (nK (MM.cls t (ps.take i)))) ∧ H' dr = some (.dK (rK (MM.rm t ps) (ps.take i))) ∧ ∃ o, σ = [some (.str (S t)), some (.ref dn), some (.ref dr), o])
    ⟨s1, h1, hn1, hr1, _, rfl⟩ (fun i σ H' _ z => SqT.of z.2.1) ?_ ?_
  · rintro i v σ H2 hv ⟨g2, p2, n2, r2, o, rfl⟩
    unfold strsV at hv
    rw [List.getElem?_map] at hv
    cases hx : ps[i]? with
    | none => rw [hx] at hv; cases hv
    | some x =>
      rw [hx] at hv
      cases hv
      have hxm : x ∈ ps := List.mem_of_getElem? hx
      have hxl := ((hP.mem x).mp hxm).len
      have hi : i < ps.length := (List.getElem?_eq_some_iff.mp hx).1
      have tk : ps.take (i + 1) = ps.take i ++ [x] := by rw [List.take_add_one, hx]; rfl
      have split : ps = ps.take i ++ x :: ps.drop (i + 1) := by
        have e := (List.take_append_drop i ps).symm
        rw [List.drop_eq_getElem_cons hi, show ps[i] = x from by rw [List.getElem?_eq_getElem hi] at hx; exact Option.some.inj hx] at e
        exact e
      have hnot : x ∉ ps.take i := by
        intro hm
        rw [split] at nd
        exact (List.nodup_append.mp nd).2.2 x hm x List.mem_cons_self rfl
      have hlc : (MM.cls t (ps.take i)).length ≤ 20000 := by
        have := MM.cls_len (t := t) (l := ps.take i)
        rw [List.length_take] at this
        omega
      have fin : ∀ H3, Same H H3 → H3 p = some (.tup (strsV ps)) → H3 dn = some (.dT (nK (MM.cls t (ps.take (i + 1))))) → H3 dr = some (.dK (rK (MM.rm t ps) (ps.take i))) →
          ∃ a H4, V.ref dr = .ref a ∧ DPut H3 a (.str (S x)) (.int ((MM.rm t ps x : Nat) : Int)) H4 ∧ (Same H H4 ∧ H4 p = some (.tup (strsV ps)) ∧ H4 dn = some (.dT (nK (MM.cls t (ps.take (i + 1))))) ∧ H4 dr = some (.dK (rK (MM.rm t ps) (ps.take (i + 1)))) ∧ ∃ o, ([some (V.str (S t)), some (V.ref dn), some (V.ref dr), some (V.str (S x))] : L2.St) = [some (.str (S t)), some (.ref dn), some (.ref dr), o]) := by
        intro H3 g3 p3 n3 r3
        refine ⟨dr, _, rfl, DPut.k (k := .inr (S x)) r3 (by unfold rK; rw [List.length_map, List.length_take, sizeLine_eq]; omega), same_upd hdr0.1 g3 _, ?_, ?_, ?_, _, rfl⟩
        · rw [upd_ne (ne_of p3 r3 (fun z => nomatch z))]; exact p3
        · rw [upd_ne (Ne.symm hdr0.2)]; exact n3
        · rw [upd_same, put_rK hnot, tk]
      refine ⟨_, rfl, .inr (.inr (.inl ⟨rfl, .inr ⟨_, n2⟩⟩)), _, rfl, _, rfl, t, x, rfl, ht, by omega, fun pe H3 g3 h3 => ?_⟩
      have n3 := g3 _ _ n2
      refine ⟨_, rfl, dn, _, rfl, n3, dn, pe, _, eK (MM.ends t x), _, rfl, rfl, n3, h3, by rw [nK_len, sizeLine_eq]; omega, fun u hu => ?_, fun hu => ?_⟩
      · have hm : MM.ends t x ∈ MM.cls t (ps.take i) := by
          cases Decidable.em (MM.ends t x ∈ MM.cls t (ps.take i)) with
          | inl h => exact h
          | inr h => rw [val_nK_none h] at hu; cases hu
        rw [val_nK (MM.cls_nodup _ _) hm, MM.rm_old (m := x :: ps.drop (i + 1)) hm, ← split] at hu
        cases hu
        refine ⟨_, rfl, _, rfl, fin H3 (g2.trans g3) (g3 _ _ p2) ?_ (g3 _ _ r2)⟩
        rw [n3, tk, MM.rm_snoc]
        unfold MM.stp
        rw [if_pos hm]
      · have hm : MM.ends t x ∉ MM.cls t (ps.take i) := fun h => by rw [val_nK (MM.cls_nodup _ _) h] at hu; cases hu
        have e1 : ((nK (MM.cls t (ps.take i))).length : Int) = ((MM.rm t ps x : Nat) : Int) := by
          rw [nK_len]
          have := MM.rm_new (t := t) (m := ps.drop (i + 1)) hm
          rw [← split] at this
          rw [this]
        have e2 : upd H3 dn (.dT (putK (nK (MM.cls t (ps.take i))) (eK (MM.ends t x)) (.int (nK (MM.cls t (ps.take i))).length))) dn = some (.dT (nK (MM.cls t (ps.take (i + 1))))) := by
          rw [upd_same, nK_len, put_nK hm, tk, MM.rm_snoc]
          unfold MM.stp
          rw [if_neg hm]
        have s3 := same_upd hdn (g2.trans g3) (.dT (putK (nK (MM.cls t (ps.take i))) (eK (MM.ends t x)) (.int (nK (MM.cls t (ps.take i))).length)))
        have p3 : upd H3 dn (.dT (putK (nK (MM.cls t (ps.take i))) (eK (MM.ends t x)) (.int (nK (MM.cls t (ps.take i))).length))) p = some (.tup (strsV ps)) := by
          rw [upd_ne (ne_of p2 n2 (fun z => nomatch z))]; exact g3 _ _ p2
        have r3 : upd H3 dn (.dT (putK (nK (MM.cls t (ps.take i))) (eK (MM.ends t x)) (.int (nK (MM.cls t (ps.take i))).length))) dr = some (.dK (rK (MM.rm t ps) (ps.take i))) := by
          rw [upd_ne hdr0.2]; exact g3 _ _ r2
        rw [e1] at e2 s3 p3 r3 ⊢
        exact ⟨_, rfl, _, rfl, fin _ s3 p3 e2 r3⟩
  · rintro σ H2 ⟨g2, p2, n2, r2, o, rfl⟩
    unfold strsV at r2
    rw [List.length_map, List.take_length] at r2
    exact ⟨_, rfl, q ps dr H2 hP hpl g2 r2 hdr0.1⟩
end
abbrev s_machine : Stmt := top 6
theorem sc_machine : FnScope ["text", "room_of", "ways", "part", "rooms", "ends"] ["text"] (defScope s_machine) := ⟨rfl, rfl, rfl, by decide +kernel, rfl, by decide +kernel, by decide +kernel⟩
def spMachine : Sp := fun vs H Q _ => ∃ t, vs = [.str (S t)] ∧ t.length ≤ 100 ∧ ∀ ps rooms es p H', MB.IsParts t ps → ps.length ≤ 20000 → MM.IsMach t ps rooms es → Same H H' → MachAt H' p rooms es → Q (.ref p) H'
theorem at_snoc_last (x : List Nat) (c : Nat) : atI (x ++ [c]) (-1) = some c := by
  have h0 : (x ++ [c]).length = x.length + 1 := by simp
  unfold atI ixN
  rw [if_neg (by omega), if_pos (by omega)]
  show (x ++ [c])[(-1 + ((x ++ [c]).length : Int)).toNat]? = _
  rw [h0, show (-1 + ((x.length + 1 : Nat) : Int)).toNat = x.length by omega]
  simp
theorem cut_init (x : List Nat) (c : Nat) : cutL (x ++ [c]) none (some (-1)) = x := by
  unfold cutL
  have e1 : HT.sIx (x ++ [c]).length 0 none = 0 := rfl
  have e2 : HT.sIx (x ++ [c]).length (x ++ [c]).length (some (-1)) = x.length := by
    rw [List.length_append, List.length_singleton]
    unfold HT.sIx
    simp
    omega
  rw [e1, e2]
  simp
theorem cut_tail0 (t : List Nat) (z : Nat) : cutL t (some (0 + (z : Int))) none = t.drop z := by
  unfold cutL
  rw [show (0 + (z : Int)) = ((z : Nat) : Int) by omega, HT.sIx_nat, HT.sIx_none]
  rcases Nat.lt_or_ge z t.length with h | h
  · rw [Nat.min_eq_left (Nat.le_of_lt h), List.take_of_length_le (by rw [List.length_drop]; omega)]
  · rw [Nat.min_eq_right h, List.drop_length, List.take_nil, List.drop_eq_nil_of_le h]
theorem snoc_of {y : List Nat} (h : y ≠ []) : ∃ x c, y = x ++ [c] := ⟨y.dropLast, y.getLast h, (List.dropLast_concat_getLast h).symm⟩
theorem lst_at {α : Type} {xs : List α} {i : Nat} {v : α} (h : xs[i]? = some v) : atI xs ((i : Nat) : Int) = some v := atI_nat h
/-- what the loop over the parts holds -/
structure LoopAt (H : Hp) (t : List Nat) (ps : List (List Nat)) (d D : Addr) (o : Obj) (as : List Addr) (l : List (List Nat)) (H' : Hp) (Z : Nat → List (List Nat × Int)) : Prop where
  s : Same H H'
  dd : H' d = some (.frz o (.dK (rK (MM.rm t ps) ps)))
  dl : H' D = some (.lst (as.map V.ref))
  zs : ∀ (r : Nat) a, as[r]? = some a → H' a = some (.dK ((Z r).map lineK))
  wd : ∀ r, r < as.length → MM.Wd t ps r l (Z r)
theorem sblt_strict {ps : List (Addr × List Nat × Int)} (h : ps.Pairwise fun x y => DV.sblt y.2 x.2 = false) (nd : (ps.map (·.2)).Pairwise fun a b => a.1 ≠ b.1) : (ps.map (·.2)).Pairwise fun a b => a.1 < b.1 := by
  rw [List.pairwise_map] at nd ⊢
  refine (h.and nd).imp fun {x y} z => ?_
  obtain ⟨z1, z2⟩ := z
  unfold DV.sblt at z1
  simp only [Bool.or_eq_false_iff, decide_eq_false_iff_not] at z1
  have h1 := z1.1
  by_cases g : x.2.1 < y.2.1
  · exact g
  · exact absurd (List.le_antisymm (List.not_lt.mp h1) (List.not_lt.mp g)) z2
theorem pw_symm {α β : Type} {f : α → β} {l m : List α} (p : l.Perm m) (h : l.Pairwise fun a b => f a ≠ f b) : m.Pairwise fun a b => f a ≠ f b := (p.pairwise_iff (fun {a b} n => Ne.symm n)).mp h
section
variable {P : Program} {w : World} {K : PySem.W.Frag} {mg : Str → Option Value} {base : Heap} {f g : Addr} {fd gd : FuncData}
set_option maxHeartbeats 8000000 in
theorem okMachine (F : Fun K "machine" "machine" s_machine f fd) (C_rooms_by_part : Cal P w K mg base 3 "rooms_by_part" ["text"] spRoomsBy) (m_len : mg "len" = none) (m_range : mg "range" = none) (m_max : mg "max" = none) (m_tuple : mg "tuple" = none) (m_sorted : mg "sorted" = none) (m_set : mg "set" = none) :
    FnOk P w K mg base CX0 4 f fd ["text"] spMachine := by
  refine F.ok sc_machine (fun vs H Q E h => ?_) (fun cdv A outer s H vs Q E hr h => ?_)
  · obtain ⟨t, rfl, _⟩ := h
    rfl
  obtain ⟨t, rfl, ht, q⟩ := h
  refine ⟨_, pss_cons (ps_set (i := 1) sc_machine.nd rfl (Or.inr rfl) (pe_own C_rooms_by_part hr rfl (pa_cons (pv 0) pa_nil)))
    (pss_cons (ps_comp (i := 2) sc_machine.nd rfl (Or.inl rfl) (N := ["text", "room_of", "ways", "part", "rooms", "ends"]) (N' := ["room"]) (ix := [none]) (fsc := defScope s_machine) (by exact ⟨rfl, by decide +kernel, by decide +kernel, by decide +kernel, by decide +kernel, rfl⟩) rfl (pi_range1 rfl m_range (pa_cons (pe_op op_add (pe_callB (call_maxV rfl) rfl m_max PyProof.Rows.boot_max (pa_cons (pe_bm0K K PySem.F.plainAttrs_dict PySem.F.slot_dict_values PySem.F.type_dict_values mt_values (pv 1)) pa_nil)) (pe_int)) pa_nil))
      (fun _ _ _ _ _ => pg_name (i := 0) (show (["room"] : List Str).Nodup by decide +kernel) rfl (Or.inl rfl)) (fun _ _ _ _ _ => pts_nil) (fun _ _ _ _ _ => pe_dnewK))
    (pss_cons (ps_for PassesOwn.never rfl (pi_dict (pv 1)) (pg_name (i := 3) sc_machine.nd rfl (Or.inl rfl))
      (pss_one (ps_if (pt_cmpR op_neS (pv 3) (pe_strS (l := []) rfl) (nomark _)) (pss_one (ps_dput (hu_of hr) (pe_ix (ix_listK K) (pv 2) (pe_dget (hu_of hr) (pv 1) (pe_slice sl_str (pv 3) po_none (po_some (pe_un un_neg (pe_int)))) (fun _ _ => rfl)) (fun _ _ => rfl)) (pe_ix ix_strS (pv 3) (pe_un un_neg (pe_int)) (fun _ _ => rfl)) (pe_dget (hu_of hr) (pv 1) (pv 3) (fun _ _ => rfl)) rfl)) (pss_nil))))
    (pss_cons (ps_set (i := 4) sc_machine.nd rfl (Or.inl rfl) (pe_callTy (call_tuple_ofK K) rfl m_tuple PyProof.Rows.boot_tuple (pa_cons (pe_comp (N := ["text", "room_of", "ways", "part", "rooms", "ends"]) (N' := ["lines"]) (ix := [none]) (fsc := defScope s_machine) (by exact ⟨rfl, by decide +kernel, by decide +kernel, by decide +kernel, by decide +kernel, rfl⟩) rfl (pi_list (pv 2))
      (fun _ _ _ _ _ => pg_name (i := 0) (show (["lines"] : List Str).Nodup by decide +kernel) rfl (Or.inl rfl)) (fun _ _ _ _ _ => pts_nil) (fun _ _ _ _ _ => pe_callTy (call_tupleZK K) rfl m_tuple PyProof.Rows.boot_tuple (pa_cons (pe_callB (call_sortedItems rfl) rfl m_sorted PyProof.Rows.boot_sorted (pa_cons (pe_bm0K K PySem.F.plainAttrs_dict PySem.F.slot_dict_items PySem.F.type_dict_items mt_items (pv 0)) pa_nil)) pa_nil))) pa_nil)))
    (pss_cons (ps_set (i := 5) sc_machine.nd rfl (Or.inl rfl) (pe_callTy (call_tuple_ofK K) rfl m_tuple PyProof.Rows.boot_tuple (pa_cons (pe_callB (call_sortedSetI rfl) rfl m_sorted PyProof.Rows.boot_sorted (pa_cons (pe_callTy (call_setI rfl) rfl m_set PyProof.Rows.boot_set (pa_cons (pe_comp (N := ["text", "room_of", "ways", "part", "rooms", "ends"]) (N' := ["place", "room_of", "text"]) (ix := [none, some 1, some 0]) (fsc := defScope s_machine) (by exact ⟨rfl, by decide +kernel, by decide +kernel, by decide +kernel, by decide +kernel, rfl⟩) rfl (pi_range1 rfl m_range (pa_cons (pe_op op_add (pe_callB call_lenS rfl m_len PySem.boot_len (pa_cons (pv 0) pa_nil)) (pe_int)) pa_nil))
      (fun _ _ _ _ _ => pg_name (i := 0) (show (["place", "room_of", "text"] : List Str).Nodup by decide +kernel) rfl (Or.inl rfl)) (fun _ _ _ _ _ => pts_nil) (fun _ _ _ _ _ => pe_dget (hu_of hr) (pv 1) (pe_slice sl_str (pv 2) (po_some (pv 0)) po_none) (fun _ _ => rfl))) pa_nil)) pa_nil)) pa_nil)))
    (pss_one (ps_ret (pe_tup (pa_cons (pv 4) (pa_cons (pv 5) pa_nil))))))))), ?_⟩
  refine ⟨_, rfl, t, rfl, ht, fun ps d H1 hP hpl g1 h1 hd0 => ?_⟩
  have nd : ps.Nodup := MA.nodup_of MA.plt_irr hP.ord
  refine ⟨_, rfl, .inr (.inr (.inl ⟨rfl, .inl ⟨_, h1⟩⟩)), d, _, rfl, rfl, h1, fun qv hqv => ?_⟩
  have g2 := same_new hqv (ValsO qv d)
  refine ⟨qv, d, _, ps.map (fun x => ((MM.rm t ps x : Nat) : Int)), rfl, upd_same, g2 _ _ h1, by unfold rK; rw [List.map_map, List.map_map]; rfl, fun e => ?_, fun m hm1 hm2 => ?_⟩
  · have := hP.nil
    rw [List.map_eq_nil_iff] at e
    rw [e] at this
    cases this
  obtain ⟨hn, hm0⟩ := MM.max_room hP hm1 hm2
  have hcl : (MM.cls t ps).length ≤ 20000 := Nat.le_trans MM.cls_len hpl
  refine ⟨_, _, rfl, rfl, _, rfl, ?_, ?_, fun D hD => ?_⟩
  · omega
  · omega
  rw [hn]
  have hdD : (upd H1 qv (ValsO qv d)) d = some (.dK (rK (MM.rm t ps) ps)) := g2 _ _ h1
  have s2 : Same H (upd H1 qv (ValsO qv d)) := g1.trans g2
  generalize upd H1 qv (ValsO qv d) = H2 at hD hdD s2 ⊢
  refine comp_acc (zs := List.range (MM.cls t ps).length) (fx := fun (k : Nat) => V.int (0 + (k : Int))) (itis_range 0 _) (fun k => [some (.int (0 + (k : Int)))]) (fun i ys H' => ∃ as : List Addr, ys = as.map V.ref ∧ as.Nodup ∧ ∀ a ∈ as, H' a = some (.dK []) ∧ H2 a = none) hD (by rw [List.length_range]; exact small (by omega)) (fun _ _ => trivial) ?_ ⟨[], rfl, .nil, fun a ha => by cases ha⟩ ?_ ?_ ?_ ?_
  · rintro i ys H' u v e ⟨as, h1, h2, h3⟩
    refine ⟨as, h1, h2, fun a ha => ⟨?_, (h3 a ha).2⟩⟩
    rw [upd_ne (ne_of (h3 a ha).1 e (fun z => nomatch z))]
    exact (h3 a ha).1
  · rintro z σ H K _ (rfl | ⟨y, rfl⟩) _ k
    · exact k
    · exact k
  · intro z H' K hz hS k
    exact k
  · rintro i z H' K' ys hz hS ⟨as, rfl, hnd, has⟩ hDl hyl k p hp
    refine k _ _ (same_new hp _) ⟨as ++ [p], by rw [List.map_append]; rfl, ?_, fun a ha => ?_⟩
    · rw [List.nodup_append]
      refine ⟨hnd, by simp, fun a ha b hb e => ?_⟩
      rw [List.mem_singleton] at hb
      rw [hb] at e
      have := (has a ha).1
      rw [e, hp] at this
      cases this
    · rcases List.mem_append.mp ha with ha | ha
      · exact ⟨same_new hp _ _ _ (has a ha).1, (has a ha).2⟩
      · rw [List.mem_singleton] at ha
        subst ha
        exact ⟨upd_same, hS.free hp⟩
  rintro ys H3 g3 h3D hyl ⟨as, rfl, hnd, has⟩
  rw [List.length_map, List.length_range] at hyl
  have h3d := g3 _ _ hdD
  refine ⟨_, rfl, d, _, rfl, h3d, fun o => ?_⟩
  have hJ : ItIs (Itd d o (rK (MM.rm t ps) ps)) (fun H => H d = some (.frz o (.dK (rK (MM.rm t ps) ps)))) (strsV ps) := by
    have := itis_dict d o (rK (MM.rm t ps) ps)
    have e : (rK (MM.rm t ps) ps).map (fun kv => kV kv.1) = strsV ps := by unfold rK strsV; rw [List.map_map]; rfl
    rwa [e] at this
  have s3 : Same H H3 := s2.trans g3
  have hasH : ∀ a ∈ as, H a = none := fun a ha => s2.free (has a ha).2
  have hasd : ∀ a ∈ as, a ≠ d := fun a ha z => by
    have := (has a ha).2
    rw [z, hdD] at this
    cases this
  have st0 : LoopAt H t ps d D o as [] (upd H3 d (.frz o (.dK (rK (MM.rm t ps) ps)))) (fun _ => []) := by
    refine ⟨same_upd hd0 s3 _, upd_same, ?_, fun r a ha => ?_, fun r _ => MM.Wd.nil r⟩
    · rw [upd_ne (ne_of h3D h3d (fun z => nomatch z))]; exact h3D
    · have hm := List.mem_of_getElem? ha
      rw [upd_ne (hasd a hm)]; exact (has a hm).1
  refine for_is hJ (fun i σ H' => (∃ Z, LoopAt H t ps d D o as (ps.take i) H' Z) ∧ ∃ o, σ = [some (.str (S t)), some (.ref d), some (.ref D), o, none, none]) ⟨⟨_, by rw [List.take_zero]; exact st0⟩, _, rfl⟩ (fun i σ H' _ z => let ⟨⟨Z, l⟩, _⟩ := z; l.dd) ?_ ?_
  · rintro i v σ H4 hv ⟨⟨Z, L⟩, ov, rfl⟩
    unfold strsV at hv
    rw [List.getElem?_map] at hv
    cases hy : ps[i]? with
    | none => rw [hy] at hv; cases hv
    | some y =>
      rw [hy] at hv
      cases hv
      have hym : y ∈ ps := List.mem_of_getElem? hy
      have hyl' := ((hP.mem y).mp hym).len
      have tk : ps.take (i + 1) = ps.take i ++ [y] := by rw [List.take_add_one, hy]; rfl
      refine ⟨_, rfl, y, [], rfl, rfl, _, rfl, ?_⟩
      refine ite2 (fun e => ?_) (fun e => ?_)
      · have hne : y ≠ [] := fun z => by rw [z] at e; simp at e
        obtain ⟨x, c, rfl⟩ := snoc_of hne
        have hx : x ∈ ps := (hP.mem x).mpr (MM.part_init ((hP.mem _).mp hym))
        have hxl := ((hP.mem x).mp hx).len
        have hrl : MM.rm t ps x < as.length := by rw [hyl]; exact MM.rm_lt hx
        have har : as[MM.rm t ps x]? = some as[MM.rm t ps x] := List.getElem?_eq_getElem hrl
        have dg : ∀ z ∈ ps, DGet H4 d (.str (S z)) (some (.int ((MM.rm t ps z : Nat) : Int))) := fun z hz => .inl ⟨_, .inr (S z), .inr ⟨o, L.dd⟩, rfl, (val_rK nd hz).symm⟩
        refine ⟨_, rfl, _, rfl, d, _, rfl, dg _ hym, ?_⟩
        refine ⟨_, rfl, _, rfl, _, rfl, _, rfl, _, rfl, x ++ [c], rfl, small (by omega), ?_⟩
        rw [cut_init]
        refine ⟨d, _, rfl, dg _ hx, D, _, _, _, rfl, rfl, SqL.of L.dl, lst_at (by rw [List.getElem?_map, har]; rfl), ?_⟩
        refine ⟨_, rfl, _, rfl, x ++ [c], _, c, rfl, rfl, small (by omega), at_snoc_last x c, ?_⟩
        have hzl : (Z (MM.rm t ps x)).length < 1000000 := by
          have := (L.wd _ hrl).len
          rw [List.length_take] at this
          omega
        have ha := L.zs _ _ har
        refine ⟨_, _, rfl, DPut.k (k := .inr (S [c])) ha (by rw [List.length_map, sizeLine_eq]; omega), ?_⟩
        have hap := List.mem_of_getElem? har
        have stp : ∀ Z', putK ((Z (MM.rm t ps x)).map lineK) (.inr (S [c])) (.int ((MM.rm t ps (x ++ [c]) : Nat) : Int)) = (Z' (MM.rm t ps x)).map lineK → (∀ r, r ≠ MM.rm t ps x → Z' r = Z r) → MM.Wd t ps (MM.rm t ps x) (ps.take (i + 1)) (Z' (MM.rm t ps x)) →
            LoopAt H t ps d D o as (ps.take (i + 1)) (upd H4 as[MM.rm t ps x] (.dK (putK ((Z (MM.rm t ps x)).map lineK) (.inr (S [c])) (.int ((MM.rm t ps (x ++ [c]) : Nat) : Int))))) Z' := by
          intro Z' e1 e2 e3
          refine ⟨same_upd (hasH _ hap) L.s _, ?_, ?_, fun r a har' => ?_, fun r hr' => ?_⟩
          · rw [upd_ne (Ne.symm (hasd _ hap))]; exact L.dd
          · rw [upd_ne (ne_of L.dl ha (fun z => nomatch z))]; exact L.dl
          · by_cases er : r = MM.rm t ps x
            · subst er
              rw [har] at har'
              cases har'
              rw [upd_same, e1]
            · have hrl' := (List.getElem?_eq_some_iff.mp har').1
              have : a ≠ as[MM.rm t ps x] := fun z => er (by
                have h1 := MM.idx_of hnd har'
                have h2 := MM.idx_of hnd har
                rw [z, h2] at h1
                exact h1.symm)
              rw [upd_ne this, e2 r er]
              exact L.zs r a har'
          · by_cases er : r = MM.rm t ps x
            · subst er
              exact e3
            · rw [e2 r er, tk]
              exact (L.wd r hr').other (Ne.symm er)
        rcases (L.wd _ hrl).cases hP (fun y hy => List.mem_of_mem_take hy) hym rfl with hm | hm
        · refine ⟨⟨Z, stp Z (put_line_old (L.wd _ hrl).nd hm) (fun _ _ => rfl) ?_⟩, _, rfl⟩
          rw [tk]
          exact (L.wd _ hrl).same rfl hm
        · refine ⟨⟨fun r => if r = MM.rm t ps x then Z r ++ [([c], ((MM.rm t ps (x ++ [c]) : Nat) : Int))] else Z r, stp _ ?_ (fun r hr => if_neg hr) ?_⟩, _, rfl⟩
          · show _ = List.map lineK (if MM.rm t ps x = MM.rm t ps x then _ else _)
            rw [if_pos rfl, put_line_new hm]
          · show MM.Wd t ps (MM.rm t ps x) (ps.take (i + 1)) (if MM.rm t ps x = MM.rm t ps x then _ else _)
            rw [if_pos rfl, tk]
            exact (L.wd _ hrl).new rfl hm
      · have he : y = [] := by simpa using e
        subst he
        refine ⟨⟨Z, L.s, L.dd, L.dl, L.zs, fun r hr => ?_⟩, _, rfl⟩
        rw [tk]
        exact (L.wd r hr).skip
  rintro σ H4 ⟨⟨Z, L⟩, ov, rfl⟩
  have L' : LoopAt H t ps d D o as ps H4 Z := by
    have e : ps.take (strsV ps).length = ps := by unfold strsV; rw [List.length_map, List.take_length]
    rw [e] at L
    exact L
  clear L
  /- the rooms -/
  refine ⟨_, rfl, D, rfl, ⟨_, SqL.of L'.dl⟩, fun D2 hD2 => ?_⟩
  refine comp_acc (zs := as) (fx := V.ref) (itis_list D _) (fun a => [some (.ref a)]) (fun i ys H' => ∃ (rs : List Addr) (Ls : List (List (List Nat × Int))), ys = rs.map V.ref ∧ Paired (fun r L => RoomAt H' r L) rs Ls ∧ Ls.length = i ∧ ∀ (r : Nat) L, Ls[r]? = some L → L.Perm (Z r) ∧ L.Pairwise fun a b => a.1 < b.1)
    hD2 (by rw [hyl]; exact small (by omega)) (fun H' gg => SqL.of (gg _ _ L'.dl)) ?_ ⟨[], [], rfl, .nil, rfl, fun r L h => by simp at h⟩ ?_ ?_ ?_ ?_
  · rintro i ys H' u v e ⟨rs, Ls, h1, h2, h3⟩
    exact ⟨rs, Ls, h1, Paired.mapP h2 fun a b z => z.lst e, h3⟩
  · rintro z σ H K _ (rfl | ⟨y, rfl⟩) _ k
    · exact k
    · exact k
  · intro z H' K hz hS k
    exact k
  · rintro i a H5 K' ys hz hS ⟨rs, Ls, rfl, hp2, hll, hLs⟩ hDl hyl2 k
    have ha := hS _ _ (L'.zs i a hz)
    have hwd := L'.wd i (List.getElem?_eq_some_iff.mp hz).1
    refine ⟨_, rfl, .inr (.inr (.inl ⟨rfl, .inl ⟨_, ha⟩⟩)), a, _, rfl, rfl, ha, fun qi hqi => ?_⟩
    have gi := same_new hqi (ItemsO qi a)
    refine ⟨qi, a, Z i, rfl, upd_same, gi _ _ ha, fun p pr H6 g6 perm ord tups lst => ?_⟩
    refine ⟨p, _, rfl, SqL.of lst, fun l ob hl hob hoc => ?_⟩
    have gl := same_new hl (.frz ob (.tup (pr.map fun z => V.ref z.1)))
    have g56 : Same H5 (upd H6 l (.frz ob (.tup (pr.map fun z => V.ref z.1)))) := (gi.trans g6).trans gl
    refine k _ _ g56 ⟨rs ++ [l], Ls ++ [pr.map (·.2)], by rw [List.map_append]; rfl, ?_, by rw [List.length_append, List.length_singleton]; omega, fun r L hL => ?_⟩
    · exact paired_snoc (Paired.mapP hp2 fun a b z => z.same g56) ⟨ob, pr, upd_same, hob, rfl, fun z hz => gl _ _ (tups z hz)⟩
    · rcases Nat.lt_or_ge r Ls.length with h | h
      · rw [List.getElem?_append_left h] at hL
        exact hLs r L hL
      · rw [List.getElem?_append_right h] at hL
        have hr0 : r - Ls.length = 0 := by
          rcases Nat.eq_zero_or_pos (r - Ls.length) with z | z
          · exact z
          · rw [List.getElem?_eq_none (by rw [List.length_singleton]; omega)] at hL; cases hL
        rw [hr0] at hL
        cases hL
        have : r = i := by omega
        subst this
        refine ⟨perm, sblt_strict ord ?_⟩
        exact pw_symm perm.symm hwd.nd
  rintro ys H5 g5 h5D hyl5 ⟨rs, Ls, rfl, hp2, hll, hLs⟩
  refine ⟨D2, _, rfl, .inl ⟨SqL.of h5D, fun tr htr => ?_⟩⟩
  have g6 := same_new htr (.tup (rs.map V.ref))
  have s6 : Same H (upd H5 tr (.tup (rs.map V.ref))) := (L'.s.trans g5).trans g6
  have R6 : RoomsAt (upd H5 tr (.tup (rs.map V.ref))) tr Ls := ⟨rs, upd_same, Paired.mapP hp2 fun a b z => z.same g6⟩
  have d6 := g6 _ _ (g5 _ _ L'.dd)
  generalize upd H5 tr (.tup (rs.map V.ref)) = H6 at s6 R6 d6 ⊢
  /- the ends -/
  refine ⟨_, rfl, t, rfl, small (by omega), _, _, rfl, rfl, _, rfl, by omega, by omega, fun D3 hD3 => ?_⟩
  rw [show ((t.length : Int) + 1).toNat = t.length + 1 by omega]
  refine comp_zs (itis_range 0 _) (fun _ => true) (fun i => .int ((MM.rm t ps (t.drop i) : Nat) : Int)) (fun i => [some (.int (0 + (i : Int))), some (.ref d), some (.str (S t))]) hD3 (by rw [List.length_range]; exact small (by omega)) (fun _ _ => trivial) ?_ ?_ ?_ ?_
  · rintro z σ H K _ (rfl | ⟨y, rfl⟩) _ k
    · exact k
    · exact k
  · intro z H' K hz hS k1
    exact k1 H' (Same.refl H')
  · intro z H' K hz _ hS k1
    have hzl : z ≤ t.length := by have := List.mem_range.mp hz; omega
    have hm : t.drop z ∈ ps := (hP.mem _).mpr (MM.tail_part hzl)
    refine ⟨_, rfl, _, rfl, _, rfl, _, rfl, t, rfl, small (by omega), ?_⟩
    rw [cut_tail0]
    exact ⟨d, _, rfl, .inl ⟨_, .inr (S (t.drop z)), .inr ⟨o, hS _ _ d6⟩, rfl, (val_rK nd hm).symm⟩, k1 H' (Same.refl H')⟩
  intro H7 g7 e7
  rw [List.filter_eq_self.mpr fun _ _ => rfl] at e7
  have e7' : H7 D3 = some (.lst (((List.range (t.length + 1)).map fun i => ((MM.rm t ps (t.drop i) : Nat) : Int)).map V.int)) := by rw [e7, List.map_map]; rfl
  refine ⟨D3, _, rfl, SqL.of e7', by rw [List.length_map, List.length_range]; omega, fun qs hqs => ?_⟩
  have g8 := same_new hqs (SetIO w qs (IW.dd ((List.range (t.length + 1)).map fun i => ((MM.rm t ps (t.drop i) : Nat) : Int))))
  refine ⟨qs, _, rfl, upd_same, fun pl ns hpl' perm ord => ?_⟩
  have g9 := same_new hpl' (.lst (ns.map V.int))
  refine ⟨pl, _, rfl, .inl ⟨SqL.of upd_same, fun te hte => ?_⟩⟩
  have g10 := same_new hte (.tup (ns.map V.int))
  have g70 := (g7.trans g8).trans (g9.trans g10)
  refine ⟨_, rfl, _, rfl, (by show 2 ≤ sizeLine; exact small (by omega)), fun pp hpp => ?_⟩
  have g11 := same_new hpp (.tup [.ref tr, .ref te])
  have hmach : MM.IsMach t ps Ls ns := by
    refine MM.mach_of hP (Z := Z) (fun r hr' => L'.wd r (by rw [hyl]; exact hr')) (by rw [hll, hyl]) hLs ?_ fun e => ?_
    · have ndd : ns.Nodup := perm.nodup_iff.mpr (IW.dd_nodup _)
      exact (ord.and ndd).imp fun {a b} z => by have := z.1; have := z.2; omega
    · rw [perm.mem_iff, IW.dd_mem, List.mem_map]
      constructor
      · rintro ⟨i, hi, rfl⟩
        exact ⟨i, by have := List.mem_range.mp hi; omega, rfl⟩
      · rintro ⟨i, hi, rfl⟩
        exact ⟨i, List.mem_range.mpr (by omega), rfl⟩
  exact q ps Ls ns pp _ hP hpl hmach (s6.trans (g70.trans g11)) ⟨tr, te, upd_same, R6.same (g70.trans g11), g11 _ _ upd_same⟩
end
end K42
namespace K42
open PySem L2
abbrev s_law : Stmt := top 14
theorem sc_law : FnScope ["_law_script", "_law_text_here", "_law_rooms", "_law_ends", "_law_size", "_law_ways", "_law_many", "_law_k", "_law_more", "_law_room", "_law_letter", "_law_goal"] ["_law_script"] (defScope s_law) := ⟨rfl, rfl, rfl, by decide +kernel, rfl, by decide +kernel, by decide +kernel⟩
def spLaw (K : PySem.W.Frag) : Sp := fun vs H Q _ => ∃ (a : Addr) (ns : List Int), vs = [.ref a] ∧ SqL K H a (ns.map V.int) ∧ ns.length ≤ 63 ∧ ∀ H', Q (.bl true) H'
theorem ifF' {b : Bool} {P Q : Prop} (h : b = false) (q : Q) : if b = true then P else Q := by subst h; exact q
/-- ways by rooms -/
def wK (p : Nat × Nat) : Key × V := (.inl (p.1 : Int), .int (p.2 : Int))
theorem wK_key {a b : Nat} : ((.inl (a : Int) : Key) = .inl (b : Int)) ↔ a = b := ⟨fun h => by have := Sum.inl.inj h; omega, fun h => by rw [h]⟩
theorem wK_nd {kvs : List (Nat × Nat)} (h : (kvs.map (·.1)).Nodup) : ((kvs.map wK).map (·.1)).Nodup := by
  rw [List.map_map]
  rw [List.nodup_iff_pairwise_ne, List.pairwise_map] at h ⊢
  exact h.imp fun {a b} n e => n (wK_key.mp e)
theorem val_wK {N : Nat → Nat} {kvs : List (Nat × Nat)} (h : MM.HasN N kvs) (g : Nat) : (valV (kvs.map wK) (.inl (g : Int))).getD (.int 0) = .int (N g : Int) := by
  rcases Nat.eq_zero_or_pos (N g) with z | z
  · have : valV (kvs.map wK) (.inl (g : Int)) = none := by
      cases q : valV (kvs.map wK) (.inl (g : Int)) with
      | none => rfl
      | some v =>
        obtain ⟨p, hp, e⟩ := List.mem_map.mp (valV_in q)
        obtain ⟨y, hy, rfl⟩ := List.mem_map.mp hp
        have e' : y.1 = g := wK_key.mp e
        have := (h.mem y.1 y.2).mp hy
        rw [e'] at this
        omega
    rw [this, z]
    rfl
  · rw [val_mem (wK_nd h.nd) (List.mem_map.mpr ⟨(g, N g), (h.mem _ _).mpr ⟨z, rfl⟩, rfl⟩)]
    rfl
theorem val_wK' {N : Nat → Nat} {kvs : List (Nat × Nat)} (h : MM.HasN N kvs) {p : Nat × Nat} (hp : p ∈ kvs) : valV (kvs.map wK) (.inl (p.1 : Int)) = some (.int (p.2 : Int)) := val_mem (wK_nd h.nd) (List.mem_map.mpr ⟨p, hp, rfl⟩)
theorem put_wK (kvs : List (Nat × Nat)) (g v : Nat) : putK (kvs.map wK) (.inl (g : Int)) (.int (v : Int)) = (MM.putN kvs g v).map wK := by
  unfold putK MM.putN
  have e : ((kvs.map wK).any fun kv => decide (kv.1 = (.inl (g : Int) : Key))) = decide (g ∈ kvs.map (·.1)) := by
    rw [Bool.eq_iff_iff, List.any_eq_true, decide_eq_true_eq]
    constructor
    · rintro ⟨kv, hm, e⟩
      obtain ⟨y, hy, rfl⟩ := List.mem_map.mp hm
      exact List.mem_map.mpr ⟨y, hy, wK_key.mp (of_decide_eq_true e)⟩
    · intro h
      obtain ⟨y, hy, rfl⟩ := List.mem_map.mp h
      exact ⟨_, List.mem_map.mpr ⟨y, hy, rfl⟩, decide_eq_true rfl⟩
  rw [e]
  by_cases h : g ∈ kvs.map (·.1)
  · rw [if_pos (decide_eq_true h), if_pos h, List.map_map, List.map_map]
    refine List.map_congr_left fun y _ => ?_
    show (if (wK y).1 = .inl (g : Int) then ((wK y).1, V.int (v : Int)) else wK y) = wK (if y.1 = g then (y.1, v) else y)
    by_cases z : y.1 = g
    · rw [if_pos (show (wK y).1 = .inl (g : Int) from wK_key.mpr z), if_pos z]; rfl
    · rw [if_neg (show ¬ (wK y).1 = .inl (g : Int) from fun e => z (wK_key.mp e)), if_neg z]
  · rw [if_neg (by rw [decide_eq_false h]; exact Bool.false_ne_true), if_neg h, List.map_append]
    rfl
theorem put_keys {kvs : List (Nat × Nat)} {g v n : Nat} (h : ∀ p ∈ kvs, p.1 < n) (hg : g < n) : ∀ p ∈ MM.putN kvs g v, p.1 < n := by
  unfold MM.putN
  split
  · intro p hp
    obtain ⟨y, hy, rfl⟩ := List.mem_map.mp hp
    split
    · exact h y hy
    · exact h y hy
  · intro p hp
    rcases List.mem_append.mp hp with hp | hp
    · exact h p hp
    · rw [List.mem_singleton] at hp; rw [hp]; exact hg
theorem keys_len {N : Nat → Nat} {kvs : List (Nat × Nat)} {n : Nat} (h : MM.HasN N kvs) (k : ∀ p ∈ kvs, p.1 < n) : kvs.length ≤ n := by
  have := MM.len_sub h.nd (m := List.range n) fun r hr => by
    obtain ⟨p, hp, rfl⟩ := List.mem_map.mp hr
    exact List.mem_range.mpr (k p hp)
  rwa [List.length_map, List.length_range] at this
theorem sum_cast (l : List Nat) : (l.map fun (n : Nat) => (n : Int)).sum = (l.sum : Int) := by
  induction l with
  | nil => rfl
  | cons x l ih => rw [List.map_cons, List.sum_cons, List.sum_cons, ih]; omega
theorem mulOk {c : Int} {n : Nat} (h : n ≤ 24) : CMul c (n : Int) := .inr ⟨by omega, by omega⟩
theorem most_rooms {n m : Nat} (n1 : n ≤ 1 → m ≤ n + 1) (n2 : 2 ≤ n → m ≤ 2 * n - 1) : (m : Int) ≤ (n : Int) + 1 ∨ (2 ≤ n ∧ (m : Int) ≤ 2 * (n : Int) - 1) := by omega
theorem paired_zip {α β : Type} {F : α → β → Prop} : ∀ {l : List α} {m : List β}, Paired F l m → ∃ zs : List (α × β), l = zs.map (·.1) ∧ m = zs.map (·.2) ∧ ∀ z ∈ zs, F z.1 z.2
  | _, _, .nil => ⟨[], rfl, rfl, fun z hz => by cases hz⟩
  | _, _, .cons r t => by
    obtain ⟨zs, e1, e2, h⟩ := paired_zip t
    refine ⟨(_, _) :: zs, by rw [List.map_cons, ← e1], by rw [List.map_cons, ← e2], fun z hz => ?_⟩
    rcases List.mem_cons.mp hz with rfl | hz
    · exact r
    · exact h z hz
section
variable {P : Program} {w : World} {K : PySem.W.Frag} {mg : Str → Option Value} {base : Heap} {f g : Addr} {fd gd : FuncData}
set_option maxHeartbeats 8000000 in
theorem okLaw (F : Fun K "law" "law" s_law f fd) (C__law_mixed : Cal P w K mg base 2 "_law_mixed" ["_law_script", "_law_k"] (spMixed K)) (C__law_text : Cal P w K mg base 2 "_law_text" ["_law_number", "_law_most"] spText)
    (C_machine : Cal P w K mg base 4 "machine" ["text"] spMachine) (C_count_parts : Cal P w K mg base 3 "count_parts" ["text"] spCount) (m_len : mg "len" = none) (m_max : mg "max" = none) (m_sum : mg "sum" = none) (m_range : mg "range" = none) :
    FnOk P w K mg base CX0 41 f fd ["_law_script"] (spLaw K) := by
  refine F.ok sc_law (fun vs H Q E h => ?_) (fun cdv A outer s H vs Q E hr h => ?_)
  · obtain ⟨a, ns, rfl, _⟩ := h
    rfl
  obtain ⟨a, ns, rfl, hS, h63, q⟩ := h
  obtain ⟨t5, p5, r5⟩ : ∃ t, PSs (cxOf CX0 P w K mg base ["_law_script", "_law_text_here", "_law_rooms", "_law_ends", "_law_size", "_law_ways", "_law_many", "_law_k", "_law_more", "_law_room", "_law_letter", "_law_goal"] "law" (defScope s_law) f cdv A outer s H E).nox ((defBody s_law).drop 5) t ∧
      ∀ l ps rooms es a1 b1 H', MB.IsParts l ps → ps.length ≤ 20000 → l.length ≤ 24 → MM.IsMach l ps rooms es → RoomsAt H' a1 rooms →
        t { nx := fun _ H' => Q .non H', rt := Q } [some (.ref a), some (.str (S l)), some (.ref a1), some (.ref b1), some (.int (l.length : Int)), none, none, none, none, none, none, none] H' := by
    refine ⟨_, pss_cons (ps_set (i := 5) sc_law.nd rfl (Or.inr rfl) (pe_disp (pps_cons (pe_int) (pe_int) (pps_nil)) rfl rfl (List.cons_ne_nil _ _) (Nat.le_of_ble_eq_true rfl)))
    (pss_cons (ps_set (i := 6) sc_law.nd rfl (Or.inl rfl) (pe_int))
    (pss_cons (ps_for PassesOwn.never rfl (pi_range1 rfl m_range (pa_cons (pe_op op_add (pv 4) (pe_int)) pa_nil)) (pg_name (i := 7) sc_law.nd rfl (Or.inl rfl))
      (pss_cons (ps_set (i := 6) sc_law.nd rfl (Or.inl rfl) (pe_op op_add (pv 6) (pe_callB (call_sumIK K rfl) rfl m_sum PyProof.Rows.boot_sum (pa_cons (pe_comp (N := ["_law_script", "_law_text_here", "_law_rooms", "_law_ends", "_law_size", "_law_ways", "_law_many", "_law_k", "_law_more", "_law_room", "_law_letter", "_law_goal"]) (N' := ["_law_room", "_law_ways"]) (ix := [none, some 5]) (fsc := defScope s_law) (by exact ⟨rfl, by decide +kernel, by decide +kernel, by decide +kernel, by decide +kernel, rfl⟩) rfl (pi_dict (pv 5))
      (fun _ _ _ _ _ => pg_name (i := 0) (show (["_law_room", "_law_ways"] : List Str).Nodup by decide +kernel) rfl (Or.inl rfl)) (fun _ _ _ _ _ => pts_nil) (fun _ _ _ _ _ => pe_dget (hu_of hr) (pv 1) (pv 0) (fun _ _ => rfl))) pa_nil))))
    (pss_cons (ps_set (i := 8) sc_law.nd rfl (Or.inl rfl) (pe_dnewK))
    (pss_cons (ps_for PassesOwn.never rfl (pi_dictR (pv 5)) (pg_name (i := 9) sc_law.nd rfl (Or.inl rfl))
      (pss_one (ps_for PassesOwn.never rfl (pi_tup (pe_ix (ix_tupK K) (pv 2) (pv 9) (fun _ _ => rfl))) (pg_tupK (n := 2) K rfl (pgs_cons (pg_name (i := 10) sc_law.nd rfl (Or.inl rfl)) (pgs_cons (pg_name (i := 11) sc_law.nd rfl (Or.inl rfl)) (pgs_nil))))
      (pss_one (ps_dput (hu_of hr) (pv 8) (pv 11) (pe_op op_add (pe_dget2 (hu_of hr) (pv 8) (pv 11) (pe_int) ⟨rfl, rfl, rfl, rfl⟩) (pe_dget (hu_of hr) (pv 5) (pv 9) (fun _ _ => rfl))) rfl)))))
    (pss_one (ps_set (i := 5) sc_law.nd rfl (Or.inr rfl) (pv 8)))))))
    (pss_one (ps_ret (pe_and (pe_cmpR (op_eqD0 (hu0 hr)) (pv 5) (pe_dnewK) (nomark _)) (pe_one (pe_cmpR op_eq (pv 6) (pe_own C_count_parts hr rfl (pa_cons (pv 1) pa_nil)) (nomark _)))))))), fun l ps rooms es a1 b1 Hb hP hpl hl hM hR => ?_⟩
    have nd : ps.Nodup := MA.nodup_of MA.plt_irr hP.ord
    have hpos := hM.pos hP
    have hrl : rooms.length ≤ 20000 := by rw [hM.len]; exact Nat.le_trans MM.cls_len hpl
    obtain ⟨rs, h2, h3⟩ := id hR
    refine fun d0 hd0 => ⟨upd_same, [(Sum.inl 0, .int 1)], rfl, by decide, ?_⟩
    rw [upd_upd]
    have hm0 : mergeK [] [((Sum.inl 0 : Key), V.int 1)] = [(0, 1)].map wK := rfl
    rw [hm0]
    refine ⟨_, rfl, _, _, rfl, rfl, _, rfl, by omega, by omega, ?_⟩
    rw [show ((l.length : Int) + 2).toNat = l.length + 2 by omega]
    refine for_range (fun k σ H' => Same Hb H' ∧ ∃ (dw : Addr) (kvs : List (Nat × Nat)) (o7 o8 o9 o10 o11 : Option V), Hb dw = none ∧ H' dw = some (.dK (kvs.map wK)) ∧ MM.HasN (MM.cnt l ps k) kvs ∧ (∀ p ∈ kvs, p.1 < rooms.length) ∧
        σ = [some (.ref a), some (.str (S l)), some (.ref a1), some (.ref b1), some (.int (l.length : Int)), some (.ref dw), some (.int ((MM.shorter ps k : Nat) : Int)), o7, o8, o9, o10, o11])
      ⟨same_new hd0 _, d0, [(0, 1)], _, _, _, _, _, hd0, upd_same, MM.first_ways hP, fun p hp => by rw [List.mem_singleton] at hp; rw [hp]; exact hpos, by rw [MM.shorter_zero]; rfl⟩ ?_ ?_
    · rintro k σ H1 hk ⟨g1, dw, kvs, o7, o8, o9, o10, o11, hbw, hdw, hN, hkeys, rfl⟩
      have hkl := keys_len hN hkeys
      refine ⟨_, rfl, _, rfl, dw, _, rfl, hdw, fun o D hD => ?_⟩
      have hJ : ItIs (Itd dw o (kvs.map wK)) (fun H => H dw = some (.frz o (.dK (kvs.map wK)))) (kvs.map fun p => V.int (p.1 : Int)) := by
        have := itis_dict dw o (kvs.map wK)
        have e : (kvs.map wK).map (fun kv => kV kv.1) = kvs.map fun p => V.int (p.1 : Int) := by rw [List.map_map]; rfl
        rwa [e] at this
      have g2 : Same Hb (upd H1 dw (.frz o (.dK (kvs.map wK)))) := same_upd hbw g1 _
      have hdw2 : (upd H1 dw (.frz o (.dK (kvs.map wK)))) dw = some (.frz o (.dK (kvs.map wK))) := upd_same
      generalize upd H1 dw (.frz o (.dK (kvs.map wK))) = H2 at g2 hdw2 hD ⊢
      refine comp_zs (zs := kvs) hJ (fun _ => true) (fun p => .int (p.2 : Int)) (fun p => [some (.int (p.1 : Int)), some (.ref dw)]) hD (small (by omega)) (fun H' gg => gg _ _ hdw2) ?_ ?_ ?_ ?_
      · rintro z σ H K _ (rfl | ⟨y, rfl⟩) _ k
        · exact k
        · exact k
      · intro z H' K hz hS k1
        exact k1 H' (Same.refl H')
      · intro z H' K hz _ hS k1
        exact ⟨_, rfl, _, rfl, dw, _, rfl, .inl ⟨_, .inl (z.1 : Int), .inr ⟨o, hS _ _ hdw2⟩, rfl, (val_wK' hN hz).symm⟩, k1 H' (Same.refl H')⟩
      intro H3 g3 e3
      rw [List.filter_eq_self.mpr fun _ _ => rfl] at e3
      have e3' : H3 D = some (.lst (((kvs.map (·.2)).map fun (n : Nat) => (n : Int)).map V.int)) := by rw [e3, List.map_map, List.map_map]; rfl
      refine ⟨D, _, rfl, .inl (SqL.of e3'), _, _, rfl, rfl, ?_⟩
      rw [sum_cast, MM.sum_ways nd hN]
      have g03 := g2.trans g3
      have hdw3 := g3 _ _ hdw2
      refine fun dm hdm => ?_
      have g4 : Same Hb (upd H3 dm (.dK [])) := g03.trans (same_new hdm _)
      have hdw4 := same_new hdm (.dK []) _ _ hdw3
      have hdm4 : (upd H3 dm (.dK [])) dm = some (.dK (([] : List (Nat × Nat)).map wK)) := upd_same
      have hbm : Hb dm = none := g03.free hdm
      generalize upd H3 dm (.dK []) = H4 at g4 hdw4 hdm4 ⊢
      refine ⟨_, rfl, dw, o, _, rfl, hdw4, ?_⟩
      refine for_is hJ (fun j σ H' => Same Hb H' ∧ H' dw = some (.frz o (.dK (kvs.map wK))) ∧ ∃ (kv2 : List (Nat × Nat)) (o9 o10 o11 : Option V), H' dm = some (.dK (kv2.map wK)) ∧ MM.HasN (fun g => ((kvs.take j).map fun p => MM.to (rooms.getD p.1 []) g * MM.cnt l ps k p.1).sum) kv2 ∧ (∀ p ∈ kv2, p.1 < rooms.length) ∧
          σ = [some (.ref a), some (.str (S l)), some (.ref a1), some (.ref b1), some (.int (l.length : Int)), some (.ref dw), some (.int (((MM.shorter ps k : Nat) : Int) + ((MM.ofLen ps k).length : Int))), some (.int (0 + (k : Int))), some (.ref dm), o9, o10, o11])
        ⟨g4, hdw4, [], _, _, _, hdm4, MM.HasN.nil fun r => by rw [List.take_zero]; rfl, fun p hp => (by cases hp), rfl⟩ (fun j σ H' _ z => z.2.1) ?_ ?_
      · rintro j v σ H5 hv ⟨g5, hdw5, kv2, o9, o10, o11, hdm5, hN2, hk2, rfl⟩
        rw [List.getElem?_map] at hv
        cases hp : kvs[j]? with
        | none => rw [hp] at hv; cases hv
        | some p =>
          rw [hp] at hv
          cases hv
          have hpm := List.mem_of_getElem? hp
          have hpl' := hkeys p hpm
          have hval := hN.val hpm
          have hpp := ((hN.mem p.1 p.2).mp hpm).1
          have eL : rooms.getD p.1 [] = rooms[p.1] := by rw [List.getD_eq_getElem?_getD, List.getElem?_eq_getElem hpl']; rfl
          have hL : rooms[p.1]? = some rooms[p.1] := List.getElem?_eq_getElem hpl'
          have hLm := List.mem_of_getElem? hL
          obtain ⟨r, hr1, ob, pr, e1, e2, e3, e4⟩ := paired_at h3 hL
          have tk : kvs.take (j + 1) = kvs.take j ++ [p] := by rw [List.take_add_one, hp]; rfl
          refine ⟨_, rfl, _, rfl, a1, _, _, _, rfl, rfl, SqT.of (g5 _ _ h2), atI_nat (by rw [List.getElem?_map, hr1]; rfl), r, rfl, ⟨_, .inl (.inr ⟨ob, g5 _ _ e1⟩)⟩, ?_⟩
          refine for_is (itis_tup r (pr.map fun z => V.ref z.1)) (fun i σ H' => Same Hb H' ∧ H' dw = some (.frz o (.dK (kvs.map wK))) ∧ ∃ (kv3 : List (Nat × Nat)) (o10 o11 : Option V), H' dm = some (.dK (kv3.map wK)) ∧ MM.HasN (fun g => ((kvs.take j).map fun p => MM.to (rooms.getD p.1 []) g * MM.cnt l ps k p.1).sum + MM.to ((pr.map (·.2)).take i) g * p.2) kv3 ∧ (∀ p ∈ kv3, p.1 < rooms.length) ∧
              σ = [some (.ref a), some (.str (S l)), some (.ref a1), some (.ref b1), some (.int (l.length : Int)), some (.ref dw), some (.int (((MM.shorter ps k : Nat) : Int) + ((MM.ofLen ps k).length : Int))), some (.int (0 + (k : Int))), some (.ref dm), some (.int (p.1 : Int)), o10, o11])
            ⟨g5, hdw5, kv2, _, _, hdm5, hN2.congr fun g => by rw [List.take_zero]; simp [MM.to], hk2, rfl⟩ (fun i σ H' _ z => .inl (.inr ⟨ob, z.1 _ _ e1⟩)) ?_ ?_
          · rintro i v σ H6 hv ⟨g6, hdw6, kv3, o10, o11, hdm6, hN3, hk3, rfl⟩
            rw [List.getElem?_map] at hv
            cases hz : pr[i]? with
            | none => rw [hz] at hv; cases hv
            | some z =>
              rw [hz] at hv
              cases hv
              have hzm := List.mem_of_getElem? hz
              have hzL : z.2 ∈ rooms[p.1] := by rw [← e3]; exact List.mem_map.mpr ⟨z, hzm, rfl⟩
              obtain ⟨_, z0, z1⟩ := hM.form hP hLm hzL
              have ez : H6 z.1 = some (.tup [.str (S z.2.1), .int z.2.2]) := g6 _ _ (e4 z hzm)
              obtain ⟨g, hg⟩ : ∃ g : Nat, z.2.2 = (g : Int) := ⟨z.2.2.toNat, by omega⟩
              have hgl : g < rooms.length := by omega
              rw [hg] at ez
              have hk3l := keys_len hN3 hk3
              generalize hNe : (fun g => ((kvs.take j).map fun p => MM.to (rooms.getD p.1 []) g * MM.cnt l ps k p.1).sum + MM.to ((pr.map (·.2)).take i) g * p.2) = N at hN3
              have hNg : ∀ g', N g' = ((kvs.take j).map fun p => MM.to (rooms.getD p.1 []) g' * MM.cnt l ps k p.1).sum + MM.to ((pr.map (·.2)).take i) g' * p.2 := fun g' => by rw [← hNe]
              refine ⟨z.1, _, rfl, SqT.of ez, rfl, _, _, rfl, _, _, rfl, rfl, ?_⟩
              refine ⟨_, rfl, dm, rfl, .inl ⟨_, .inl hdm6⟩, _, rfl, _, DGet.k (k := .inl (g : Int)) hdm6, ?_⟩
              rw [val_wK hN3]
              refine ⟨_, rfl, _, rfl, dw, _, rfl, .inl ⟨_, .inl (p.1 : Int), .inr ⟨o, hdw6⟩, rfl, (val_wK' hN hpm).symm⟩, _, _, rfl, rfl, ?_⟩
              have dp := DPut.k (k := .inl (g : Int)) (v := .int (((N g : Nat) : Int) + (p.2 : Int))) hdm6 (by rw [List.length_map, sizeLine_eq]; omega)
              rw [show ((N g : Nat) : Int) + (p.2 : Int) = ((N g + p.2 : Nat) : Int) by omega, put_wK] at dp
              refine ⟨_, rfl, _, rfl, dm, _, rfl, dp, ?_⟩
              have hne : dw ≠ dm := ne_of hdw6 hdm6 (fun z => nomatch z)
              refine ⟨same_upd hbm g6 _, by rw [upd_ne hne]; exact hdw6, _, _, _, upd_same, (hN3.put g hpp).congr fun g' => ?_, put_keys hk3 hgl, rfl⟩
              have tk2 : (pr.map (·.2)).take (i + 1) = (pr.map (·.2)).take i ++ [z.2] := by rw [List.take_add_one, List.getElem?_map, hz]; rfl
              rw [tk2, MM.to_snoc, hg]
              by_cases q : g' = g
              · subst q
                rw [if_pos rfl, if_pos rfl, Nat.add_mul, Nat.one_mul, hNg]
                omega
              · rw [if_neg q, if_neg (by omega), Nat.add_zero, hNg]
          · rintro σ H6 ⟨g6, hdw6, kv3, o10, o11, hdm6, hN3, hk3, rfl⟩
            refine ⟨g6, hdw6, kv3, _, _, _, hdm6, hN3.congr fun g => ?_, hk3, rfl⟩
            have e5 : (pr.map (·.2)).take (pr.map fun z => V.ref z.1).length = rooms[p.1] := by rw [List.length_map, List.take_of_length_le (by rw [List.length_map]; exact Nat.le_refl _), e3]
            rw [e5, tk, List.map_append, List.sum_append, hval]
            show _ + _ = _ + (List.map _ [p]).sum
            rw [List.map_cons, List.map_nil, List.sum_cons, List.sum_nil, eL, Nat.add_zero]
      · rintro σ H5 ⟨g5, hdw5, kv2, o9, o10, o11, hdm5, hN2, hk2, rfl⟩
        refine ⟨_, rfl, g5, dm, kv2, some (.int (0 + (k : Int))), some (.ref dm), o9, o10, o11, hbm, hdm5, hN2.congr fun g => ?_, hk2, ?_⟩
        · have e5 : kvs.take (kvs.map fun p => V.int (p.1 : Int)).length = kvs := by rw [List.length_map, List.take_length]
          rw [e5]
          exact MM.next_ways hP hM hN g
        · rw [MM.shorter_succ, show (((MM.shorter ps k + (MM.ofLen ps k).length : Nat)) : Int) = ((MM.shorter ps k : Nat) : Int) + ((MM.ofLen ps k).length : Int) by omega]
          rfl
    · rintro σ H1 ⟨g1, dw, kvs, o7, o8, o9, o10, o11, hbw, hdw, hN, hkeys, rfl⟩
      have hk0 : kvs = [] := hN.empty fun r => MM.cnt_far hP (by omega) r
      subst hk0
      refine ⟨_, rfl, fun de hde => ⟨dw, de, rfl, rfl, same_new hde _ _ _ hdw, upd_same, true, rfl, iteT ?_⟩⟩
      refine ⟨_, rfl, _, rfl, l, rfl, by omega, fun ps5 H5 hP5 hpl5 g5 => ⟨rfl, ?_⟩⟩
      obtain rfl : ps5 = ps := hP5.uniq hP
      rw [MM.shorter_all hP (by omega), decide_eq_true rfl]
      exact q _
  obtain ⟨t4, p4, r4⟩ : ∃ t, PSs (cxOf CX0 P w K mg base ["_law_script", "_law_text_here", "_law_rooms", "_law_ends", "_law_size", "_law_ways", "_law_many", "_law_k", "_law_more", "_law_room", "_law_letter", "_law_goal"] "law" (defScope s_law) f cdv A outer s H E).nox ((defBody s_law).drop 4) t ∧
      ∀ l ps rooms es a1 b1 H', MB.IsParts l ps → ps.length ≤ 20000 → l.length ≤ 24 → MM.IsMach l ps rooms es → RoomsAt H' a1 rooms →
        t { nx := fun _ H' => Q .non H', rt := Q } [some (.ref a), some (.str (S l)), some (.ref a1), some (.ref b1), some (.int (l.length : Int)), none, none, none, none, none, none, none] H' := by
    refine ⟨_, pss_cons (ps_if (PW.pt (pw_and (pt_cmpR op_gt (pv 4) (pe_int) (nomark _)) (pw_and1 (pt_cmpR op_gt (pe_callB (call_sumIK K rfl) rfl m_sum PyProof.Rows.boot_sum (pa_cons (pe_comp (N := ["_law_script", "_law_text_here", "_law_rooms", "_law_ends", "_law_size", "_law_ways", "_law_many", "_law_k", "_law_more", "_law_room", "_law_letter", "_law_goal"]) (N' := ["_law_room"]) (ix := [none]) (fsc := defScope s_law) (by exact ⟨rfl, by decide +kernel, by decide +kernel, by decide +kernel, by decide +kernel, rfl⟩) rfl (pi_tup (pv 2))
      (fun _ _ _ _ _ => pg_name (i := 0) (show (["_law_room"] : List Str).Nodup by decide +kernel) rfl (Or.inl rfl)) (fun _ _ _ _ _ => pts_nil) (fun _ _ _ _ _ => pe_callB (call_len_seqK K) rfl m_len PySem.boot_len (pa_cons (pv 0) pa_nil))) pa_nil)) (pe_op op_sub (pe_op op_mul (pe_int) (pv 4)) (pe_int)) (nomark _))))) (pss_one (ps_ret (pe_bl))) (pss_nil))
    (p5), fun l ps rooms es a1 b1 Hb hP hpl hl hM hR => ?_⟩
    have hrl : rooms.length ≤ 20000 := by rw [hM.len]; exact Nat.le_trans MM.cls_len hpl
    obtain ⟨rs, h2, h3⟩ := id hR
    obtain ⟨zs, ez1, ez2, hz⟩ := paired_zip h3
    have hzl : zs.length = rooms.length := by rw [ez2, List.length_map]
    refine ⟨_, rfl, _, _, rfl, rfl, _, rfl, ?_⟩
    refine ite2 (fun e => ?_) (fun e => ?_)
    · have e3 : 3 ≤ l.length := by have := of_decide_eq_true e; omega
      have hll := MM.lines_le hP hM e3
      have h2' : Hb a1 = some (.tup (zs.map fun z => V.ref z.1)) := by rw [h2, ez1, List.map_map]; rfl
      refine ⟨_, rfl, a1, rfl, ⟨_, SqT.of h2⟩, fun D hD => ?_⟩
      refine comp_zs (zs := zs) (fx := fun z => V.ref z.1) (itis_tup a1 _) (fun _ => true) (fun z => .int ((z.2.length : Nat) : Int)) (fun z => [some (.ref z.1)]) hD (small (by omega)) (fun H' gg => SqT.of (gg _ _ h2')) ?_ ?_ ?_ ?_
      · rintro z σ H K _ (rfl | ⟨y, rfl⟩) _ k
        · exact k
        · exact k
      · intro z H' K hz hS k1
        exact k1 H' (Same.refl H')
      · intro z H' K hzm _ hS k1
        obtain ⟨ob, pr, e1, e2, e3, e4⟩ := hz z hzm
        have el : ((pr.map fun z => V.ref z.1).length : Int) = ((z.2.length : Nat) : Int) := by rw [List.length_map, ← e3, List.length_map]
        refine ⟨_, rfl, z.1, _, rfl, .inr (.inl (.inr ⟨ob, hS _ _ e1⟩)), ?_⟩
        rw [el]
        exact k1 H' (Same.refl H')
      intro H3 g3 e3
      rw [List.filter_eq_self.mpr fun _ _ => rfl] at e3
      have e3' : H3 D = some (.lst (((rooms.map List.length).map fun (n : Nat) => (n : Int)).map V.int)) := by rw [e3, ez2, List.map_map, List.map_map, List.map_map]; rfl
      refine ⟨D, _, rfl, .inl (SqL.of e3'), ?_⟩
      rw [sum_cast]
      refine ⟨_, rfl, _, _, rfl, rfl, mulOk hl, _, _, rfl, rfl, _, _, rfl, rfl, _, rfl, ifF' (decide_eq_false (by omega)) ?_⟩
      exact r5 l ps rooms es a1 b1 _ hP hpl hl hM (hR.same g3)
    · exact ifF' rfl (r5 l ps rooms es a1 b1 _ hP hpl hl hM hR)
  refine ⟨_, pss_cons (ps_set (i := 1) sc_law.nd rfl (Or.inl rfl) (pe_own C__law_text hr rfl (pa_cons (pe_own C__law_mixed hr rfl (pa_cons (pv 0) (pa_cons (pe_int) pa_nil))) (pa_cons (pe_int) pa_nil))))
    (pss_cons (ps_asg (pe_own C_machine hr rfl (pa_cons (pv 1) pa_nil)) (pg_tupK (n := 2) K rfl (pgs_cons (pg_name (i := 2) sc_law.nd rfl (Or.inl rfl)) (pgs_cons (pg_name (i := 3) sc_law.nd rfl (Or.inl rfl)) (pgs_nil)))))
    (pss_cons (ps_set (i := 4) sc_law.nd rfl (Or.inl rfl) (pe_callB call_lenS rfl m_len PySem.boot_len (pa_cons (pv 1) pa_nil)))
    (pss_cons (ps_if (PW.pt (pw_or (pt_cmpR op_gt (pe_callB (call_len_seqK K) rfl m_len PySem.boot_len (pa_cons (pv 2) pa_nil)) (pe_callB (call_max2 rfl) rfl m_max PyProof.Rows.boot_max (pa_cons (pe_op op_add (pv 4) (pe_int)) (pa_cons (pe_op op_sub (pe_op op_mul (pe_int) (pv 4)) (pe_int)) pa_nil))) (nomark _)) (pw_or1 (PW.pt (pw_and (pt_cmpR op_gt (pv 4) (pe_int) (nomark _)) (pw_and1 (pt_cmpR op_ge (pe_callB (call_len_seqK K) rfl m_len PySem.boot_len (pa_cons (pv 2) pa_nil)) (pe_op op_mul (pe_int) (pv 4)) (nomark _)))))))) (pss_one (ps_ret (pe_bl))) (pss_nil))
    (p4)))), ?_⟩
  refine ⟨_, rfl, a, ns, 0, rfl, hS, h63, by decide, by decide, fun v v0 v1 => ?_⟩
  refine ⟨v, _, rfl, v0, v1, by decide, by decide, fun t H1 g1 hl hL => ?_⟩
  have htl : t.length ≤ 24 := by omega
  refine ⟨_, rfl, t, rfl, by omega, fun ps rooms es p H2 hP hpl hM g2 hA => ?_⟩
  obtain ⟨a1, b1, h1, h2, h3⟩ := id hA
  obtain ⟨rs, hr1, hr2⟩ := id h2
  have hlr : rs.length = rooms.length := Paired.length hr2
  obtain ⟨n1, n2⟩ := MM.rooms_le hP hM
  refine ⟨p, _, rfl, SqT.of h1, rfl, _, _, rfl, _, _, rfl, rfl, ?_⟩
  refine ⟨_, rfl, t, rfl, small (by omega), ?_⟩
  refine ⟨_, rfl, a1, _, rfl, .inr (SqT.of hr1), ?_⟩
  refine ⟨_, rfl, _, _, rfl, rfl, _, rfl, _, _, rfl, rfl, mulOk htl, _, _, rfl, rfl, _, _, rfl, _, _, rfl, rfl, _, rfl, ?_⟩
  refine ifF' ?_ ?_
  · rw [List.length_map, hlr]
    have := most_rooms n1 n2
    exact decide_eq_false (by split <;> omega)

  refine ⟨_, rfl, _, _, rfl, rfl, _, rfl, ?_⟩
  refine ite2 (fun e => ?_) (fun e => ?_)
  · have e2 : 2 ≤ t.length := by have := of_decide_eq_true e; omega
    refine ⟨_, rfl, a1, _, rfl, .inr (SqT.of hr1), ?_⟩
    rw [List.length_map, hlr]
    refine ⟨_, rfl, _, _, rfl, rfl, mulOk htl, _, _, rfl, rfl, _, rfl, ifF' (decide_eq_false (by have := n2 e2; omega)) ?_⟩
    exact r4 t ps rooms es a1 b1 _ hP hpl htl hM h2
  · exact ifF' rfl (r4 t ps rooms es a1 b1 _ hP hpl htl hM h2)
end
end K42
namespace K42
open PySem L2
theorem all_mk {l : PySem.W.OpenLaw} {w : World} {K : PySem.W.Frag} {h : Heap} {mg : Str → Option Value} {fa f1 f2 f3 f4 f5 f6 f7 f8 f9 f10 f11 f12 : Addr}  (X : K.In h) (G : h.Ns mainGlobals mg) (hfa : mg "law" = some (.ref fa))
    {od1 an1 od2 an2 od3 an3 od4 an4 od5 an5 od6 an6 od7 an7 od8 an8 od9 an9 od10 an10 od11 an11 od12 an12 : Option Addr} {sl1 sl2 sl3 sl4 sl5 sl6 sl7 sl8 sl9 sl10 sl11 sl12 : Array (Option Value)} {oc1 kV1 dc1 pm1 cd1 ct1 oc2 kV2 dc2 pm2 cd2 ct2 oc3 kV3 dc3 pm3 cd3 ct3 oc4 kV4 dc4 pm4 cd4 ct4 oc5 kV5 dc5 pm5 cd5 ct5 oc6 kV6 dc6 pm6 cd6 ct6 oc7 kV7 dc7 pm7 cd7 ct7 oc8 kV8 dc8 pm8 cd8 ct8 oc9 kV9 dc9 pm9 cd9 ct9 oc10 kV10 dc10 pm10 cd10 ct10 oc11 kV11 dc11 pm11 cd11 ct11 oc12 kV12 dc12 pm12 cd12 ct12 : Value}
    (a1 : PySem.W.nsIn K mainGlobals "_law_cell_at" = some (some (.ref f1))) (l1 : K.lookup f1 = some ⟨oc1, od1, .func (PySem.W.fnOf "_law_cell_at" "_law_cell_at" (defArgs sCell) (defBody sCell) (defScope sCell) .none kV1 dc1 pm1 an1 cd1 ct1), sl1⟩) (c1 : PySem.W.codeIn K cd1 "_law_cell_at" = true) (k1 : PySem.W.keepIn K (.ref f1) = true)
    (a2 : PySem.W.nsIn K mainGlobals "_law_mixed" = some (some (.ref f2))) (l2 : K.lookup f2 = some ⟨oc2, od2, .func (PySem.W.fnOf "_law_mixed" "_law_mixed" (defArgs sMixed) (defBody sMixed) (defScope sMixed) .none kV2 dc2 pm2 an2 cd2 ct2), sl2⟩) (c2 : PySem.W.codeIn K cd2 "_law_mixed" = true) (k2 : PySem.W.keepIn K (.ref f2) = true)
    (a3 : PySem.W.nsIn K mainGlobals "_law_drawn" = some (some (.ref f3))) (l3 : K.lookup f3 = some ⟨oc3, od3, .func (PySem.W.fnOf "_law_drawn" "_law_drawn" (defArgs sDrawn) (defBody sDrawn) (defScope sDrawn) .none kV3 dc3 pm3 an3 cd3 ct3), sl3⟩) (c3 : PySem.W.codeIn K cd3 "_law_drawn" = true) (k3 : PySem.W.keepIn K (.ref f3) = true)
    (a4 : PySem.W.nsIn K mainGlobals "_law_text" = some (some (.ref f4))) (l4 : K.lookup f4 = some ⟨oc4, od4, .func (PySem.W.fnOf "_law_text" "_law_text" (defArgs sText) (defBody sText) (defScope sText) .none kV4 dc4 pm4 an4 cd4 ct4), sl4⟩) (c4 : PySem.W.codeIn K cd4 "_law_text" = true) (k4 : PySem.W.keepIn K (.ref f4) = true)
    (a5 : PySem.W.nsIn K mainGlobals "parts_of_length" = some (some (.ref f5))) (l5 : K.lookup f5 = some ⟨oc5, od5, .func (PySem.W.fnOf "parts_of_length" "parts_of_length" (defArgs s_parts_of_length) (defBody s_parts_of_length) (defScope s_parts_of_length) .none kV5 dc5 pm5 an5 cd5 ct5), sl5⟩) (c5 : PySem.W.codeIn K cd5 "parts_of_length" = true) (k5 : PySem.W.keepIn K (.ref f5) = true)
    (a6 : PySem.W.nsIn K mainGlobals "parts" = some (some (.ref f6))) (l6 : K.lookup f6 = some ⟨oc6, od6, .func (PySem.W.fnOf "parts" "parts" (defArgs s_parts) (defBody s_parts) (defScope s_parts) .none kV6 dc6 pm6 an6 cd6 ct6), sl6⟩) (c6 : PySem.W.codeIn K cd6 "parts" = true) (k6 : PySem.W.keepIn K (.ref f6) = true)
    (a7 : PySem.W.nsIn K mainGlobals "count_parts" = some (some (.ref f7))) (l7 : K.lookup f7 = some ⟨oc7, od7, .func (PySem.W.fnOf "count_parts" "count_parts" (defArgs s_count_parts) (defBody s_count_parts) (defScope s_count_parts) .none kV7 dc7 pm7 an7 cd7 ct7), sl7⟩) (c7 : PySem.W.codeIn K cd7 "count_parts" = true) (k7 : PySem.W.keepIn K (.ref f7) = true)
    (a8 : PySem.W.nsIn K mainGlobals "where" = some (some (.ref f8))) (l8 : K.lookup f8 = some ⟨oc8, od8, .func (PySem.W.fnOf "where" "where" (defArgs s_where) (defBody s_where) (defScope s_where) .none kV8 dc8 pm8 an8 cd8 ct8), sl8⟩) (c8 : PySem.W.codeIn K cd8 "where" = true) (k8 : PySem.W.keepIn K (.ref f8) = true)
    (a9 : PySem.W.nsIn K mainGlobals "end_places" = some (some (.ref f9))) (l9 : K.lookup f9 = some ⟨oc9, od9, .func (PySem.W.fnOf "end_places" "end_places" (defArgs s_end_places) (defBody s_end_places) (defScope s_end_places) .none kV9 dc9 pm9 an9 cd9 ct9), sl9⟩) (c9 : PySem.W.codeIn K cd9 "end_places" = true) (k9 : PySem.W.keepIn K (.ref f9) = true)
    (a10 : PySem.W.nsIn K mainGlobals "rooms_by_part" = some (some (.ref f10))) (l10 : K.lookup f10 = some ⟨oc10, od10, .func (PySem.W.fnOf "rooms_by_part" "rooms_by_part" (defArgs s_rooms_by_part) (defBody s_rooms_by_part) (defScope s_rooms_by_part) .none kV10 dc10 pm10 an10 cd10 ct10), sl10⟩) (c10 : PySem.W.codeIn K cd10 "rooms_by_part" = true) (k10 : PySem.W.keepIn K (.ref f10) = true)
    (a11 : PySem.W.nsIn K mainGlobals "machine" = some (some (.ref f11))) (l11 : K.lookup f11 = some ⟨oc11, od11, .func (PySem.W.fnOf "machine" "machine" (defArgs s_machine) (defBody s_machine) (defScope s_machine) .none kV11 dc11 pm11 an11 cd11 ct11), sl11⟩) (c11 : PySem.W.codeIn K cd11 "machine" = true) (k11 : PySem.W.keepIn K (.ref f11) = true)
    (a12 : PySem.W.nsIn K mainGlobals "law" = some (some (.ref f12))) (l12 : K.lookup f12 = some ⟨oc12, od12, .func (PySem.W.fnOf "law" "law" (defArgs s_law) (defBody s_law) (defScope s_law) .none kV12 dc12 pm12 an12 cd12 ct12), sl12⟩) (c12 : PySem.W.codeIn K cd12 "law" = true) (k12 : PySem.W.keepIn K (.ref f12) = true)
    (z0 : PySem.W.nsIn K mainGlobals "len" = some none)
    (z1 : PySem.W.nsIn K mainGlobals "range" = some none)
    (z2 : PySem.W.nsIn K mainGlobals "tuple" = some none)
    (z3 : PySem.W.nsIn K mainGlobals "sorted" = some none)
    (z4 : PySem.W.nsIn K mainGlobals "max" = some none)
    (z5 : PySem.W.nsIn K mainGlobals "set" = some none)
    (z6 : PySem.W.nsIn K mainGlobals "sum" = some none)
    : ∃ fd : FuncData, (∀ (s : Shared) (v : Value), BindsTo s fd ⟨[v], []⟩ [("_law_script", v)]) ∧ ∀ base : Heap, K.In base → base.Ns mainGlobals mg → FnOk l.prog w K mg base CX0 41 fa fd ["_law_script"] (spLaw K) := by
  have e := hfa.symm.trans (PySem.W.mg_of X G a12)
  cases e
  have F1 := fun_mk (st := sCell) l1 c1 k1
  have b__law_cell_at := F1.binds (ps := ["_law_script", "_law_k"]) fun _ _ _ _ _ _ us hl => match us, hl with | [_, _], _ => rfl
  have M__law_cell_at := PySem.W.mg_of X G a1
  have F2 := fun_mk (st := sMixed) l2 c2 k2
  have b__law_mixed := F2.binds (ps := ["_law_script", "_law_k"]) fun _ _ _ _ _ _ us hl => match us, hl with | [_, _], _ => rfl
  have M__law_mixed := PySem.W.mg_of X G a2
  have F3 := fun_mk (st := sDrawn) l3 c3 k3
  have b__law_drawn := F3.binds (ps := ["_law_number", "_law_k"]) fun _ _ _ _ _ _ us hl => match us, hl with | [_, _], _ => rfl
  have M__law_drawn := PySem.W.mg_of X G a3
  have F4 := fun_mk (st := sText) l4 c4 k4
  have b__law_text := F4.binds (ps := ["_law_number", "_law_most"]) fun _ _ _ _ _ _ us hl => match us, hl with | [_, _], _ => rfl
  have M__law_text := PySem.W.mg_of X G a4
  have F5 := fun_mk (st := s_parts_of_length) l5 c5 k5
  have b_parts_of_length := F5.binds (ps := ["text", "length"]) fun _ _ _ _ _ _ us hl => match us, hl with | [_, _], _ => rfl
  have M_parts_of_length := PySem.W.mg_of X G a5
  have F6 := fun_mk (st := s_parts) l6 c6 k6
  have b_parts := F6.binds (ps := ["text"]) fun _ _ _ _ _ _ us hl => match us, hl with | [_], _ => rfl
  have M_parts := PySem.W.mg_of X G a6
  have F7 := fun_mk (st := s_count_parts) l7 c7 k7
  have b_count_parts := F7.binds (ps := ["text"]) fun _ _ _ _ _ _ us hl => match us, hl with | [_], _ => rfl
  have M_count_parts := PySem.W.mg_of X G a7
  have F8 := fun_mk (st := s_where) l8 c8 k8
  have b_where := F8.binds (ps := ["text", "part"]) fun _ _ _ _ _ _ us hl => match us, hl with | [_, _], _ => rfl
  have M_where := PySem.W.mg_of X G a8
  have F9 := fun_mk (st := s_end_places) l9 c9 k9
  have b_end_places := F9.binds (ps := ["text", "part"]) fun _ _ _ _ _ _ us hl => match us, hl with | [_, _], _ => rfl
  have M_end_places := PySem.W.mg_of X G a9
  have F10 := fun_mk (st := s_rooms_by_part) l10 c10 k10
  have b_rooms_by_part := F10.binds (ps := ["text"]) fun _ _ _ _ _ _ us hl => match us, hl with | [_], _ => rfl
  have M_rooms_by_part := PySem.W.mg_of X G a10
  have F11 := fun_mk (st := s_machine) l11 c11 k11
  have b_machine := F11.binds (ps := ["text"]) fun _ _ _ _ _ _ us hl => match us, hl with | [_], _ => rfl
  have M_machine := PySem.W.mg_of X G a11
  have F12 := fun_mk (st := s_law) l12 c12 k12
  have b_law := F12.binds (ps := ["_law_script"]) fun _ _ _ _ _ _ us hl => match us, hl with | [_], _ => rfl
  have M_law := PySem.W.mg_of X G a12
  have m_len := PySem.W.mg_none_of X G z0
  have m_range := PySem.W.mg_none_of X G z1
  have m_tuple := PySem.W.mg_none_of X G z2
  have m_sorted := PySem.W.mg_none_of X G z3
  have m_max := PySem.W.mg_none_of X G z4
  have m_set := PySem.W.mg_none_of X G z5
  have m_sum := PySem.W.mg_none_of X G z6
  refine ⟨PySem.W.fnOf "law" "law" (defArgs s_law) (defBody s_law) (defScope s_law) .none kV12 dc12 pm12 an12 cd12 ct12, fun s v => .of_eq rfl, fun base hKb _ => ?_⟩
  have G__law_cell_at := okCell (P := l.prog) (w := w) (base := base) F1 m_len
  have C__law_cell_at := Cal.mk' G__law_cell_at b__law_cell_at k1 M__law_cell_at
  have G__law_mixed := okMixed F2 G__law_cell_at b__law_cell_at k1 M__law_cell_at
  have C__law_mixed := Cal.mk' G__law_mixed b__law_mixed k2 M__law_mixed
  have G__law_drawn := okDrawn (P := l.prog) (w := w) (mg := mg) (base := base) F3
  have C__law_drawn := Cal.mk' G__law_drawn b__law_drawn k3 M__law_drawn
  have G__law_text := okText F4 G__law_drawn b__law_drawn k3 M__law_drawn m_len m_range
  have C__law_text := Cal.mk' G__law_text b__law_text k4 M__law_text
  have G_parts_of_length := okPol (P := l.prog) (w := w) (base := base) F5 m_len m_range
  have C_parts_of_length := Cal.mk' G_parts_of_length b_parts_of_length k5 M_parts_of_length
  have G_parts := okParts F6 C_parts_of_length m_len m_range m_tuple m_set m_sorted
  have C_parts := Cal.mk' G_parts b_parts k6 M_parts
  have G_count_parts := okCount F7 C_parts m_len
  have C_count_parts := Cal.mk' G_count_parts b_count_parts k7 M_count_parts
  have G_where := okWhere (P := l.prog) (w := w) (base := base) F8 m_len m_range m_tuple
  have C_where := Cal.mk' G_where b_where k8 M_where
  have G_end_places := okEnds F9 C_where m_len m_tuple
  have C_end_places := Cal.mk' G_end_places b_end_places k9 M_end_places
  have G_rooms_by_part := okRoomsBy F10 C_parts C_end_places m_len
  have C_rooms_by_part := Cal.mk' G_rooms_by_part b_rooms_by_part k10 M_rooms_by_part
  have G_machine := okMachine F11 C_rooms_by_part m_len m_range m_max m_tuple m_sorted m_set
  have C_machine := Cal.mk' G_machine b_machine k11 M_machine
  exact okLaw F12 C__law_mixed C__law_text C_machine C_count_parts m_len m_max m_sum m_range
theorem walk {l : PySem.W.OpenLaw} {q : Program} {loose : List Str} {XP : (Str → Option Value) → Heap → Prop} {YP : World → Heap → Prop} {d : DefRec} {K : Params → PySem.W.Frag} (hn : l.most = some 63) (hdf : d.params.defaults = [])
    (hY : ∀ (w : World) (h : Heap), YP w h → (K w.params).In h)
    (F : ∀ (w : World) (mg : Str → Option Value) (fa : Addr) (h : Heap), (K w.params).In h → h.Ns mainGlobals mg → mg d.name = some (.ref fa) →
      ∃ fd : FuncData, (∀ (s : Shared) (u : Value), BindsTo s fd ⟨[u], []⟩ [("_law_script", u)]) ∧ ∀ base : Heap, (K w.params).In base → base.Ns mainGlobals mg → FnOk l.prog w (K w.params) mg base CX0 41 fa fd ["_law_script"] (spLaw (K w.params))) :
    PySem.W.WalkO q loose XP YP l.row.toRowW d [] (fun f vs => PySem.call f vs) :=
  L2.walk_of (n := 63) (k := 41) (x := "_law_script") (CX := fun _ => CX0) (sp := fun w => spLaw (K w.params)) hn (by decide) hdf ⟨rfl, by decide, by decide⟩ hY F (fun _ _ a ns hl _ hS => ⟨a, ns, rfl, hS, hl, fun _ => rfl⟩) fun _ _ _ _ _ z => z
end K42
open PySem PySem.W PyProof.Rows
set_option maxRecDepth 100000 in
set_option maxHeartbeats 0 in
theorem PySem.Challenge.cw_tailyard_k42_whole_few_rooms_holds : PySem.Challenge.rw_tailyard_k42_whole_few_rooms.Holds := by
  w_on; o_law; k_head; (case hw => w_witness2)
  k_fill
  refine K42.walk (l := PySem.Challenge.rw_tailyard_k42_whole_few_rooms) rfl rfl (fun w h Y => PySem.W.kIn_of Y) ?F
  case F =>
    intro w mg fa h KX G hmg
    refine' K42.all_mk KX G hmg ?a1 ?l1 ?c1 ?k1 ?a2 ?l2 ?c2 ?k2 ?a3 ?l3 ?c3 ?k3 ?a4 ?l4 ?c4 ?k4 ?a5 ?l5 ?c5 ?k5 ?a6 ?l6 ?c6 ?k6 ?a7 ?l7 ?c7 ?k7 ?a8 ?l8 ?c8 ?k8 ?a9 ?l9 ?c9 ?k9 ?a10 ?l10 ?c10 ?k10 ?a11 ?l11 ?c11 ?k11 ?a12 ?l12 ?c12 ?k12 ?z0 ?z1 ?z2 ?z3 ?z4 ?z5 ?z6
    (case a1 => k_is)
    (case l1 => k_is)
    (case c1 => k_is)
    (case k1 => k_is)
    (case a2 => k_is)
    (case l2 => k_is)
    (case c2 => k_is)
    (case k2 => k_is)
    (case a3 => k_is)
    (case l3 => k_is)
    (case c3 => k_is)
    (case k3 => k_is)
    (case a4 => k_is)
    (case l4 => k_is)
    (case c4 => k_is)
    (case k4 => k_is)
    (case a5 => k_is)
    (case l5 => k_is)
    (case c5 => k_is)
    (case k5 => k_is)
    (case a6 => k_is)
    (case l6 => k_is)
    (case c6 => k_is)
    (case k6 => k_is)
    (case a7 => k_is)
    (case l7 => k_is)
    (case c7 => k_is)
    (case k7 => k_is)
    (case a8 => k_is)
    (case l8 => k_is)
    (case c8 => k_is)
    (case k8 => k_is)
    (case a9 => k_is)
    (case l9 => k_is)
    (case c9 => k_is)
    (case k9 => k_is)
    (case a10 => k_is)
    (case l10 => k_is)
    (case c10 => k_is)
    (case k10 => k_is)
    (case a11 => k_is)
    (case l11 => k_is)
    (case c11 => k_is)
    (case k11 => k_is)
    (case a12 => k_is)
    (case l12 => k_is)
    (case c12 => k_is)
    (case k12 => k_is)
    (case z0 => k_is)
    (case z1 => k_is)
    (case z2 => k_is)
    (case z3 => k_is)
    (case z4 => k_is)
    (case z5 => k_is)
    (case z6 => k_is)

