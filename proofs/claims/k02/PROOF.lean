import PyProof.Rows.All
import Wide.All
import OpenK.AllK
import Wide.FinOn
import PyProof.EqAt
import PyProof.EqKinds
import PyProof.TupleCall
import KE.BitLaws
import PySem.Challenge.RW_earthends_k02_roots_told
set_option Elab.async false
set_option linter.all false
set_option maxRecDepth 100000
namespace L2
open PySem PySem.Spec PyProof.Rows
abbrev Key := Sum Int Str
def keyIs : Key → Value → Bool
  | .inl k, v => Value.isInt k v
  | .inr x, v => Value.isStrOf x v
def keyH (w : World) : Key → Int
  | .inl k => hashInt k
  | .inr x => hashStr w x
theorem keyIs_shape : ∀ {k : Key} {v : Value}, keyIs k v = true → (∃ i t, k = Sum.inl i ∧ v = Value.int i t) ∨ (∃ x t, k = Sum.inr x ∧ v = Value.str x t)
  | .inl i, v, h => by
    obtain ⟨t, e⟩ := Value.isInt_shape (k := i) (v := v) h
    exact .inl ⟨i, t, rfl, e⟩
  | .inr x, v, h => by
    obtain ⟨t, e⟩ := Value.isStrOf_shape (x := x) (v := v) h
    exact .inr ⟨x, t, rfl, e⟩
theorem key_ll (a b : Int) : decide ((Sum.inl a : Key) = Sum.inl b) = (a == b) := by
  by_cases e : a = b
  · subst e; simp
  · have h : ¬ (Sum.inl a : Key) = Sum.inl b := fun q => e (Sum.inl.inj q)
    rw [decide_eq_false h]
    exact (beq_eq_false_iff_ne.mpr e).symm
theorem key_rr (a b : Str) : decide ((Sum.inr a : Key) = Sum.inr b) = decide (a = b) := by
  by_cases e : a = b
  · subst e; simp
  · have h : ¬ (Sum.inr a : Key) = Sum.inr b := fun q => e (Sum.inr.inj q)
    rw [decide_eq_false h, decide_eq_false e]
theorem key_lr (a : Int) (b : Str) : decide ((Sum.inl a : Key) = Sum.inr b) = false := decide_eq_false (fun q => nomatch q)
theorem key_rl (a : Str) (b : Int) : decide ((Sum.inr a : Key) = Sum.inl b) = false := decide_eq_false (fun q => nomatch q)
def mixKind (prog : Program) (w : World) : PySem.KeyKind prog w Key where
  is := keyIs
  hash := keyH w
  inj := fun v a b ha hb => by
    rcases keyIs_shape ha with ⟨i, t, rfl, rfl⟩ | ⟨x, t, rfl, rfl⟩
    · rcases keyIs_shape hb with ⟨j, u, rfl, e⟩ | ⟨y, u, rfl, e⟩
      · injection e with e1 _; rw [e1]
      · exact nomatch e
    · rcases keyIs_shape hb with ⟨j, u, rfl, e⟩ | ⟨y, u, rfl, e⟩
      · exact nomatch e
      · injection e with e1 _; rw [e1]
  byValue := fun k v h => by
    rcases keyIs_shape h with ⟨i, t, rfl, rfl⟩ | ⟨x, t, rfl, rfl⟩ <;> rfl
  pyHash := fun hv h => by
    rcases keyIs_shape hv with ⟨i, t, rfl, rfl⟩ | ⟨x, t, rfl, rfl⟩
    · exact wpAny_pyHash_int h
    · exact wpAny_pyHash_str h
  eqBool := fun hu hv h => by
    rcases keyIs_shape hu with ⟨i, t, rfl, rfl⟩ | ⟨x, t, rfl, rfl⟩
    · rcases keyIs_shape hv with ⟨j, u, rfl, rfl⟩ | ⟨y, u, rfl, rfl⟩
      · rw [key_ll] at h; exact wpAny_eqBool_int h
      · rw [key_lr] at h; exact SeqAt.EqAt.int_str i t y u _ _ _ _ h
    · rcases keyIs_shape hv with ⟨j, u, rfl, rfl⟩ | ⟨y, u, rfl, rfl⟩
      · rw [key_rl] at h; exact SeqAt.EqAt.str_int x t j u _ _ _ _ h
      · rw [key_rr] at h; exact wpAny_eqBool_str h
  «strs» := fun k x t v h => by
    rcases keyIs_shape h with ⟨i, u, rfl, e⟩ | ⟨y, u, rfl, e⟩
    · exact nomatch e
    · injection e with e1 _
      subst e1
      cases v <;> rfl
end L2
namespace L2
open PySem PySem.Spec PyProof.Rows
inductive V where
  | non | bl (b : Bool) | int (i : Int) | str (x : Str) | byt (b : Array UInt8) | flt (b : UInt64) | ref (a : Addr) | ty (n : String)
  deriving DecidableEq
def RelV : V → Value → Prop
  | .non, u => u = Value.none
  | .bl b, u => u = Value.bool b
  | .int i, u => ∃ t, u = Value.int i t
  | .str x, u => ∃ t, u = Value.str x t
  | .byt b, u => ∃ t, u = Value.bytes b t
  | .flt b, u => ∃ t, u = Value.float b t
  | .ref a, u => u = Value.ref a
  | .ty n, u => u = Value.type n
abbrev Vals : List V → List Value → Prop := Paired RelV
theorem Vals.length {xs : List V} {us : List Value} (r : Vals xs us) : xs.length = us.length := Paired.length r
theorem Vals.get : ∀ {xs : List V} {us : List Value} {i : Nat} {x : V}, Vals xs us → xs[i]? = some x → ∃ u, us[i]? = some u ∧ RelV x u
  | _, _, _, _, .nil, e => by simp at e
  | _, _, 0, _, .cons r _, e => by simp at e; subst e; exact ⟨_, rfl, r⟩
  | _, _, i + 1, x, .cons _ t, e => by
    obtain ⟨u, h1, h2⟩ := Vals.get (i := i) (x := x) t (by simpa using e)
    exact ⟨u, by simpa using h1, h2⟩
theorem Vals.set {x : V} {u : Value} (r : RelV x u) : ∀ {xs : List V} {us : List Value} (i : Nat), Vals xs us → Vals (xs.set i x) (us.set i u)
  | _, _, _, .nil => .nil
  | _, _, 0, .cons _ t => .cons r t
  | _, _, i + 1, .cons q t => .cons q (Vals.set r i t)
theorem Vals.append : ∀ {xs ys : List V} {us ws : List Value}, Vals xs us → Vals ys ws → Vals (xs ++ ys) (us ++ ws)
  | _, _, _, _, .nil, s => s
  | _, _, _, _, .cons r t, s => .cons r (Vals.append t s)
theorem Vals.take : ∀ {xs : List V} {us : List Value} (n : Nat), Vals xs us → Vals (xs.take n) (us.take n)
  | _, _, 0, _ => .nil
  | _, _, _ + 1, .nil => .nil
  | _, _, n + 1, .cons r t => .cons r (Vals.take n t)
theorem Vals.drop : ∀ {xs : List V} {us : List Value} (n : Nat), Vals xs us → Vals (xs.drop n) (us.drop n)
  | _, _, 0, r => r
  | _, _, _ + 1, .nil => .nil
  | _, _, n + 1, .cons _ t => Vals.drop n t
def RelO : Option V → Option Value → Prop
  | some v, some u => RelV v u
  | none, none => True
  | _, _ => False
def KV {κ : Type} : List (κ × V) → List (κ × Value) → Prop := Paired fun (p : κ × V) (q : κ × Value) => p.1 = q.1 ∧ RelV p.2 q.2
def kV : Key → V
  | .inl i => .int i
  | .inr x => .str x
inductive HO where
  /-- a list -/
  | lst (xs : List V)
  /-- a tuple (never changes) -/
  | tup (xs : List V)
  /-- a dict whose keys are ints and texts; one whose keys are tuples of ints and texts (the empty one is both) -/
  | dK (kvs : List (Key × V)) | dT (kvs : List (List Key × V))
  /-- a set of ints: its members, its size -/
  | set (S : Int → Bool) (n : Nat)
  /-- an instance of the class at C, its dict at dx, its attributes -/
  | ins (C dx : Addr) (fs : List (Str × V))
  /-- the dict of the instance at x -/
  | own (x : Addr)
  /-- the dict of an exception -/
  | xd (fs : List (Str × V))
  /-- a bound method, f of x -/
  | met (f x : Addr)
  /-- a range object lo, lo + 1, .. below hi -/
  | rng (lo hi : Int)
  /-- a thing that is known to the object (the script; a dict while a loop walks it): read, never written while it is so -/
  | frz (o : Obj) (u : HO)
  /-- a code object's table -/
  | tbl (ps : Array Value)
  /-- any other thing, by what is true of its one object (a def of one's own: SetO a S n := HO.ext fun h => ..) -/
  | ext (φ : Heap → Prop)
abbrev Hp := Addr → Option HO
def upd (H : Hp) (a : Addr) (o : HO) : Hp := fun b => if b = a then some o else H b
theorem upd_same {H : Hp} {a : Addr} {o : HO} : upd H a o a = some o := by unfold upd; rw [if_pos rfl]
theorem upd_ne {H : Hp} {a b : Addr} {o : HO} (h : b ≠ a) : upd H a o b = H b := by unfold upd; rw [if_neg h]
theorem ne_of_none {H : Hp} {a b : Addr} {o : HO} (h : H a = some o) (h' : H b = none) : a ≠ b := by
  intro e; subst e; rw [h] at h'; cases h'
section
variable (P : Program) (w : World)
def ObjOk (H : Hp) (h : Heap) (a : Addr) : HO → Prop
  | .lst xs => xs.length ≤ sizeLine ∧ ∃ (its : List Value) (n : Nat), Vals xs its ∧ h.get? a = some { cls := .type "list", data := .seq its.toArray n }
  | .tup xs => xs.length ≤ sizeLine ∧ ∃ its : List Value, Vals xs its ∧ IsTup h a its.toArray
  | .dK kvs => kvs.length ≤ sizeLine ∧ (a == sysModules) = false ∧ ∃ vs, KV kvs vs ∧ h.DictOf (mixKind P w) a vs
  | .dT kvs => kvs.length ≤ sizeLine ∧ (a == sysModules) = false ∧ ∃ xs : List (List Key × Addr × Value),
      Paired (fun (p : List Key × V) (q : List Key × Addr × Value) => p.1 = q.1 ∧ H q.2.1 = some (.tup (p.1.map kV)) ∧ RelV p.2 q.2.2) kvs xs ∧
      ∃ o es ep, h.get? a = some o ∧ o.ExactDict ∧ o.data = .dict es ep ∧ es.toList = xs.map (entryOfKey (tupleKind (mixKind P w))) ∧ (xs.map (·.1)).Nodup
  | .set S n => h.SetOf (intKind P w) a S n
  | .ins C dx fs => H dx = some (.own a) ∧ fs.length ≤ 1000 ∧ dx ≠ a ∧ h.get? a = some (PySem.W.instObj C dx) ∧
      ∃ mA, h.Ns1 dx mA ∧ (∀ f, RelO (fs.lookup f) (mA f)) ∧ PySem.Within mA (fs.map (·.1))
  | .own _ => ∃ o, h.get? a = some o
  | .xd fs => ∃ mA, h.Ns1 a mA ∧ ∀ f, RelO (fs.lookup f) (mA f)
  | .rng lo hi => ∃ t u v, h.get? a = some { cls := .type "range", data := .fields #[.int lo t, .int hi u, .int 1 v] }
  | .frz o u => h.get? a = some o ∧ ObjOk H h a u
  | .tbl ps => h.get? a = some { cls := .none, data := .fields ps }
  | .met f x => h.get? a = some (PySem.W.methodObj (.ref f) (.ref x))
  | .ext φ => φ h ∧ (∃ o, h.get? a = some o) ∧ ∀ h1 h2 : Heap, φ h1 → (∀ o, h1.get? a = some o → h2.get? a = some o) → φ h2
def HOk (H : Hp) (h : Heap) : Prop := ∀ a o, H a = some o → ObjOk P w H h a o
end
section
variable {P : Program} {w : World} {H H' : Hp} {h h' : Heap} {a : Addr} {o : HO}
theorem ObjOk.lt (x : ObjOk P w H h a o) : a < h.objs.size := by
  cases o with
  | lst xs => obtain ⟨_, _, _, _, e⟩ := x; exact Heap.lt_size e
  | tup xs => obtain ⟨_, _, _, p⟩ := x; exact p.lt
  | dK kvs => obtain ⟨_, _, _, _, o, _, _, e, _⟩ := x; exact Heap.lt_size e
  | dT kvs => obtain ⟨_, _, _, _, o, _, _, e, _⟩ := x; exact Heap.lt_size e
  | set S n => obtain ⟨o, _, _, _, e, _⟩ := x; exact Heap.lt_size e
  | ins C dx fs => obtain ⟨_, _, _, e, _⟩ := x; exact Heap.lt_size e
  | own y => obtain ⟨_, e⟩ := x; exact Heap.lt_size e
  | xd fs => obtain ⟨_, ⟨_, _, _, e, _⟩, _⟩ := x; exact Heap.lt_size e
  | rng lo hi => obtain ⟨_, _, _, e⟩ := x; exact Heap.lt_size e
  | frz ob u => obtain ⟨e, _⟩ := x; exact Heap.lt_size e
  | tbl ps => exact Heap.lt_size (show h.get? a = some _ from x)
  | met f y => exact Heap.lt_size (show h.get? a = some _ from x)
  | ext φ => obtain ⟨_, ⟨_, e⟩, _⟩ := x; exact Heap.lt_size e
theorem Paired.mapP {α β : Type} {F G : α → β → Prop} : ∀ {l₁ : List α} {l₂ : List β}, Paired F l₁ l₂ → (∀ a b, F a b → G a b) → Paired G l₁ l₂
  | _, _, .nil, _ => .nil
  | _, _, .cons r t, f => .cons (f _ _ r) (Paired.mapP t f)
theorem ObjOk.stay (x : ObjOk P w H h a o) (k : ∀ b u, (b = a ∨ H b = some (.own a)) → h.get? b = some u → h'.get? b = some u)
    (ho : ∀ b, H b = some (.own a) → H' b = some (.own a)) (ht : ∀ b xs, H b = some (.tup xs) → H' b = some (.tup xs)) : ObjOk P w H' h' a o := by
  induction o with
  | lst xs => obtain ⟨z, its, n, r, e⟩ := x; exact ⟨z, its, n, r, k _ _ (.inl rfl) e⟩
  | tup xs => obtain ⟨z, its, r, ob, e, c⟩ := x; exact ⟨z, its, r, ob, k _ _ (.inl rfl) e, c⟩
  | dK kvs => obtain ⟨z, y, vs, r, ob, es, ep, e, c⟩ := x; exact ⟨z, y, vs, r, ob, es, ep, k _ _ (.inl rfl) e, c⟩
  | dT kvs =>
    obtain ⟨z, y, xs, r, ob, es, ep, e, c⟩ := x
    exact ⟨z, y, xs, Paired.mapP r fun p q z => ⟨z.1, ht _ _ z.2.1, z.2.2⟩, ob, es, ep, k _ _ (.inl rfl) e, c⟩
  | set S n => obtain ⟨ob, es, ep, t, e, c⟩ := x; exact ⟨ob, es, ep, t, k _ _ (.inl rfl) e, c⟩
  | ins C dx fs =>
    obtain ⟨d, z, ne, e, mA, ⟨od, es, ep, e2, c⟩, r⟩ := x
    exact ⟨ho _ d, z, ne, k _ _ (.inl rfl) e, mA, ⟨od, es, ep, k _ _ (.inr d) e2, c⟩, r⟩
  | own y => obtain ⟨ob, e⟩ := x; exact ⟨ob, k _ _ (.inl rfl) e⟩
  | xd fs => obtain ⟨mA, ⟨od, es, ep, e, c⟩, r⟩ := x; exact ⟨mA, ⟨od, es, ep, k _ _ (.inl rfl) e, c⟩, r⟩
  | rng lo hi => obtain ⟨t, u, v, e⟩ := x; exact ⟨t, u, v, k _ _ (.inl rfl) e⟩
  | frz ob u ih => obtain ⟨e, q⟩ := x; exact ⟨k _ _ (.inl rfl) e, ih q⟩
  | tbl ps =>
    have e : h.get? a = some { cls := .none, data := .fields ps } := x
    show h'.get? a = some { cls := .none, data := .fields ps }
    exact k a _ (.inl rfl) e
  | met f y =>
    have e : h.get? a = some (PySem.W.methodObj (.ref f) (.ref y)) := x
    show h'.get? a = some (PySem.W.methodObj (.ref f) (.ref y))
    exact k a _ (.inl rfl) e
  | ext φ => obtain ⟨p, ⟨o, e⟩, st⟩ := x; exact ⟨st _ _ p fun o q => k _ _ (.inl rfl) q, ⟨o, k _ _ (.inl rfl) e⟩, st⟩
theorem HOk.lt (x : HOk P w H h) (e : H a = some o) : a < h.objs.size := (x a o e).lt
theorem HOk.fresh (x : HOk P w H h) (e : h.objs.size ≤ a) : H a = none := by
  cases q : H a with
  | none => rfl
  | some u => exact absurd (Nat.lt_of_lt_of_le (x.lt q) e) (Nat.lt_irrefl _)
theorem HOk.kept (x : HOk P w H h) (k : ∀ b u, h.get? b = some u → h'.get? b = some u) : HOk P w H h' := fun a o e =>
  (x a o e).stay (fun b u _ q => k b u q) (fun _ q => q) fun _ _ q => q
theorem HOk.laid (x : HOk P w H h) (k : ∀ b u, h.get? b = some u → h'.get? b = some u) (hp : h.objs.size ≤ a) (new : ObjOk P w (upd H a o) h' a o) : HOk P w (upd H a o) h' := fun b u e => by
  have hn := x.fresh hp
  by_cases hb : b = a
  · subst hb; rw [upd_same] at e; cases e; exact new
  · rw [upd_ne hb] at e
    exact (x b u e).stay (fun c v _ q => k c v q) (fun c q => by rw [upd_ne (ne_of_none q hn)]; exact q) fun c xs q => by rw [upd_ne (ne_of_none q hn)]; exact q
end
def Rd (H : Hp) (a : Addr) (u : HO) : Prop := H a = some u ∨ ∃ o, H a = some (.frz o u)
theorem Rd.of {H : Hp} {a : Addr} {u : HO} (h : H a = some u) : Rd H a u := .inl h
theorem Rd.ok {P : Program} {w : World} {H : Hp} {h : Heap} {a : Addr} {u : HO} (r : Rd H a u) (x : HOk P w H h) : ObjOk P w H h a u := by
  rcases r with r | ⟨o, r⟩
  · exact x a u r
  · obtain ⟨_, q⟩ := x a _ r
    exact q
def Mut : Option HO → Prop
  | some (.lst _) => True
  | some (.dK _) => True
  | some (.dT _) => True
  | some (.set _ _) => True
  | some (.ins _ _ _) => True
  | some (.ext _) => True
  | _ => False
section
variable {P : Program} {w : World} {H : Hp} {h h' : Heap} {x e : Addr} {o' : HO}
theorem HOk.write (ok : HOk P w H h) (mu : Mut (H x)) (he : e = x ∨ H e = some (.own x)) (k : ∀ b u, b ≠ e → h.get? b = some u → h'.get? b = some u) (heo : ∃ u, h'.get? e = some u)
    (new : ObjOk P w (upd H x o') h' x o') : HOk P w (upd H x o') h' := fun b u q => by
  have nown : ∀ c y, H c = some (.own y) → c ≠ x := fun c y r z => by subst z; rw [r] at mu; exact mu
  have ntup : ∀ c xs, H c = some (.tup xs) → c ≠ x := fun c xs r z => by subst z; rw [r] at mu; exact mu
  by_cases hb : b = x
  · subst hb; rw [upd_same] at q; cases q; exact new
  · rw [upd_ne hb] at q
    by_cases hbe : b = e
    · have q' : H b = some (.own x) := by
        rcases he with z | z
        · exact absurd (hbe.trans z) hb
        · rw [hbe]; exact z
      rw [q] at q'; cases q'
      obtain ⟨v, hv⟩ := heo
      exact ⟨v, by rw [hbe]; exact hv⟩
    · refine (ok b u q).stay (fun c v hc r => k c v ?_ r) (fun c r => by rw [upd_ne (nown c b r)]; exact r) fun c xs r => by rw [upd_ne (ntup c xs r)]; exact r
      rcases hc with rfl | hc
      · exact hbe
      · rintro rfl
        rcases he with z | z
        · exact nown c b hc z
        · rw [hc] at z; cases z; exact hb rfl
end
structure Un (fs ex : List Addr) (H H' : Hp) (h h' : Heap) : Prop where
  keep : ∀ b o, h.get? b = some o → H b = none → b ∉ fs → b ∉ ex → h'.get? b = some o
  slot : ∀ b o, h.get? b = some o → H b = none → b ∈ fs → b ∉ ex → ∃ sl, h'.get? b = some { o with slots := sl }
  free : ∀ b o, h.get? b = some o → H b = none → b ∉ ex → H' b = none
  there : ∀ b o, h.get? b = some o → b ∉ ex → ∃ o', h'.get? b = some o'
  tups : ∀ b xs, H b = some (.tup xs) → H' b = some (.tup xs)
  frzs : ∀ b o u, H b = some (.frz o u) → H' b = some (.frz o u)
  tbls : ∀ b ps, H b = some (.tbl ps) → ∃ more, H' b = some (.tbl (ps ++ more))
section
variable {fs fs' ex ex' : List Addr} {H H1 H2 : Hp} {h h1 h2 h' : Heap} {a x e : Addr} {o : HO}
theorem Un.any (u : Un fs ex H H1 h h1) {b : Addr} {ob : Obj} (q : h.get? b = some ob) (n : H b = none) (hx : b ∉ ex) : ∃ sl, h1.get? b = some { ob with slots := sl } := by
  by_cases hb : b ∈ fs
  · exact u.slot b ob q n hb hx
  · exact ⟨ob.slots, u.keep b ob q n hb hx⟩
theorem Un.trans (a : Un fs ex H H1 h h1) (b : Un fs ex H1 H2 h1 h2) : Un fs ex H H2 h h2 where
  keep := fun c ob q n hc hx => b.keep c ob (a.keep c ob q n hc hx) (a.free c ob q n hx) hc hx
  slot := fun c ob q n hc hx => by
    obtain ⟨sl, e1⟩ := a.slot c ob q n hc hx
    obtain ⟨sl', e2⟩ := b.slot c _ e1 (a.free c ob q n hx) hc hx
    exact ⟨sl', e2⟩
  free := fun c ob q n hx => by
    obtain ⟨o', e1⟩ := a.there c ob q hx
    exact b.free c o' e1 (a.free c ob q n hx) hx
  there := fun c ob q hx => by
    obtain ⟨o', e1⟩ := a.there c ob q hx
    exact b.there c o' e1 hx
  tups := fun c xs q => b.tups c xs (a.tups c xs q)
  frzs := fun c ob xs q => b.frzs c ob xs (a.frzs c ob xs q)
  tbls := fun c ps q => by
    obtain ⟨m1, e1⟩ := a.tbls c ps q
    obtain ⟨m2, e2⟩ := b.tbls c _ e1
    exact ⟨m1 ++ m2, by rw [e2, Array.append_assoc]⟩
theorem Un.kept (k : ∀ b u, h.get? b = some u → h'.get? b = some u) : Un fs ex H H h h' :=
  ⟨fun b ob q _ _ _ => k b ob q, fun b ob q _ _ _ => ⟨ob.slots, k b ob q⟩, fun _ _ _ n _ => n, fun b ob q _ => ⟨ob, k b ob q⟩, fun _ _ q => q, fun _ _ _ q => q, fun _ ps q => ⟨#[], by rw [q]; simp⟩⟩
theorem Un.refl : Un fs ex H H h h := Un.kept fun _ _ q => q
theorem Un.laid (k : ∀ b u, h.get? b = some u → h'.get? b = some u) (hp : h.objs.size ≤ a) (hn : H a = none) : Un fs ex H (upd H a o) h h' where
  keep := fun b u q _ _ _ => k b u q
  slot := fun b u q _ _ _ => ⟨u.slots, k b u q⟩
  free := fun b u q n _ => by rw [upd_ne (Nat.ne_of_lt (Nat.lt_of_lt_of_le (Heap.lt_size q) hp))]; exact n
  there := fun b u q _ => ⟨u, k b u q⟩
  tups := fun b xs q => by rw [upd_ne (ne_of_none q hn)]; exact q
  frzs := fun b u xs q => by rw [upd_ne (ne_of_none q hn)]; exact q
  tbls := fun b ps q => ⟨#[], by rw [upd_ne (ne_of_none q hn), q]; simp⟩
theorem Un.write (mu : Mut (H x)) (he : e = x ∨ H e = some (.own x)) (k : ∀ b u, b ≠ e → h.get? b = some u → h'.get? b = some u) (heo : ∃ u, h'.get? e = some u) : Un fs ex H (upd H x o) h h' := by
  have hx : ∀ b, H b = none → b ≠ x := fun b n z => by subst z; rw [n] at mu; exact mu
  have hb : ∀ b, H b = none → b ≠ e := fun b n z => by
    subst z
    rcases he with r | r
    · exact hx b n r
    · rw [n] at r; cases r
  have hm : ∀ b u, H b = some u → ¬ Mut (some u) → b ≠ x := fun b u q nm z => by subst z; rw [q] at mu; exact nm mu
  refine ⟨fun b u q n _ _ => k b u (hb b n) q, fun b u q n _ _ => ⟨u.slots, k b u (hb b n) q⟩, fun b u q n _ => by rw [upd_ne (hx b n)]; exact n, fun b u q _ => ?_,
    fun b xs q => by rw [upd_ne (hm b _ q fun z => z)]; exact q, fun b u xs q => by rw [upd_ne (hm b _ q fun z => z)]; exact q, fun b ps q => ⟨#[], by rw [upd_ne (hm b _ q fun z => z), q]; simp⟩⟩
  by_cases hbe : b = e
  · subst hbe; exact heo
  · exact ⟨u, k b u hbe q⟩
theorem Un.mono (u : Un fs ex H H1 h h1) (hs : ∀ b ∈ fs, b ∈ fs') (hx : ∀ b ∈ ex, b ∈ ex') : Un fs' ex' H H1 h h1 :=
  ⟨fun b ob q n hb he => u.keep b ob q n (fun z => hb (hs b z)) fun z => he (hx b z), fun _ _ q n _ he => u.any q n fun z => he (hx _ z), fun b ob q n he => u.free b ob q n fun z => he (hx b z), fun b ob q he => u.there b ob q fun z => he (hx b z), u.tups, u.frzs, u.tbls⟩
end
def trk (h : Heap) (H : Hp) : List Addr := (List.range h.objs.size).filter fun a => (H a).isSome
def hidT (h : Heap) (H : Hp) : Heap := PySem.W.hideAll h (trk h H)
theorem hidT_size (h : Heap) (H : Hp) : (hidT h H).objs.size = h.objs.size := PySem.W.hideAll_size _ _
theorem hidT_get {h : Heap} {H : Hp} {b : Addr} {o : Obj} (e : h.get? b = some o) (n : H b = none) : (hidT h H).get? b = some o :=
  PySem.W.hideAll_get _ e fun hm => by
    have q : (H b).isSome = true := (List.mem_filter.mp hm).2
    rw [n] at q; simp at q
theorem of_hidT {h : Heap} {H : Hp} {b : Addr} {o : Obj} (e : (hidT h H).get? b = some o) : h.get? b = some o ∧ H b = none := by
  have e' : h.get? b = some o := PySem.W.of_hideAll (trk h H) e
  refine ⟨e', ?_⟩
  cases q : H b with
  | none => rfl
  | some x =>
    have hm : b ∈ trk h H := List.mem_filter.mpr ⟨List.mem_range.mpr (Heap.lt_size e'), by simp [q]⟩
    have z : (hidT h H).get? b = none := PySem.W.hideAll_none (trk h H) hm
    rw [z] at e; cases e
def allNews (g h : Heap) (L : Addr) : List (Addr × Obj) := (List.range h.objs.size).filterMap fun a => if a = L ∨ (g.get? a).isSome = true then none else (h.get? a).map fun o => (a, o)
def rest (g h : Heap) (L d : Addr) : List (Addr × Obj) := (allNews g h L).filter fun p => decide (p.1 ≠ d)
end L2
namespace L2
open PySem PySem.Spec PyProof.Rows
structure Mod (K : PySem.W.Frag) (mg : Str → Option Value) (base : Heap) : Prop where
  kin : K.In base
  glob : base.Ns mainGlobals mg
  blt : ∃ mb, base.Ns builtinsNs mb ∧ ∀ x : Str, x ≠ "__name__" → mb x = bootBuiltins x
  nolimit : base.NoLimit
structure Cx where
  prog : Program
  w : World
  K : PySem.W.Frag
  mg : Str → Option Value
  base : Heap
  A : Around
  N : List Str
  s_0 : Shared
  H_0 : Hp
  env : Env
  outer : List Env
  stack : List Env
  ex : List Addr
  fn : Str → Bool
  calm : Bool
  pn : List (Addr × Obj)
  xe : Value → Shared → Prop
def frs (l : List Env) : List Addr := l.filterMap (·.frame)
abbrev Cx.fs (X : Cx) : List Addr := frs X.outer
def Vis (sc : Scope) (x : Str) : Prop := sc.names.lookup x = some .local ∨ sc.names.lookup x = some .cell ∨ sc.names.lookup x = some .free
def Loc (sc : Scope) (x : Str) : Prop := sc.names.lookup x = some .local ∨ sc.names.lookup x = some .cell
def Look (env : Env) (h : Heap) (m : Str → Option Value) (x : Str) (u : Value) : Prop :=
  (env.kindOf x = some .local ∧ m x = some u) ∨ ((env.kindOf x = some .cell ∨ env.kindOf x = some .free) ∧ ∃ c, env.cells.lookup x = some c ∧ h.IsCell c (some u))
structure Cx.Ok (X : Cx) : Prop where
  mod : Mod X.K X.mg X.base
  kind : X.env.scope.kind = .function
  glob : X.env.globals = mainGlobals
  blt : X.env.builtins = builtinsNs
  above : X.s_0.heap.objs.size ≤ X.env.locals
  inj : ∀ x y c, X.env.cells.lookup x = some c → X.env.cells.lookup y = some c → x = y
  has : ∀ x, (X.env.kindOf x = some .cell ∨ X.env.kindOf x = some .free) → ∃ c, X.env.cells.lookup x = some c
  cab : ∀ x c, X.fn x = true → X.env.cells.lookup x = some c → X.s_0.heap.objs.size ≤ c
  hd : X.calm = true → X.A.handled = none
  frames : X.A.frames = some X.stack
  stk : X.stack = X.outer ∨ (X.stack = X.env :: X.outer ∧ X.env.frame = some X.env.locals)
  exf : ∀ b ∈ X.ex, b ≠ X.env.locals ∧ ∀ x c, X.env.cells.lookup x = some c → c ≠ b
  bs : ∀ b o, X.base.get? b = some o → X.s_0.heap.get? b = some o ∧ X.H_0 b = none
  bsz : X.base.objs.size ≤ X.s_0.heap.objs.size
  noex : ∀ b o, X.base.get? b = some o → b ∉ X.ex
  exfs : ∀ b ∈ X.ex, b ∉ X.fs
  funs : X.s_0.heap.FunFrames X.base X.outer
  frf : ∀ b ∈ X.fs, X.H_0 b = none
structure Inv (X : Cx) (pins : List (Addr × Obj)) (σ : List (Option V)) (H : Hp) (s : Shared) : Prop where
  ok : X.Ok
  os : s.os = X.s_0.os
  bare : AllBare s.gens
  base : Un X.fs X.ex X.H_0 H X.s_0.heap s.heap
  loc : ∃ m, s.heap.Ns X.env.locals m ∧ ∀ (i : Nat) (x : Str) (v : V), X.N[i]? = some x → σ[i]? = some (some v) → Vis X.env.scope x → ∃ u, RelV v u ∧ Look X.env s.heap m x u
  cell : ∀ x c, X.env.cells.lookup x = some c → ∃ v, s.heap.IsCell c v
  free : H X.env.locals = none
  freeC : ∀ x c, X.env.cells.lookup x = some c → H c = none
  pin : ∀ p ∈ X.pn ++ pins, s.heap.get? p.1 = some p.2 ∧ H p.1 = none ∧ p.1 ≠ X.env.locals ∧ p.1 ∉ X.fs ∧ ∀ v, p.2.data ≠ .cell v
  hok : HOk X.prog X.w H s.heap
  len : σ.length = X.N.length
section
variable {X : Cx} {pins : List (Addr × Obj)} {σ : List (Option V)} {H H' : Hp} {s : Shared} {h' : Heap}
theorem Cx.Ok.nofr (ok : X.Ok) {b : Addr} {o : Obj} (e : X.base.get? b = some o) : b ∉ X.fs := fun hb => by
  have := (ok.funs.mem hb).1
  rw [e] at this; cases this
theorem Inv.bs (I : Inv X pins σ H s) : ∀ b o, X.base.get? b = some o → s.heap.get? b = some o ∧ H b = none := fun b o e =>
  ⟨I.base.keep b o (I.ok.bs b o e).1 (I.ok.bs b o e).2 (I.ok.nofr e) (I.ok.noex b o e), I.base.free b o (I.ok.bs b o e).1 (I.ok.bs b o e).2 (I.ok.noex b o e)⟩
theorem Inv.bk (I : Inv X pins σ H s) : ∀ b o, X.base.get? b = some o → s.heap.get? b = some o := fun b o e => (I.bs b o e).1
theorem Inv.mod (I : Inv X pins σ H s) : Mod X.K X.mg X.base := I.ok.mod
theorem Inv.kIn (I : Inv X pins σ H s) : X.K.In s.heap := I.ok.mod.kin.keeps I.bk
theorem Inv.nolimit (I : Inv X pins σ H s) : s.heap.NoLimit := I.ok.mod.nolimit.keeps I.bk
theorem Inv.fr (I : Inv X pins σ H s) : ∃ m, Fr X.base X.env.locals s.heap m :=
  let ⟨m, hn, _⟩ := I.loc
  ⟨m, hn, I.bk, Nat.le_trans I.ok.bsz I.ok.above⟩
theorem Inv.lt (I : Inv X pins σ H s) : X.env.locals < s.heap.objs.size := let ⟨_, hn, _⟩ := I.loc; hn.lt
theorem Inv.sz (I : Inv X pins σ H s) : X.s_0.heap.objs.size ≤ s.heap.objs.size := Nat.le_trans I.ok.above (Nat.le_of_lt I.lt)
theorem Inv.nofs (I : Inv X pins σ H s) {a : Addr} (h : s.heap.objs.size ≤ a) : a ∉ X.fs := fun hb => by
  obtain ⟨_, o, ho, _⟩ := I.ok.funs.mem hb
  exact absurd (Nat.lt_of_lt_of_le (Heap.lt_size ho) (Nat.le_trans I.sz h)) (Nat.lt_irrefl _)
theorem Inv.cne (I : Inv X pins σ H s) : ∀ x c, X.env.cells.lookup x = some c → c ≠ X.env.locals := fun x c e z => by
  obtain ⟨v, o, ho, hd⟩ := I.cell x c e
  obtain ⟨m, ⟨o', es, ep, ho', hd', _⟩, _⟩ := I.loc
  rw [z, ho'] at ho; cases ho; rw [hd'] at hd; cases hd
theorem Inv.funs (I : Inv X pins σ H s) : s.heap.FunFrames X.base X.outer := by
  have all : ∀ (l : List Env), (∀ b ∈ frs l, b ∈ X.fs) → X.s_0.heap.FunFrames X.base l → s.heap.FunFrames X.base l := by
    intro l
    induction l with
    | nil => intro _ _; trivial
    | cons env r ih =>
      intro hs hl
      obtain ⟨hk, ⟨L, o, hf, hn, ho, hd⟩, hr⟩ := hl
      have hL : L ∈ X.fs := hs L (by unfold frs; rw [List.filterMap_cons, hf]; exact List.mem_cons_self)
      obtain ⟨sl, e⟩ := I.base.slot L o ho (I.ok.frf L hL) hL fun z => I.ok.exfs L z hL
      exact ⟨hk, ⟨L, _, hf, hn, e, hd⟩, ih (fun b hb => hs b (by unfold frs; rw [List.filterMap_cons, hf]; exact List.mem_cons_of_mem _ hb)) hr⟩
  exact all X.outer (fun _ hb => hb) I.ok.funs
theorem Inv.stack (I : Inv X pins σ H s) : s.heap.FunFrames X.base X.stack := by
  rcases I.ok.stk with e | ⟨e, hf⟩
  · rw [e]; exact I.funs
  · rw [e]
    obtain ⟨m, hn, _⟩ := I.loc
    refine .cons (by rw [I.ok.kind]; decide) hf hn ?_ I.funs
    exact Heap.get?_none_of_le (Nat.le_trans I.ok.bsz I.ok.above)
theorem Inv.stkSub (I : Inv X pins σ H s) : ∀ b ∈ frs X.stack, b ∈ X.env.locals :: X.fs := fun b hb => by
  rcases I.ok.stk with e | ⟨e, hf⟩
  · rw [e] at hb; exact List.mem_cons_of_mem _ hb
  · rw [e] at hb
    unfold frs at hb
    rw [List.filterMap_cons, hf] at hb
    exact hb
theorem Inv.stkFree (I : Inv X pins σ H s) : ∀ b ∈ frs X.stack, H b = none := fun b hb => by
  rcases List.mem_cons.mp (I.stkSub b hb) with e | hb
  · rw [e]; exact I.free
  · obtain ⟨_, o, ho, _⟩ := I.ok.funs.mem hb
    exact I.base.free b o ho (I.ok.frf b hb) fun z => I.ok.exfs b z hb
theorem Inv.step {g' : Array GenState} {t' : Nat} {d' : Drawn} {ch : List Addr} (I : Inv X pins σ H s)
    (hch : ∀ b ∈ ch, (b ∈ X.ex ∨ X.s_0.heap.objs.size ≤ b) ∧ b ≠ X.env.locals ∧ (∀ x c, X.env.cells.lookup x = some c → c ≠ b) ∧ ∀ p ∈ X.pn ++ pins, p.1 ≠ b)
    (keep : ∀ b o, b ≠ X.env.locals → b ∉ X.fs → b ∉ ch → s.heap.get? b = some o → H b = none → h'.get? b = some o)
    (slot : ∀ b o, b ≠ X.env.locals → b ∈ X.fs → b ∉ ch → s.heap.get? b = some o → H b = none → ∃ sl, h'.get? b = some { o with slots := sl }) (free : ∀ b o, b ∉ ch → s.heap.get? b = some o → H b = none → H' b = none)
    (there : ∀ b o, b ∉ ch → s.heap.get? b = some o → ∃ o', h'.get? b = some o')
    (tups : ∀ b xs, H b = some (.tup xs) → H' b = some (.tup xs)) (frzs : ∀ b o u, H b = some (.frz o u) → H' b = some (.frz o u)) (tbls : ∀ b ps, H b = some (.tbl ps) → ∃ more, H' b = some (.tbl (ps ++ more)))
    (ns : ∀ m, s.heap.Ns X.env.locals m → h'.Ns X.env.locals m) (hok : HOk X.prog X.w H' h') (hg : AllBare g') :
    Inv X pins σ H' { s with heap := h', gens := g', drawn := d', toks := t' } := by
  have neL : ∀ b o, X.s_0.heap.get? b = some o → b ≠ X.env.locals := fun b o e => Nat.ne_of_lt (Nat.lt_of_lt_of_le (Heap.lt_size e) I.ok.above)
  have neC : ∀ b o, X.s_0.heap.get? b = some o → b ∉ X.ex → b ∉ ch := fun b o e hx hb => by
    rcases (hch b hb).1 with z | z
    · exact hx z
    · exact absurd (Nat.lt_of_lt_of_le (Heap.lt_size e) z) (Nat.lt_irrefl _)
  have cellK : ∀ x c, X.env.cells.lookup x = some c → ∀ v, s.heap.IsCell c v → h'.IsCell c v := fun x c e v ⟨o, ho, hd⟩ => by
    have nch : c ∉ ch := fun z => (hch c z).2.2.1 x c e rfl
    by_cases hc : c ∈ X.fs
    · obtain ⟨sl, q⟩ := slot c o (I.cne x c e) hc nch ho (I.freeC x c e)
      exact ⟨_, q, hd⟩
    · exact ⟨o, keep c o (I.cne x c e) hc nch ho (I.freeC x c e), hd⟩
  refine ⟨I.ok, I.os, hg, ⟨fun b o e n hb hx => ?_, fun b o e n hb hx => ?_, fun b o e n hx => ?_, fun b o e hx => ?_, fun b xs e => tups b xs (I.base.tups b xs e), fun b o xs e => frzs b o xs (I.base.frzs b o xs e), fun b ps e => ?_⟩, ?_, fun x c e => ?_, ?_, fun x c e => ?_, fun p hp => ?_, hok, I.len⟩
  · exact keep b o (neL b o e) hb (neC b o e hx) (I.base.keep b o e n hb hx) (I.base.free b o e n hx)
  · obtain ⟨sl, e1⟩ := I.base.slot b o e n hb hx
    obtain ⟨sl', e2⟩ := slot b _ (neL b o e) hb (neC b o e hx) e1 (I.base.free b o e n hx)
    exact ⟨sl', e2⟩
  · obtain ⟨o', e1⟩ := I.base.there b o e hx
    exact free b o' (neC b o e hx) e1 (I.base.free b o e n hx)
  · obtain ⟨o', e1⟩ := I.base.there b o e hx
    exact there b o' (neC b o e hx) e1
  · obtain ⟨m1, e1⟩ := I.base.tbls b ps e
    obtain ⟨m2, e2⟩ := tbls b _ e1
    exact ⟨m1 ++ m2, by rw [e2, Array.append_assoc]⟩
  · obtain ⟨m, hn, hl⟩ := I.loc
    refine ⟨m, ns m hn, fun i x v e1 e2 e3 => ?_⟩
    obtain ⟨u, r, l⟩ := hl i x v e1 e2 e3
    refine ⟨u, r, ?_⟩
    rcases l with l | ⟨k, c, e, z⟩
    · exact .inl l
    · exact .inr ⟨k, c, e, cellK x c e _ z⟩
  · obtain ⟨v, z⟩ := I.cell x c e
    exact ⟨v, cellK x c e v z⟩
  · obtain ⟨m, ⟨o, _, _, ho, _⟩, _⟩ := I.loc
    exact free _ o (fun z => (hch _ z).2.1 rfl) ho I.free
  · obtain ⟨v, o, ho, hd⟩ := I.cell x c e
    exact free c o (fun z => (hch c z).2.2.1 x c e rfl) ho (I.freeC x c e)
  · obtain ⟨e, n, ne, nf, d⟩ := I.pin p hp
    have nch : p.1 ∉ ch := fun z => (hch p.1 z).2.2.2 p hp rfl
    exact ⟨keep p.1 p.2 ne nf nch e n, free p.1 p.2 nch e n, ne, nf, d⟩
theorem Inv.un {t' : Nat} (I : Inv X pins σ H s) (u : Un X.fs [] H H' s.heap h') (hok : HOk X.prog X.w H' h') : Inv X pins σ H' { s with heap := h', toks := t' } := by
  obtain ⟨m, ⟨o, es, ep, ho, r⟩, _⟩ := id I.loc
  obtain ⟨sl, hL⟩ := u.any ho I.free (by simp)
  exact I.step (g' := s.gens) (d' := s.drawn) (ch := []) (fun _ z => nomatch z) (fun b o _ hb _ e n => u.keep b o e n hb (by simp)) (fun b o _ hb _ e n => u.slot b o e n hb (by simp)) (fun b o _ e n => u.free b o e n (by simp)) (fun b o _ e => u.there b o e (by simp)) u.tups u.frzs u.tbls (fun m' hm => by
    obtain ⟨o', es', ep', ho', r'⟩ := hm
    rw [ho] at ho'; cases ho'
    exact ⟨_, es', ep', hL, r'⟩) hok I.bare
theorem Inv.call {g' : Array GenState} {t' : Nat} {d' : Drawn} {ch : List Addr} (I : Inv X pins σ H s) (u : Un (frs X.stack) ch H H' s.heap h') (hok : HOk X.prog X.w H' h') (hg : AllBare g')
    (hch : ∀ b ∈ ch, (b ∈ X.ex ∨ X.s_0.heap.objs.size ≤ b) ∧ b ≠ X.env.locals ∧ (∀ x c, X.env.cells.lookup x = some c → c ≠ b) ∧ ∀ p ∈ X.pn ++ pins, p.1 ≠ b) :
    Inv X pins σ H' { s with heap := h', gens := g', drawn := d', toks := t' } := by
  obtain ⟨m, ⟨o, es, ep, ho, r⟩, _⟩ := id I.loc
  obtain ⟨sl, hL⟩ := u.any ho I.free fun z => (hch _ z).2.1 rfl
  exact I.step (ch := ch) hch (fun b o hL hb hc e n => u.keep b o e n (fun z => (List.mem_cons.mp (I.stkSub b z)).elim hL hb) hc) (fun b o _ _ hc e n => u.any e n hc) (fun b o hc e n => u.free b o e n hc) (fun b o hc e => u.there b o e hc) u.tups u.frzs u.tbls (fun m' hm => by
    obtain ⟨o', es', ep', ho', r'⟩ := hm
    rw [ho] at ho'; cases ho'
    exact ⟨_, es', ep', hL, r'⟩) hok hg
theorem Inv.turned {t' : Nat} {it : Addr} (I : Inv X pins σ H s) (k : ∀ b o, b ≠ it → s.heap.get? b = some o → h'.get? b = some o) (hn : H it = none) (hL : it ≠ X.env.locals)
    (h1 : it ∈ X.ex ∨ X.s_0.heap.objs.size ≤ it) (h2 : ∀ x c, X.env.cells.lookup x = some c → c ≠ it) (h3 : ∀ p ∈ X.pn ++ pins, p.1 ≠ it) : Inv X pins σ H { s with heap := h', toks := t' } := by
  have nit : ∀ b u, H b = some u → b ≠ it := fun b u e z => by rw [z, hn] at e; cases e
  refine I.step (g' := s.gens) (d' := s.drawn) (ch := [it]) (fun b hb => ?_) (fun b o _ _ hc e _ => k b o (fun z => hc (by simp [z])) e) (fun b o _ _ hc e _ => ⟨o.slots, k b o (fun z => hc (by simp [z])) e⟩) (fun _ _ _ _ n => n)
    (fun b o hc e => ⟨o, k b o (fun z => hc (by simp [z])) e⟩) (fun _ _ e => e) (fun _ _ _ e => e) (fun b ps e => ⟨#[], by rw [e]; simp⟩) (fun m hm => ?_) (fun b u e => ?_) I.bare
  · have e : b = it := by simpa using hb
    subst e
    exact ⟨h1, hL, h2, h3⟩
  · obtain ⟨o, es, ep, ho, r⟩ := hm
    exact ⟨o, es, ep, k _ o (Ne.symm hL) ho, r⟩
  · refine (I.hok b u e).stay (fun c v hc q => k c v ?_ q) (fun _ q => q) fun _ _ q => q
    rcases hc with z | z
    · rw [z]; exact nit b u e
    · exact nit c _ z
theorem Inv.tok (I : Inv X pins σ H s) (t : Nat) : Inv X pins σ H { s with toks := t } := I.un (h' := s.heap) (t' := t) Un.refl I.hok
theorem Inv.kept {t' : Nat} (I : Inv X pins σ H s) (k : ∀ b u, s.heap.get? b = some u → h'.get? b = some u) : Inv X pins σ H { s with heap := h', toks := t' } := I.un (Un.kept k) (I.hok.kept k)
theorem Inv.laid {a : Addr} {o : HO} {t' : Nat} (I : Inv X pins σ H s) (k : ∀ b u, s.heap.get? b = some u → h'.get? b = some u) (hp : s.heap.objs.size ≤ a) (new : ObjOk X.prog X.w (upd H a o) h' a o) :
    Inv X pins σ (upd H a o) { s with heap := h', toks := t' } := I.un (Un.laid k hp (I.hok.fresh hp)) (I.hok.laid k hp new)
theorem Inv.write {x e : Addr} {o : HO} {t' : Nat} (I : Inv X pins σ H s) (mu : Mut (H x)) (he : e = x ∨ H e = some (.own x)) (k : ∀ b u, b ≠ e → s.heap.get? b = some u → h'.get? b = some u) (heo : ∃ u, h'.get? e = some u)
    (new : ObjOk X.prog X.w (upd H x o) h' x o) : Inv X pins σ (upd H x o) { s with heap := h', toks := t' } := I.un (Un.write mu he k heo) (I.hok.write mu he k heo new)
theorem Inv.weak {σ' : List (Option V)} (I : Inv X pins σ H s) (hl : σ'.length = σ.length) (w : ∀ (i : Nat) v, σ'[i]? = some (some v) → σ[i]? = some (some v)) : Inv X pins σ' H s :=
  ⟨I.ok, I.os, I.bare, I.base, let ⟨m, hn, hl'⟩ := I.loc; ⟨m, hn, fun i x v e1 e2 e3 => hl' i x v e1 (w i v e2) e3⟩, I.cell, I.free, I.freeC, I.pin, I.hok, hl.trans I.len⟩
theorem Inv.pins_of {pins' : List (Addr × Obj)} (I : Inv X pins σ H s) (h : ∀ p ∈ pins', s.heap.get? p.1 = some p.2 ∧ H p.1 = none ∧ p.1 ≠ X.env.locals ∧ p.1 ∉ X.fs ∧ ∀ v, p.2.data ≠ .cell v) : Inv X pins' σ H s :=
  ⟨I.ok, I.os, I.bare, I.base, I.loc, I.cell, I.free, I.freeC, fun p hp => (List.mem_append.mp hp).elim (fun z => I.pin p (List.mem_append_left _ z)) (h p), I.hok, I.len⟩
theorem nodup_ix {N : List Str} (hN : N.Nodup) {i j : Nat} {x : Str} (a : N[i]? = some x) (b : N[j]? = some x) : i = j := by
  obtain ⟨h1, e1⟩ := List.getElem?_eq_some_iff.mp a
  obtain ⟨h2, e2⟩ := List.getElem?_eq_some_iff.mp b
  exact (List.getElem_inj hN).mp (e1.trans e2.symm)
theorem store_ok2 {M : Model} {A : Around} {E : Value → Shared → Prop} {i : Nat} {x : Str} {v : V} {u : Value} {Q : Unit → Shared → Prop} (I : Inv X pins σ H s) (hN : X.N.Nodup) (hi : X.N[i]? = some x) (hx : Loc X.env.scope x) (r : RelV v u)
    (h : ∀ s', Inv X pins (σ.set i (some v)) H s' → (∃ a, Heap.SameBut a s.heap s'.heap ∧ (a = X.env.locals ∨ X.env.cells.lookup x = some a)) → Q () s') (hf : X.fn x = true ∨ X.env.scope.names.lookup x = some .local := by first | exact .inl rfl | exact .inr rfl | assumption) : wpAny M A (storeName X.env x u) Q E s := by
  obtain ⟨m, hn, hl⟩ := id I.loc
  have hcls : (X.env.scope.kind == .class || (X.env.scope.kind == .module && X.env.locals != X.env.globals)) = false := by rw [I.ok.kind]; rfl
  have hiσ : i < σ.length := by rw [I.len]; exact (List.getElem?_eq_some_iff.mp hi).1
  have cne := I.cne
  have tracked : ∀ {a : Addr} {h' : Heap}, (∃ o, s.heap.get? a = some o ∧ H a = none) → Heap.SameBut a s.heap h' → HOk X.prog X.w H h' := fun {a h'} ha hs b ob e => by
    obtain ⟨_, _, hfree⟩ := ha
    refine (I.hok b ob e).stay (fun c w' hc q => (hs.2 c ?_).trans q) (fun _ q => q) fun _ _ q => q
    rintro rfl
    rcases hc with rfl | hc
    · rw [hfree] at e; cases e
    · rw [hfree] at hc; cases hc
  rcases hx with hk | hk
  · refine wpAny_storeName_local hk hn (fun h' hn' hs => ?_) hcls
    obtain ⟨oL, _, _, hoL, _⟩ := id hn
    refine h _ ⟨I.ok, I.os, I.bare, ⟨fun b o e n hb hx => ?_, fun b o e n hb hx => ?_, I.base.free, fun b o e hx => ?_, I.base.tups, I.base.frzs, I.base.tbls⟩, ⟨_, hn', fun j y v' e1 e2 e3 => ?_⟩, fun y c e => ?_, I.free, I.freeC, fun p hp => ?_, tracked ⟨oL, hoL, I.free⟩ hs, by simpa using I.len⟩ ⟨_, hs, .inl rfl⟩
    · exact (hs.2 b (Nat.ne_of_lt (Nat.lt_of_lt_of_le (Heap.lt_size e) I.ok.above))).trans (I.base.keep b o e n hb hx)
    · obtain ⟨sl, e1⟩ := I.base.slot b o e n hb hx
      exact ⟨sl, (hs.2 b (Nat.ne_of_lt (Nat.lt_of_lt_of_le (Heap.lt_size e) I.ok.above))).trans e1⟩
    · obtain ⟨o', e1⟩ := I.base.there b o e hx
      exact ⟨o', (hs.2 b (Nat.ne_of_lt (Nat.lt_of_lt_of_le (Heap.lt_size e) I.ok.above))).trans e1⟩
    · by_cases hj : j = i
      · subst hj
        rw [hi] at e1; cases e1
        rw [List.getElem?_set_self hiσ] at e2
        cases e2
        exact ⟨u, r, .inl ⟨hk, by simp⟩⟩
      · rw [List.getElem?_set_ne (Ne.symm hj)] at e2
        obtain ⟨u', r', q⟩ := hl j y v' e1 e2 e3
        refine ⟨u', r', ?_⟩
        rcases q with ⟨k, e⟩ | ⟨k, c, e, z⟩
        · refine .inl ⟨k, ?_⟩
          have : y ≠ x := fun e => hj (nodup_ix hN e1 (e ▸ hi))
          simp [this, e]
        · exact .inr ⟨k, c, e, z.sameBut hs (cne y c e)⟩
    · obtain ⟨w', z⟩ := I.cell y c e
      exact ⟨w', z.sameBut hs (cne y c e)⟩
    · obtain ⟨e, n, ne, nf, d⟩ := I.pin p hp
      exact ⟨(hs.2 p.1 ne).trans e, n, ne, nf, d⟩
  · have hfn : X.fn x = true := by
      rcases hf with z | z
      · exact z
      · rw [z] at hk; cases hk
    obtain ⟨c, hc⟩ := I.ok.has x (.inl hk)
    obtain ⟨w', z⟩ := I.cell x c hc
    refine wpAny_storeName_cell I.ok.kind hk hc z (fun h' hc' hs => ?_)
    obtain ⟨oc, hoc, hocd⟩ := id z
    refine h { s with heap := h' } ⟨I.ok, I.os, I.bare, ⟨fun b o e n hb hx => ?_, fun b o e n hb hx => ?_, I.base.free, fun b o e hx => ?_, I.base.tups, I.base.frzs, I.base.tbls⟩, ⟨m, hn.sameBut hs (Ne.symm (cne x c hc)), fun j y v' e1 e2 e3 => ?_⟩, fun y c' e => ?_, I.free, I.freeC, fun p hp => ?_, tracked ⟨oc, hoc, I.freeC x c hc⟩ hs, by simpa using I.len⟩ ⟨c, hs, .inr hc⟩
    · exact (hs.2 b (Nat.ne_of_lt (Nat.lt_of_lt_of_le (Heap.lt_size e) (I.ok.cab x c hfn hc)))).trans (I.base.keep b o e n hb hx)
    · obtain ⟨sl, e1⟩ := I.base.slot b o e n hb hx
      exact ⟨sl, (hs.2 b (Nat.ne_of_lt (Nat.lt_of_lt_of_le (Heap.lt_size e) (I.ok.cab x c hfn hc)))).trans e1⟩
    · obtain ⟨o', e1⟩ := I.base.there b o e hx
      exact ⟨o', (hs.2 b (Nat.ne_of_lt (Nat.lt_of_lt_of_le (Heap.lt_size e) (I.ok.cab x c hfn hc)))).trans e1⟩
    · by_cases hj : j = i
      · subst hj
        rw [hi] at e1; cases e1
        rw [List.getElem?_set_self hiσ] at e2
        cases e2
        exact ⟨u, r, .inr ⟨.inl hk, c, hc, hc'⟩⟩
      · rw [List.getElem?_set_ne (Ne.symm hj)] at e2
        obtain ⟨u', r', q⟩ := hl j y v' e1 e2 e3
        refine ⟨u', r', ?_⟩
        rcases q with q | ⟨k, c', e, z'⟩
        · exact .inl q
        · refine .inr ⟨k, c', e, z'.sameBut hs ?_⟩
          rintro rfl
          exact hj (nodup_ix hN e1 (I.ok.inj _ _ _ e hc ▸ hi))
    · by_cases hcc : c' = c
      · subst hcc; exact ⟨_, hc'⟩
      · obtain ⟨w2, z2⟩ := I.cell y c' e
        exact ⟨w2, z2.sameBut hs hcc⟩
    · obtain ⟨e, n, ne, nf, d⟩ := I.pin p hp
      refine ⟨(hs.2 p.1 ?_).trans e, n, ne, nf, d⟩
      intro q
      rw [q, hoc] at e
      have q' : oc = p.2 := Option.some.inj e
      exact d w' (by rw [← q']; exact hocd)
theorem store_ok {M : Model} {A : Around} {E : Value → Shared → Prop} {i : Nat} {x : Str} {v : V} {u : Value} {Q : Unit → Shared → Prop} (I : Inv X pins σ H s) (hN : X.N.Nodup) (hi : X.N[i]? = some x) (hx : Loc X.env.scope x) (r : RelV v u)
    (h : ∀ s', Inv X pins (σ.set i (some v)) H s' → Q () s') (hf : X.fn x = true ∨ X.env.scope.names.lookup x = some .local := by first | exact .inl rfl | exact .inr rfl | assumption) : wpAny M A (storeName X.env x u) Q E s :=
  store_ok2 I hN hi hx r (fun s' I' _ => h s' I') hf
theorem Inv.call' {s' : Shared} {ch : List Addr} (I : Inv X pins σ H s) (ho : s'.os = s.os) (u : Un (frs X.stack) ch H H' s.heap s'.heap) (hok : HOk X.prog X.w H' s'.heap) (hg : AllBare s'.gens)
    (hch : ∀ b ∈ ch, (b ∈ X.ex ∨ X.s_0.heap.objs.size ≤ b) ∧ b ≠ X.env.locals ∧ (∀ x c, X.env.cells.lookup x = some c → c ≠ b) ∧ ∀ p ∈ X.pn ++ pins, p.1 ≠ b) : Inv X pins σ H' s' := by
  obtain ⟨h', g', d', t', o'⟩ := s'
  have e : o' = s.os := ho
  subst e
  exact I.call (g' := g') (t' := t') (d' := d') u hok hg hch
end
abbrev XK := Value → Option Addr → Hp → Prop
abbrev St := List (Option V)
abbrev VK := V → Hp → Prop
abbrev TE := St → Hp → VK → Prop
abbrev TT := St → Hp → (Bool → Hp → Prop) → Prop
abbrev TA := St → Hp → (List V → Hp → Prop) → Prop
structure Ends where
  nx : St → Hp → Prop
  rt : VK
  bk : St → Hp → Prop := fun _ _ => False
  ct : St → Hp → Prop := fun _ _ => False
abbrev TS := Ends → St → Hp → Prop
def EP (X : Cx) (pins : List (Addr × Obj)) (σ : St) (Q : VK) (u : Value) (s' : Shared) : Prop := ∃ v H', Inv X pins σ H' s' ∧ RelV v u ∧ Q v H'
def TP (X : Cx) (pins : List (Addr × Obj)) (σ : St) (Q : Bool → Hp → Prop) (b : Bool) (s' : Shared) : Prop := ∃ H', Inv X pins σ H' s' ∧ Q b H'
def AP (X : Cx) (pins : List (Addr × Obj)) (σ : St) (Q : List V → Hp → Prop) (us : List Value) (s' : Shared) : Prop := ∃ vs H', Inv X pins σ H' s' ∧ Vals vs us ∧ Q vs H'
def SP (X : Cx) (pins : List (Addr × Obj)) (D : Ends) (f : Flow) (s' : Shared) : Prop :=
  match f with
  | .next => ∃ σ' H', Inv X pins σ' H' s' ∧ D.nx σ' H'
  | .brk => ∃ σ' H', Inv X pins σ' H' s' ∧ D.bk σ' H'
  | .cont => ∃ σ' H', Inv X pins σ' H' s' ∧ D.ct σ' H'
  | .ret u => ∃ v σ' H', Inv X pins σ' H' s' ∧ RelV v u ∧ D.rt v H'
def PE (X : Cx) (e : Expr) (t : TE) : Prop :=
  ∀ (pins : List (Addr × Obj)) (s : Shared) (σ : St) (H : Hp) (Q : VK), Inv X pins σ H s → t σ H Q → wpAny (model X.prog X.w) X.A (eval e X.env) (EP X pins σ Q) X.xe s
def PT (X : Cx) (e : Expr) (t : TT) : Prop :=
  ∀ (pins : List (Addr × Obj)) (s : Shared) (σ : St) (H : Hp) (Q : Bool → Hp → Prop), Inv X pins σ H s → t σ H Q → wpAny (model X.prog X.w) X.A (isTrue e X.env (eval e X.env)) (TP X pins σ Q) X.xe s
def PW (X : Cx) (e : Expr) (t : TT) : Prop :=
  ∀ (whole : Sem Value) (pins : List (Addr × Obj)) (s : Shared) (σ : St) (H : Hp) (Q : Bool → Hp → Prop), Inv X pins σ H s → t σ H Q → wpAny (model X.prog X.w) X.A (isTrue e X.env whole) (TP X pins σ Q) X.xe s
theorem PW.pt {X : Cx} {e : Expr} {t : TT} (h : PW X e t) : PT X e t := h _
def PA (X : Cx) (es : List Expr) (t : TA) : Prop :=
  ∀ (pos : Pos) (pins : List (Addr × Obj)) (s : Shared) (σ : St) (H : Hp) (Q : List V → Hp → Prop), Inv X pins σ H s → t σ H Q → wpAny (model X.prog X.w) X.A (spliced (backTo pos (starEach es X.env))) (AP X pins σ Q) X.xe s
def PS (X : Cx) (st : Stmt) (t : TS) : Prop :=
  ∀ (pins : List (Addr × Obj)) (s : Shared) (σ : St) (H : Hp) (D : Ends), Inv X pins σ H s → t D σ H → wpAny (model X.prog X.w) X.A (exec st X.env) (SP X pins D) X.xe s
def PSs (X : Cx) (st : List Stmt) (t : TS) : Prop :=
  ∀ (pins : List (Addr × Obj)) (s : Shared) (σ : St) (H : Hp) (D : Ends), Inv X pins σ H s → t D σ H → wpAny (model X.prog X.w) X.A (execs st X.env) (SP X pins D) X.xe s
theorem thn {α : Type} {t : Sem α} {Q Q' : α → Shared → Prop} {M : Model} {A : Around} {E : Value → Shared → Prop} {s : Shared} (h : wpAny M A t Q E s) (hQ : ∀ a s, Q a s → Q' a s) : wpAny M A t Q' E s := wpAny_mono h hQ fun _ _ x => x
end L2
namespace L2
open PySem PySem.Spec PyProof.Rows
section
variable {X : Cx}
def tVar (i : Nat) : TE := fun σ H Q => ∃ v, σ[i]? = some (some v) ∧ Q v H
def tC (v : V) : TE := fun _ H Q => Q v H
theorem pe_var {i : Nat} {x : Str} {pos : Pos} (hN : X.N[i]? = some x) (hv : Vis X.env.scope x) (hd : (x == ("__debug__" : Str)) = false := by decide) (hcd : (x == ("__classdict__" : Str)) = false := by decide) : PE X (.Name x pos) (tVar i) := by
  intro pins s σ H Q I h
  obtain ⟨v, e, h⟩ := h
  obtain ⟨m, hn, hl⟩ := I.loc
  obtain ⟨u, r, l⟩ := hl i x v hN e hv
  have fin : EP X pins σ Q u s := ⟨v, H, I, r, h⟩
  rcases l with ⟨hk, hm⟩ | ⟨hk, c, hc, hcell⟩
  · exact wpAny_Name (wpAny_loadName_local I.ok.kind hk hn hm fin) hd
  · rcases hk with hk | hk
    · exact wpAny_Name (wpAny_loadName_cell I.ok.kind hk hc hcell fin) hd
    · exact wpAny_Name (wpAny_loadName_free I.ok.kind hk hc hcell fin hcd) hd
theorem pe_int {i j pos} : PE X (.Constant (.int i) j pos) (tC (.int i)) := fun _ _ _ H _ I h => wpAny_Constant_int ⟨.int i, H, I.tok _, ⟨_, rfl⟩, h⟩
theorem pe_bl {b j pos} : PE X (.Constant (.bool b) j pos) (tC (.bl b)) := fun _ _ _ H _ I h => Constant_bool ⟨.bl b, H, I, rfl, h⟩
theorem pe_non {j pos} : PE X (.Constant .none j pos) (tC .non) := fun _ _ _ H _ I h => Constant_none ⟨.non, H, I, rfl, h⟩
theorem pe_str {x j pos} : PE X (.Constant (.str x) j pos) (tC (.str x)) := fun _ _ _ H _ I h => Calls.Constant_str ⟨.str x, H, I.tok _, ⟨_, rfl⟩, h⟩
def Gl (X : Cx) (x : Str) : Prop := X.env.kindOf x = some .globalImplicit
theorem ld_glob {E : Value → Shared → Prop} {pins : List (Addr × Obj)} {s : Shared} {σ : St} {H : Hp} {x : Str} {u : Value} {pos : Pos} {Q : Value → Shared → Prop} (I : Inv X pins σ H s) (hg : Gl X x) (hm : X.mg x = some u) (h : Q u s)
    (hd : (x == ("__debug__" : Str)) = false := by decide) : wpAny (model X.prog X.w) X.A (eval (.Name x pos) X.env) Q E s :=
  Calls.Name_function_global I.ok.kind hg (Calls.loadGlobal_global (by rw [I.ok.glob]; exact I.mod.glob.keeps I.bk) hm h) hd
theorem ld_blt {E : Value → Shared → Prop} {pins : List (Addr × Obj)} {s : Shared} {σ : St} {H : Hp} {x : Str} {u : Value} {pos : Pos} {Q : Value → Shared → Prop} (I : Inv X pins σ H s) (hg : Gl X x) (hm : X.mg x = none) (hv : bootBuiltins x = some u) (h : Q u s)
    (hn : x ≠ "__name__" := by decide) (hd : (x == ("__debug__" : Str)) = false := by decide) : wpAny (model X.prog X.w) X.A (eval (.Name x pos) X.env) Q E s := by
  obtain ⟨mb, h1, h2⟩ := I.mod.blt
  exact Calls.Name_function_global I.ok.kind hg (Calls.loadGlobal_builtin (by rw [I.ok.glob]; exact I.mod.glob.keeps I.bk) hm (by rw [I.ok.blt]; exact h1.keeps I.bk) ((h2 x hn).trans hv) h) hd
theorem pe_glob {x : Str} {v : V} {u : Value} {pos : Pos} (hg : Gl X x) (hm : X.mg x = some u) (r : RelV v u) (hd : (x == ("__debug__" : Str)) = false := by decide) : PE X (.Name x pos) (tC v) :=
  fun _ _ _ H _ I h => ld_glob I hg hm ⟨v, H, I, r, h⟩ hd
theorem pe_bltn {x : Str} {v : V} {u : Value} {pos : Pos} (hg : Gl X x) (hm : X.mg x = none) (hv : bootBuiltins x = some u) (r : RelV v u) (hn : x ≠ "__name__" := by decide) (hd : (x == ("__debug__" : Str)) = false := by decide) : PE X (.Name x pos) (tC v) :=
  fun _ _ _ H _ I h => ld_blt I hg hm hv ⟨v, H, I, r, h⟩ hn hd
variable {a b : Expr} {ta tb : TE} {pos : Pos}
variable {tA tB' : TT} {rest : List Expr}
def tAnd (t u : TT) : TT := fun σ H Q => t σ H fun c H1 => if c = true then u σ H1 Q else Q false H1
def tOr (t u : TT) : TT := fun σ H Q => t σ H fun c H1 => if c = true then Q true H1 else u σ H1 Q
def tNot (t : TT) : TT := fun σ H Q => t σ H fun c H1 => Q (!c) H1
theorem pw_and1 (ha : PT X a tA) : PW X (.BoolOp .And [a] pos) tA := by
  intro wh pins s σ H Q I h
  refine isTrue_and (thn (ha pins s σ H Q I h) fun c s1 e => ?_)
  cases c with
  | true => exact isTrue_and_nil e
  | false => exact e
theorem pw_or1 (ha : PT X a tA) : PW X (.BoolOp .Or [a] pos) tA := by
  intro wh pins s σ H Q I h
  refine isTrue_or (thn (ha pins s σ H Q I h) fun c s1 e => ?_)
  cases c with
  | false => exact isTrue_or_nil e
  | true => exact e
theorem pw_and (ha : PT X a tA) (hb : PW X (.BoolOp .And (b :: rest) pos) tB') : PW X (.BoolOp .And (a :: b :: rest) pos) (tAnd tA tB') := by
  intro wh pins s σ H Q I h
  refine isTrue_and (thn (ha pins s σ H _ I h) fun c s1 ⟨H1, I1, q1⟩ => ?_)
  cases c with
  | true => exact hb wh pins s1 σ H1 Q I1 q1
  | false => exact ⟨H1, I1, q1⟩
theorem pw_or (ha : PT X a tA) (hb : PW X (.BoolOp .Or (b :: rest) pos) tB') : PW X (.BoolOp .Or (a :: b :: rest) pos) (tOr tA tB') := by
  intro wh pins s σ H Q I h
  refine isTrue_or (thn (ha pins s σ H _ I h) fun c s1 ⟨H1, I1, q1⟩ => ?_)
  cases c with
  | true => exact ⟨H1, I1, q1⟩
  | false => exact hb wh pins s1 σ H1 Q I1 q1
theorem pt_not (ha : PT X a tA) : PT X (.UnaryOp .Not a pos) (tNot tA) := by
  intro pins s σ H Q I h
  exact isTrue_not (ha pins s σ H (fun c H1 => Q (!c) H1) I h)
def tAndV (ta tb : TE) : TE := fun σ H Q => ta σ H fun x H1 => ∃ c, x = .bl c ∧ if c = true then tb σ H1 Q else Q (.bl false) H1
def tOrV (ta tb : TE) : TE := fun σ H Q => ta σ H fun x H1 => ∃ c, x = .bl c ∧ if c = true then Q (.bl true) H1 else tb σ H1 Q
def tNotV (ta : TE) : TE := fun σ H Q => ta σ H fun x H1 => ∃ c, x = .bl c ∧ Q (.bl (!c)) H1
theorem pe_one {op} {t : TE} (h : PE X a t) : PE X (.BoolOp op [a] pos) t := fun pins s σ H Q I hw => BoolOp_one (h pins s σ H Q I hw)
theorem pe_and (ha : PE X a ta) (hb : PE X (.BoolOp .And (b :: rest) pos) tb) : PE X (.BoolOp .And (a :: b :: rest) pos) (tAndV ta tb) := by
  intro pins s σ H Q I h
  refine BoolOp_and (thn (ha pins s σ H _ I h) fun v s1 ⟨x, H1, I1, r1, q1⟩ => ?_)
  obtain ⟨c, rfl, q1⟩ := q1
  cases r1
  refine wpAny_truthy_bool ?_
  cases c with
  | true => exact hb pins s1 σ H1 Q I1 q1
  | false => exact ⟨.bl false, H1, I1, rfl, q1⟩
theorem pe_or (ha : PE X a ta) (hb : PE X (.BoolOp .Or (b :: rest) pos) tb) : PE X (.BoolOp .Or (a :: b :: rest) pos) (tOrV ta tb) := by
  intro pins s σ H Q I h
  refine BoolOp_or (thn (ha pins s σ H _ I h) fun v s1 ⟨x, H1, I1, r1, q1⟩ => ?_)
  obtain ⟨c, rfl, q1⟩ := q1
  cases r1
  refine wpAny_truthy_bool ?_
  cases c with
  | false => exact hb pins s1 σ H1 Q I1 q1
  | true => exact ⟨.bl true, H1, I1, rfl, q1⟩
theorem pe_not (ha : PE X a ta) : PE X (.UnaryOp .Not a pos) (tNotV ta) := by
  intro pins s σ H Q I h
  refine UnaryOp_ (thn (ha pins s σ H _ I h) fun v s1 ⟨x, H1, I1, r1, q1⟩ => ?_)
  obtain ⟨c, rfl, q1⟩ := q1
  cases r1
  exact not_of (wpAny_truthy_bool ⟨.bl (!c), H1, I1, rfl, q1⟩)
end
end L2
namespace L2
open PySem PySem.Spec PyProof.Rows
def SqL (K : PySem.W.Frag) (H : Hp) (a : Addr) (xs : List V) : Prop :=
  Rd H a (.lst xs) ∨
    ∃ (o : Obj) (its : Array Value) (n : Nat), K.lookup a = some o ∧ o.cls = .type "list" ∧ o.dict = none ∧ o.data = .seq its n ∧ its.size ≤ sizeLine ∧ Vals xs its.toList
def SqT (K : PySem.W.Frag) (H : Hp) (a : Addr) (xs : List V) : Prop :=
  Rd H a (.tup xs) ∨
    ∃ (o : Obj) (its : Array Value) (n : Nat), K.lookup a = some o ∧ o.cls = .type "tuple" ∧ o.data = .seq its n ∧ its.size ≤ sizeLine ∧ Vals xs its.toList
def absV : Value → Option V
  | .none => some .non
  | .bool b => some (.bl b)
  | .int i _ => some (.int i)
  | .str x _ => some (.str x)
  | .bytes b _ => some (.byt b)
  | .float b _ => some (.flt b)
  | .ref a => some (.ref a)
  | .type n => some (.ty n)
  | _ => none
theorem RelV.abs {x : V} {u : Value} (r : RelV x u) : absV u = some x := by
  cases x with
  | non => cases r; rfl
  | bl _ => cases r; rfl
  | int _ => obtain ⟨t, rfl⟩ := r; rfl
  | str _ => obtain ⟨t, rfl⟩ := r; rfl
  | byt _ => obtain ⟨t, rfl⟩ := r; rfl
  | flt _ => obtain ⟨t, rfl⟩ := r; rfl
  | ref _ => cases r; rfl
  | ty _ => cases r; rfl
theorem RelV.inj {x y : V} {u : Value} (r : RelV x u) (q : RelV y u) : x = y := Option.some.inj (r.abs.symm.trans q.abs)
theorem Vals.inj : ∀ {xs ys : List V} {us : List Value}, Vals xs us → Vals ys us → xs = ys
  | _, _, _, .nil, .nil => rfl
  | _, _, _, .cons r t, .cons r' t' => by rw [r.inj r', Vals.inj t t']
section
variable {X : Cx} {pins : List (Addr × Obj)} {σ : St} {H : Hp} {s : Shared} {a : Addr} {xs ys : List V}
theorem SqL.of {K : PySem.W.Frag} (h : H a = some (.lst xs)) : SqL K H a xs := .inl (.inl h)
theorem SqT.of {K : PySem.W.Frag} (h : H a = some (.tup xs)) : SqT K H a xs := .inl (.inl h)
theorem Inv.list (I : Inv X pins σ H s) (h : SqL X.K H a xs) : ∃ its : List Value, Vals xs its ∧ PlainL s.heap a its.toArray ∧ xs.length ≤ sizeLine := by
  rcases h with h | ⟨o, its, n, hk, hc, hd, hs, hz, r⟩
  · obtain ⟨z, its, n, r, e⟩ := h.ok I.hok
    exact ⟨its, r, ⟨_, n, e, rfl, rfl, rfl⟩, z⟩
  · refine ⟨its.toList, r, ⟨o, n, I.kIn a o hk, hc, hd, by simpa using hs⟩, ?_⟩
    have e := r.length
    simp only [Array.length_toList] at e
    omega
theorem Inv.tuple (I : Inv X pins σ H s) (h : SqT X.K H a xs) : ∃ its : List Value, Vals xs its ∧ IsTup s.heap a its.toArray ∧ xs.length ≤ sizeLine := by
  rcases h with h | ⟨o, its, n, hk, hc, hs, hz, r⟩
  · obtain ⟨z, its, r, p⟩ := h.ok I.hok
    exact ⟨its, r, p, z⟩
  · refine ⟨its.toList, r, ⟨o, I.kIn a o hk, hc, n, by simpa using hs⟩, ?_⟩
    have e := r.length
    simp only [Array.length_toList] at e
    omega
theorem Inv.list_inj (I : Inv X pins σ H s) (h : SqL X.K H a xs) (h' : SqL X.K H a ys) : xs = ys := by
  obtain ⟨its, r, ⟨o, n, e, _, _, d⟩, _⟩ := I.list h
  obtain ⟨its', r', ⟨o', n', e', _, _, d'⟩, _⟩ := I.list h'
  rw [e] at e'; cases e'
  rw [d] at d'
  injection d' with d1 _
  have : its = its' := by simpa using congrArg Array.toList d1
  subst this
  exact r.inj r'
theorem Inv.tuple_inj (I : Inv X pins σ H s) (h : SqT X.K H a xs) (h' : SqT X.K H a ys) : xs = ys := by
  obtain ⟨its, r, ⟨o, e, _, n, d⟩, _⟩ := I.tuple h
  obtain ⟨its', r', ⟨o', e', _, n', d'⟩, _⟩ := I.tuple h'
  rw [e] at e'; cases e'
  rw [d] at d'
  injection d' with d1 _
  have : its = its' := by simpa using congrArg Array.toList d1
  subst this
  exact r.inj r'
end
abbrev Cx.wish (X : Cx) (E : Value → Shared → Prop) : Cx := { X with xe := E }
abbrev Cx.nox (X : Cx) : Cx := X.wish fun _ _ => False
theorem Cx.Ok.wish {X : Cx} (ok : X.Ok) (E : Value → Shared → Prop) : (X.wish E).Ok :=
  ⟨ok.mod, ok.kind, ok.glob, ok.blt, ok.above, ok.inj, ok.has, ok.cab, ok.hd, ok.frames, ok.stk, ok.exf, ok.bs, ok.bsz, ok.noex, ok.exfs, ok.funs, ok.frf⟩
theorem Cx.Ok.unwish {X : Cx} {E : Value → Shared → Prop} (ok : (X.wish E).Ok) : X.Ok :=
  ⟨ok.mod, ok.kind, ok.glob, ok.blt, ok.above, ok.inj, ok.has, ok.cab, ok.hd, ok.frames, ok.stk, ok.exf, ok.bs, ok.bsz, ok.noex, ok.exfs, ok.funs, ok.frf⟩
section
variable {X : Cx} {pins : List (Addr × Obj)} {σ : St} {H : Hp} {s : Shared} {E : Value → Shared → Prop}
theorem Inv.wish (I : Inv X pins σ H s) (E : Value → Shared → Prop) : Inv (X.wish E) pins σ H s := ⟨I.ok.wish E, I.os, I.bare, I.base, I.loc, I.cell, I.free, I.freeC, I.pin, I.hok, I.len⟩
theorem Inv.unwish (I : Inv (X.wish E) pins σ H s) : Inv X pins σ H s := ⟨I.ok.unwish, I.os, I.bare, I.base, I.loc, I.cell, I.free, I.freeC, I.pin, I.hok, I.len⟩
theorem SP.unwish {D : Ends} {f : Flow} {s' : Shared} (h : SP (X.wish E) pins D f s') : SP X pins D f s' := by
  cases f with
  | next => obtain ⟨σ', H', I, q⟩ := h; exact ⟨σ', H', I.unwish, q⟩
  | brk => obtain ⟨σ', H', I, q⟩ := h; exact ⟨σ', H', I.unwish, q⟩
  | cont => obtain ⟨σ', H', I, q⟩ := h; exact ⟨σ', H', I.unwish, q⟩
  | ret u => obtain ⟨v, σ', H', I, r, q⟩ := h; exact ⟨v, σ', H', I.unwish, r, q⟩
theorem PE.nox {e : Expr} {t : TE} (h : PE X.nox e t) : PE X e t := fun pins s σ H Q I hw =>
  wpAny_mono (h pins s σ H Q (I.wish _) hw) (fun _ _ ⟨v, H', I', r, q⟩ => ⟨v, H', I'.unwish, r, q⟩) fun _ _ z => False.elim z
theorem PT.nox {e : Expr} {t : TT} (h : PT X.nox e t) : PT X e t := fun pins s σ H Q I hw =>
  wpAny_mono (h pins s σ H Q (I.wish _) hw) (fun _ _ ⟨H', I', q⟩ => ⟨H', I'.unwish, q⟩) fun _ _ z => False.elim z
theorem PSs.nox {st : List Stmt} {t : TS} (h : PSs X.nox st t) : PSs X st t := fun pins s σ H D I hw =>
  wpAny_mono (h pins s σ H D (I.wish _) hw) (fun _ _ q => q.unwish) fun _ _ z => False.elim z
end
section
variable {X : Cx} {st : Stmt} {rest : List Stmt} {t u : TS} {e : Expr} {te : TE} {pos : Pos}
def tNext : TS := fun D σ H => D.nx σ H
def tSeq (t u : TS) : TS := fun D σ H => t { D with nx := u D } σ H
theorem pss_nil : PSs X [] tNext := fun _ _ σ H _ I h => wpAny_execs_nil ⟨σ, H, I, h⟩
theorem pss_cons (h1 : PS X st t) (h2 : PSs X rest u) : PSs X (st :: rest) (tSeq t u) := by
  intro pins s σ H D I h
  refine wpAny_execs_cons (thn (h1 pins s σ H { D with nx := u D } I h) fun f s1 q => ?_)
  cases f with
  | next =>
    obtain ⟨σ', H', I', q⟩ := q
    exact h2 pins s1 σ' H' D I' q
  | ret v => exact q
  | brk => exact q
  | cont => exact q
theorem pss_one (h1 : PS X st t) : PSs X [st] t := by
  intro pins s σ H D I h
  refine wpAny_execs_cons (thn (h1 pins s σ H D I h) fun f s1 q => ?_)
  cases f with
  | next => exact wpAny_execs_nil q
  | ret v => exact q
  | brk => exact q
  | cont => exact q
def tRet (te : TE) : TS := fun D σ H => te σ H D.rt
theorem ps_ret (he : PE X e te) : PS X (.Return (some e) pos) (tRet te) := by
  intro pins s σ H D I h
  exact wpAny_Return_some (thn (he pins s σ H _ I h) fun v s1 ⟨x, H1, I1, r1, q1⟩ => ⟨x, σ, H1, I1, r1, q1⟩)
def tIfS (c : TT) (t u : TS) : TS := fun D σ H => c σ H fun b H1 => if b = true then t D σ H1 else u D σ H1
theorem ps_if {c : Expr} {a b : List Stmt} {tc : TT} (hc : PT X c tc) (ha : PSs X a t) (hb : PSs X b u) : PS X (.If c a b pos) (tIfS tc t u) := by
  intro pins s σ H D I h
  refine wpAny_If (thn (hc pins s σ H _ I h) fun d s1 ⟨H1, I1, q1⟩ => ?_)
  cases d with
  | true => exact ha pins s1 σ H1 D I1 q1
  | false => exact hb pins s1 σ H1 D I1 q1
end
abbrev TG := V → St → Hp → (St → Hp → Prop) → Prop
abbrev TGs := List V → St → Hp → (St → Hp → Prop) → Prop
def PG (X : Cx) (target : Expr) (t : TG) : Prop :=
  ∀ (pins : List (Addr × Obj)) (s : Shared) (σ : St) (H : Hp) (v : V) (u : Value) (Q : St → Hp → Prop), Inv X pins σ H s → RelV v u → t v σ H Q →
    wpAny (model X.prog X.w) X.A (assign target X.env u) (fun _ s' => ∃ σ' H', Inv X pins σ' H' s' ∧ Q σ' H') X.xe s
def PGs (X : Cx) (ts : List Expr) (t : TGs) : Prop :=
  ∀ (pins : List (Addr × Obj)) (s : Shared) (σ : St) (H : Hp) (vs : List V) (us : List Value) (Q : St → Hp → Prop), Inv X pins σ H s → Vals vs us → t vs σ H Q →
    wpAny (model X.prog X.w) X.A (assignInOrder ((assignEach ts X.env).map (·.2)) us) (fun _ s' => ∃ σ' H', Inv X pins σ' H' s' ∧ Q σ' H') X.xe s
abbrev TSet := V → V → V → Hp → (Hp → Prop) → Prop
def PSet (X : Cx) (t : TSet) : Prop :=
  ∀ (pins : List (Addr × Obj)) (s : Shared) (σ : St) (H : Hp) (o i v : V) (ov iv u : Value) (Q : Hp → Prop), Inv X pins σ H s → RelV o ov → RelV i iv → RelV v u → t o i v H Q →
    wpAny (model X.prog X.w) X.A (setItem ov iv u) (fun _ s' => ∃ H', Inv X pins σ H' s' ∧ Q H') X.xe s
section
variable {X : Cx} {pos : Pos}
def gName (i : Nat) : TG := fun v σ H Q => Q (σ.set i (some v)) H
theorem pg_name {i : Nat} {x : Str} (hN : X.N.Nodup) (hi : X.N[i]? = some x) (hx : Loc X.env.scope x) (hf : X.fn x = true ∨ X.env.scope.names.lookup x = some .local := by first | exact .inl rfl | exact .inr rfl | assumption) : PG X (.Name x pos) (gName i) := by
  intro pins s σ H v u Q I r h
  exact wpAny_assign_Name (store_ok I hN hi hx r (fun s' I' => ⟨_, H, I', h⟩) hf)
def gNil : TGs := fun vs σ H Q => vs = [] ∧ Q σ H
def gCons (t : TG) (u : TGs) : TGs := fun vs σ H Q => ∃ v r, vs = v :: r ∧ t v σ H fun σ' H' => u r σ' H' Q
theorem pgs_nil : PGs X [] gNil := by
  intro pins s σ H vs us Q I r h
  obtain ⟨e, h⟩ := h
  subst e
  cases r
  exact assignInOrder_nil ⟨σ, H, I, h⟩
theorem pgs_cons {e : Expr} {es : List Expr} {t : TG} {u : TGs} (h1 : PG X e t) (h2 : PGs X es u)
    (hs : (assignEach (e :: es) X.env).map (·.2) = assign e X.env :: (assignEach es X.env).map (·.2) := by rfl) : PGs X (e :: es) (gCons t u) := by
  intro pins s σ H vs us Q I r h
  obtain ⟨v, vr, e1, h⟩ := h
  subst e1
  cases r with
  | cons r rr =>
    rw [hs]
    refine assignInOrder_cons (thn (h1 pins s σ H _ _ _ I r h) fun _ s1 ⟨σ1, H1, I1, q1⟩ => ?_)
    exact h2 pins s1 σ1 H1 _ _ Q I1 rr q1
def gTup (K : PySem.W.Frag) (n : Nat) (t : TGs) : TG := fun v σ H Q => ∃ a xs, v = .ref a ∧ SqT K H a xs ∧ xs.length = n ∧ t xs σ H Q
theorem pg_tup {es : List Expr} {k : Nat} {t : TGs} {n : Nat} (hc : X.calm = true) (h : PGs X es t)
    (hn : (assignEach es X.env).length = n := by rfl) (hst : (assignEach es X.env).findIdx? (·.1) = none := by rfl) : PG X (.Tuple es k pos) (gTup X.K n t) := by
  intro pins s σ H v u Q I r hw
  obtain ⟨a, xs, e1, hq, hl, hw⟩ := hw
  subst e1
  cases r
  obtain ⟨its, rv, ht, hz⟩ := I.tuple hq
  refine assign_Tuple_tuple (I.ok.hd hc) ht (by simp [hn, ← hl, rv.length]) hst fun h' hx => ?_
  have I1 : Inv X pins σ H { s with heap := h' } := I.kept (t' := s.toks) fun b o e => hx b o (Nat.ne_of_lt (Heap.lt_size e)) e
  exact h pins _ σ H xs _ Q I1 (by simpa using rv) hw
def gSub (to ti : TE) (t : TSet) : TG := fun v σ H Q => to σ H fun o H1 => ti σ H1 fun i H2 => t o i v H2 fun H3 => Q σ H3
theorem pg_sub {o i : Expr} {to ti : TE} {t : TSet} (ho : PE X o to) (hi : PE X i ti) (hs : PSet X t)
    (ha : ∀ v, assign (.Subscript o i pos) X.env v = (do
      let ov ← holding [v] (eval o X.env)
      let iv ← holding [v, ov] (eval i X.env)
      standAt pos
      holding [v, ov, iv] (setItem ov iv v)
      release [v, ov, iv] []) := by intro _; rfl) : PG X (.Subscript o i pos) (gSub to ti t) := by
  intro pins s σ H v u Q I r h
  rw [ha]
  refine wpAny_bind (wpAny_holding (thn (ho pins s σ H _ I h) fun ov s1 ⟨x, H1, I1, r1, q1⟩ => ?_))
  refine wpAny_bind (wpAny_holding (thn (hi pins s1 σ H1 _ I1 q1) fun iv s2 ⟨y, H2, I2, r2, q2⟩ => ?_))
  refine wpAny_bind (wpAny_standAt (wpAny_bind (wpAny_holding (thn (hs pins s2 σ H2 x y v ov iv u _ I2 r1 r2 r q2) fun _ s3 ⟨H3, I3, q3⟩ => ?_))))
  exact wpAny_release ⟨σ, H3, I3, q3⟩
def tAsg (te : TE) (g : TG) : TS := fun D σ H => te σ H fun x H1 => g x σ H1 D.nx
theorem ps_asg {tg e : Expr} {te : TE} {g : TG} (he : PE X e te) (hg : PG X tg g) (hs : swapsWithSole [tg] e pos.line X.env = pure false := by rfl) (hw : swappedStores [tg] e X.env = pure none := by rfl)
    (h1 : (assignEach [tg] X.env).map (·.2) = [assign tg X.env] := by rfl) : PS X (.Assign [tg] e pos) (tAsg te g) := by
  intro pins s σ H D I h
  refine wpAny_Assign_stores (thn (he pins s σ H _ I h) fun v s1 ⟨x, H1, I1, r1, q1⟩ => ?_) hs hw
  rw [h1]
  exact thn (hg pins s1 σ H1 x v _ I1 r1 q1) fun _ s2 q => q
theorem ps_set {i : Nat} {x : Str} {e : Expr} {te : TE} {pos' : Pos} (hN : X.N.Nodup) (hi : X.N[i]? = some x) (hx : Loc X.env.scope x) (he : PE X e te) (hs : swapsWith e (some (.Name x pos')) pos.line X.env = pure false := by rfl) (hf : X.fn x = true ∨ X.env.scope.names.lookup x = some .local := by first | exact .inl rfl | exact .inr rfl | assumption) :
    PS X (.Assign [.Name x pos'] e pos) (tAsg te (gName i)) := by
  intro pins s σ H D I h
  refine wpAny_Assign_Name (thn (he pins s σ H _ I h) fun v s1 ⟨y, H1, I1, r1, q1⟩ => ?_) hs
  exact store_ok I1 hN hi hx r1 (fun s2 I2 => ⟨_, H1, I2, q1⟩) hf
def tPar (i j : Nat) (ta : TA) : TS := fun D σ H => ta σ H fun vs H1 => ∃ v w, vs = [v, w] ∧ D.nx ((σ.set i (some v)).set j (some w)) H1
theorem ps_par {i j : Nat} {x y : Str} {a b : Expr} {ta : TA} {px py pt : Pos} {kt k2 pt2} (hc : X.calm = true) (hN : X.N.Nodup) (hi : X.N[i]? = some x) (hj : X.N[j]? = some y) (hij : i ≠ j)
    (hx : X.env.scope.names.lookup x = some .local) (hy : X.env.scope.names.lookup y = some .local) (ha : PA X [a, b] ta)
    (hw : swappedStores [.Tuple [.Name x px, .Name y py] kt pt] (.Tuple [a, b] k2 pt2) X.env = pure (some [x, y]))
    (hs : swapsWithSole [.Tuple [.Name x px, .Name y py] kt pt] (.Tuple [a, b] k2 pt2) pos.line X.env = pure false := by rfl) :
    PS X (.Assign [.Tuple [.Name x px, .Name y py] kt pt] (.Tuple [a, b] k2 pt2) pos) (tPar i j ta) := by
  intro pins s σ H D I h
  rw [exec_Assign_arm]
  refine wpAny_bind (wpAny_standAt ?_)
  rw [hs]
  refine wpAny_bind (wpAny_pure ?_)
  rw [if_neg (by decide)]
  refine wpAny_bind (Tuple_ (thn (ha _ pins s σ H _ I h) fun us s1 ⟨vs, H1, I1, r1, q1⟩ => ?_))
  obtain ⟨v, w, e1, q1⟩ := q1
  subst e1
  obtain ⟨u1, u2, rfl, rv, rw'⟩ : ∃ u1 u2, us = [u1, u2] ∧ RelV v u1 ∧ RelV w u2 := by
    cases r1 with
    | cons p q =>
      cases q with
      | cons p' q' =>
        cases q'
        exact ⟨_, _, rfl, p, p'⟩
  refine wpAny_newObj_type ?_ (by show 2 ≤ sizeLine; decide)
  have I2 : Inv X pins σ H1 { s1 with heap := s1.heap.push { cls := .type "tuple", data := .seq [u1, u2].toArray } } := I1.kept (t' := s1.toks) fun b o e => Heap.get?_push_of_some _ e
  rw [hw]
  refine wpAny_bind (wpAny_pure ?_)
  show wpAny (model X.prog X.w) X.A (do rule "assign.swapped-stores"; let items ← unpackItems (.ref s1.heap.objs.size) 2 none; assignInOrder [fun v => bindName X.env y v, fun v => bindName X.env x v] items.reverse; pure Flow.next) _ _ _
  refine wpAny_bind (wpAny_rule (wpAny_bind (unpackItems_tuple (items := #[u1, u2]) (I.ok.hd hc) (IsTup.new s1.heap _) fun h' hx' => ?_)))
  have I3 := I2.kept (h' := h') (t' := s1.toks) fun b o e => hx' b o (Nat.ne_of_lt (Heap.lt_size e)) e
  show wpAny _ _ (assignInOrder [fun v => bindName X.env y v, fun v => bindName X.env x v] [u2, u1] >>= fun _ => pure Flow.next) _ _ _
  refine wpAny_bind (assignInOrder_cons (wpAny_bindName (store_ok I3 hN hj (.inl hy) rw' (fun s2 I4 => ?_) (.inr hy))))
  refine assignInOrder_cons (wpAny_bindName (store_ok I4 hN hi (.inl hx) rv (fun s3 I5 => assignInOrder_nil (wpAny_pure ?_)) (.inr hx)))
  rw [List.set_comm _ _ (Ne.symm hij)] at I5
  exact ⟨_, H1, I5, q1⟩
end
section
variable {X : Cx} {pos : Pos}
def tWhile (c : TT) (tb : TS) : TS := fun D σ H => ∃ W : Nat → St → Hp → Prop, (∃ m, W m σ H) ∧ ∀ m σ H, W m σ H →
  c σ H fun b H1 => if b = true then ∃ N : St → Hp → Prop, (∀ σ' H', N σ' H' → ∃ m', m' < m ∧ W m' σ' H') ∧ tb { D with nx := N, ct := N, bk := D.nx } σ H1 else D.nx σ H1
theorem ps_while {c : Expr} {body : List Stmt} {tc : TT} {tb : TS} (hp : PassesOwn (model X.prog X.w) X.A X.env X.xe) (hc : PT X c tc) (hb : PSs X body tb) : PS X (.While c body [] pos) (tWhile tc tb) := by
  intro pins s σ H D I h
  obtain ⟨W, ⟨m0, w0⟩, turn⟩ := h
  refine wpAny_While (codeAny_whileLoop (fun n s' => ∃ σ' H', Inv X pins σ' H' s' ∧ W n σ' H') ?_ m0 ⟨σ, H, I, w0⟩)
  rintro n s1 ⟨σ1, H1, I1, w1⟩
  refine wpAny_passesOwn hp (thn (hc pins s1 σ1 H1 _ I1 (turn n σ1 H1 w1)) fun b s2 ⟨H2, I2, q2⟩ => ?_)
  cases b with
  | true =>
    obtain ⟨N, hN, q2⟩ := q2
    rw [if_pos rfl]
    refine wpAny_passesOwn hp (thn (hb pins s2 σ1 H2 _ I2 q2) fun f s3 q3 => ?_)
    cases f with
    | next =>
      obtain ⟨σ3, H3, I3, n3⟩ := q3
      obtain ⟨m', hm, w3⟩ := hN σ3 H3 n3
      exact ⟨m', hm, σ3, H3, I3, w3⟩
    | cont =>
      obtain ⟨σ3, H3, I3, n3⟩ := q3
      obtain ⟨m', hm, w3⟩ := hN σ3 H3 n3
      exact ⟨m', hm, σ3, H3, I3, w3⟩
    | brk => exact q3
    | ret v => exact q3
  | false =>
    rw [if_neg Bool.false_ne_true]
    exact wpAny_execs_nil ⟨σ1, H2, I2, q2⟩
end
structure It where
  go : Nat → Hp → Prop
  yld : Nat → Hp → V → Hp → Prop
  stop : Nat → Hp → Prop
def FpOk (X : Cx) (pins : List (Addr × Obj)) (H : Hp) (b : Addr) : Prop :=
  H b = none ∧ b ≠ X.env.locals ∧ b ∉ X.fs ∧ (b ∈ X.ex ∨ X.s_0.heap.objs.size ≤ b) ∧ (∀ x c, X.env.cells.lookup x = some c → c ≠ b) ∧ ∀ p ∈ X.pn ++ pins, p.1 ≠ b
theorem Inv.fpOk {X : Cx} {pins : List (Addr × Obj)} {σ : St} {H H' : Hp} {s : Shared} {b : Addr} (I : Inv X pins σ H s) (hb : s.heap.objs.size ≤ b) (hn : H' b = none) : FpOk X pins H' b := by
  refine ⟨hn, Nat.ne_of_gt (Nat.lt_of_lt_of_le I.lt hb), I.nofs hb, .inr (Nat.le_trans I.sz hb), fun x c e z => ?_, fun p hp z => ?_⟩
  · obtain ⟨v, q⟩ := I.cell x c e
    exact absurd (Nat.lt_of_lt_of_le q.lt (by rw [z]; exact hb)) (Nat.lt_irrefl _)
  · exact absurd (Nat.lt_of_lt_of_le (Heap.lt_size (I.pin p hp).1) (by rw [z]; exact hb)) (Nat.lt_irrefl _)
structure Turn (P : Program) (w : World) (K : PySem.W.Frag) (tg : Expr) (J : It) (fp : List Addr) (it : Addr) (tn : Nat → Heap → Prop) : Prop where
  mem : it ∈ fp
  obj : ∀ i h, tn i h → ∀ b ∈ fp, ∃ o, h.get? b = some o ∧ ∀ v, o.data ≠ .cell v
  keep : ∀ i h h', tn i h → (∀ b ∈ fp, ∀ o, h.get? b = some o → h'.get? b = some o) → tn i h'
  item : ∀ (X : Cx), X.prog = P → X.w = w → X.K = K → X.calm = true → ∀ (i : Nat) (pins : List (Addr × Obj)) (s : Shared) (σ : St) (H : Hp) (E : Value → Shared → Prop), Inv X pins σ H s → (∀ b ∈ fp, FpOk X pins H b) → tn i s.heap → J.go i H →
    wpAny (model P w) X.A (pyNext (.ref it)) (fun r s1 => ∃ u, r = some u ∧
      wpAny (model P w) X.A (letOwnedTupleGo tg (.ref it) u) (fun _ s2 => ∃ x H', Inv X pins σ H' s2 ∧ RelV x u ∧ J.yld i H x H' ∧ tn (i + 1) s2.heap ∧ ∀ b ∈ fp, H' b = none) E s1) E s
  done : ∀ (X : Cx), X.prog = P → X.w = w → X.K = K → X.calm = true → ∀ (i : Nat) (pins : List (Addr × Obj)) (s : Shared) (σ : St) (H : Hp) (E : Value → Shared → Prop), Inv X pins σ H s → (∀ b ∈ fp, FpOk X pins H b) → tn i s.heap → J.stop i H →
    wpAny (model P w) X.A (pyNext (.ref it)) (fun r s1 => r = none ∧ Inv X pins σ H s1) E s
  self : ∀ (A : Around) (i : Nat) (s : Shared) (Q : Value → Shared → Prop) (E : Value → Shared → Prop), tn i s.heap → Q (.ref it) s → wpAny (model P w) A (pyIter (.ref it)) Q E s
abbrev TI := St → Hp → (It → Hp → Prop) → Prop
def PIE (X : Cx) (pins : List (Addr × Obj)) (σ : St) (tg : Expr) (R : It → Hp → Prop) (itv : Value) (s2 : Shared) : Prop :=
  ∃ (it : Addr) (fp : List Addr) (tn : Nat → Heap → Prop) (J : It) (H' : Hp), itv = .ref it ∧ Inv X pins σ H' s2 ∧ Turn X.prog X.w X.K tg J fp it tn ∧ tn 0 s2.heap ∧ (∀ b ∈ fp, FpOk X pins H' b) ∧ R J H'
def PI (X : Cx) (tg iter : Expr) (wi : TI) : Prop :=
  ∀ (pins : List (Addr × Obj)) (s : Shared) (σ : St) (H : Hp) (R : It → Hp → Prop), Inv X pins σ H s → wi σ H R →
    wpAny (model X.prog X.w) X.A (eval iter X.env) (fun v s1 => wpAny (model X.prog X.w) X.A (pyIter v) (PIE X pins σ tg R) X.xe s1) X.xe s
theorem go_of {M : Model} {A : Around} {E : Value → Shared → Prop} {s : Shared} {tg : Expr} {it : Addr} {u : Value} {o : Obj} {n : String} {vs : Array Value} {Q : Unit → Shared → Prop} (ho : s.heap.get? it = some o) (hc : o.cls = .type n) (hd : o.data = .fields vs)
    (hn : ["enumerate", "zip", "dict_itemiterator", "dict_reverseitemiterator", "odict_iterator", "itertools.zip_longest", "itertools.pairwise"].contains n = false) (hQ : Q () s) : wpAny M A (letOwnedTupleGo tg (.ref it) u) Q E s := by
  unfold letOwnedTupleGo
  cases tg <;> first
    | exact wpAny_pure hQ
    | (cases u <;> first
        | exact wpAny_pure hQ
        | (refine wpAny_bind (wpAny_load ho ?_)
           rw [hc, hd]
           show wpAny M A (if (["enumerate", "zip", "dict_itemiterator", "dict_reverseitemiterator", "odict_iterator", "itertools.zip_longest", "itertools.pairwise"].contains n && vs[0]? == some (rawInt _)) = true then _ else _) Q E s
           rw [if_neg (by intro h; rw [hn, Bool.false_and] at h; cases h)]
           exact wpAny_pure hQ))
def Itl (K : PySem.W.Frag) (a : Addr) : It :=
  ⟨fun i H => ∃ xs x, SqL K H a xs ∧ xs[i]? = some x, fun i H x H' => H' = H ∧ ∀ xs, SqL K H a xs → xs[i]? = some x, fun i H => ∃ xs, SqL K H a xs ∧ xs.length ≤ i⟩
def Itt (K : PySem.W.Frag) (a : Addr) : It :=
  ⟨fun i H => ∃ xs x, SqT K H a xs ∧ xs[i]? = some x, fun i H x H' => H' = H ∧ ∀ xs, SqT K H a xs → xs[i]? = some x, fun i H => ∃ xs, SqT K H a xs ∧ xs.length ≤ i⟩
def Itr (lo : Int) (n : Nat) : It := ⟨fun i _ => i < n, fun i H x H' => H' = H ∧ x = .int (lo + i), fun i _ => n ≤ i⟩
theorem turn_list {P : Program} {w : World} {K : PySem.W.Frag} {tg : Expr} (a it : Addr) : Turn P w K tg (Itl K a) [it] it (fun i h => h.IsListIter it a i) where
  mem := by simp
  obj := fun i h st b hb => by
    have e : b = it := by simpa using hb
    subst e
    obtain ⟨o, e, c, d⟩ := st
    exact ⟨o, e, fun v z => by rw [d] at z; cases z⟩
  keep := fun i h h' st k => st.at fun o e => k it (by simp) o e
  item := by
    intro X hP hw hK hc i pins s σ H E I hf st hg
    subst hP hw hK
    obtain ⟨xs, x, hq, hx⟩ := hg
    obtain ⟨its, rv, p, hz⟩ := I.list hq
    obtain ⟨u, hu, ru⟩ := rv.get hx
    obtain ⟨f0, f1, f2, f3, f4, f5⟩ := hf it (by simp)
    refine wpAny_pyNext_list_item st p.isList (x := u) (by simpa using hu) fun h' st' sb => ?_
    have I1 : Inv X pins σ H { s with heap := h' } := I.turned (t' := s.toks) (fun b o hb e => (sb.2 b hb).trans e) f0 f1 f3 f4 f5
    obtain ⟨o, e, c, d⟩ := id st'
    exact ⟨u, rfl, go_of (s := { s with heap := h' }) e c d (by decide) ⟨x, H, I1, ru, ⟨rfl, fun ys hy => by rw [I.list_inj hy hq]; exact hx⟩, st', fun b hb => (hf b hb).1⟩⟩
  done := by
    intro X hP hw hK hc i pins s σ H E I hf st hg
    subst hP hw hK
    obtain ⟨xs, hq, hx⟩ := hg
    obtain ⟨its, rv, p, hz⟩ := I.list hq
    obtain ⟨f0, f1, f2, f3, f4, f5⟩ := hf it (by simp)
    have hl := rv.length
    exact wpAny_pyNext_list_end (I.ok.hd hc) st p.isList (by simp; omega) fun h' eb => ⟨rfl, I.turned (t' := s.toks) (fun b o hb e => eb b o hb e) f0 f1 f3 f4 f5⟩
  self := fun _ _ _ _ _ st h => wpAny_pyIter_listiter st h
theorem turn_tuple {P : Program} {w : World} {K : PySem.W.Frag} {tg : Expr} (a it : Addr) : Turn P w K tg (Itt K a) [it] it (fun i h => h.IsTupleIter it a i) where
  mem := by simp
  obj := fun i h st b hb => by
    have e : b = it := by simpa using hb
    subst e
    obtain ⟨o, e, c, d⟩ := st
    exact ⟨o, e, fun v z => by rw [d] at z; cases z⟩
  keep := fun i h h' st k => st.at fun o e => k it (by simp) o e
  item := by
    intro X hP hw hK hc i pins s σ H E I hf st hg
    subst hP hw hK
    obtain ⟨xs, x, hq, hx⟩ := hg
    obtain ⟨its, rv, p, hz⟩ := I.tuple hq
    obtain ⟨u, hu, ru⟩ := rv.get hx
    obtain ⟨f0, f1, f2, f3, f4, f5⟩ := hf it (by simp)
    refine wpAny_pyNext_tuple_item st (show s.heap.IsTuple a its.toArray from p) (x := u) (by simpa using hu) fun h' st' sb => ?_
    have I1 : Inv X pins σ H { s with heap := h' } := I.turned (t' := s.toks) (fun b o hb e => (sb.2 b hb).trans e) f0 f1 f3 f4 f5
    obtain ⟨o, e, c, d⟩ := id st'
    exact ⟨u, rfl, go_of (s := { s with heap := h' }) e c d (by decide) ⟨x, H, I1, ru, ⟨rfl, fun ys hy => by rw [I.tuple_inj hy hq]; exact hx⟩, st', fun b hb => (hf b hb).1⟩⟩
  done := by
    intro X hP hw hK hc i pins s σ H E I hf st hg
    subst hP hw hK
    obtain ⟨xs, hq, hx⟩ := hg
    obtain ⟨its, rv, p, hz⟩ := I.tuple hq
    obtain ⟨f0, f1, f2, f3, f4, f5⟩ := hf it (by simp)
    have hl := rv.length
    exact wpAny_pyNext_tuple_end (I.ok.hd hc) st (show s.heap.IsTuple a its.toArray from p) (by simp; omega) fun h' eb => ⟨rfl, I.turned (t' := s.toks) (fun b o hb e => eb b o hb e) f0 f1 f3 f4 f5⟩
  self := fun _ _ _ _ _ st h => wpAny_pyIter_tupleiter st h
theorem turn_range {P : Program} {w : World} {K : PySem.W.Frag} {tg : Expr} (it : Addr) (lo : Int) (n : Nat) : Turn P w K tg (Itr lo n) [it] it (fun i h => IsRangeIter h it (lo + (i : Nat) * 1) ((n : Int) - (i : Nat)) 1) where
  mem := by simp
  obj := fun i h st b hb => by
    have e : b = it := by simpa using hb
    subst e
    exact ⟨_, st, fun v z => by
      have z' : Data.fields _ = Data.cell v := z
      cases z'⟩
  keep := fun i h h' st k => k it (by simp) _ st
  item := by
    intro X hP hw hK hc i pins s σ H E I hf st hg
    subst hP hw hK
    obtain ⟨f0, f1, f2, f3, f4, f5⟩ := hf it (by simp)
    have W := Walks.range (prog := X.prog) (w := X.w) (I.ok.hd hc) it lo 1 n
    refine W.item i s _ _ hg st fun v h' tk hv st' kk => ?_
    obtain ⟨t, rfl⟩ := hv
    have I1 : Inv X pins σ H { s with heap := h', toks := tk } := I.turned (fun b o hb e => kk b o (by simpa using hb) e) f0 f1 f3 f4 f5
    refine ⟨_, rfl, go_of (s := { s with heap := h', toks := tk }) (n := "range_iterator") st' rfl rfl (by decide) ⟨.int (lo + i), H, I1, ⟨t, ?_⟩, ⟨rfl, rfl⟩, st', fun b hb => (hf b hb).1⟩⟩
    rw [Int.mul_one]
  done := by
    intro X hP hw hK hc i pins s σ H E I hf st hg
    subst hP hw hK
    obtain ⟨f0, f1, f2, f3, f4, f5⟩ := hf it (by simp)
    exact wpAny_pyNext_range_end (I.ok.hd hc) st (by have : n ≤ i := hg; omega) fun h' eb => ⟨rfl, I.turned (t' := s.toks) (fun b o hb e => eb b o hb e) f0 f1 f3 f4 f5⟩
  self := fun _ _ _ _ _ st h => wpAny_pyIter_rangeiter st h
end L2
namespace L2
open PySem PySem.Spec PyProof.Rows
section
variable {X : Cx} {tg : Expr}
theorem range_it {pins : List (Addr × Obj)} {σ : St} {H : Hp} {s : Shared} {R : It → Hp → Prop} {E : Value → Shared → Prop} {lo hi : Int} {t u v : Tok} {tk : Nat} (I : Inv X pins σ H s) (h1 : -(2 ^ 62) ≤ lo) (h2 : lo < 2 ^ 62) (h3 : -(2 ^ 62) ≤ hi) (h4 : hi < 2 ^ 62)
    (q : R (Itr lo (hi - lo).toNat) H) : wpAny (model X.prog X.w) X.A (pyIter (.ref s.heap.objs.size)) (PIE X pins σ tg R) E { s with heap := s.heap.push { cls := .type "range", data := .fields #[.int lo t, .int hi u, .int 1 v] }, toks := tk } := by
  refine wpAny_pyIter_range (IsRange.new ..) (small_one h1 h2 h3 h4) ?_
  have I1 : Inv X pins σ H { s with heap := s.heap.push { cls := .type "range", data := .fields #[.int lo t, .int hi u, .int 1 v] }, toks := tk } := I.kept fun b o e => Heap.get?_push_of_some _ e
  refine ⟨(s.heap.push { cls := .type "range", data := .fields #[.int lo t, .int hi u, .int 1 v] }).objs.size, [(s.heap.push { cls := .type "range", data := .fields #[.int lo t, .int hi u, .int 1 v] }).objs.size], _, _, H, rfl,
    I1.kept (t' := tk) fun b o e => Heap.get?_push_of_some _ e, turn_range _ lo (hi - lo).toNat, ?_, fun b hb => ?_, q⟩
  · have e1 : lo + ((0 : Nat) : Int) * 1 = lo := by simp
    have e2 : (((hi - lo).toNat : Nat) : Int) - ((0 : Nat) : Int) = Builtin.Range.rangeSize lo hi 1 := by rw [rangeSize_one]; split <;> omega
    show IsRangeIter _ _ (lo + ((0 : Nat) : Int) * 1) ((((hi - lo).toNat : Nat) : Int) - ((0 : Nat) : Int)) 1
    rw [e1, e2]
    exact Heap.get?_push_size _ rfl
  · have e : b = (s.heap.push { cls := .type "range", data := .fields #[.int lo t, .int hi u, .int 1 v] }).objs.size := by simpa using hb
    subst e
    exact I1.fpOk (Nat.le_refl _) (I1.hok.fresh (Nat.le_refl _))
def iRng1 (ta : TA) : TI := fun σ H R => ta σ H fun vs H1 => ∃ j : Int, vs = [.int j] ∧ -(2 ^ 62) ≤ j ∧ j < 2 ^ 62 ∧ R (Itr 0 j.toNat) H1
def iRng2 (ta : TA) : TI := fun σ H R => ta σ H fun vs H1 => ∃ i j : Int, vs = [.int i, .int j] ∧ (-(2 ^ 62) ≤ i ∧ i < 2 ^ 62 ∧ -(2 ^ 62) ≤ j ∧ j < 2 ^ 62) ∧ R (Itr i (j - i).toNat) H1
theorem pi_range1 {a : Expr} {ta : TA} {p pos : Pos} (hg : Gl X "range") (hm : X.mg "range" = none) (ha : PA X [a] ta) (hs : starEach [a] X.env = [(false, eval a X.env)] := by rfl) : PI X tg (.Call (.Name "range" p) [a] [] pos) (iRng1 ta) := by
  intro pins s σ H R I h
  refine Call_ (ld_blt I hg hm boot_range (PyProof.Rows.callWith_type1 (thn (ha pos pins s σ H _ I h) fun us s1 ⟨vs, H1, I1, r1, q1⟩ => ?_) hs rfl))
  obtain ⟨j, e, q1, q2, q⟩ := q1
  subst e
  cases r1 with
  | cons r rr =>
    cases rr
    obtain ⟨t, rfl⟩ := r
    exact call_range_1 (range_it I1 (by omega) (by omega) q1 q2 (by simpa using q))
theorem pi_range2 {a b : Expr} {ta : TA} {p pos : Pos} (hg : Gl X "range") (hm : X.mg "range" = none) (ha : PA X [a, b] ta) (hs : starEach [a, b] X.env = [(false, eval a X.env), (false, eval b X.env)] := by rfl) (hs2 : starEach [b] X.env = [(false, eval b X.env)] := by rfl) :
    PI X tg (.Call (.Name "range" p) [a, b] [] pos) (iRng2 ta) := by
  intro pins s σ H R I h
  refine Call_ (ld_blt I hg hm boot_range (PyProof.Rows.callWith_type1 (thn (ha pos pins s σ H _ I h) fun us s1 ⟨vs, H1, I1, r1, q1⟩ => ?_) (by rw [hs, hs2]) (by rw [hs2]; rfl)))
  obtain ⟨i, j, e, ⟨q1, q2, q3, q4⟩, q⟩ := q1
  subst e
  cases r1 with
  | cons r rr =>
    cases rr with
    | cons r' rr =>
      cases rr
      obtain ⟨t, rfl⟩ := r
      obtain ⟨t', rfl⟩ := r'
      exact call_range_2 (range_it I1 q1 q2 q3 q4 q)
def tFor (wi : TI) (g : TG) (tb : TS) : TS := fun D σ H => wi σ H fun J H1 => ∃ W : Nat → Nat → St → Hp → Prop, (∃ m, W 0 m σ H1) ∧ ∀ i m σ H, W i m σ H →
  (J.stop i H ∧ D.nx σ H) ∨ (J.go i H ∧ ∃ N : St → Hp → Prop, (∀ σ' H', N σ' H' → ∃ m', m' < m ∧ W (i + 1) m' σ' H') ∧ ∀ x H', J.yld i H x H' → g x σ H' fun σ2 H2 => tb { D with nx := N, ct := N, bk := D.nx } σ2 H2)
def pinsAt (fp : List Addr) (h : Heap) : List (Addr × Obj) := fp.filterMap fun b => (h.get? b).map fun o => (b, o)
theorem mem_pinsAt {fp : List Addr} {h : Heap} {b : Addr} {o : Obj} (hb : b ∈ fp) (e : h.get? b = some o) : (b, o) ∈ pinsAt fp h := List.mem_filterMap.mpr ⟨b, hb, by rw [e]; rfl⟩
theorem of_pinsAt {fp : List Addr} {h : Heap} {p : Addr × Obj} (hp : p ∈ pinsAt fp h) : p.1 ∈ fp ∧ h.get? p.1 = some p.2 := by
  obtain ⟨b, hb, e⟩ := List.mem_filterMap.mp hp
  cases q : h.get? b with
  | none => rw [q] at e; cases e
  | some o =>
    rw [q] at e
    have e' : (b, o) = p := Option.some.inj e
    subst e'
    exact ⟨hb, q⟩
theorem Inv.pinned {pins : List (Addr × Obj)} {σ : St} {H : Hp} {s : Shared} {fp : List Addr} (I : Inv X pins σ H s) (hf : ∀ b ∈ fp, FpOk X pins H b) (ho : ∀ b ∈ fp, ∃ o, s.heap.get? b = some o ∧ ∀ v, o.data ≠ .cell v) : Inv X (pins ++ pinsAt fp s.heap) σ H s :=
  I.pins_of fun p hp => (List.mem_append.mp hp).elim (fun z => I.pin p (List.mem_append_right _ z)) fun z => by
    obtain ⟨hb, e⟩ := of_pinsAt z
    obtain ⟨f0, f1, f2, _⟩ := hf p.1 hb
    obtain ⟨o, e', d⟩ := ho p.1 hb
    rw [e] at e'; cases e'
    exact ⟨e, f0, f1, f2, d⟩
theorem Inv.unpinned {pins pl : List (Addr × Obj)} {σ : St} {H : Hp} {s : Shared} (I : Inv X (pins ++ pl) σ H s) : Inv X pins σ H s := I.pins_of fun p hp => I.pin p (List.mem_append_right _ (List.mem_append_left _ hp))
theorem ps_for {iter : Expr} {body : List Stmt} {wi : TI} {g : TG} {tb : TS} {pos : Pos} (hp : PassesOwn (model X.prog X.w) X.A X.env X.xe) (hc : X.calm = true) (hi : PI X tg iter wi) (hg : PG X tg g) (hb : PSs X body tb)
    (hs : ∀ x, foldedSetIterable iter X.env x = pure x := by intro _; rfl) : PS X (.For tg iter body [] pos) (tFor wi g tb) := by
  intro pins s σ H D I h
  refine wpAny_For (thn (hi pins s σ H _ I h) fun v s1 h1 => thn h1 fun itv s2 h2 => ?_) hs
  obtain ⟨it, fp, tn, J, H2, e, I2, T, st2, f2, W, ⟨m0, w0⟩, turn⟩ := h2
  subst e
  -- what stays true of the iterator's objects through the loop
  have stat : ∀ {H' : Hp}, (∀ b ∈ fp, H' b = none) → ∀ b ∈ fp, FpOk X pins H' b := fun hn b hb => ⟨hn b hb, (f2 b hb).2⟩
  refine codeAny_forLoop_any (fun n s' => ∃ i σ' H', Inv X pins σ' H' s' ∧ tn i s'.heap ∧ (∀ b ∈ fp, H' b = none) ∧ W i n σ' H') ?_ m0 ⟨0, σ, H2, I2, st2, fun b hb => (f2 b hb).1, w0⟩
  rintro n s3 ⟨i, σ3, H3, I3, st3, fr3, w3⟩
  rcases turn i n σ3 H3 w3 with ⟨stop, qn⟩ | ⟨go, N, hN, step⟩
  · refine wpAny_passesOwn hp (thn (T.done X rfl rfl rfl hc i pins s3 σ3 H3 X.xe I3 (stat fr3) st3 stop) fun r s4 ⟨hr, I4⟩ => ?_)
    subst hr
    exact wpAny_execs_nil ⟨σ3, H3, I4, qn⟩
  · refine wpAny_passesOwn hp (thn (T.item X rfl rfl rfl hc i pins s3 σ3 H3 X.xe I3 (stat fr3) st3 go) fun r s4 ⟨u, hr, h4⟩ => ?_)
    subst hr
    refine wpAny_passesOwn hp (thn h4 fun _ s5 ⟨x, H5, I5, r5, y5, st5, fr5⟩ => ?_)
    have I5' := I5.pinned (stat fr5) (T.obj _ _ st5)
    refine wpAny_passesOwn hp (thn (hg _ s5 σ3 H5 x u _ I5' r5 (step x H5 y5)) fun _ s6 ⟨σ6, H6, I6, q6⟩ => ?_)
    refine wpAny_passesOwn hp (thn (hb _ s6 σ6 H6 _ I6 q6) fun f s7 q7 => ?_)
    have again : ∀ {σ7 : St} {H7 : Hp}, Inv X (pins ++ pinsAt fp s5.heap) σ7 H7 s7 → N σ7 H7 → ∃ m, m < n ∧ ∃ i σ' H', Inv X pins σ' H' s7 ∧ tn i s7.heap ∧ (∀ b ∈ fp, H' b = none) ∧ W i m σ' H' := fun {σ7 H7} I7 n7 => by
      obtain ⟨m', hm, w7⟩ := hN σ7 H7 n7
      refine ⟨m', hm, i + 1, σ7, H7, I7.unpinned, T.keep _ _ _ st5 fun b hb o e => (I7.pin (b, o) (List.mem_append_right _ (List.mem_append_right _ (mem_pinsAt hb e)))).1, fun b hb => ?_, w7⟩
      obtain ⟨o, e, d⟩ := T.obj _ _ st5 b hb
      exact (I7.pin (b, o) (List.mem_append_right _ (List.mem_append_right _ (mem_pinsAt hb e)))).2.1
    cases f with
    | next => obtain ⟨σ7, H7, I7, n7⟩ := q7; exact again I7 n7
    | cont => obtain ⟨σ7, H7, I7, n7⟩ := q7; exact again I7 n7
    | brk => obtain ⟨σ7, H7, I7, q7⟩ := q7; exact ⟨σ7, H7, I7.unpinned, q7⟩
    | ret v => obtain ⟨x7, σ7, H7, I7, r7, q7⟩ := q7; exact ⟨x7, σ7, H7, I7.unpinned, r7, q7⟩
end
theorem for_list {K : PySem.W.Frag} {a : Addr} {xs : List V} {g : TG} {tb : TS} {D : Ends} {σ : St} {H : Hp} (Pv : Nat → St → Hp → Prop) (h0 : Pv 0 σ H) (hl : ∀ i σ H, i ≤ xs.length → Pv i σ H → SqL K H a xs)
    (hs : ∀ i x σ H, xs[i]? = some x → Pv i σ H → g x σ H fun σ2 H2 => tb { D with nx := Pv (i + 1), ct := Pv (i + 1), bk := D.nx } σ2 H2) (hd : ∀ σ H, Pv xs.length σ H → D.nx σ H) :
    ∃ W : Nat → Nat → St → Hp → Prop, (∃ m, W 0 m σ H) ∧ ∀ i m σ H, W i m σ H →
      ((Itl K a).stop i H ∧ D.nx σ H) ∨ ((Itl K a).go i H ∧ ∃ N : St → Hp → Prop, (∀ σ' H', N σ' H' → ∃ m', m' < m ∧ W (i + 1) m' σ' H') ∧ ∀ x H', (Itl K a).yld i H x H' → g x σ H' fun σ2 H2 => tb { D with nx := N, ct := N, bk := D.nx } σ2 H2) := by
  refine ⟨fun i m σ H => m = xs.length - i ∧ i ≤ xs.length ∧ Pv i σ H, ⟨xs.length, by simp, Nat.zero_le _, h0⟩, ?_⟩
  rintro i m σ H ⟨rfl, hi, p⟩
  have q := hl i σ H hi p
  by_cases hlt : i < xs.length
  · refine .inr ⟨⟨xs, xs[i], q, by simp [hlt]⟩, Pv (i + 1), fun σ' H' p' => ⟨xs.length - (i + 1), by omega, rfl, hlt, p'⟩, fun x H' y => ?_⟩
    obtain ⟨e, y⟩ := y
    subst e
    exact hs i x σ _ (y xs q) p
  · have e : i = xs.length := by omega
    subst e
    exact .inl ⟨⟨xs, q, Nat.le_refl _⟩, hd σ H p⟩
theorem for_tup {K : PySem.W.Frag} {a : Addr} {xs : List V} {g : TG} {tb : TS} {D : Ends} {σ : St} {H : Hp} (Pv : Nat → St → Hp → Prop) (h0 : Pv 0 σ H) (hl : ∀ i σ H, i ≤ xs.length → Pv i σ H → SqT K H a xs)
    (hs : ∀ i x σ H, xs[i]? = some x → Pv i σ H → g x σ H fun σ2 H2 => tb { D with nx := Pv (i + 1), ct := Pv (i + 1), bk := D.nx } σ2 H2) (hd : ∀ σ H, Pv xs.length σ H → D.nx σ H) :
    ∃ W : Nat → Nat → St → Hp → Prop, (∃ m, W 0 m σ H) ∧ ∀ i m σ H, W i m σ H →
      ((Itt K a).stop i H ∧ D.nx σ H) ∨ ((Itt K a).go i H ∧ ∃ N : St → Hp → Prop, (∀ σ' H', N σ' H' → ∃ m', m' < m ∧ W (i + 1) m' σ' H') ∧ ∀ x H', (Itt K a).yld i H x H' → g x σ H' fun σ2 H2 => tb { D with nx := N, ct := N, bk := D.nx } σ2 H2) := by
  refine ⟨fun i m σ H => m = xs.length - i ∧ i ≤ xs.length ∧ Pv i σ H, ⟨xs.length, by simp, Nat.zero_le _, h0⟩, ?_⟩
  rintro i m σ H ⟨rfl, hi, p⟩
  have q := hl i σ H hi p
  by_cases hlt : i < xs.length
  · refine .inr ⟨⟨xs, xs[i], q, by simp [hlt]⟩, Pv (i + 1), fun σ' H' p' => ⟨xs.length - (i + 1), by omega, rfl, hlt, p'⟩, fun x H' y => ?_⟩
    obtain ⟨e, y⟩ := y
    subst e
    exact hs i x σ _ (y xs q) p
  · have e : i = xs.length := by omega
    subst e
    exact .inl ⟨⟨xs, q, Nat.le_refl _⟩, hd σ H p⟩
theorem for_range {lo : Int} {n : Nat} {g : TG} {tb : TS} {D : Ends} {σ : St} {H : Hp} (Pv : Nat → St → Hp → Prop) (h0 : Pv 0 σ H)
    (hs : ∀ i σ H, i < n → Pv i σ H → g (.int (lo + i)) σ H fun σ2 H2 => tb { D with nx := Pv (i + 1), ct := Pv (i + 1), bk := D.nx } σ2 H2) (hd : ∀ σ H, Pv n σ H → D.nx σ H) :
    ∃ W : Nat → Nat → St → Hp → Prop, (∃ m, W 0 m σ H) ∧ ∀ i m σ H, W i m σ H →
      ((Itr lo n).stop i H ∧ D.nx σ H) ∨ ((Itr lo n).go i H ∧ ∃ N : St → Hp → Prop, (∀ σ' H', N σ' H' → ∃ m', m' < m ∧ W (i + 1) m' σ' H') ∧ ∀ x H', (Itr lo n).yld i H x H' → g x σ H' fun σ2 H2 => tb { D with nx := N, ct := N, bk := D.nx } σ2 H2) := by
  refine ⟨fun i m σ H => m = n - i ∧ i ≤ n ∧ Pv i σ H, ⟨n, by simp, Nat.zero_le _, h0⟩, ?_⟩
  rintro i m σ H ⟨rfl, hi, p⟩
  by_cases hlt : i < n
  · refine .inr ⟨hlt, Pv (i + 1), fun σ' H' p' => ⟨n - (i + 1), by omega, rfl, hlt, p'⟩, fun x H' y => ?_⟩
    obtain ⟨e, y⟩ := y
    subst e y
    exact hs i σ _ hlt p
  · have e : i = n := by omega
    subst e
    exact .inl ⟨Nat.le_refl _, hd σ H p⟩
end L2
namespace L2
open PySem PySem.Spec PyProof.Rows
abbrev R2 := V → V → Hp → VK → Prop
def OpR (X : Cx) (f : Value → Value → Sem Value) (r : R2) : Prop :=
  ∀ (pins : List (Addr × Obj)) (s : Shared) (σ : St) (H : Hp) (x y : V) (v u : Value) (Q : VK), Inv X pins σ H s → RelV x v → RelV y u → r x y H Q →
    wpAny (model X.prog X.w) X.A (f v u) (EP X pins σ Q) X.xe s
def UnR (X : Cx) (f : Value → Sem Value) (r : V → Hp → VK → Prop) : Prop :=
  ∀ (pins : List (Addr × Obj)) (s : Shared) (σ : St) (H : Hp) (x : V) (v : Value) (Q : VK), Inv X pins σ H s → RelV x v → r x H Q →
    wpAny (model X.prog X.w) X.A (f v) (EP X pins σ Q) X.xe s
def CallR (X : Cx) (f : Value) (r : List V → Hp → VK → Prop) : Prop :=
  ∀ (pins : List (Addr × Obj)) (s : Shared) (σ : St) (H : Hp) (xs : List V) (us : List Value) (Q : VK), Inv X pins σ H s → Vals xs us → r xs H Q →
    wpAny (model X.prog X.w) X.A (call f us) (EP X pins σ Q) X.xe s
def TruR (X : Cx) (r : V → Hp → (Bool → Hp → Prop) → Prop) : Prop :=
  ∀ (pins : List (Addr × Obj)) (s : Shared) (σ : St) (H : Hp) (x : V) (v : Value) (Q : Bool → Hp → Prop), Inv X pins σ H s → RelV x v → r x H Q →
    wpAny (model X.prog X.w) X.A (truthy v) (TP X pins σ Q) X.xe s
def tOp (r : R2) (ta tb : TE) : TE := fun σ H Q => ta σ H fun x H1 => tb σ H1 fun y H2 => r x y H2 Q
def tUn (r : V → Hp → VK → Prop) (ta : TE) : TE := fun σ H Q => ta σ H fun x H1 => r x H1 Q
def rI (C : Int → Int → Prop) (g : Int → Int → V) : R2 := fun x y H Q => ∃ i j, x = .int i ∧ y = .int j ∧ C i j ∧ Q (g i j) H
def rI0 (g : Int → Int → V) : R2 := fun x y H Q => ∃ i j, x = .int i ∧ y = .int j ∧ Q (g i j) H
def rU (g : Int → V) : V → Hp → VK → Prop := fun x H Q => ∃ i, x = .int i ∧ Q (g i) H
section
variable {X : Cx} {a b c : Expr} {ta tb tc : TE} {pos : Pos}
theorem binT (ha : PE X a ta) (hb : PE X b tb) {pins : List (Addr × Obj)} {s : Shared} {σ : St} {H : Hp} {R : V → V → Hp → Prop} (I : Inv X pins σ H s)
    (h : ta σ H fun x H1 => tb σ H1 fun y H2 => R x y H2) {Q : Value → Shared → Prop} {f : Value → Value → Sem Value}
    (hf : ∀ v u s2 x y H2, Inv X pins σ H2 s2 → RelV x v → RelV y u → R x y H2 → wpAny (model X.prog X.w) X.A (f v u) Q X.xe s2) :
    wpAny (model X.prog X.w) X.A (eval a X.env) (fun v s₁ => wpAny (model X.prog X.w) X.A (eval b X.env) (fun u s₂ => wpAny (model X.prog X.w) X.A (f v u) Q X.xe s₂) X.xe s₁) X.xe s := by
  refine thn (ha pins s σ H _ I h) fun v s1 ⟨x, H1, I1, r1, q1⟩ => ?_
  refine thn (hb pins s1 σ H1 _ I1 q1) fun u s2 ⟨y, H2, I2, r2, q2⟩ => ?_
  exact hf v u s2 x y H2 I2 r1 r2 q2
theorem pe_op {op : Operator} {r : R2} (ho : OpR X (binaryOp op) r) (ha : PE X a ta) (hb : PE X b tb) : PE X (.BinOp a op b pos) (tOp r ta tb) := by
  intro pins s σ H Q I h
  exact wpAny_BinOp (binT ha hb I h fun v u s2 x y H2 I2 rx ry q => ho pins s2 σ H2 x y v u Q I2 rx ry q)
theorem pe_un {op : UnaryOp} {r : V → Hp → VK → Prop} (ho : UnR X (unaryOp op) r) (ha : PE X a ta) : PE X (.UnaryOp op a pos) (tUn r ta) := by
  intro pins s σ H Q I h
  exact UnaryOp_ (thn (ha pins s σ H _ I h) fun v s1 ⟨x, H1, I1, r1, q1⟩ => ho pins s1 σ H1 x v Q I1 r1 q1)
theorem opI {f : Value → Value → Sem Value} {C : Int → Int → Prop} {g : Int → Int → Int}
    (rule : ∀ (i j : Int) (t u : Tok) (s : Shared) (Q : Value → Shared → Prop) (E : Value → Shared → Prop), C i j → Q (.int (g i j) s.toks) { s with toks := s.toks + 1 } → wpAny (model X.prog X.w) X.A (f (.int i t) (.int j u)) Q E s) :
    OpR X f (rI C fun i j => .int (g i j)) := by
  intro pins s σ H x y v u Q I rx ry h
  obtain ⟨i, j, rfl, rfl, hc, q⟩ := h
  obtain ⟨t, rfl⟩ := rx
  obtain ⟨t', rfl⟩ := ry
  exact rule i j t t' s _ _ hc ⟨.int (g i j), H, I.tok _, ⟨_, rfl⟩, q⟩
theorem opI0 {f : Value → Value → Sem Value} {g : Int → Int → Int}
    (rule : ∀ (i j : Int) (t u : Tok) (s : Shared) (Q : Value → Shared → Prop) (E : Value → Shared → Prop), Q (.int (g i j) s.toks) { s with toks := s.toks + 1 } → wpAny (model X.prog X.w) X.A (f (.int i t) (.int j u)) Q E s) :
    OpR X f (rI0 fun i j => .int (g i j)) := by
  intro pins s σ H x y v u Q I rx ry h
  obtain ⟨i, j, rfl, rfl, q⟩ := h
  obtain ⟨t, rfl⟩ := rx
  obtain ⟨t', rfl⟩ := ry
  exact rule i j t t' s _ _ ⟨.int (g i j), H, I.tok _, ⟨_, rfl⟩, q⟩
theorem opB0 {f : Value → Value → Sem Value} {g : Int → Int → Bool}
    (rule : ∀ (i j : Int) (t u : Tok) (s : Shared) (Q : Value → Shared → Prop) (E : Value → Shared → Prop), Q (.bool (g i j)) s → wpAny (model X.prog X.w) X.A (f (.int i t) (.int j u)) Q E s) :
    OpR X f (rI0 fun i j => .bl (g i j)) := by
  intro pins s σ H x y v u Q I rx ry h
  obtain ⟨i, j, rfl, rfl, q⟩ := h
  obtain ⟨t, rfl⟩ := rx
  obtain ⟨t', rfl⟩ := ry
  exact rule i j t t' s _ _ ⟨.bl (g i j), H, I, rfl, q⟩
def CPow (i j : Int) : Prop := 0 ≤ j ∧ j ≤ 1000000 ∧ i.natAbs < 2 ^ 64
def CMul (i j : Int) : Prop := (-(2 ^ 64) < i ∧ i < 2 ^ 64) ∨ (-(2 ^ 64) < j ∧ j < 2 ^ 64)
theorem CMul.ok {i j : Int} (h : CMul i j) : IntMulOk i j := by
  rcases h with ⟨h1, h2⟩ | ⟨h1, h2⟩
  · exact .of_left (intBits_le_64 h1 h2)
  · exact .of_right (intBits_le_64 h1 h2)
theorem op_add : OpR X (binaryOp .Add) (rI0 fun i j => .int (i + j)) := opI0 fun _ _ _ _ _ _ _ q => add_int q
theorem op_sub : OpR X (binaryOp .Sub) (rI0 fun i j => .int (i - j)) := opI0 fun _ _ _ _ _ _ _ q => sub_int q
theorem op_modN : OpR X (binaryOp .Mod) (rI (fun _ j => j ≠ 0) fun i j => .int (i.fmod j)) := opI fun _ _ _ _ _ _ _ hc q => mod_int' hc q
theorem op_pow : OpR X (binaryOp .Pow) (rI CPow fun i j => .int (i ^ j.toNat)) := opI fun _ _ _ _ _ _ _ hc q => pow_int_small hc.1 hc.2.1 hc.2.2 q
theorem op_shl : OpR X (binaryOp .LShift) (rI CPow fun i j => .int (i * 2 ^ j.toNat)) := opI fun _ _ _ _ _ _ _ hc q => lshift_int_small hc.1 hc.2.1 hc.2.2 q
theorem unI {f : Value → Sem Value} {g : Int → Int}
    (rule : ∀ (i : Int) (t : Tok) (s : Shared) (Q : Value → Shared → Prop) (E : Value → Shared → Prop), Q (.int (g i) s.toks) { s with toks := s.toks + 1 } → wpAny (model X.prog X.w) X.A (f (.int i t)) Q E s) :
    UnR X f (rU fun i => .int (g i)) := by
  intro pins s σ H x v Q I rx h
  obtain ⟨i, rfl, q⟩ := h
  obtain ⟨t, rfl⟩ := rx
  exact rule i t s _ _ ⟨.int (g i), H, I.tok _, ⟨_, rfl⟩, q⟩
theorem un_neg : UnR X (unaryOp .USub) (rU fun i => .int (-i)) := unI fun _ _ _ _ _ q => neg_int q
end
section
variable {X : Cx} {a b c : Expr} {ta tb tc : TE} {pos : Pos}
theorem fin_bl {pins : List (Addr × Obj)} {σ : St} {H : Hp} {s : Shared} {Q : VK} {k k' : Bool} (I : Inv X pins σ H s) (q : Q (.bl k) H) (e : k = k') : EP X pins σ Q (.bool k') s := by
  subst e
  exact ⟨.bl k, H, I, rfl, q⟩
theorem op_lt : OpR X (compareOp .Lt) (rI0 fun i j => .bl (decide (i < j))) := opB0 fun _ _ _ _ _ _ _ q => lt_int q
theorem op_le : OpR X (compareOp .LtE) (rI0 fun i j => .bl (decide (i ≤ j))) := opB0 fun _ _ _ _ _ _ _ q => le_int q
theorem op_gt : OpR X (compareOp .Gt) (rI0 fun i j => .bl (decide (j < i))) := opB0 fun _ _ _ _ _ _ _ q => gt_int q
theorem op_ge : OpR X (compareOp .GtE) (rI0 fun i j => .bl (decide (j ≤ i))) := opB0 fun _ _ _ _ _ _ _ q => ge_int q
theorem op_isN : OpR X (compareOp .Is) (fun x y H Q => y = .non ∧ Q (.bl (decide (x = .non))) H) := by
  intro pins s σ H x y v u Q I rx ry h
  obtain ⟨rfl, q⟩ := h
  cases ry
  refine is_none_gen (fin_bl I q ?_)
  cases x <;> first
    | (cases rx; rfl)
    | (obtain ⟨t, rfl⟩ := rx; rfl)
theorem op_notN : OpR X (compareOp .IsNot) (fun x y H Q => y = .non ∧ Q (.bl (!decide (x = .non))) H) := by
  intro pins s σ H x y v u Q I rx ry h
  obtain ⟨rfl, q⟩ := h
  cases ry
  refine isnot_none_gen (fin_bl I q ?_)
  cases x <;> first
    | (cases rx; rfl)
    | (obtain ⟨t, rfl⟩ := rx; rfl)
theorem OpR.or {f : Value → Value → Sem Value} {r r' : R2} (h : OpR X f r) (h' : OpR X f r') : OpR X f (fun x y H Q => r x y H Q ∨ r' x y H Q) := by
  intro pins s σ H x y v u Q I rx ry q
  rcases q with q | q
  · exact h pins s σ H x y v u Q I rx ry q
  · exact h' pins s σ H x y v u Q I rx ry q
theorem nomark (b : Expr) {op : CmpOp} (h : op ≠ .In := by decide) (h2 : op ≠ .NotIn := by decide) : behindInMarks op b = false := by
  have e1 : (op == CmpOp.In) = false := by cases op <;> first | rfl | exact absurd rfl h
  have e2 : (op == CmpOp.NotIn) = false := by cases op <;> first | rfl | exact absurd rfl h2
  cases b <;> simp [behindInMarks, e1, e2]
theorem pe_cmpR {op : CmpOp} {r : R2} (ho : OpR X (compareOp op) r) (ha : PE X a ta) (hb : PE X b tb) (hm : behindInMarks op b = false) : PE X (.Compare a [op] [b] pos) (tOp r ta tb) := by
  intro pins s σ H Q I h
  exact wpAny_Compare1 (binT ha hb I h fun v u s2 x y H2 I2 rx ry q => ho pins s2 σ H2 x y v u Q I2 rx ry q) hm
def tTest (t : TE) : TT := fun σ H Q => t σ H fun x H' => ∃ k, x = .bl k ∧ Q k H'
theorem pt_cmpR {op : CmpOp} {r : R2} (ho : OpR X (compareOp op) r) (ha : PE X a ta) (hb : PE X b tb) (hm : behindInMarks op b = false) : PT X (.Compare a [op] [b] pos) (tTest (tOp r ta tb)) := by
  intro pins s σ H Q I h
  refine wpAny_isTrue_Compare1 (thn (ha pins s σ H _ I h) fun v s1 ⟨x, H1, I1, r1, q1⟩ => thn (hb pins s1 σ H1 _ I1 q1) fun u s2 ⟨y, H2, I2, r2, q2⟩ =>
    thn (ho pins s2 σ H2 x y v u _ I2 r1 r2 q2) fun c s3 ⟨z, H3, I3, r3, k, e, q3⟩ => ?_) hm
  subst e
  cases r3
  exact wpAny_truthy_bool ⟨H3, I3, q3⟩
def TruV (K : PySem.W.Frag) (x : V) (H : Hp) (k : Bool) : Prop :=
  match x with
  | .non => k = false
  | .bl b => k = b
  | .int i => k = (i != 0)
  | .str y => y.length ≤ sizeLine ∧ k = ((y.length : Int) != 0)
  | .byt y => y.size ≤ sizeLine ∧ k = ((y.size : Int) != 0)
  | .ref p => (∃ xs, SqL K H p xs ∧ k = !xs.isEmpty) ∨ (∃ xs, SqT K H p xs ∧ k = !xs.isEmpty) ∨ ∃ kvs, H p = some (.dK kvs) ∧ k = !kvs.isEmpty
  | _ => False
theorem isEmpty_kv {κ : Type} {kvs : List (κ × V)} {vs : List (κ × Value)} (r : KV kvs vs) : (!vs.isEmpty) = !kvs.isEmpty := by
  cases r <;> rfl
theorem isEmpty_of {xs : List V} {its : List Value} (r : Vals xs its) : (!its.toArray.isEmpty) = !xs.isEmpty := by
  cases r <;> simp
theorem line63 : (sizeLine : Nat) < 2 ^ 63 := by rw [sizeLine_eq]; decide
theorem tru_ok : TruR X (fun x H Q => ∃ k, TruV X.K x H k ∧ Q k H) := by
  intro pins s σ H x v Q I rx h
  obtain ⟨k, e, q⟩ := h
  have hl := line63
  have hs : sizeLine = 16777216 := sizeLine_eq
  cases x with
  | non =>
    cases rx
    have e' : k = false := e
    subst e'
    exact truthy_none ⟨H, I, q⟩
  | bl b =>
    cases rx
    have e' : k = b := e
    subst e'
    exact wpAny_truthy_bool ⟨H, I, q⟩
  | int i =>
    obtain ⟨t, rfl⟩ := rx
    have e' : k = (i != 0) := e
    subst e'
    exact PySem.P.truthy_int ⟨H, I, q⟩
  | str y =>
    obtain ⟨t, rfl⟩ := rx
    obtain ⟨hy, e'⟩ : y.length ≤ sizeLine ∧ k = ((y.length : Int) != 0) := e
    subst e'
    exact PySem.P.truthy_str (by omega) ⟨H, I.tok _, q⟩
  | byt y =>
    obtain ⟨t, rfl⟩ := rx
    obtain ⟨hy, e'⟩ : y.size ≤ sizeLine ∧ k = ((y.size : Int) != 0) := e
    subst e'
    exact PySem.W.truthy_bytes (by omega) ⟨H, I.tok _, q⟩
  | ref p =>
    cases rx
    have e' : (∃ xs, SqL X.K H p xs ∧ k = !xs.isEmpty) ∨ (∃ xs, SqT X.K H p xs ∧ k = !xs.isEmpty) ∨ ∃ kvs, H p = some (.dK kvs) ∧ k = !kvs.isEmpty := e
    rcases e' with ⟨xs, hx, e'⟩ | ⟨xs, hx, e'⟩ | ⟨kvs, hx, e'⟩
    · subst e'
      obtain ⟨its, r, pl, hz⟩ := I.list hx
      have hlen := r.length
      exact wpAny_truthy_list pl.isList (by simp only [List.size_toArray]; omega) ⟨H, I.tok _, by rw [isEmpty_of r]; exact q⟩
    · subst e'
      obtain ⟨its, r, pl, hz⟩ := I.tuple hx
      have hlen := r.length
      exact truthy_tuple pl (by simp only [List.size_toArray]; omega) ⟨H, I.tok _, by rw [isEmpty_of r]; exact q⟩
    · subst e'
      obtain ⟨hz, hS, vs, r, m⟩ : kvs.length ≤ sizeLine ∧ (p == sysModules) = false ∧ ∃ vs, KV kvs vs ∧ s.heap.DictOf (mixKind X.prog X.w) p vs := I.hok p _ hx
      have hlen : kvs.length = vs.length := Paired.length r
      exact wpAny_truthy_dict hS m (by omega) ⟨H, I.tok _, by rw [isEmpty_kv r]; exact q⟩
  | _ => exact (show False from e).elim
theorem pt_truth (ha : PE X a ta) (he : ∀ whole, isTrue a X.env whole = (do let v ← whole; standAt a.pos; holding [v] (truthy v))) :
    PT X a (fun σ H Q => ta σ H fun x H' => ∃ k, TruV X.K x H' k ∧ Q k H') := by
  intro pins s σ H Q I h
  exact isTrue_plain (thn (ha pins s σ H _ I h) fun v s1 ⟨x, H1, I1, r1, q1⟩ => tru_ok pins s1 σ H1 x v Q I1 r1 q1) (he _)
theorem op_add_str : OpR X (binaryOp .Add) (fun x y H Q => ∃ i j, x = .str i ∧ y = .str j ∧ i.length + j.length ≤ sizeLine ∧ Q (.str (i ++ j)) H) := by
  intro pins s σ H x y v u Q I rx ry h
  obtain ⟨i, j, rfl, rfl, hz, q⟩ := h
  obtain ⟨t, rfl⟩ := rx
  obtain ⟨t', rfl⟩ := ry
  exact add_str (fun t' tk => ⟨.str (i ++ j), H, I.tok _, ⟨_, rfl⟩, q⟩) hz
theorem vals1 {x : V} {us : List Value} (r : Vals [x] us) : ∃ u, us = [u] ∧ RelV x u := by
  cases r with
  | cons r1 r2 => cases r2; exact ⟨_, rfl, r1⟩
theorem vals2 {x y : V} {us : List Value} (r : Vals [x, y] us) : ∃ u w', us = [u, w'] ∧ RelV x u ∧ RelV y w' := by
  cases r with
  | cons r1 r2 =>
    cases r2 with
    | cons r3 r4 => cases r4; exact ⟨_, _, rfl, r1, r3⟩
theorem call_abs : CallR X (.builtin "abs") (fun xs H Q => ∃ i, xs = [.int i] ∧ Q (.int (if i < 0 then -i else i)) H) := by
  intro pins s σ H xs us Q I r h
  obtain ⟨i, rfl, q⟩ := h
  obtain ⟨u, rfl, t, rfl⟩ := vals1 r
  exact call_abs_int fun u tk => ⟨.int (if i < 0 then -i else i), H, I.tok _, ⟨_, rfl⟩, q⟩
theorem call_max2 (hc : X.calm = true) : CallR X (.builtin "max") (fun xs H Q => ∃ i j, xs = [.int i, .int j] ∧ Q (.int (if j > i then j else i)) H) := by
  intro pins s σ H xs us Q I r h
  obtain ⟨i, j, rfl, q⟩ := h
  obtain ⟨u, w', rfl, ⟨t, rfl⟩, ⟨t', rfl⟩⟩ := vals2 r
  refine max_two_ints (I.ok.hd hc) fun h' tk k => ⟨_, H, I.kept k, ?_, q⟩
  by_cases hj : j > i
  · rw [if_pos hj, if_pos hj]; exact ⟨_, rfl⟩
  · rw [if_neg hj, if_neg hj]; exact ⟨_, rfl⟩
theorem call_min2 (hc : X.calm = true) : CallR X (.builtin "min") (fun xs H Q => ∃ i j, xs = [.int i, .int j] ∧ Q (.int (if j < i then j else i)) H) := by
  intro pins s σ H xs us Q I r h
  obtain ⟨i, j, rfl, q⟩ := h
  obtain ⟨u, w', rfl, ⟨t, rfl⟩, ⟨t', rfl⟩⟩ := vals2 r
  refine min_two_ints (I.ok.hd hc) fun h' tk k => ⟨_, H, I.kept k, ?_, q⟩
  by_cases hj : j < i
  · rw [if_pos hj, if_pos hj]; exact ⟨_, rfl⟩
  · rw [if_neg hj, if_neg hj]; exact ⟨_, rfl⟩
theorem call_int1 : CallR X (.type "int") (fun xs H Q => (∃ i, xs = [.int i] ∧ Q (.int i) H) ∨ ∃ k, xs = [.bl k] ∧ Q (.int (if k then 1 else 0)) H) := by
  intro pins s σ H xs us Q I r h
  rcases h with ⟨i, rfl, q⟩ | ⟨k, rfl, q⟩
  · obtain ⟨u, rfl, t, rfl⟩ := vals1 r
    exact call_int_int ⟨.int i, H, I, ⟨_, rfl⟩, q⟩
  · obtain ⟨u, rfl, r1⟩ := vals1 r
    cases r1
    exact call_int_bool ⟨.int (if k then 1 else 0), H, I.tok _, ⟨_, rfl⟩, q⟩
theorem call_str_int : CallR X (.type "str") (fun xs H Q => ∃ i, xs = [.int i] ∧ i.natAbs.log2 < 1920 ∧ Q (.str (toString i)) H) := by
  intro pins s σ H xs us Q I r h
  obtain ⟨i, rfl, hz, q⟩ := h
  obtain ⟨u, rfl, t, rfl⟩ := vals1 r
  exact PySem.P.str_of_int hz ⟨.str _, H, I.tok _, ⟨_, rfl⟩, q⟩
def LenV (K : PySem.W.Frag) (x : V) (H : Hp) (n : Nat) : Prop :=
  match x with
  | .str y => y.length ≤ sizeLine ∧ n = y.length
  | .byt y => y.size ≤ sizeLine ∧ n = y.size
  | .ref p => (∃ xs, SqL K H p xs ∧ n = xs.length) ∨ ∃ xs, SqT K H p xs ∧ n = xs.length
  | _ => False
theorem call_len : CallR X (.builtin "len") (fun xs H Q => ∃ x n, xs = [x] ∧ LenV X.K x H n ∧ Q (.int n) H) := by
  intro pins s σ H xs us Q I r h
  obtain ⟨x, n, rfl, e, q⟩ := h
  obtain ⟨u, rfl, rx⟩ := vals1 r
  have hl := line63
  have hs : sizeLine = 16777216 := sizeLine_eq
  cases x with
  | str y =>
    obtain ⟨t, rfl⟩ := rx
    obtain ⟨hy, e'⟩ : y.length ≤ sizeLine ∧ n = y.length := e
    subst e'
    exact len_str (by omega) ⟨.int _, H, I.tok _, ⟨_, rfl⟩, q⟩
  | byt y =>
    obtain ⟨t, rfl⟩ := rx
    obtain ⟨hy, e'⟩ : y.size ≤ sizeLine ∧ n = y.size := e
    subst e'
    exact PySem.W.len_bytes (by omega) ⟨.int _, H, I.tok _, ⟨_, rfl⟩, q⟩
  | ref p =>
    cases rx
    have e' : (∃ xs, SqL X.K H p xs ∧ n = xs.length) ∨ ∃ xs, SqT X.K H p xs ∧ n = xs.length := e
    rcases e' with ⟨xs, hx, e'⟩ | ⟨xs, hx, e'⟩
    · subst e'
      obtain ⟨its, r', pl, hz⟩ := I.list hx
      have hlen := r'.length
      exact Calls.call_len_list pl.isList (by simp only [List.size_toArray]; omega) ⟨.int xs.length, H, I.tok _, ⟨_, by simp only [List.size_toArray]; rw [hlen]⟩, q⟩
    · subst e'
      obtain ⟨its, r', pl, hz⟩ := I.tuple hx
      have hlen := r'.length
      exact len_tuple pl (by simp only [List.size_toArray]; omega) ⟨.int xs.length, H, I.tok _, ⟨_, by simp only [List.size_toArray]; rw [hlen]⟩, q⟩
  | _ => exact (show False from e).elim
end
end L2
namespace L2
open PySem PySem.Spec PyProof.Rows
structure ObjM (h : Heap) (x dx C : Addr) (mA : Str → Option Value) : Prop where
  obj : h.get? x = some (PySem.W.instObj C dx)
  ns : h.Ns1 dx mA
  ne : dx ≠ x
theorem lookIn_ns {h : Heap} {dx : Addr} {mA : Str → Option Value} (n : h.Ns1 dx mA) : ∃ od, h.get? dx = some od ∧ ∀ name, PySem.W.lookIn name od = some (mA name) := by
  obtain ⟨o, es, ep, ho, hd, hk, _, hm⟩ := n
  refine ⟨o, ho, fun name => ?_⟩
  have e := hm name
  unfold nsFind findBy at e
  rw [← Array.find?_toList] at e
  unfold PySem.W.lookIn
  rw [hd]
  dsimp only
  split
  · rename_i y q
    rw [q] at e
    exact congrArg some e
  · rename_i q
    rw [q] at e
    have a : es.toList.any (·.refKey) = false := by
      rw [List.any_eq_false]
      intro y hy
      obtain ⟨z, t, hkey⟩ := hk y (Array.mem_toList_iff.mp hy)
      simp [DictEntry.refKey, hkey]
    have a' : ¬ es.toList.any (·.refKey) = true := by rw [a]; exact Bool.false_ne_true
    rw [if_neg a']
    exact congrArg some e
theorem ObjM.look {h : Heap} {x dx C : Addr} {mA : Str → Option Value} (I : ObjM h x dx C mA) : ∃ od, PySem.W.InstAt h x (PySem.W.instObj C dx) C (some od) ∧ ∀ name, PySem.W.lookIn name od = some (mA name) :=
  let ⟨od, ho, hl⟩ := lookIn_ns I.ns
  ⟨od, ⟨I.obj, rfl, rfl, ho⟩, hl⟩
structure Cls (K : PySem.W.Frag) (C : Addr) : Prop where
  pg : PySem.W.plainGet K C Str.empty = true
  hd : PySem.W.hasDictIn K C = true
  po : PySem.W.plainOver K C = true
  sa : PySem.W.findIn K (.ref C) "__setattr__" = some (some (.builtin "object.__setattr__"))
theorem Cls.get {K : PySem.W.Frag} {C : Addr} (c : Cls K C) (f : Str) : PySem.W.plainGet K C f = true := c.pg
structure Con (K : PySem.W.Frag) (C : Addr) (f : Str) (v : V) (u : Value) : Prop where
  at_ : PySem.W.findIn K (.ref C) f = some (some u)
  rel : RelV v u
  get : PySem.W.specialIn K u "__get__" = some none
  cp : PySem.W.copiedNames.contains f = false
structure Meth (K : PySem.W.Frag) (C : Addr) (m : Str) (f : Addr) : Prop where
  at_ : PySem.W.findIn K (.ref C) m = some (some (.ref f))
  fn : PySem.W.isFn K (.ref f) = true
  kp : PySem.W.keepIn K (.ref f) = true
section
variable {X : Cx} {pins : List (Addr × Obj)} {σ : St} {H : Hp} {s : Shared} {A : Around} {E : Value → Shared → Prop} {Q : Value → Shared → Prop} {c : Value} {b : Bool}
inductive TyOf (K : PySem.W.Frag) (H : Hp) : V → Value → Prop where
  | non : TyOf K H .non (.type "NoneType")
  | bl (x : Bool) : TyOf K H (.bl x) (.type "bool")
  | int (i : Int) : TyOf K H (.int i) (.type "int")
  | str (x : Str) : TyOf K H (.str x) (.type "str")
  | flt (x : UInt64) : TyOf K H (.flt x) (.type "float")
  | lst {a : Addr} {xs : List V} (e : H a = some (.lst xs)) : TyOf K H (.ref a) (.type "list")
  | frz {a : Addr} {o : Obj} {xs : List V} (e : H a = some (.frz o (.lst xs))) : TyOf K H (.ref a) (.type "list")
  | tup {a : Addr} {xs : List V} (e : H a = some (.tup xs)) : TyOf K H (.ref a) (.type "tuple")
  | dK {a : Addr} {kvs : List (Key × V)} (e : H a = some (.dK kvs)) : TyOf K H (.ref a) (.type "dict")
  | dT {a : Addr} {kvs : List (List Key × V)} (e : H a = some (.dT kvs)) : TyOf K H (.ref a) (.type "dict")
  | ins {a C dx : Addr} {fs : List (Str × V)} (e : H a = some (.ins C dx fs)) (cl : Cls K C) (ha : PySem.W.findIn K (.ref C) "__class__" = some (some (.builtin "object.__class__")))
      (hn : PySem.W.specialIn K (.builtin "object.__class__") "__get__" = some (some (.builtin "getset_descriptor.__get__"))) (htk : PySem.W.takesIn K (.builtin "object.__class__") = some true)
      (hm : PySem.W.mroIn K C (.type "object") = some true) : TyOf K H (.ref a) (.ref C)
end
end L2
namespace L2
open PySem PySem.Spec PyProof.Rows
structure Room (k : Nat) (A : Around) : Prop where
  hd : A.handled = none
  dp : A.depth + 3 * k + 5 < recursionLimit
  un : A.units + 16 * k + 200 < cLine
theorem Room.mono {j k : Nat} {A : Around} (r : Room k A) (h : j ≤ k) : Room j A := ⟨r.hd, by have := r.dp; omega, by have := r.un; omega⟩
theorem Room.deeper {k : Nat} {A : Around} (r : Room (k + 1) A) (env : Env) : Room k (A.deeper env) :=
  ⟨r.hd, by have := r.dp; show A.depth + 1 + 3 * k + 5 < _; omega, by have := r.un; show A.units + 3 + 16 * k + 200 < _; omega⟩
theorem Room.in1 {k : Nat} {A : Around} (r : Room (k + 1) A) : Room k A.in1 :=
  ⟨r.hd, by have := r.dp; show A.depth + 3 * k + 5 < _; omega, by have := r.un; show A.units + 1 + 16 * k + 200 < _; omega⟩
theorem Room.depth {k : Nat} {A : Around} (r : Room k A) : A.depth < recursionLimit := by have := r.dp; omega
theorem Room.units {k : Nat} {A : Around} (r : Room k A) : A.units + 64 < cLine := by have := r.un; omega
def tNil : TA := fun _ H Q => Q [] H
def tCons (ta : TE) (tr : TA) : TA := fun σ H Q => ta σ H fun x H1 => tr σ H1 fun xs H2 => Q (x :: xs) H2
section
variable {X : Cx} {e : Expr} {es : List Expr} {te : TE} {t : TA} {pos : Pos}
theorem pa_nil : PA X [] tNil := fun _ _ _ _ H Q I h => Calls.spliced_nil ⟨[], H, I, .nil, h⟩
theorem pa_cons (ha : PE X e te) (hr : PA X es t) (hs : starEach (e :: es) X.env = (false, eval e X.env) :: starEach es X.env := by rfl) : PA X (e :: es) (tCons te t) := by
  intro pos pins s σ H Q I h
  rw [hs]
  show wpAny _ _ (spliced ((false, eval e X.env) :: backTo pos (starEach es X.env))) _ _ s
  refine Calls.spliced_cons (thn (ha pins s σ H _ I h) fun u s1 ⟨x, H1, I1, r1, q1⟩ => ?_)
  exact thn (hr pos pins s1 σ H1 _ I1 q1) fun us s2 ⟨xs, H2, I2, r2, q2⟩ => ⟨x :: xs, H2, I2, .cons r1 r2, q2⟩
def tTup (t : TA) : TE := fun σ H Q => t σ H fun xs H1 => xs.length ≤ sizeLine ∧ ∀ p, H1 p = none → Q (.ref p) (upd H1 p (.tup xs))
def tLst (t : TA) : TE := fun σ H Q => t σ H fun xs H1 => xs.length ≤ sizeLine ∧ ∀ p, H1 p = none → Q (.ref p) (upd H1 p (.lst xs))
theorem pe_tup {x1} (h : PA X es t) : PE X (.Tuple es x1 pos) (tTup t) := by
  intro pins s σ H Q I hq
  refine wpAny_Tuple_spliced (thn (h pos pins s σ H _ I hq) fun us s1 ⟨xs, H1, I1, r, z, q⟩ => ⟨by rw [← r.length]; exact z, ?_⟩)
  have hf : H1 s1.heap.objs.size = none := I1.hok.fresh (Nat.le_refl _)
  refine ⟨.ref s1.heap.objs.size, upd H1 s1.heap.objs.size (.tup xs), I1.laid (t' := s1.toks) (fun b u e => Heap.get?_push_of_some _ e) (Nat.le_refl _) ?_, rfl, q _ hf⟩
  exact ⟨z, us, r, ⟨_, Heap.get?_push_size _ rfl, rfl, _, rfl⟩⟩
theorem pe_lst (h : PA X es t) : PE X (.List es pos) (tLst t) := by
  intro pins s σ H Q I hq
  refine wpAny_List_spliced (thn (h pos pins s σ H _ I hq) fun us s1 ⟨xs, H1, I1, r, z, q⟩ => ⟨by rw [← r.length]; exact z, ?_⟩)
  have hf : H1 s1.heap.objs.size = none := I1.hok.fresh (Nat.le_refl _)
  refine ⟨.ref s1.heap.objs.size, upd H1 s1.heap.objs.size (.lst xs), I1.laid (t' := s1.toks) (fun b u e => Heap.get?_push_of_some _ e) (Nat.le_refl _) ?_, rfl, q _ hf⟩
  exact ⟨z, us, 0, r, Heap.get?_push_size _ rfl⟩
end
abbrev Sp := List V → Hp → VK → XK → Prop
abbrev CXT := List Env → Hp → Shared → XK → Value → Shared → Prop
structure Env0 (P : Program) (w : World) (K : PySem.W.Frag) (mg : Str → Option Value) (base : Heap) (A : Around) (outer : List Env) (s : Shared) (H : Hp) : Prop where
  frames : A.frames = some outer
  mod : Mod K mg base
  bs : ∀ b o, base.get? b = some o → s.heap.get? b = some o ∧ H b = none
  bsz : base.objs.size ≤ s.heap.objs.size
  funs : s.heap.FunFrames base outer
  frf : ∀ b ∈ frs outer, H b = none
  hok : HOk P w H s.heap
  bare : AllBare s.gens
def CE (outer : List Env) (P : Program) (w : World) (H : Hp) (s : Shared) (Q : VK) (u : Value) (s' : Shared) : Prop :=
  ∃ v H', s'.os = s.os ∧ AllBare s'.gens ∧ Un (frs outer) [] H H' s.heap s'.heap ∧ HOk P w H' s'.heap ∧ RelV v u ∧ Q v H'
def CR (CX : CXT) (outer : List Env) (P : Program) (w : World) (H : Hp) (s : Shared) (Q : VK) (E : XK) (r : Result) (s' : Shared) : Prop :=
  match r with
  | .ok (.ret u) => CE outer P w H s Q u s'
  | .ok _ => False
  | .error e => CX outer H s E e s'
structure FnOk (P : Program) (w : World) (K : PySem.W.Frag) (mg : Str → Option Value) (base : Heap) (CX : CXT) (k : Nat) (f : Addr) (fd : FuncData) (ps : List Str) (sp : Sp) : Prop where
  len : ∀ vs H Q E, sp vs H Q E → vs.length = ps.length
  run : ∀ (A : Around) (outer : List Env) (s : Shared) (H : Hp) (args : Args) (us : List Value) (vs : List V) (Q : VK) (E : XK), Room k A → Env0 P w K mg base A outer s H → BindsTo s fd args (ps.zip us) → Vals vs us → sp vs H Q E →
    codeAny (model P w) A (.call (.ref f) args) (CR CX outer P w H s Q E) s
theorem FnOk.mono {P : Program} {w : World} {K : PySem.W.Frag} {mg : Str → Option Value} {base : Heap} {CX : CXT} {j k : Nat} {f : Addr} {fd : FuncData} {ps : List Str} {sp : Sp} (F : FnOk P w K mg base CX j f fd ps sp) (h : j ≤ k) :
    FnOk P w K mg base CX k f fd ps sp := ⟨F.len, fun A outer s H args us vs Q E hr => F.run A outer s H args us vs Q E (hr.mono h)⟩
theorem FnOk.imp {P : Program} {w : World} {K : PySem.W.Frag} {mg : Str → Option Value} {base : Heap} {CX : CXT} {k : Nat} {f : Addr} {fd : FuncData} {ps : List Str} {sp sp' : Sp} (F : FnOk P w K mg base CX k f fd ps sp)
    (h : ∀ vs H Q E, sp' vs H Q E → sp vs H Q E) : FnOk P w K mg base CX k f fd ps sp' :=
  ⟨fun vs H Q E q => F.len vs H Q E (h _ _ _ _ q), fun A outer s H args us vs Q E hr he hb hv hs => F.run A outer s H args us vs Q E hr he hb hv (h _ _ _ _ hs)⟩
theorem Env0.in1 {P : Program} {w : World} {K : PySem.W.Frag} {mg : Str → Option Value} {base : Heap} {A : Around} {outer : List Env} {s : Shared} {H : Hp} (e : Env0 P w K mg base A outer s H) :
    Env0 P w K mg base A.in1 outer s H := ⟨e.frames, e.mod, e.bs, e.bsz, e.funs, e.frf, e.hok, e.bare⟩
section
variable {X : Cx} {pins : List (Addr × Obj)} {σ : St} {H : Hp} {s s' : Shared}
theorem Inv.env0 (I : Inv X pins σ H s) : Env0 X.prog X.w X.K X.mg X.base X.A X.stack s H :=
  ⟨I.ok.frames, I.ok.mod, I.bs, Nat.le_trans I.ok.bsz I.sz, I.stack, I.stkFree, I.hok, I.bare⟩
theorem Inv.after {Q : VK} {u : Value} (I : Inv X pins σ H s) (h : CE X.stack X.prog X.w H s Q u s') : EP X pins σ Q u s' := by
  obtain ⟨v, H', os, bare, un, hok, r, q⟩ := h
  obtain ⟨hh, g, d, t, os'⟩ := s'
  obtain rfl : os' = s.os := os
  exact ⟨v, H', I.call (h' := hh) (g' := g) (d' := d) (t' := t) (ch := []) un hok bare (fun b z => absurd z (by simp)), r, q⟩
end
def tCall (sp : Sp) (dvs : List V) (E : XK) (t : TA) : TE := fun σ H Q => t σ H fun vs H1 => sp (vs ++ dvs) H1 Q E
def Binds (K : PySem.W.Frag) (fd : FuncData) (ps : List Str) (ds : List Value) : Prop :=
  ∀ (s : Shared) (us : List Value), K.In s.heap → (us ++ ds).length = ps.length → BindsTo s fd ⟨us, []⟩ (ps.zip (us ++ ds))
theorem Binds.all {K : PySem.W.Frag} {fd : FuncData} {ps : List Str} (h : ∀ us : List Value, us.length = ps.length → bindArgs fd ⟨us, []⟩ = pure (ps.zip us)) : Binds K fd ps [] := fun s us _ hl => by
  rw [List.append_nil] at hl ⊢
  exact .of_eq (h us hl)
def Passes (CX : CXT) (X : Cx) (E : XK) : Prop := ∀ (pins : List (Addr × Obj)) (σ : St) (H : Hp) (s : Shared) (e : Value) (s' : Shared), Inv X pins σ H s → CX X.stack H s E e s' → X.xe e s'
section
variable {X : Cx} {CX : CXT} {k : Nat} {f C : Addr} {fd : FuncData} {ps : List Str} {sp : Sp} {dvs : List V} {ds : List Value} {E : XK} {x m : Str} {p pos apos : Pos} {e o : Expr} {es : List Expr} {ta : TE} {t : TA}
theorem run_fn {pins : List (Addr × Obj)} {σ : St} {H : Hp} {s : Shared} {Q : VK} {us : List Value} {vs : List V} (F : FnOk X.prog X.w X.K X.mg X.base CX k f fd ps sp) (hr : Room k X.A) (hb : Binds X.K fd ps ds) (hd : Vals dvs ds) (hx : Passes CX X E)
    (I : Inv X pins σ H s) (r : Vals vs us) (h : sp (vs ++ dvs) H Q E) : wpAny (model X.prog X.w) X.A (call (.ref f) us) (EP X pins σ Q) X.xe s := by
  have r2 : Vals (vs ++ dvs) (us ++ ds) := r.append hd
  have hl : (us ++ ds).length = ps.length := by rw [← r2.length]; exact F.len _ _ _ _ h
  refine wpAny_call (codeAny_mono (F.run X.A X.stack s H ⟨us, []⟩ (us ++ ds) (vs ++ dvs) Q E hr I.env0 (hb s us I.kIn hl) r2 h) fun r s' hq => ?_)
  cases r with
  | error e => exact hx pins σ H s e s' I hq
  | ok fl =>
    cases fl with
    | ret u => exact I.after hq
    | next => exact False.elim hq
    | brk => exact False.elim hq
    | cont => exact False.elim hq
theorem pe_call (F : FnOk X.prog X.w X.K X.mg X.base CX k f fd ps sp) (hr : Room k X.A) (hg : Gl X x) (hm : X.mg x = some (.ref f)) (hk : PySem.W.keepIn X.K (.ref f) = true) (hb : Binds X.K fd ps ds) (hd : Vals dvs ds) (hx : Passes CX X E)
    (ha : PA X (e :: es) t) (hdb : (x == ("__debug__" : Str)) = false := by decide) (he : starEach (e :: es) X.env = (false, eval e X.env) :: starEach es X.env := by rfl) (hpl : (backTo pos (starEach es X.env)).any (·.1) = false := by rfl) :
    PE X (.Call (.Name x p) (e :: es) [] pos) (tCall sp dvs E t) := by
  intro pins s σ H Q I h
  refine wpAny_Call_Name_kw (ld_glob I hg hm ?_ hdb)
  refine PySem.W.callWith_K (h₀ := X.base) I.ok.mod.kin hk (thn (ha pos pins s σ H _ I h) fun us s1 ⟨vs, H1, I1, r, q⟩ => ⟨I1.kIn, ?_⟩) he hpl
  exact run_fn F hr hb hd hx I1 r q
structure Mk (K : PySem.W.Frag) (C f : Addr) : Prop where
  makes : PySem.W.makesIn K C = true
  init : PySem.W.findIn K (.ref C) "__init__" = some (some (.ref f))
  fn : PySem.W.isFn K (.ref f) = true
  kp : PySem.W.keepIn K (.ref C) = true
end
section
variable {X : Cx} {CX : CXT} {k : Nat} {f C : Addr} {fd : FuncData} {ps ks : List Str} {sp : Sp} {E : XK} {x m : Str} {p pos apos kpos : Pos} {e o : Expr} {es : List Expr} {kws : List Keyword} {te ta : TE} {t tk : TA} {nm : Option Str}
structure KBinds (K : PySem.W.Frag) (fd : FuncData) (ps ks : List Str) (g : List Value → List Value → List Value) (gV : List V → List V → List V) : Prop where
  to : ∀ (s : Shared) (us ws : List Value), K.In s.heap → (g us ws).length = ps.length → BindsTo s fd ⟨us, ks.zip ws⟩ (ps.zip (g us ws))
  rel : ∀ {vs : List V} {us : List Value} {zs : List V} {ws : List Value}, Vals vs us → Vals zs ws → Vals (gV vs zs) (g us ws)
variable {g : List Value → List Value → List Value} {gV : List V → List V → List V}
end
structure FnScope (N P : List Str) (sc : Scope) : Prop where
  kind : sc.kind = .function
  co : sc.isCoroutine = false
  gen : sc.isGenerator = false
  nd : N.Nodup
  pre : N.take P.length = P
  par : ∀ x ∈ P, sc.names.lookup x = some .local ∨ sc.names.lookup x = some .cell
  nofree : ∀ y ∈ sc.names, y.2 ≠ .free
theorem bindL_out {kindOf : Str → Option NameKind} {x : Str} : ∀ {binds : List (Str × Value)} {m : Str → Option Value}, (∀ v, (x, v) ∉ binds) → bindL kindOf binds m x = m x
  | [], _, _ => rfl
  | (n, v) :: r, m, h => by
    unfold bindL
    rw [bindL_out fun w hw => h w (List.mem_cons_of_mem _ hw)]
    split
    · have : x ≠ n := by rintro rfl; exact h v List.mem_cons_self
      simp [this]
    · rfl
theorem bindC_out {kindOf : Str → Option NameKind} {x : Str} : ∀ {binds : List (Str × Value)} {m : Str → Option Value}, (∀ v, (x, v) ∉ binds) → bindC kindOf binds m x = m x
  | [], _, _ => rfl
  | (n, v) :: r, m, h => by
    unfold bindC
    rw [bindC_out fun w hw => h w (List.mem_cons_of_mem _ hw)]
    split
    · rfl
    · have : x ≠ n := by rintro rfl; exact h v List.mem_cons_self
      simp [this]
theorem bindL_get {kindOf : Str → Option NameKind} {x : Str} {v : Value} : ∀ {P : List Str} {vs : List Value} {i : Nat} {m : Str → Option Value}, P.Nodup → P[i]? = some x → vs[i]? = some v → kindOf x = some .local →
    bindL kindOf (P.zip vs) m x = some v
  | [], _, _, _, _, h, _, _ => by simp at h
  | _ :: _, [], _, _, _, _, h, _ => by simp at h
  | p :: P, w :: vs, 0, m, nd, h1, h2, hk => by
    simp at h1 h2; subst h1; subst h2
    show bindL kindOf ((p, w) :: P.zip vs) m p = _
    unfold bindL
    rw [bindL_out fun v hv => (List.nodup_cons.mp nd).1 (List.of_mem_zip hv).1, if_pos hk]
    simp
  | p :: P, w :: vs, i + 1, m, nd, h1, h2, hk => by
    show bindL kindOf ((p, w) :: P.zip vs) m x = _
    unfold bindL
    exact bindL_get (i := i) (List.nodup_cons.mp nd).2 (by simpa using h1) (by simpa using h2) hk
theorem bindC_get {kindOf : Str → Option NameKind} {x : Str} {v : Value} : ∀ {P : List Str} {vs : List Value} {i : Nat} {m : Str → Option Value}, P.Nodup → P[i]? = some x → vs[i]? = some v → kindOf x ≠ some .local →
    bindC kindOf (P.zip vs) m x = some v
  | [], _, _, _, _, h, _, _ => by simp at h
  | _ :: _, [], _, _, _, _, h, _ => by simp at h
  | p :: P, w :: vs, 0, m, nd, h1, h2, hk => by
    simp at h1 h2; subst h1; subst h2
    show bindC kindOf ((p, w) :: P.zip vs) m p = _
    unfold bindC
    rw [bindC_out fun v hv => (List.nodup_cons.mp nd).1 (List.of_mem_zip hv).1, if_neg hk]
    simp
  | p :: P, w :: vs, i + 1, m, nd, h1, h2, hk => by
    show bindC kindOf ((p, w) :: P.zip vs) m x = _
    unfold bindC
    exact bindC_get (i := i) (List.nodup_cons.mp nd).2 (by simpa using h1) (by simpa using h2) hk
def start (N : List Str) (vs : List V) : St := vs.map some ++ List.replicate (N.length - vs.length) none
def cxOf (CX : CXT) (P : Program) (w : World) (K : PySem.W.Frag) (mg : Str → Option Value) (base : Heap) (N : List Str) (qual : Str) (scope : Scope) (f : Addr) (cd : Value) (A : Around) (outer : List Env) (s : Shared) (H : Hp) (E : XK) : Cx where
  prog := P
  w := w
  K := K
  mg := mg
  base := base
  A := A.deeper (envOfC qual scope s.heap.objs.size f cd)
  N := N
  s_0 := s
  H_0 := H
  env := envOfC qual scope s.heap.objs.size f cd
  outer := outer
  stack := envOfC qual scope s.heap.objs.size f cd :: outer
  ex := []
  calm := true
  fn := fun _ => true
  pn := []
  xe := fun e s' => wpAny (model P w) (A.deeper (envOfC qual scope s.heap.objs.size f cd)) (leaving (envOfC qual scope s.heap.objs.size f cd) e) (fun _ s'' => CX outer H s E e s'') (fun e' s'' => CX outer H s E e' s'') s'
theorem cell_has {sc : Scope} {n : Nat} {x : Str} (h : sc.names.lookup x = some .cell) : ∃ c, (cellsFrom n sc.names []).lookup x = some c := by
  have q := PySem.W.cellsFrom_some sc.names n [] (.inl h)
  exact Option.isSome_iff_exists.mp q
theorem inv_start {CX : CXT} {P : Program} {w : World} {K : PySem.W.Frag} {mg : Str → Option Value} {base : Heap} {N ps : List Str} {qual : Str} {scope : Scope} {f : Addr} {cd : Value} {A : Around} {outer : List Env} {s s1 : Shared} {H : Hp} {E : XK} {us : List Value} {vs : List V}
    (S : FnScope N ps scope) (hd : A.handled = none) (e0 : Env0 P w K mg base A outer s H) (hl : vs.length = ps.length) (r : Vals vs us)
    (x : InCallC s s.heap.objs.size (bindL (envOfC qual scope s.heap.objs.size f cd).kindOf (ps.zip us) fun _ => none) (cellsFrom (s.heap.objs.size + 1) scope.names []) (bindC (envOfC qual scope s.heap.objs.size f cd).kindOf (ps.zip us) fun _ => none) s1) :
    Inv (cxOf CX P w K mg base N qual scope f cd A outer s H E) [] (start N vs) H s1 := by
  have hpl : ps.length ≤ N.length := by have := congrArg List.length S.pre; rw [List.length_take] at this; omega
  obtain ⟨h1, tk, rfl, hk⟩ := x.done
  have noA : ∀ b : Addr, b ∉ (cxOf CX P w K mg base N qual scope f cd A outer s H E).ex := fun b z => absurd (show b ∈ ([] : List Addr) from z) (by simp)
  refine ⟨⟨e0.mod, S.kind, rfl, rfl, Nat.le_refl _, fun y z c h1 h2 => ?_, fun y hy => ?_, fun y c _ h => ?_, fun _ => hd, Around.frames_deeper e0.frames, .inr ⟨rfl, rfl⟩, fun b z => absurd z (noA b), e0.bs, e0.bsz, fun b _ _ => noA b, fun b z => absurd z (noA b), e0.funs, e0.frf⟩,
    rfl, e0.bare, Un.kept hk, ⟨_, x.toInCall.ns, fun i y v h1 h2 h3 => ?_⟩, fun y c h => ⟨_, x.cell y c h⟩, e0.hok.fresh (Nat.le_refl _), fun y c h => ?_, fun p hp => absurd (show p ∈ ([] : List (Addr × Obj)) from hp) (by simp), e0.hok.kept hk, ?_⟩
  · exact name_of_addr x.apart (PySem.mem_of_lookup h1) (PySem.mem_of_lookup h2)
  · have hy : scope.names.lookup y = some .cell ∨ scope.names.lookup y = some .free := hy
    rcases hy with hy | hy
    · exact cell_has hy
    · exact absurd rfl (S.nofree _ (PySem.mem_of_lookup hy))
  · exact Nat.le_of_lt (x.above y c (PySem.mem_of_lookup h))
  · have hi : i < vs.length := by
      unfold start at h2
      by_cases hi : i < vs.length
      · exact hi
      · rw [List.getElem?_append_right (by simpa using hi)] at h2
        rw [List.getElem?_replicate] at h2
        split at h2 <;> cases h2
    have ha : vs[i]? = some v := by
      unfold start at h2
      rw [List.getElem?_append_left (by simpa using hi), List.getElem?_map] at h2
      cases e : vs[i]? with
      | none => rw [e] at h2; cases h2
      | some a => rw [e] at h2; cases h2; rfl
    obtain ⟨u, hu, rv⟩ := r.get ha
    have hp : ps[i]? = some y := by
      rw [← S.pre, List.getElem?_take_of_lt (by omega)]; exact h1
    have ndP : ps.Nodup := by rw [← S.pre]; exact S.nd.sublist (List.take_sublist _ _)
    refine ⟨u, rv, ?_⟩
    rcases S.par y (List.mem_of_getElem? hp) with k | k
    · exact .inl ⟨k, bindL_get ndP hp hu k⟩
    · obtain ⟨c, e⟩ := cell_has (n := s.heap.objs.size + 1) k
      refine .inr ⟨.inl k, c, e, ?_⟩
      have q := x.cell y c e
      rw [bindC_get ndP hp hu (by show scope.names.lookup y ≠ _; rw [k]; decide)] at q
      exact q
  · exact e0.hok.fresh (Nat.le_of_lt (x.above y c (PySem.mem_of_lookup h)))
  · unfold start
    show _ = N.length
    rw [List.length_append, List.length_map, List.length_replicate]
    omega
theorem fn_of {CX : CXT} {P : Program} {w : World} {K : PySem.W.Frag} {mg : Str → Option Value} {base : Heap} {k : Nat} {f : Addr} {name qual : Str} {params : Arguments} {body : List Stmt} {scope : Scope} {dV kV doc pm cdv ct oc : Value} {an od : Option Addr}
    {osl : Array (Option Value)} {N ps : List Str} {sp : Sp} (lk : K.lookup f = some ⟨oc, od, .func (PySem.W.fnOf name qual params body scope dV kV doc pm an cdv ct), osl⟩) (hcd : PySem.W.codeIn K cdv qual = true) (S : FnScope N ps scope)
    (len : ∀ vs H Q E, sp vs H Q E → vs.length = ps.length)
    (hbody : ∀ (A : Around) (outer : List Env) (s : Shared) (H : Hp) (vs : List V) (Q : VK) (E : XK), Room k (A.deeper (envOfC qual scope s.heap.objs.size f cdv)) → sp vs H Q E →
      ∃ t, PSs (cxOf CX P w K mg base N qual scope f cdv A outer s H E) body t ∧ t { nx := fun _ H' => Q .non H', rt := Q } (start N vs) H) :
    FnOk P w K mg base CX (k + 1) f (PySem.W.fnOf name qual params body scope dV kV doc pm an cdv ct) ps sp := by
  refine ⟨len, fun A outer s H args us vs Q E hr e0 hb r hsp => ?_⟩
  have hl := len _ _ _ _ hsp
  have KX : K.In s.heap := e0.mod.kin.keeps fun b o e => (e0.bs b o e).1
  have lim : s.heap.NoLimit := e0.mod.nolimit.keeps fun b o e => (e0.bs b o e).1
  have hkind : ∀ y ∈ ps.zip us, scope.names.lookup y.1 = some .local ∨ (scope.names.lookup y.1 = some .cell ∧ ((cellsFrom (s.heap.objs.size + 1) scope.names []).lookup y.1).isSome = true) := fun ⟨n, v⟩ hy => by
    rcases S.par n (List.of_mem_zip hy).1 with q | q
    · exact .inl q
    · exact .inr ⟨q, PySem.W.cellsFrom_some _ _ _ (.inl q)⟩
  refine codeAny_call_function hr.depth (KX _ _ lk) rfl S.co S.gen rfl (PySem.W.codeRec_of KX hcd) (hb _ _ _ _ ?_)
  refine wpAny_newFunctionEnv_cells S.kind hkind fun env he s1 x => ?_
  subst he
  refine ⟨lim.keeps x.toInCall.keep, codeAny_func ?_⟩
  obtain ⟨t, ht, hq⟩ := hbody A outer s H vs Q E (hr.deeper _) hsp
  have I : Inv (cxOf CX P w K mg base N qual scope f cdv A outer s H E) [] (start N vs) H s1 := inv_start S hr.hd e0 hl r x
  refine wpAny_mono (ht [] s1 (start N vs) H _ I hq) (fun fl s' hs => ?_) fun e s' hs => hs
  have fin : ∀ {σ' : St} {H' : Hp} {v : V} {u : Value}, Inv (cxOf CX P w K mg base N qual scope f cdv A outer s H E) [] σ' H' s' → RelV v u → Q v H' → CE outer P w H s Q u s' :=
    fun {σ' H' v u} J rv q => ⟨v, H', J.os, J.bare, J.base, J.hok, rv, q⟩
  cases fl with
  | ret u =>
    obtain ⟨v, σ', H', J, rv, q⟩ := hs
    exact fin J rv q
  | next =>
    obtain ⟨σ', H', J, q⟩ := hs
    exact fin (v := V.non) (u := Value.none) J rfl q
  | brk =>
    obtain ⟨_, _, _, q⟩ := hs
    exact False.elim q
  | cont =>
    obtain ⟨_, _, _, q⟩ := hs
    exact False.elim q
end L2
namespace L2
open PySem PySem.Spec PyProof.Rows
section
variable {X : Cx} {x : Str} {p pos : Pos} {e : Expr} {es : List Expr} {t : TA} {id T : String} {r : List V → Hp → VK → Prop}
def tCB (r : List V → Hp → VK → Prop) (t : TA) : TE := fun σ H Q => t σ H fun vs H1 => r vs H1 Q
theorem pe_callB (hc : CallR X (.builtin id) r) (hg : Gl X x) (hm : X.mg x = none) (hv : bootBuiltins x = some (.builtin id)) (ha : PA X (e :: es) t) (hn : x ≠ "__name__" := by decide) (hdb : (x == ("__debug__" : Str)) = false := by decide)
    (he : starEach (e :: es) X.env = (false, eval e X.env) :: starEach es X.env := by rfl) (hpl : (backTo pos (starEach es X.env)).any (·.1) = false := by rfl) : PE X (.Call (.Name x p) (e :: es) [] pos) (tCB r t) := by
  intro pins s σ H Q I h
  refine wpAny_Call_Name_kw (ld_blt I hg hm hv ?_ hn hdb)
  exact PyProof.Rows.callWith_builtin1 (thn (ha pos pins s σ H _ I h) fun us s1 ⟨vs, H1, I1, r1, q1⟩ => hc pins s1 σ H1 vs us Q I1 r1 q1) he hpl
theorem pe_callTy (hc : CallR X (.type T) r) (hg : Gl X x) (hm : X.mg x = none) (hv : bootBuiltins x = some (.type T)) (ha : PA X (e :: es) t) (hn : x ≠ "__name__" := by decide) (hdb : (x == ("__debug__" : Str)) = false := by decide)
    (he : starEach (e :: es) X.env = (false, eval e X.env) :: starEach es X.env := by rfl) (hpl : (backTo pos (starEach es X.env)).any (·.1) = false := by rfl) : PE X (.Call (.Name x p) (e :: es) [] pos) (tCB r t) := by
  intro pins s σ H Q I h
  refine wpAny_Call_Name_kw (ld_blt I hg hm hv ?_ hn hdb)
  exact PyProof.Rows.callWith_type1 (thn (ha pos pins s σ H _ I h) fun us s1 ⟨vs, H1, I1, r1, q1⟩ => hc pins s1 σ H1 vs us Q I1 r1 q1) he hpl
end
end L2
namespace HT
open PySem PyProof.Rows
section
open PySem.SeqAt
open PySem.AutoSeq1 (wpAny_loadPart')
open PySem.MeetsSeq PySem.MeetsSeq2 PySem.MeetsSeq3
end
section
variable {prog : Program} {w : World} {A : Around} {E : Value → Shared → Prop} {s : Shared}
theorem cat_tup {t b : Addr} {vs ws : List Value} {Q : Value → Shared → Prop} (ht : IsTup s.heap t vs.toArray) (hb : IsTup s.heap b ws.toArray) (hv : vs ≠ [])
    (h1 : ws = [] → Q (.ref t) s) (h2 : ws ≠ [] → Q (.ref s.heap.objs.size) { s with heap := s.heap.push { cls := .type "tuple", data := .seq (vs ++ ws).toArray } })
    (hsz : vs.length + ws.length ≤ sizeLine) : wpAny (model prog w) A (binaryOp .Add (.ref t) (.ref b)) Q E s := by
  obtain ⟨⟨cls, dd, data, sl⟩, ho, hc, n, hd⟩ := id ht
  obtain ⟨⟨cls2, dd2, data2, sl2⟩, ho2, hc2, n2, hd2⟩ := id hb
  simp only at hc hd hc2 hd2
  subst hc hd hc2 hd2
  have e : vs.toArray ++ ws.toArray = (vs ++ ws).toArray := by simp
  by_cases hw : ws = []
  · exact concat_meets ⟨_, ho, rfl⟩ ⟨_, ho2, rfl⟩ noFill_tuple_add seq_tuple_add PySem.F.slot_tuple_add PySem.F.entry_tuple_add (PySem.F.args_tuple_add_2 _ _)
      (tuple_addW1 t b vs.toArray ws.toArray n n2 dd dd2 sl sl2 (by simpa using hv) (by simp [hw])) ⟨ho, ho2, h1 hw⟩
  · refine concat_meets ⟨_, ho, rfl⟩ ⟨_, ho2, rfl⟩ noFill_tuple_add seq_tuple_add PySem.F.slot_tuple_add PySem.F.entry_tuple_add (PySem.F.args_tuple_add_2 _ _)
      (tuple_addW2 t b vs.toArray ws.toArray n n2 dd dd2 sl sl2 (by simpa using hv) (by simpa using hw) (by rw [List.size_toArray, List.size_toArray]; exact hsz)) ⟨ho, ho2, ?_⟩
    rw [e]
    exact h2 hw
def sIx (n d : Nat) : Option Int → Nat
  | none => d
  | some v => if v < 0 then (v + (n : Int)).toNat else min v.toNat n
theorem sIx_nat (n d k : Nat) : sIx n d (some (k : Int)) = min k n := by
  show (if (k : Int) < 0 then ((k : Int) + (n : Int)).toNat else min (k : Int).toNat n) = min k n
  rw [if_neg (by omega), Int.toNat_natCast]
theorem sIx_le (n d : Nat) (hd : d ≤ n) (o : Option Int) : sIx n d o ≤ n := by
  cases o with
  | none => exact hd
  | some v =>
    show (if v < 0 then (v + (n : Int)).toNat else min v.toNat n) ≤ n
    by_cases hv : v < 0
    · rw [if_pos hv]; omega
    · rw [if_neg hv]; exact Nat.min_le_right _ _
theorem clip_eq (v : Int) (n d : Nat) : (if v < 0 then max (v + (n : Int)) 0 else min v (n : Int)) = ((sIx n d (some v) : Nat) : Int) := by
  show (if v < 0 then max (v + (n : Int)) 0 else min v (n : Int)) = (((if v < 0 then (v + (n : Int)).toNat else min v.toNat n) : Nat) : Int)
  by_cases hv : v < 0
  · simp only [if_pos hv]; omega
  · simp only [if_neg hv]; omega
theorem adjust_gen (lo hi : Option Int) (n : Nat) : Builtin.Slice.sliceAdjust lo hi 1 (n : Int) = (((sIx n 0 lo : Nat) : Int), ((sIx n n hi : Nat) : Int)) := by
  have h1 : ¬ ((1 : Int) < 0) := by omega
  unfold Builtin.Slice.sliceAdjust
  simp only [h1, if_false]
  refine Prod.ext ?_ ?_
  · cases lo with
    | none => rfl
    | some v => exact clip_eq v n 0
  · cases hi with
    | none => rfl
    | some v => exact clip_eq v n n
theorem places_gen (i j : Nat) : Builtin.Slice.slicePlaces (i : Int) (j : Int) 1 = j - i := by
  unfold Builtin.Slice.slicePlaces
  have h1 : (1 : Int) > 0 := by omega
  simp only [h1, if_true, Int.ediv_one]
  split <;> omega
theorem slicePart_ {v : Value} {o : Option Int} {Q : Option Int → Shared → Prop} (p : IsPart v o) (h : Q o s) : wpAny (model prog w) A (Builtin.Slice.slicePartIndex v) Q E s := by
  cases p with
  | none => exact slicePart_none h
  | int i t => exact slicePart_int h
theorem sliceApplied_gen {sl : Addr} {vl vu : Value} {lo hi : Option Int} {n : Nat} {Q : Int × Int × Nat → Shared → Prop} (hs : s.heap.IsSliceOf sl vl vu .none) (pl : IsPart vl lo) (pu : IsPart vu hi)
    (h : Q (((sIx n 0 lo : Nat) : Int), 1, sIx n n hi - sIx n 0 lo) s) : wpAny (model prog w) A (Builtin.Slice.sliceApplied (.ref sl) (pure (n : Int))) Q E s := by
  obtain ⟨os, hos, hcs, hds⟩ := id hs
  unfold Builtin.Slice.sliceApplied Builtin.Slice.sliceFields
  refine wpAny_bind (wpAny_bind (wpAny_field hos hds (x := vl) rfl (wpAny_bind (wpAny_field hos hds (x := vu) rfl (wpAny_bind (wpAny_field hos hds (x := .none) rfl (wpAny_pure ?_)))))))
  refine wpAny_bind (slicePart_none ?_)
  show wpAny _ _ (if ((1 : Int) == 0) = true then _ else _) _ _ s
  rw [if_neg (by decide)]
  refine wpAny_bind (slicePart_ pl (wpAny_bind (slicePart_ pu (wpAny_bind (wpAny_pure ?_)))))
  show wpAny _ _ (match Builtin.Slice.sliceAdjust lo hi 1 (n : Int) with | (lo, hi) => pure (lo, (1 : Int), Builtin.Slice.slicePlaces lo hi 1)) _ _ s
  rw [adjust_gen lo hi n]
  show wpAny _ _ (pure (((sIx n 0 lo : Nat) : Int), (1 : Int), Builtin.Slice.slicePlaces ((sIx n 0 lo : Nat) : Int) ((sIx n n hi : Nat) : Int) 1)) _ _ s
  rw [places_gen]
  exact wpAny_pure h
theorem pick_gen (xs : Array Value) (i k : Nat) : ((List.range k).filterMap fun (m : Nat) => xs[((i : Int) + (m : Int) * 1).toNat]?).toArray = ((xs.toList.drop i).take k).toArray := by
  have e : (fun (m : Nat) => xs[((i : Int) + (m : Int) * 1).toNat]?) = fun m => xs[i + m]? := by
    funext m
    have : ((i : Int) + (m : Int) * 1).toNat = i + m := by omega
    rw [this]
  rw [e]
  have := pick_run xs i k
  rw [List.filterMap_map] at this
  have e2 : ((fun x => xs[x]?) ∘ fun x => i + x) = fun m => xs[i + m]? := rfl
  rw [e2] at this
  rw [this]
theorem getItem_tuple_cut {t sl : Addr} {items : Array Value} {vl vu : Value} {lo hi : Option Int} {Q : Value → Shared → Prop} (ht : IsTup s.heap t items) (hs : s.heap.IsSliceOf sl vl vu .none) (pl : IsPart vl lo) (pu : IsPart vu hi)
    (hw : ¬ (sIx items.size 0 lo = 0 ∧ sIx items.size items.size hi = items.size))
    (h : Q (.ref s.heap.objs.size) { s with heap := s.heap.push { cls := .type "tuple", data := .seq ((items.toList.drop (sIx items.size 0 lo)).take (sIx items.size items.size hi - sIx items.size 0 lo)).toArray } })
    (hsz : items.size ≤ sizeLine) : wpAny (model prog w) A (getItem (.ref t) (.ref sl)) Q E s := by
  have htake : sizeOk (.seq ((items.toList.drop (sIx items.size 0 lo)).take (sIx items.size items.size hi - sIx items.size 0 lo)).toArray) := by
    show ((items.toList.drop (sIx items.size 0 lo)).take (sIx items.size items.size hi - sIx items.size 0 lo)).toArray.size ≤ sizeLine
    rw [List.size_toArray, List.length_take, List.length_drop, Array.length_toList]
    omega
  have hj : sIx items.size items.size hi ≤ items.size := sIx_le _ _ (Nat.le_refl _) hi
  obtain ⟨os, hos, hcs, hds⟩ := id hs
  have hTs : s.TypeIs (.ref sl) "slice" := ⟨os, hos, hcs⟩
  unfold getItem
  try with_reducible refine wpAny_holding ?_
  first | refine wpAny_bind (wpAny_pure ?_) | skip
  refine wpAny_bind (wpAny_sequenceKey ht.typeIs (by decide) ?_)
  refine wpAny_bind (wpAny_callSpecial?_slot (name := Str.ofString "__getitem__") ht.typeIs PyProof.Rows.slot_tuple_getitem
    (wpAny_call_entry PyProof.Rows.slot_tuple_getitem ht.typeIs entry_tuple_getitem ?_ (args_tuple_getitem _ _)))
  show wpAny _ _ (Builtin.Tuple.tupleItemsOf (.ref t) >>= _) _ _ s
  refine wpAny_bind (tupleItemsOf_ ht ?_)
  refine wpAny_bind (wpAny_typeOf hTs ?_)
  rw [if_pos (by decide)]
  refine wpAny_bind (sliceApplied_gen hs pl pu ?_)
  have hno : ¬ ((((sIx items.size 0 lo : Nat) : Int) == 0 && (1 : Int) == 1 && (sIx items.size items.size hi - sIx items.size 0 lo) == items.size) = true) := by
    intro q
    rw [Bool.and_eq_true, Bool.and_eq_true] at q
    have q1 : ((sIx items.size 0 lo : Nat) : Int) = 0 := eq_of_beq q.1.1
    have q2 : sIx items.size items.size hi - sIx items.size 0 lo = items.size := eq_of_beq q.2
    exact hw ⟨by omega, by omega⟩
  show wpAny _ _ (if (((sIx items.size 0 lo : Nat) : Int) == 0 && (1 : Int) == 1 && (sIx items.size items.size hi - sIx items.size 0 lo) == items.size) = true then _ else _) _ _ s
  rw [if_neg hno, pick_gen]
  first
    | exact wpAny_bind (m := Builtin.Tuple.tupleExact _) (wpAny_newObj_type (wpAny_pure ⟨_, rfl, wpAny_pure h⟩) htake)
    | exact wpAny_bind (m := Builtin.Tuple.tupleExact _) (wpAny_newObj_type (wpAny_bind (wpAny_pure (wpAny_pure ⟨_, rfl, wpAny_pure h⟩))) htake)
    | exact wpAny_bind (wpAny_bind (m := Builtin.Tuple.tupleExact _) (wpAny_newObj_type (wpAny_pure (wpAny_pure ⟨_, rfl, wpAny_pure h⟩)) htake))
    | exact wpAny_bind (wpAny_bind (m := Builtin.Tuple.tupleExact _) (wpAny_newObj_type (wpAny_pure ⟨_, rfl, wpAny_pure h⟩) htake))
end
end HT
namespace L2
open PySem PySem.Spec PyProof.Rows
abbrev TO := St → Hp → (Option Int → Hp → Prop) → Prop
def PO (X : Cx) (e : Option Expr) (t : TO) : Prop :=
  ∀ (pins : List (Addr × Obj)) (s : Shared) (σ : St) (H : Hp) (Q : Option Int → Hp → Prop), Inv X pins σ H s → t σ H Q →
    wpAny (model X.prog X.w) X.A (evalPart e X.env) (fun u s' => ∃ o H', Inv X pins σ H' s' ∧ IsPart u o ∧ Q o H') X.xe s
def tNoPart : TO := fun _ H Q => Q none H
def tPart (t : TE) : TO := fun σ H Q => t σ H fun x H1 => ∃ i, x = .int i ∧ Q (some i) H1
section
variable {X : Cx} {e : Expr} {te : TE} {lo hi : Option Expr} {tl th : TO} {pos p2 : Pos}
theorem po_none : PO X none tNoPart := by
  intro pins s σ H Q I h
  rw [evalPart_none]
  exact wpAny_pure ⟨none, H, I, .none, h⟩
theorem po_some (h : PE X e te) : PO X (some e) (tPart te) := by
  intro pins s σ H Q I hw
  rw [evalPart_some]
  refine thn (h pins s σ H _ I hw) fun u s1 ⟨x, H1, I1, r1, q1⟩ => ?_
  obtain ⟨i, rfl, q⟩ := q1
  obtain ⟨t, rfl⟩ := r1
  exact ⟨some i, H1, I1, .int i t, q⟩
def SlR (X : Cx) (r : V → Option Int → Option Int → Hp → VK → Prop) : Prop :=
  ∀ (pins : List (Addr × Obj)) (s : Shared) (σ : St) (H : Hp) (x : V) (v vl vu : Value) (lo hi : Option Int) (sl : Addr) (Q : VK), Inv X pins σ H s → RelV x v → s.heap.IsSliceOf sl vl vu .none → IsPart vl lo → IsPart vu hi → r x lo hi H Q →
    ∃ T id, typeLookup (.type T) "__getitem__" = pure (some (.builtin id)) ∧ s.TypeIs v T ∧ wpAny (model X.prog X.w) X.A (getItem v (.ref sl)) (EP X pins σ Q) X.xe s
theorem SlR.or {r r' : V → Option Int → Option Int → Hp → VK → Prop} (h : SlR X r) (h' : SlR X r') : SlR X (fun x lo hi H Q => r x lo hi H Q ∨ r' x lo hi H Q) := by
  intro pins s σ H x v vl vu lo hi sl Q I rx hs pl pu q
  rcases q with q | q
  · exact h pins s σ H x v vl vu lo hi sl Q I rx hs pl pu q
  · exact h' pins s σ H x v vl vu lo hi sl Q I rx hs pl pu q
def tSl (r : V → Option Int → Option Int → Hp → VK → Prop) (te : TE) (tl th : TO) : TE := fun σ H Q => te σ H fun x H1 => tl σ H1 fun l H2 => th σ H2 fun u H3 => r x l u H3 Q
theorem pe_slice {r : V → Option Int → Option Int → Hp → VK → Prop} (hr : SlR X r) (he : PE X e te) (hl : PO X lo tl) (hu : PO X hi th) : PE X (.Subscript e (.Slice lo hi none p2) pos) (tSl r te tl th) := by
  intro pins s σ H Q I h
  refine Subscript_ (thn (he pins s σ H _ I h) fun v s1 ⟨x, H1, I1, r1, q1⟩ => ?_)
  refine wpAny_Slice (thn (hl pins s1 σ H1 _ I1 q1) fun vl s2 ⟨l, H2, I2, pl, q2⟩ => thn (hu pins s2 σ H2 _ I2 q2) fun vu s3 ⟨u, H3, I3, pu, q3⟩ => ?_)
  rw [evalPart_none]
  refine wpAny_pure ?_
  have I4 : Inv X pins σ H3 { s3 with heap := s3.heap.push { cls := .type "slice", data := .fields #[vl, vu, .none] } } := I3.kept (t' := s3.toks) fun b ob q => Heap.get?_push_of_some _ q
  obtain ⟨T, id, hT, ht, hg⟩ := hr pins { s3 with heap := s3.heap.push { cls := .type "slice", data := .fields #[vl, vu, .none] } } σ H3 x v vl vu l u s3.heap.objs.size Q I4 r1 (Heap.IsSliceOf.new ..) pl pu q3
  show wpAny (model X.prog X.w) X.A (subscriptTail e (.Slice lo hi none p2) v (.ref s3.heap.objs.size)) (EP X pins σ Q) X.xe { s3 with heap := s3.heap.push { cls := .type "slice", data := .fields #[vl, vu, .none] } }
  exact tail_any (ops := [.ref s3.heap.objs.size, v]) ht hT hg (by with_unfolding_all rfl)
def cutV (xs : List V) (lo hi : Option Int) : List V := (xs.drop (HT.sIx xs.length 0 lo)).take (HT.sIx xs.length xs.length hi - HT.sIx xs.length 0 lo)
theorem cutV_length (xs : List V) (lo hi : Option Int) : (cutV xs lo hi).length ≤ xs.length := by
  unfold cutV
  rw [List.length_take, List.length_drop]
  omega
def rSlT (K : PySem.W.Frag) : V → Option Int → Option Int → Hp → VK → Prop := fun x lo hi H Q => ∃ a xs, x = .ref a ∧ SqT K H a xs ∧
  ¬ (HT.sIx xs.length 0 lo = 0 ∧ HT.sIx xs.length xs.length hi = xs.length) ∧ ∀ p, H p = none → Q (.ref p) (upd H p (.tup (cutV xs lo hi)))
theorem sl_tup : SlR X (rSlT X.K) := by
  intro pins s σ H x v vl vu lo hi sl Q I rx hs pl pu h
  obtain ⟨a, xs, rfl, hx, hw, q⟩ := h
  cases rx
  obtain ⟨its, r, ht, hz⟩ := I.tuple hx
  have hlen : its.toArray.size = xs.length := by rw [List.size_toArray]; exact r.length.symm
  refine ⟨"tuple", _, PyProof.Rows.slot_tuple_getitem.lookup, ht.typeIs, ?_⟩
  refine HT.getItem_tuple_cut ht hs pl pu (by rw [hlen]; exact hw) ?_ (by rw [hlen]; exact hz)
  rw [hlen]
  refine ⟨.ref s.heap.objs.size, _, I.laid (t' := s.toks) (o := .tup (cutV xs lo hi)) (fun b ob q => Heap.get?_push_of_some _ q) (Nat.le_refl _) ?_, rfl, q _ (I.hok.fresh (Nat.le_refl _))⟩
  exact ⟨Nat.le_trans (cutV_length xs lo hi) hz, _, (r.drop (HT.sIx xs.length 0 lo)).take (HT.sIx xs.length xs.length hi - HT.sIx xs.length 0 lo), IsTup.new _ _⟩
def rCatT (K : PySem.W.Frag) : R2 := fun x y H Q => ∃ a b xs ys, x = .ref a ∧ y = .ref b ∧ SqT K H a xs ∧ SqT K H b ys ∧ xs ≠ [] ∧ xs.length + ys.length ≤ sizeLine ∧
  (ys = [] → Q (.ref a) H) ∧ (ys ≠ [] → ∀ p, H p = none → Q (.ref p) (upd H p (.tup (xs ++ ys))))
theorem Vals.nil_iff {xs : List V} {us : List Value} (r : Vals xs us) : us = [] ↔ xs = [] := by
  cases r with
  | nil => simp
  | cons _ _ => simp
theorem op_catT : OpR X (binaryOp .Add) (rCatT X.K) := by
  intro pins s σ H x y v u Q I rx ry h
  obtain ⟨a, b, xs, ys, rfl, rfl, ha, hb, hx, hz, q1, q2⟩ := h
  cases rx
  cases ry
  obtain ⟨its, r1, p1, _⟩ := I.tuple ha
  obtain ⟨its2, r2, p2, _⟩ := I.tuple hb
  refine HT.cat_tup p1 p2 (fun z => hx (r1.nil_iff.mp z)) (fun z => ⟨.ref a, H, I, rfl, q1 (r2.nil_iff.mp z)⟩) (fun z => ?_) (by rw [← r1.length, ← r2.length]; exact hz)
  refine ⟨.ref s.heap.objs.size, _, I.laid (t' := s.toks) (o := .tup (xs ++ ys)) (fun b ob q => Heap.get?_push_of_some _ q) (Nat.le_refl _) ?_, rfl, q2 (fun w => z (r2.nil_iff.mpr w)) _ (I.hok.fresh (Nat.le_refl _))⟩
  exact ⟨by rw [List.length_append]; exact hz, _, r1.append r2, IsTup.new _ _⟩
end
end L2
namespace L2
open PySem PySem.Spec PyProof.Rows
def ixN (n : Nat) (i : Int) : Option Nat := if 0 ≤ i then (if i < n then some i.toNat else none) else if -(n : Int) ≤ i then some (i + n).toNat else none
def atI {α : Type} (xs : List α) (i : Int) : Option α := (ixN xs.length i).bind fun j => xs[j]?
theorem ixN_seq {n : Nat} {i : Int} {j : Nat} (h : ixN n i = some j) : seqIndex? i n = some j ∧ j < n ∧ -(n : Int) ≤ i ∧ i < n := by
  unfold ixN at h
  by_cases h0 : 0 ≤ i
  · rw [if_pos h0] at h
    by_cases h1 : i < n
    · rw [if_pos h1] at h
      have e : i.toNat = j := Option.some.inj h
      exact ⟨by rw [seqIndex_of h0 h1, e], by omega, by omega, h1⟩
    · rw [if_neg h1] at h; cases h
  · rw [if_neg h0] at h
    by_cases h1 : -(n : Int) ≤ i
    · rw [if_pos h1] at h
      have e : (i + n).toNat = j := Option.some.inj h
      exact ⟨by rw [seqIndex_neg (by omega) h1, e], by omega, h1, by omega⟩
    · rw [if_neg h1] at h; cases h
theorem atI_get {α : Type} {xs : List α} {i : Int} {v : α} (h : atI xs i = some v) : ∃ j, seqIndex? i xs.length = some j ∧ xs[j]? = some v ∧ j < xs.length ∧ -(xs.length : Int) ≤ i ∧ i < xs.length := by
  unfold atI at h
  cases e : ixN xs.length i with
  | none => rw [e] at h; cases h
  | some j =>
    rw [e] at h
    obtain ⟨h1, h2, h3, h4⟩ := ixN_seq e
    exact ⟨j, h1, h, h2, h3, h4⟩
def PlainIx (b : Expr) : Prop := ∀ o i, subscripted b false o i = operate [o, i] (getItem o i)
def IxR (X : Cx) (r : R2) : Prop :=
  ∀ (value slice : Expr) (pins : List (Addr × Obj)) (s : Shared) (σ : St) (H : Hp) (x y : V) (v u : Value) (Q : VK), Inv X pins σ H s → RelV x v → RelV y u → r x y H Q →
    subscripted slice false v u = operate [v, u] (getItem v u) → wpAny (model X.prog X.w) X.A (subscriptTail value slice v u) (EP X pins σ Q) X.xe s
def MtR (X : Cx) (id : String) (r : V → List V → Hp → VK → Prop) : Prop :=
  ∀ (pins : List (Addr × Obj)) (s : Shared) (σ : St) (H : Hp) (x : V) (xs : List V) (v : Value) (us : List Value) (Q : VK), Inv X pins σ H s → RelV x v → Vals xs us → r x xs H Q →
    wpAny (model X.prog X.w) X.A (call (.builtin id) (v :: us)) (EP X pins σ Q) X.xe s
section
variable {X : Cx} {a b : Expr} {ta tb : TE} {pos : Pos}
theorem IxR.or {r r' : R2} (h : IxR X r) (h' : IxR X r') : IxR X (fun x y H Q => r x y H Q ∨ r' x y H Q) := by
  intro value slice pins s σ H x y v u Q I rx ry q hs
  rcases q with q | q
  · exact h value slice pins s σ H x y v u Q I rx ry q hs
  · exact h' value slice pins s σ H x y v u Q I rx ry q hs
theorem MtR.or {id : String} {r r' : V → List V → Hp → VK → Prop} (h : MtR X id r) (h' : MtR X id r') : MtR X id (fun x xs H Q => r x xs H Q ∨ r' x xs H Q) := by
  intro pins s σ H x xs v us Q I rx rs q
  rcases q with q | q
  · exact h pins s σ H x xs v us Q I rx rs q
  · exact h' pins s σ H x xs v us Q I rx rs q
theorem pe_ix {r : R2} (hr : IxR X r) (ha : PE X a ta) (hb : PE X b tb) (hs : PlainIx b) : PE X (.Subscript a b pos) (tOp r ta tb) := by
  intro pins s σ H Q I h
  exact Subscript_ (binT ha hb I h fun v u s2 x y H2 I2 rx ry q => hr a b pins s2 σ H2 x y v u Q I2 rx ry q (hs _ _))
def rIxL (K : PySem.W.Frag) : R2 := fun x y H Q => ∃ p xs i v, x = .ref p ∧ y = .int i ∧ SqL K H p xs ∧ atI xs i = some v ∧ Q v H
def rIxT (K : PySem.W.Frag) : R2 := fun x y H Q => ∃ p xs i v, x = .ref p ∧ y = .int i ∧ SqT K H p xs ∧ atI xs i = some v ∧ Q v H
theorem ix_list : IxR X (rIxL X.K) := by
  intro value slice pins s σ H x y v u Q I rx ry h hs
  obtain ⟨p, xs, i, z, rfl, rfl, hq, he, q⟩ := h
  cases rx
  obtain ⟨t, rfl⟩ := ry
  obtain ⟨its, r, pl, hz⟩ := I.list hq
  obtain ⟨j, h1, h2, h3, h4, h5⟩ := atI_get he
  obtain ⟨w, ew, rw'⟩ := r.get h2
  have hl := r.length
  have hn := line63
  have fin : EP X pins σ Q w s := ⟨z, H, I, rw', q⟩
  by_cases h0 : 0 ≤ i
  · have hj : i.toNat = j := by
      rw [seqIndex_of h0 h5] at h1
      exact Option.some.inj h1
    exact item_listR pl.isList h0 (by omega) (by rw [hj]; simpa using ew) fin hs
  · have hj : (i + (its.toArray.size : Int)).toNat = j := by
      rw [seqIndex_neg (by omega) h4] at h1
      rw [List.size_toArray, ← hl]
      exact Option.some.inj h1
    exact subscriptTail_builtinR (x := w) pl.isList.typeIs slot_list_getitem.lookup
      (wpAny_getItem_list_neg (Q := fun r s' => r = w ∧ EP X pins σ Q r s') pl.isList (by omega) (by rw [List.size_toArray] <;> omega) (by omega) (by rw [hj]; simpa using ew) ⟨rfl, fin⟩) hs
theorem ix_tup : IxR X (rIxT X.K) := by
  intro value slice pins s σ H x y v u Q I rx ry h hs
  obtain ⟨p, xs, i, z, rfl, rfl, hq, he, q⟩ := h
  cases rx
  obtain ⟨t, rfl⟩ := ry
  obtain ⟨its, r, pl, hz⟩ := I.tuple hq
  obtain ⟨j, h1, h2, h3, h4, h5⟩ := atI_get he
  obtain ⟨w, ew, rw'⟩ := r.get h2
  have hl := r.length
  have hn := line63
  have fin : EP X pins σ Q w s := ⟨z, H, I, rw', q⟩
  exact subscriptTail_builtinR (x := w) pl.typeIs slot_tuple_getitem.lookup
    (getItem_tuple (j := j) (Q := fun r s' => r = w ∧ EP X pins σ Q r s') pl (by omega) (by omega) (by rw [List.size_toArray, ← hl]; exact h1) (by simpa using ew) ⟨rfl, fin⟩) hs
theorem mapSeq_set (its : List Value) (n j : Nat) (u : Value) : Obj.mapSeq (·.setIfInBounds j u) { cls := .type "list", data := .seq its.toArray n } = { cls := .type "list", data := .seq (its.set j u).toArray n } := by
  simp [Obj.mapSeq]
theorem Inv.lst {pins : List (Addr × Obj)} {σ : St} {H : Hp} {s : Shared} {p : Addr} {xs : List V} (I : Inv X pins σ H s) (h : H p = some (.lst xs)) :
    ∃ (its : List Value) (n : Nat), Vals xs its ∧ s.heap.get? p = some { cls := .type "list", data := .seq its.toArray n } ∧ xs.length ≤ sizeLine := by
  obtain ⟨z, its, n, r, e⟩ := I.hok p _ h
  exact ⟨its, n, r, e, z⟩
theorem Inv.lstUpd {pins : List (Addr × Obj)} {σ : St} {H : Hp} {s : Shared} {p : Addr} {xs ys : List V} {its its' : List Value} {n n' : Nat} {f : Obj → Obj} (I : Inv X pins σ H s) (h : H p = some (.lst xs))
    (ho : s.heap.get? p = some { cls := .type "list", data := .seq its.toArray n }) (hf : f { cls := .type "list", data := .seq its.toArray n } = { cls := .type "list", data := .seq its'.toArray n' }) (r : Vals ys its') (hz : ys.length ≤ sizeLine) (t : Nat) :
    Inv X pins σ (upd H p (.lst ys)) { s with heap := s.heap.update p f, toks := t } := by
  have e : (s.heap.update p f).get? p = some { cls := .type "list", data := .seq its'.toArray n' } := by
    rw [Heap.get?_update_self f ho (by rw [hf] <;> rfl), hf]
  refine I.write (x := p) (e := p) (by rw [h]; trivial) (.inl rfl) (fun b u hb q => (Heap.get?_update_other _ _ (Ne.symm hb)).trans q) ⟨_, e⟩ ?_
  exact ⟨hz, its', n', r, e⟩
def rSetL : V → V → V → Hp → (Hp → Prop) → Prop := fun o i v H Q => ∃ p xs k j, o = .ref p ∧ i = .int k ∧ H p = some (.lst xs) ∧ ixN xs.length k = some j ∧ Q (upd H p (.lst (xs.set j v)))
theorem set_list : PSet X rSetL := by
  intro pins s σ H o i v ov iv u Q I ro ri rv h
  obtain ⟨p, xs, k, j, rfl, rfl, hp, hj, q⟩ := h
  cases ro
  obtain ⟨t, rfl⟩ := ri
  obtain ⟨its, n, r, ho, hz⟩ := I.lst hp
  obtain ⟨h1, h2, h3, h4⟩ := ixN_seq hj
  have hl := r.length
  have hn := line63
  have I' : Inv X pins σ (upd H p (.lst (xs.set j v))) { s with heap := s.heap.update p (Obj.mapSeq (·.setIfInBounds j u)) } :=
    I.lstUpd hp ho (mapSeq_set its n j u) (r.set rv j) (by rw [List.length_set]; exact hz) s.toks
  by_cases h0 : 0 ≤ k
  · have hk : k.toNat = j := by
      rw [seqIndex_of h0 h4] at h1
      exact Option.some.inj h1
    exact PySem.W.ki_setAt ho h0 (by omega) (by rw [List.size_toArray, ← hl]; exact h4) (by rw [hk]; exact ⟨_, I', q⟩)
  · have hk : (k + (its.toArray.size : Int)).toNat = j := by
      rw [seqIndex_neg (by omega) h3] at h1
      rw [List.size_toArray, ← hl]
      exact Option.some.inj h1
    exact PySem.W.ki_setBack ho (by omega) (by rw [List.size_toArray, ← hl]; exact h3) (by omega) (by rw [hk]; exact ⟨_, I', q⟩)
theorem slice_bounds (lo hi : Option Int) (n : Nat) : (sliceBounds lo hi none n).1 = ((HT.sIx n 0 lo : Nat) : Int) ∧ (sliceBounds lo hi none n).2.1 = ((HT.sIx n n hi : Nat) : Int) ∧ (sliceBounds lo hi none n).2.2 = 1 := by
  refine ⟨?_, ?_, rfl⟩
  · cases lo with
    | none => simp [sliceBounds, HT.sIx]
    | some i =>
      simp only [sliceBounds, HT.sIx, Option.getD_none, show (1 : Int) > 0 by decide, if_true]
      by_cases h : i < 0
      · simp only [h, if_true] <;> omega
      · simp only [h, if_false] <;> omega
  · cases hi with
    | none => simp [sliceBounds, HT.sIx]
    | some i =>
      simp only [sliceBounds, HT.sIx, Option.getD_none, show (1 : Int) > 0 by decide, if_true]
      by_cases h : i < 0
      · simp only [h, if_true] <;> omega
      · simp only [h, if_false] <;> omega
theorem slicePick_cut (its : List Value) (lo hi : Option Int) : slicePick its.toArray lo hi none = ((its.drop (HT.sIx its.length 0 lo)).take (HT.sIx its.length its.length hi - HT.sIx its.length 0 lo)).toArray := by
  obtain ⟨h1, h2, h3⟩ := slice_bounds lo hi its.toArray.size
  unfold slicePick
  rw [h1, h2, h3]
  simp only [sliceRange_one, pick_run, List.size_toArray] <;> rfl
def rSlL (K : PySem.W.Frag) : V → Option Int → Option Int → Hp → VK → Prop := fun x lo hi H Q => ∃ a xs, x = .ref a ∧ SqL K H a xs ∧ ∀ p, H p = none → Q (.ref p) (upd H p (.lst (cutV xs lo hi)))
theorem sl_list : SlR X (rSlL X.K) := by
  intro pins s σ H x v vl vu lo hi sl Q I rx hs pl pu h
  obtain ⟨a, xs, rfl, hx, q⟩ := h
  cases rx
  obtain ⟨its, r, ht, hz⟩ := I.list hx
  have hlen := r.length
  refine ⟨"list", _, slot_list_getitem.lookup, ht.isList.typeIs, ?_⟩
  refine wpAny_getItem_list_slice ht.isList hs pl pu .none (by simp) ?_ (by rw [List.size_toArray] <;> omega)
  rw [slicePick_cut, ← hlen]
  refine ⟨.ref s.heap.objs.size, _, I.laid (t' := s.toks) (o := .lst (cutV xs lo hi)) (fun b ob q => Heap.get?_push_of_some _ q) (Nat.le_refl _) ?_, rfl, q _ (I.hok.fresh (Nat.le_refl _))⟩
  exact ⟨Nat.le_trans (cutV_length xs lo hi) hz, _, 0, (r.drop (HT.sIx xs.length 0 lo)).take (HT.sIx xs.length xs.length hi - HT.sIx xs.length 0 lo), Heap.get?_push_size _ rfl⟩
def flatV : V → Bool
  | .non => true
  | .bl _ => true
  | .int _ => true
  | .str _ => true
  | _ => false
def eqV : V → V → Bool
  | .non, .non => true
  | .bl a, .bl b => a == b
  | .bl a, .int b => (if a then 1 else 0) == b
  | .int a, .bl b => a == (if b then 1 else 0)
  | .int a, .int b => a == b
  | .str a, .str b => a == b
  | _, _ => false
theorem eqAt_V {A : Around} {s : Shared} {y x : V} {u v : Value} (ry : RelV y u) (rx : RelV x v) (fy : flatV y = true) (fx : flatV x = true) : SeqAt.EqAt A s u v (eqV y x) := by
  cases y with
  | non =>
    cases ry
    cases x with
    | non => cases rx; exact SeqAt.EqAt.same _
    | bl b => cases rx; exact SeqAt.EqAt.none_bool b
    | int b => obtain ⟨t, rfl⟩ := rx; exact SeqAt.EqAt.none_int b t
    | str b => obtain ⟨t, rfl⟩ := rx; exact SeqAt.EqAt.none_str b t
    | _ => exact absurd (show false = true from fx) Bool.false_ne_true
  | bl a =>
    cases ry
    cases x with
    | non => cases rx; exact SeqAt.EqAt.bool_none a
    | bl b => cases rx; exact SeqAt.EqAt.bool_bool a b
    | int b => obtain ⟨t, rfl⟩ := rx; exact SeqAt.EqAt.bool_int a b t
    | str b => obtain ⟨t, rfl⟩ := rx; exact SeqAt.EqAt.bool_str a b t
    | _ => exact absurd (show false = true from fx) Bool.false_ne_true
  | int a =>
    obtain ⟨t', rfl⟩ := ry
    cases x with
    | non => cases rx; exact SeqAt.EqAt.int_none a t'
    | bl b => cases rx; exact SeqAt.EqAt.int_bool a t' b
    | int b => obtain ⟨t, rfl⟩ := rx; exact SeqAt.EqAt.int_int a t' b t
    | str b => obtain ⟨t, rfl⟩ := rx; exact SeqAt.EqAt.int_str a t' b t
    | _ => exact absurd (show false = true from fx) Bool.false_ne_true
  | str a =>
    obtain ⟨t', rfl⟩ := ry
    cases x with
    | non => cases rx; exact SeqAt.EqAt.str_none a t'
    | bl b => cases rx; exact SeqAt.EqAt.str_bool a t' b
    | int b => obtain ⟨t, rfl⟩ := rx; exact SeqAt.EqAt.str_int a t' b t
    | str b => obtain ⟨t, rfl⟩ := rx; exact SeqAt.EqAt.str_str a t' b t
    | _ => exact absurd (show false = true from fx) Bool.false_ne_true
  | _ => exact absurd (show false = true from fy) Bool.false_ne_true
def eqU (x : V) (u : Value) : Bool := match u with
  | .none => eqV .non x
  | .bool b => eqV (.bl b) x
  | .int i _ => eqV (.int i) x
  | .str z _ => eqV (.str z) x
  | _ => false
theorem eqU_of {x y : V} {u : Value} (r : RelV y u) (f : flatV y = true) : eqU x u = eqV y x := by
  cases y with
  | non => cases r; rfl
  | bl b => cases r; rfl
  | int i => obtain ⟨t, rfl⟩ := r; rfl
  | str z => obtain ⟨t, rfl⟩ := r; rfl
  | _ => exact absurd (show false = true from f) Bool.false_ne_true
theorem mem_eqAt {A : Around} {s : Shared} {x : V} {v : Value} (rx : RelV x v) (fx : flatV x = true) : ∀ {xs : List V} {us : List Value}, Vals xs us → xs.all flatV = true → ∀ u ∈ us, SeqAt.EqAt A s u v (eqU x u)
  | _, _, .nil, _ => fun u hu => by cases hu
  | y :: xs, u :: us, .cons r t, f => fun u' hu => by
    rw [List.all_cons, Bool.and_eq_true] at f
    rcases List.mem_cons.mp hu with rfl | hu
    · rw [eqU_of r f.1]; exact eqAt_V r rx f.1 fx
    · exact mem_eqAt rx fx t f.2 u' hu
theorem CallR.or {f : Value} {r r' : List V → Hp → VK → Prop} (h : CallR X f r) (h' : CallR X f r') : CallR X f (fun xs H Q => r xs H Q ∨ r' xs H Q) := by
  intro pins s σ H xs us Q I rs q
  rcases q with q | q
  · exact h pins s σ H xs us Q I rs q
  · exact h' pins s σ H xs us Q I rs q
def tyV (K : PySem.W.Frag) (T : String) (x : V) (H : Hp) : Prop := match x with
  | .str _ => T = "str"
  | .int _ => T = "int"
  | .ref p => (T = "list" ∧ ∃ xs, SqL K H p xs) ∨ (T = "tuple" ∧ ∃ o, K.lookup p = some o ∧ o.cls = .type "tuple" ∧ o.dict = none) ∨
      (T = "dict" ∧ ((∃ kvs, H p = some (.dK kvs)) ∨ ∃ kvs, H p = some (.dT kvs))) ∨ (T = "set" ∧ ∃ S n, H p = some (.set S n))
  | _ => False
theorem tyV_is {pins : List (Addr × Obj)} {σ : St} {H : Hp} {s : Shared} {T : String} {x : V} {v : Value} (I : Inv X pins σ H s) (r : RelV x v) (ty : tyV X.K T x H) :
    s.TypeIs v T ∧ ∀ a, v = .ref a → ∃ ob, s.heap.get? a = some ob ∧ ob.dict = none := by
  cases x with
  | str z =>
    obtain ⟨t, rfl⟩ := r
    cases (show T = "str" from ty)
    exact ⟨typeIs_str s z t, fun _ e => nomatch e⟩
  | int i =>
    obtain ⟨t, rfl⟩ := r
    cases (show T = "int" from ty)
    exact ⟨typeIs_int s i t, fun _ e => nomatch e⟩
  | ref p =>
    cases r
    rcases ty with ⟨rfl, xs, hq⟩ | ⟨rfl, o, hk, hc, hd⟩ | ⟨rfl, hk⟩ | ⟨rfl, S, n, hk⟩
    · obtain ⟨its, _, pl, _⟩ := I.list hq
      refine ⟨pl.isList.typeIs, fun a e => ?_⟩
      cases e
      obtain ⟨o, n, e, c, hd, _⟩ := pl
      exact ⟨o, e, hd⟩
    · refine ⟨⟨o, I.kIn p o hk, hc⟩, fun a e => ?_⟩
      cases e
      exact ⟨o, I.kIn _ o hk, hd⟩
    · have z : ∃ o, s.heap.get? p = some o ∧ o.ExactDict := by
        rcases hk with ⟨kvs, hk⟩ | ⟨kvs, hk⟩
        · obtain ⟨_, _, _, _, o, _, _, e, ex, _⟩ := I.hok p _ hk
          exact ⟨o, e, ex⟩
        · obtain ⟨_, _, _, _, o, _, _, e, ex, _⟩ := I.hok p _ hk
          exact ⟨o, e, ex⟩
      obtain ⟨o, e, ex⟩ := z
      refine ⟨⟨o, e, ex.1⟩, fun a e2 => ?_⟩
      cases e2
      exact ⟨o, e, ex.2.1⟩
    · obtain ⟨o, _, _, _, e, ex, _⟩ := I.hok p _ hk
      refine ⟨⟨o, e, ex.1⟩, fun a e2 => ?_⟩
      cases e2
      exact ⟨o, e, ex.2.1⟩
  | _ => exact False.elim ty
def tBM0 (K : PySem.W.Frag) (T : String) (r : V → List V → Hp → VK → Prop) (to : TE) : TE := fun σ H Q => to σ H fun x H1 => tyV K T x H1 ∧ r x [] H1 Q
def tBM (K : PySem.W.Frag) (T : String) (r : V → List V → Hp → VK → Prop) (to : TE) (t : TA) : TE := fun σ H Q => to σ H fun x H1 => tyV K T x H1 ∧ t σ H1 fun xs H2 => r x xs H2 Q
variable {o e : Expr} {es : List Expr} {to : TE} {t : TA} {name : Str} {apos cpos : Pos} {T id : String} {r : V → List V → Hp → VK → Prop}
theorem pe_bm0 (pa : PlainAttrs T) (slot : Slot T name id) (hty : typeOf (.builtin id) = pure (.type "method_descriptor")) (hm : MtR X id r) (ho : PE X o to)
    (hbase : attributeBase o name X.env (eval o X.env) = eval o X.env := by rfl) (hline : (apos.endLine == cpos.line) = true := by rfl) : PE X (.Call (.Attribute o name apos) [] [] cpos) (tBM0 X.K T r to) := by
  intro pins s σ H Q I h
  refine wpAny_Call_method0_late hbase hline (thn (ho pins s σ H _ I h) fun v s1 ⟨x, H1, I1, r1, ty, q1⟩ => ?_)
  obtain ⟨h1, h2⟩ := tyV_is I1 r1 ty
  exact ⟨T, id, pa, slot, hty, h1, h2, Calls.callWith_builtin rfl (PySem.evalArgs_none (hm pins s1 σ H1 x [] v [] Q I1 r1 .nil q1))⟩
theorem pe_bm (pa : PlainAttrs T) (slot : Slot T name id) (hty : typeOf (.builtin id) = pure (.type "method_descriptor")) (hm : MtR X id r) (ho : PE X o to) (ha : PA X (e :: es) t)
    (hbase : attributeBase o name X.env (eval o X.env) = eval o X.env := by rfl)
    (hfew : ((backTo cpos (starEach (e :: es) X.env)).all (fun x => !x.1) && (backToKw cpos (keywordEach [] X.env)).all (fun x => x.1.isSome)
      && decide ((e :: es).length + ([] : List Keyword).length + (if ([] : List Keyword).isEmpty then 0 else 1) < 30)) = true := by rfl)
    (hline : (apos.endLine == cpos.line) = true := by rfl) (hs : starEach (e :: es) X.env = (false, eval e X.env) :: starEach es X.env := by rfl) (hplain : (backTo cpos (starEach es X.env)).any (·.1) = false := by rfl) :
    PE X (.Call (.Attribute o name apos) (e :: es) [] cpos) (tBM X.K T r to t) := by
  intro pins s σ H Q I h
  refine wpAny_Call_method_late hbase hfew hline rfl (thn (ho pins s σ H _ I h) fun v s1 ⟨x, H1, I1, r1, ty, q1⟩ => ?_)
  obtain ⟨h1, h2⟩ := tyV_is I1 r1 ty
  refine ⟨T, id, pa, slot, hty, h1, h2, ?_⟩
  have hA := ha cpos pins s1 σ H1 _ I1 q1
  rw [hs] at hA ⊢
  refine Calls.callWith_builtin (by show (false || (backTo cpos (starEach es X.env)).any (·.1)) = false; rw [hplain] <;> rfl) (Calls.evalArgs_plain ?_)
  exact thn hA fun us s2 ⟨vs, H2, I2, r2, q2⟩ => hm pins s2 σ H2 x vs v us Q I2 r1 r2 q2
end
end L2
namespace L2
open PySem PySem.Spec PyProof.Rows
theorem Vals.one : ∀ {x : V} {us : List Value}, Vals [x] us → ∃ u, us = [u] ∧ RelV x u
  | _, _, .cons r .nil => ⟨_, rfl, r⟩
theorem Vals.zero : ∀ {us : List Value}, Vals [] us → us = []
  | _, .nil => rfl
theorem Vals.dropLast {xs : List V} {us : List Value} (h : Vals xs us) : Vals xs.dropLast us.dropLast := by
  induction h with
  | nil => exact .nil
  | cons r t ih =>
    cases t with
    | nil => exact .nil
    | cons q t' => exact .cons r ih
theorem Vals.reverse {xs : List V} {us : List Value} (h : Vals xs us) : Vals xs.reverse us.reverse := by
  induction h with
  | nil => exact .nil
  | cons r t ih => rw [List.reverse_cons, List.reverse_cons]; exact Vals.append ih (.cons r .nil)
theorem Vals.rep {xs : List V} {us : List Value} (h : Vals xs us) : ∀ k : Nat, Vals (List.replicate k xs).flatten (List.replicate k us).flatten
  | 0 => .nil
  | k + 1 => by
    rw [List.replicate_succ, List.replicate_succ, List.flatten_cons, List.flatten_cons]
    exact Vals.append h (Vals.rep h k)
theorem foldl_rep (its : List Value) : ∀ (k : Nat) (acc : List Value),
    List.foldl (fun x1 x2 => x1 ++ x2) acc.toArray (List.replicate k its.toArray) = (acc ++ (List.replicate k its).flatten).toArray
  | 0, acc => by simp
  | k + 1, acc => by
    have e : acc.toArray ++ its.toArray = (acc ++ its).toArray := by simp
    have e2 : (acc ++ its) ++ (List.replicate k its).flatten = acc ++ (List.replicate (k + 1) its).flatten := by
      rw [List.replicate_succ, List.flatten_cons, List.append_assoc]
    rw [← e2, ← foldl_rep its k (acc ++ its), ← e, List.replicate_succ, List.foldl_cons]
section
variable {X : Cx} {pins : List (Addr × Obj)} {σ : St} {H : Hp} {s : Shared} {l b : Addr} {xs ys zs : List V}
theorem Inv.lnew {its : List Value} {t' : Nat} (I : Inv X pins σ H s) (hv : Vals ys its) (hz : ys.length ≤ sizeLine) :
    Inv X pins σ (upd H s.heap.objs.size (.lst ys)) { s with heap := s.heap.push { cls := .type "list", data := .seq its.toArray }, toks := t' } :=
  I.laid (fun _ _ q => Heap.get?_push_of_some _ q) (Nat.le_refl _) ⟨hz, its, 0, hv, Heap.get?_push_size _ rfl⟩
theorem Inv.fresh (I : Inv X pins σ H s) : H s.heap.objs.size = none := I.hok.fresh (Nat.le_refl _)
theorem Inv.lstM (I : Inv X pins σ H s) (hH : H l = some (.lst xs)) : xs.length ≤ sizeLine ∧ ∃ (its : List Value) (n : Nat), Vals xs its ∧ xs.length = its.length ∧ s.heap.get? l = some { cls := .type "list", data := .seq its.toArray n } := by
  obtain ⟨z, its, n, r, e⟩ := I.hok l _ hH
  exact ⟨z, its, n, r, r.length, e⟩
theorem notLongL {n : Nat} (h : n ≤ sizeLine) : Builtin.List.listTooLong n = false := by
  unfold Builtin.List.listTooLong
  exact decide_eq_false (by omega)
end
section
variable {X : Cx}
def rCat : R2 := fun x y H Q => ∃ l b xs zs, x = .ref l ∧ y = .ref b ∧ H l = some (.lst xs) ∧ H b = some (.lst zs) ∧ xs.length + zs.length ≤ sizeLine ∧ ∀ p, H p = none → Q (.ref p) (upd H p (.lst (xs ++ zs)))
theorem op_cat : OpR X (binaryOp .Add) rCat := by
  intro pins s σ H x y v u Q I rx ry h
  obtain ⟨l, b, xs, zs, rfl, rfl, hH, hB, hz, q⟩ := h
  cases rx
  cases ry
  obtain ⟨z, its, n, r, hl, e⟩ := I.lstM hH
  obtain ⟨z2, its2, n2, r2, hl2, e2⟩ := I.lstM hB
  refine PySem.P.add_list e e2 ?_ (by rw [List.size_toArray, List.size_toArray]; omega)
  have ea : its.toArray ++ its2.toArray = (its ++ its2).toArray := by simp
  rw [ea]
  exact ⟨.ref _, _, I.lnew (t' := s.toks) (r.append r2) (by rw [List.length_append]; omega), rfl, q _ I.fresh⟩
def rRep : R2 := fun x y H Q => ∃ l k xs, x = .ref l ∧ y = .int k ∧ H l = some (.lst xs) ∧ -(2 ^ 63) ≤ k ∧ k < 2 ^ 63 ∧ xs.length * k.toNat ≤ sizeLine ∧
  ∀ p, H p = none → Q (.ref p) (upd H p (.lst (List.replicate k.toNat xs).flatten))
theorem len_rep {α : Type} (xs : List α) (k : Nat) : (List.replicate k xs).flatten.length = k * xs.length := by
  induction k with
  | zero => simp
  | succ k ih => rw [List.replicate_succ, List.flatten_cons, List.length_append, ih, Nat.succ_mul, Nat.add_comm]
theorem op_rep : OpR X (binaryOp .Mult) rRep := by
  intro pins s σ H x y v u Q I rx ry h
  obtain ⟨l, k, xs, rfl, rfl, hH, h1, h2, hz, q⟩ := h
  cases rx
  obtain ⟨t, rfl⟩ := ry
  obtain ⟨z, its, n, r, hl, e⟩ := I.lstM hH
  have hlen : its.toArray.size * k.toNat ≤ sizeLine := by rw [List.size_toArray, ← hl]; exact hz
  have hcap : ¬ its.toArray.size * k.toNat > (2 ^ 63 - 1) / 8 := by
    have : (sizeLine : Nat) ≤ (2 ^ 63 - 1) / 8 := by decide
    omega
  have hfit : ¬ (!Builtin.List.listFitsIndex k) = true := by
    rw [fitsIndex_both h1 h2]
    exact Bool.false_ne_true
  have hlong : ¬ Builtin.List.listTooLong (its.toArray.size * k.toNat) = true := by
    rw [notLongL hlen]
    exact Bool.false_ne_true
  have hnew : List.foldl (fun x1 x2 => x1 ++ x2) #[] (List.replicate (if its.toArray.isEmpty = true then 0 else k.toNat) its.toArray) = (List.replicate k.toNat its).flatten.toArray := by
    have f0 : ∀ m : Nat, List.foldl (fun x1 x2 => x1 ++ x2) #[] (List.replicate m its.toArray) = (List.replicate m its).flatten.toArray := fun m => by
      have := foldl_rep its m []
      rw [List.nil_append] at this
      exact this
    rw [f0]
    cases its with
    | nil => simp
    | cons a r' => rw [if_neg (by simp)]
  refine wpAny_binaryOp_repeat_ref (T := "list") (U := "int") (by decide) ⟨_, e, rfl⟩ (fun s' => typeIs_int s' k t) noFill_list_mul F.fills_int_mul F.slot_int_rmul repeat_list F.slot_int_index.lookup
    (call_meets F.slot_int_rmul (typeIs_int s k t) F.entry_int_rmul (F.args_int_rmul_2 _ _) (int___rmul___int_list k t l its.toArray n)
      ⟨e, rfl, ⟨_, e, rfl⟩, call_meets F.slot_list_mul ⟨_, e, rfl⟩ F.entry_list_mul (F.args_list_mul_2 _ _) (AutoListH.list___mul___list_int_3 l its.toArray n k t hfit hcap hlong) ⟨e, ?_⟩⟩)
  rw [hnew]
  exact ⟨.ref _, _, I.lnew (t' := s.toks) (r.rep k.toNat) (by rw [len_rep, Nat.mul_comm]; exact hz), rfl, q _ I.fresh⟩
end
end L2
namespace L2
open PySem PySem.Spec PyProof.Rows
theorem Vals.ints : ∀ {ns : List Int} {us : List Value}, Vals (ns.map V.int) us → IntsAre us ns
  | [], us, h => by
    rw [List.map_nil] at h
    cases h
    exact IntsAre.nil
  | n :: ns, us, h => by
    rw [List.map_cons] at h
    cases h with
    | cons r t =>
      obtain ⟨k, rfl⟩ := r
      exact IntsAre.cons n k (Vals.ints t)
theorem Vals.strs : ∀ {xs : List Str} {us : List Value}, Vals (xs.map V.str) us → StrsAre us xs
  | [], us, h => by
    rw [List.map_nil] at h
    cases h
    exact StrsAre.nil
  | x :: xs, us, h => by
    rw [List.map_cons] at h
    cases h with
    | cons r t =>
      obtain ⟨k, rfl⟩ := r
      exact StrsAre.cons x k (Vals.strs t)
theorem Vals.bls : ∀ {bs : List Bool} {us : List Value}, Vals (bs.map V.bl) us → us = bs.map Value.bool
  | [], us, h => by
    rw [List.map_nil] at h
    cases h
    rfl
  | b :: bs, us, h => by
    rw [List.map_cons] at h
    cases h with
    | cons r t =>
      cases r
      rw [Vals.bls t, List.map_cons]
theorem Vals.ref1 {a : Addr} {us : List Value} (r : Vals [V.ref a] us) : us = [Value.ref a] := by
  cases r with
  | cons r t =>
    cases t
    cases r
    rfl
section
variable {X : Cx}
def rIndex (K : PySem.W.Frag) : V → List V → Hp → VK → Prop := fun x xs H Q => ∃ (a : Addr) (ys : List V) (y : V) (j : Nat) (z : V), x = V.ref a ∧ xs = [y] ∧ SqL K H a ys ∧ flatV y = true ∧ ys.all flatV = true ∧ ys[j]? = some z ∧ eqV z y = true ∧
  (∀ (m : Nat) (z' : V), m < j → ys[m]? = some z' → eqV z' y = false) ∧ Q (.int (j : Nat)) H
theorem flat_at {ys : List V} (f : ys.all flatV = true) {j : Nat} {z : V} (h : ys[j]? = some z) : flatV z = true := List.all_eq_true.mp f z (List.mem_of_getElem? h)
theorem mt_index : MtR X "list.index" (rIndex X.K) := by
  intro pins s σ H x xs v us Q I rx rxs h
  obtain ⟨a, ys, y, j, z, rfl, rfl, hs, fy, fys, hz, hzj, hno, q⟩ := h
  cases rx
  cases rxs with
  | cons ry rt =>
    rename_i uy ut
    cases rt
    obtain ⟨its, rv, ⟨⟨cls, dd, data, sl⟩, n, ho, hc, hdn, hd⟩, hlen⟩ := I.list hs
    simp only at hc hd
    subst hc hd
    obtain ⟨u, hu, ru⟩ := rv.get hz
    obtain ⟨hjl, hje⟩ := List.getElem?_eq_some_iff.mp hu
    have hvl := rv.length
    have hj : j < its.toArray.size := by simpa using hjl
    have hsl := sizeLine_eq
    refine call_meets PySem.F.slot_list_index ⟨_, ho, rfl⟩ PySem.F.entry_list_index (PySem.F.args_list_index_2 _ _)
      (SeqAt.list_indexAt a its.toArray n dd sl uy (eqU y) j hj (by omega) ?_ ?_) ⟨ho, fun u' hu' => mem_eqAt ry fy rv fys u' (by simpa using hu'), ?_⟩
    · have e1 : its.toArray[j] = u := by simpa using hje
      rw [e1, eqU_of ru (flat_at fys hz)]
      exact hzj
    · intro m hm hmj
      have hml : m < its.length := by simpa using hm
      have hmy : m < ys.length := by omega
      have hy' : ys[m]? = some ys[m] := List.getElem?_eq_getElem hmy
      obtain ⟨u2, hu2, ru2⟩ := rv.get hy'
      obtain ⟨_, hme⟩ := List.getElem?_eq_some_iff.mp hu2
      have e1 : its.toArray[m] = u2 := by simpa using hme
      rw [e1, eqU_of ru2 (flat_at fys hy')]
      exact hno m _ hmj hy'
    · exact ⟨.int (j : Nat), H, I.tok _, ⟨_, rfl⟩, q⟩
end
theorem iter_any {prog : Program} {w : World} {A : Around} {E : Value → Shared → Prop} {s : Shared} {l : Addr} {items : Array Value} {Q : Value → Shared → Prop} (hl : s.heap.IsList l items)
    (h : ∀ s₂ : Shared, s₂ = { s with heap := s.heap.push { cls := .type "list_iterator", data := .fields #[.ref l, .int 0 0] } } →
      (s₂.heap.IsListIter s.heap.objs.size l 0 ∧ s₂.heap.IsList l items) → l ≠ s.heap.objs.size → Q (.ref s.heap.objs.size) s₂) : wpAny (model prog w) A (pyIter (.ref l)) Q E s := by
  have hlt : l < s.heap.objs.size := by obtain ⟨_, e, _⟩ := hl; exact Heap.lt_size e
  exact wpAny_pyIter_list hl (h _ rfl ⟨⟨_, Heap.get?_push_size _ rfl, rfl, rfl⟩, hl.push _⟩ (Nat.ne_of_lt hlt))
theorem truth_bools {prog : Program} {w : World} {A : Around} {bs : List Bool} {its : List Value} (e : its = bs.map Value.bool) :
    TruthOf prog w A (fun i v => its.toArray[i]? = some v) (fun i => bs.getD i false) := fun i v s Q E hv hq => by
  have hv' : its[i]? = some v := by simpa using hv
  rw [e, List.getElem?_map] at hv'
  obtain ⟨b, hb, rfl⟩ := Option.map_eq_some_iff.mp hv'
  have hg : bs.getD i false = b := by rw [List.getD_eq_getElem?_getD, hb] <;> rfl
  have hq' : Q (bs.getD i false) s := hq
  rw [hg] at hq'
  exact wpAny_truthy_bool hq'
theorem all_range : ∀ bs : List Bool, (List.range bs.length).all (fun i => bs.getD i false) = bs.all id
  | [] => rfl
  | b :: bs => by
    rw [List.length_cons, List.range_succ_eq_map, List.all_cons, List.all_map, List.all_cons, ← all_range bs]
    all_goals rfl
section
variable {X : Cx}
def rAll (K : PySem.W.Frag) : List V → Hp → VK → Prop := fun vs H Q => ∃ (a : Addr) (bs : List Bool), vs = [V.ref a] ∧ SqL K H a (bs.map V.bl) ∧ Q (.bl (bs.all id)) H
theorem cr_all (hc : X.calm = true) : CallR X (.builtin "all") (rAll X.K) := by
  intro pins s σ H vs us Q I r h
  obtain ⟨a, bs, rfl, hs, q⟩ := h
  obtain ⟨its, rv, hl, _⟩ := I.list hs
  rw [Vals.ref1 r]
  have hb := rv.bls
  refine call_all_walk (iter_any hl.isList fun s₂ e2 st hne => ?_)
  subst e2
  refine ⟨_, _, _, _, _, _, _, rfl, Walks.list (A := X.A.in1) (I.ok.hd hc) _ a hne its.toArray, st, truth_bools hb, fun h' tk hk => ?_⟩
  refine ⟨.bl _, H, I.kept fun b o eo => hk b o (fun hmem => ?_) (Heap.get?_push_of_some _ eo), ?_, q⟩
  · rcases List.mem_cons.mp hmem with e1 | hmem
    · exact absurd (e1 ▸ Heap.lt_size eo) (Nat.lt_irrefl _)
    · cases hmem
  · show Value.bool _ = Value.bool _
    rw [← all_range, hb, List.size_toArray, List.length_map]
end
mutual
inductive Dp (K : PySem.W.Frag) (H : Hp) : V → PyData → Prop
  | non : Dp K H .non .none
  | bl (b : Bool) : Dp K H (.bl b) (.bool b)
  | int (i : Int) : Dp K H (.int i) (.int i)
  | str (x : Str) : Dp K H (.str x) (.str x)
  | lst {a : Addr} {xs : List V} {ds : List PyData} : SqL K H a xs → DpAll K H xs ds → Dp K H (.ref a) (.list ds)
  | tup {a : Addr} {xs : List V} {ds : List PyData} : SqT K H a xs → DpAll K H xs ds → Dp K H (.ref a) (.tuple ds)
inductive DpAll (K : PySem.W.Frag) (H : Hp) : List V → List PyData → Prop
  | nil : DpAll K H [] []
  | cons {v : V} {vs : List V} {d : PyData} {ds : List PyData} : Dp K H v d → DpAll K H vs ds → DpAll K H (v :: vs) (d :: ds)
end
section
variable {X : Cx} {pins : List (Addr × Obj)} {σ : St} {H : Hp} {s : Shared}
mutual
theorem Dp.reads (I : Inv X pins σ H s) : ∀ (d : PyData) (v : V) (u : Value), Dp X.K H v d → RelV v u → ∃ as, Reads s.heap u d as
  | .none, _, _, h, r => by
    cases h
    cases r
    exact ⟨_, Reads.none⟩
  | .bool b, _, _, h, r => by
    cases h
    cases r
    exact ⟨_, Reads.bool b⟩
  | .int i, _, _, h, r => by
    cases h
    obtain ⟨t, rfl⟩ := r
    exact ⟨_, Reads.int i t⟩
  | .str x, _, _, h, r => by
    cases h
    obtain ⟨t, rfl⟩ := r
    exact ⟨_, Reads.str x t⟩
  | .list ds, _, _, h, r => by
    cases h with
    | lst hs ha =>
      cases r
      obtain ⟨its, rv, ⟨o, n, ho, hc, _, hd⟩, _⟩ := I.list hs
      obtain ⟨as, hr⟩ := Dp.readsAll I ds _ its ha rv
      exact ⟨_, Reads.list ho hc hd hr⟩
  | .tuple ds, _, _, h, r => by
    cases h with
    | tup hs ha =>
      cases r
      obtain ⟨its, rv, ⟨o, ho, hc, n, hd⟩, _⟩ := I.tuple hs
      obtain ⟨as, hr⟩ := Dp.readsAll I ds _ its ha rv
      exact ⟨_, Reads.tuple ho hc hd hr⟩
  | .dict _, _, _, h, _ => by cases h
theorem Dp.readsAll (I : Inv X pins σ H s) : ∀ (ds : List PyData) (vs : List V) (us : List Value), DpAll X.K H vs ds → Vals vs us → ∃ as, ReadsAll s.heap us ds as
  | [], _, _, h, r => by
    cases h
    cases r
    exact ⟨_, ReadsAll.nil⟩
  | d :: ds, _, _, h, r => by
    cases h with
    | cons h1 h2 =>
      cases r with
      | cons r1 r2 =>
        obtain ⟨as, q1⟩ := Dp.reads I d _ _ h1 r1
        obtain ⟨bs, q2⟩ := Dp.readsAll I ds _ _ h2 r2
        exact ⟨_, ReadsAll.cons q1 q2⟩
end
end
section
variable {X : Cx}
def rEqD (K : PySem.W.Frag) : R2 := fun x y H Q => ∃ d e, Dp K H x d ∧ Dp K H y e ∧ SeqAt.shaped d = true ∧ SeqAt.shaped e = true ∧ Q (.bl (PyData.eqv d e)) H
def rNeD (K : PySem.W.Frag) : R2 := fun x y H Q => ∃ d e, Dp K H x d ∧ Dp K H y e ∧ SeqAt.shaped d = true ∧ SeqAt.shaped e = true ∧ Q (.bl (!PyData.eqv d e)) H
theorem op_eqD (hu : X.A.units + 64 < cLine) : OpR X (compareOp .Eq) (rEqD X.K) := by
  intro pins s σ H x y v u Q I rx ry h
  obtain ⟨d, e, hd, he, sd, se, q⟩ := h
  obtain ⟨as, r1⟩ := Dp.reads I d x v hd rx
  obtain ⟨bs, r2⟩ := Dp.reads I e y u he ry
  exact SeqAt.compareEq_shaped r1 r2 sd se hu ⟨.bl _, H, I, rfl, q⟩
theorem op_neD (hu : X.A.units + 64 < cLine) : OpR X (compareOp .NotEq) (rNeD X.K) := by
  intro pins s σ H x y v u Q I rx ry h
  obtain ⟨d, e, hd, he, sd, se, q⟩ := h
  obtain ⟨as, r1⟩ := Dp.reads I d x v hd rx
  obtain ⟨bs, r2⟩ := Dp.reads I e y u he ry
  exact SeqAt.compareNe_shaped r1 r2 sd se hu ⟨.bl _, H, I, rfl, q⟩
end
end L2
namespace L2
open PySem PySem.Spec PyProof.Rows
abbrev CellAt (h : Heap) (c : Addr) (v : Option Value) : Prop := h.IsCell c v
def relS (scope sc : Scope) : Scope :=
  { scope with names := scope.names.map fun (n, k) => if (k == .free && sc.kind == .function && sc.names.lookup n == some .cell) then (n, .cell) else (n, k) }
def cloFrom (cells : List (Str × Addr)) : List (Str × NameKind) → List (Str × Addr) → List (Str × Addr)
  | [], acc => acc
  | (n, k) :: r, acc => if k == .free then cloFrom cells r ((n, (cells.lookup n).getD 0) :: acc) else cloFrom cells r acc
theorem closure_loop (env : Env) (f : Str × NameKind → List (Str × Addr) → Sem (ForInStep (List (Str × Addr))))
    (hf : ∀ n k c, f (n, k) c = if k == .free then (do let a ← cellOf env n; pure (.yield ((n, a) :: c))) else pure (.yield c)) :
    ∀ (names : List (Str × NameKind)) (acc : List (Str × Addr)), (∀ y ∈ names, y.2 = .free → ∃ c, env.cells.lookup y.1 = some c) → forIn names acc f = pure (cloFrom env.cells names acc)
  | [], acc, _ => by rw [List.forIn_nil]; rfl
  | (n, k) :: r, acc, h => by
    rw [List.forIn_cons, hf]
    have ih := fun acc => closure_loop env f hf r acc fun y hy => h y (List.mem_cons_of_mem _ hy)
    unfold cloFrom
    by_cases hk : (k == NameKind.free) = true
    · rw [if_pos hk, if_pos hk]
      obtain ⟨c, hc⟩ := h (n, k) List.mem_cons_self (by simpa using hk)
      have e : cellOf env n = pure c := by unfold cellOf; rw [hc]
      rw [e]
      have e2 : (env.cells.lookup n).getD 0 = c := by rw [hc]; rfl
      rw [e2]
      exact ih _
    · rw [if_neg hk, if_neg hk]
      exact ih _
theorem closure_ok {scope : Scope} {env : Env} (h : ∀ y ∈ scope.names, y.2 = .free → ∃ c, env.cells.lookup y.1 = some c) : closureFor scope env = pure (cloFrom env.cells scope.names []) := by
  simp only [closureFor]
  rw [closure_loop env _ (fun n k c => rfl) scope.names [] h]
  rfl
theorem mem_lookup {α : Type} : ∀ {l : List (Str × α)} {n : Str} {c : α}, (n, c) ∈ l → ∃ c', l.lookup n = some c'
  | (k, v) :: r, n, c, h => by
    rw [List.lookup_cons]
    cases hb : n == k with
    | true => exact ⟨_, rfl⟩
    | false =>
      rcases List.mem_cons.mp h with e | h
      · cases e; simp at hb
      · exact mem_lookup h
theorem cloFrom_mem {cells : List (Str × Addr)} : ∀ {names : List (Str × NameKind)} {acc : List (Str × Addr)} {n : Str} {c : Addr}, (n, c) ∈ cloFrom cells names acc → (n, c) ∈ acc ∨ ((n, .free) ∈ names ∧ c = (cells.lookup n).getD 0)
  | [], _, _, _, h => .inl h
  | (m, k) :: r, acc, n, c, h => by
    unfold cloFrom at h
    split at h
    · rename_i hk
      have hk : k = .free := by simpa using hk
      rcases cloFrom_mem h with h | ⟨h1, h2⟩
      · rcases List.mem_cons.mp h with e | h
        · cases e; exact .inr ⟨hk ▸ List.mem_cons_self, rfl⟩
        · exact .inl h
      · exact .inr ⟨List.mem_cons_of_mem _ h1, h2⟩
    · rcases cloFrom_mem h with h | ⟨h1, h2⟩
      · exact .inl h
      · exact .inr ⟨List.mem_cons_of_mem _ h1, h2⟩
theorem cloFrom_acc {cells : List (Str × Addr)} : ∀ {names : List (Str × NameKind)} {acc : List (Str × Addr)} {p : Str × Addr}, p ∈ acc → p ∈ cloFrom cells names acc
  | [], _, _, h => h
  | (m, k) :: r, acc, p, h => by
    unfold cloFrom
    split
    · exact cloFrom_acc (List.mem_cons_of_mem _ h)
    · exact cloFrom_acc h
theorem cloFrom_has {cells : List (Str × Addr)} : ∀ {names : List (Str × NameKind)} {acc : List (Str × Addr)} {n : Str}, (n, .free) ∈ names → (n, (cells.lookup n).getD 0) ∈ cloFrom cells names acc
  | (m, k) :: r, acc, n, h => by
    unfold cloFrom
    rcases List.mem_cons.mp h with e | h
    · cases e
      exact cloFrom_acc List.mem_cons_self
    · split
      · exact cloFrom_has h
      · exact cloFrom_has h
theorem cells_mem : ∀ {names : List (Str × NameKind)} {h : Heap} {acc : List (Str × Addr)} {x : Str} {c : Addr}, (x, c) ∈ cellsFrom h.objs.size names acc →
    (x, c) ∈ acc ∨ ((x, .cell) ∈ names ∧ h.objs.size ≤ c ∧ CellAt (pushCells h names) c none)
  | [], _, _, _, _, h => .inl h
  | (n, k) :: r, h, acc, x, c, hm => by
    unfold cellsFrom at hm
    unfold pushCells
    split at hm
    · rename_i hk
      rw [if_pos hk]
      have hk : k = .cell := by simpa using hk
      rw [← Heap.size_push h { cls := .type "cell", data := .cell none }] at hm
      rcases cells_mem hm with hm | ⟨h1, h2, h3⟩
      · rcases List.mem_cons.mp hm with e | hm
        · cases e
          exact .inr ⟨hk ▸ List.mem_cons_self, Nat.le_refl _, _, pushCells_keeps r _ _ _ (Heap.get?_push_size _ rfl), rfl⟩
        · exact .inl hm
      · rw [Heap.size_push] at h2
        exact .inr ⟨List.mem_cons_of_mem _ h1, Nat.le_of_succ_le h2, h3⟩
    · rename_i hk
      rw [if_neg hk]
      rcases cells_mem hm with hm | ⟨h1, h2, h3⟩
      · exact .inl hm
      · exact .inr ⟨List.mem_cons_of_mem _ h1, h2, h3⟩
theorem cells_acc : ∀ {names : List (Str × NameKind)} {n : Nat} {acc : List (Str × Addr)} {p : Str × Addr}, p ∈ acc → p ∈ cellsFrom n names acc
  | [], _, _, _, h => h
  | (m, k) :: r, n, acc, p, h => by
    unfold cellsFrom
    split
    · exact cells_acc (List.mem_cons_of_mem _ h)
    · exact cells_acc h
theorem cells_has : ∀ {names : List (Str × NameKind)} {n : Nat} {acc : List (Str × Addr)} {x : Str}, (x, .cell) ∈ names → ∃ c, (x, c) ∈ cellsFrom n names acc
  | (m, k) :: r, n, acc, x, h => by
    unfold cellsFrom
    rcases List.mem_cons.mp h with e | h
    · cases e
      exact ⟨n, cells_acc List.mem_cons_self⟩
    · split
      · exact cells_has h
      · exact cells_has h
theorem cells_inj : ∀ {names : List (Str × NameKind)} {h : Heap} {acc : List (Str × Addr)} {x y : Str} {c : Addr}, (∀ p ∈ acc, p.2 < h.objs.size) → (∀ x y c, (x, c) ∈ acc → (y, c) ∈ acc → x = y) →
    (x, c) ∈ cellsFrom h.objs.size names acc → (y, c) ∈ cellsFrom h.objs.size names acc → x = y
  | [], _, _, _, _, _, _, hi, h1, h2 => hi _ _ _ h1 h2
  | (n, k) :: r, h, acc, x, y, c, hl, hi, h1, h2 => by
    unfold cellsFrom at h1 h2
    split at h1
    · rename_i hk
      rw [if_pos hk] at h2
      rw [← Heap.size_push h { cls := .type "cell", data := .cell none }] at h1 h2
      refine cells_inj (h := h.push _) (fun p hp => ?_) (fun x y c a b => ?_) h1 h2
      · rw [Heap.size_push]
        rcases List.mem_cons.mp hp with rfl | hp
        · exact Nat.lt_succ_self _
        · exact Nat.lt_succ_of_lt (hl p hp)
      · rcases List.mem_cons.mp a with e | a <;> rcases List.mem_cons.mp b with e' | b
        · cases e; cases e'; rfl
        · cases e; exact absurd (hl _ b) (Nat.lt_irrefl _)
        · cases e'; exact absurd (hl _ a) (Nat.lt_irrefl _)
        · exact hi _ _ _ a b
    · rename_i hk
      rw [if_neg hk] at h2
      exact cells_inj hl hi h1 h2
theorem newEnv_comp {M : Model} {A : Around} {E : Value → Shared → Prop} {s : Shared} {scope : Scope} {globals : Addr} {closure : List (Str × Addr)} {qual : Str} {func : Option Addr} {code : Value} {around : Env} {builtins : Addr} {Q : Env → Shared → Prop}
    (h : Q (newEnv scope s.heap.objs.size globals (cellsFrom (s.heap.objs.size + 1) scope.names closure) qual func code (some around) builtins)
      { s with heap := pushCells (s.heap.push { cls := .type "dict", data := .dict #[] }) scope.names }) :
    wpAny M A (newFunctionEnv scope globals closure [] qual func code (some around) builtins) Q E s := by
  simp only [newFunctionEnv, Option.isSome_some, if_true]
  refine wpAny_bind (wpAny_alloc ?_)
  refine wpAny_bind (wpAny_layCells _ (fun n k c => rfl) scope.names closure _ _ ?_)
  rw [show ({ s with heap := s.heap.push { cls := .type "dict", data := .dict #[] } } : Shared).heap.objs.size = s.heap.objs.size + 1 from Heap.size_push ..]
  rw [List.forIn_nil]
  exact wpAny_bind (wpAny_pure (wpAny_pure h))
theorem lookup_relS {sc : Scope} : ∀ {names : List (Str × NameKind)} {x : Str} {k : NameKind},
    (names.map fun (n, k) => if (k == NameKind.free && sc.kind == .function && sc.names.lookup n == some .cell) then (n, NameKind.cell) else (n, k)).lookup x = some k →
    ∃ k', names.lookup x = some k' ∧ (k = k' ∨ (k' = .free ∧ k = .cell))
  | [], _, _, h => by simp at h
  | (n, k₀) :: r, x, k, h => by
    have ih := @lookup_relS sc r x k
    have h' : List.lookup x ((if (k₀ == NameKind.free && sc.kind == .function && sc.names.lookup n == some .cell) = true then (n, NameKind.cell) else (n, k₀)) :: (r.map _)) = some k := h
    cases hx : x == n with
    | true =>
      simp only [List.lookup_cons, hx]
      by_cases hc : (k₀ == NameKind.free && sc.kind == .function && sc.names.lookup n == some .cell) = true
      · rw [if_pos hc] at h'
        simp only [List.lookup_cons, hx] at h'
        cases h'
        simp only [Bool.and_eq_true, beq_iff_eq] at hc
        exact ⟨k₀, rfl, .inr ⟨hc.1.1, rfl⟩⟩
      · rw [if_neg hc] at h'
        simp only [List.lookup_cons, hx] at h'
        cases h'
        exact ⟨_, rfl, .inl rfl⟩
    | false =>
      simp only [List.lookup_cons, hx]
      by_cases hc : (k₀ == NameKind.free && sc.kind == .function && sc.names.lookup n == some .cell) = true
      · rw [if_pos hc] at h'
        simp only [List.lookup_cons, hx] at h'
        exact ih h'
      · rw [if_neg hc] at h'
        simp only [List.lookup_cons, hx] at h'
        exact ih h'
structure BlkOk (N : List Str) (sc scope : Scope) (own : List (Str × Nat)) : Prop where
  kind : scope.kind = .function
  uniq : ∀ y ∈ scope.names, scope.names.lookup y.1 = some y.2
  ix : ∀ p ∈ own, N[p.2]? = some p.1
  free : ∀ y ∈ scope.names, y.2 = .free → sc.names.lookup y.1 = some .cell ∨ sc.names.lookup y.1 = some .free
  own : ∀ y ∈ scope.names, y.2 = .local ∨ y.2 = .cell → y.1 ∈ own.map (·.1) ∨ y.1 ∉ N
def wipe (σ : St) : List Nat → St
  | [] => σ
  | v :: vs => (wipe σ vs).set v none
theorem wipe_length (σ : St) : ∀ vs : List Nat, (wipe σ vs).length = σ.length
  | [] => rfl
  | v :: vs => by unfold wipe; rw [List.length_set, wipe_length σ vs]
theorem wipe_some {σ : St} {i : Nat} {x : V} : ∀ {vs : List Nat}, (wipe σ vs)[i]? = some (some x) → σ[i]? = some (some x) ∧ i ∉ vs
  | [], h => ⟨h, by simp⟩
  | v :: vs, h => by
    unfold wipe at h
    by_cases hi : v = i
    · subst hi
      by_cases hv : v < (wipe σ vs).length
      · rw [List.getElem?_set_self hv] at h; cases h
      · rw [List.getElem?_eq_none (by simpa using hv)] at h; cases h
    · rw [List.getElem?_set_ne hi] at h
      obtain ⟨h1, h2⟩ := wipe_some h
      exact ⟨h1, by simp only [List.mem_cons, not_or]; exact ⟨fun e => hi e.symm, h2⟩⟩
abbrev Cx.blk (X : Cx) (s : Shared) (H : Hp) (scope : Scope) (cenv : Env) (fp : List Addr) : Cx := { X with s_0 := s, H_0 := H, env := cenv, outer := X.stack, ex := fp, fn := fun x => scope.names.lookup x == some .cell, pn := [], xe := fun _ _ => False }
section
variable {X : Cx} {pins : List (Addr × Obj)} {σ : St} {H : Hp} {s : Shared}
theorem block_start {scope : Scope} {own : List (Str × Nat)} {fp : List Addr} (I : Inv X pins σ H s) (ok : BlkOk X.N X.env.scope scope own) (hN : X.N.Nodup) (hfp : ∀ b ∈ fp, FpOk X pins H b ∧ b < s.heap.objs.size) :
    Inv (X.blk s H scope (compEnvC scope (cellsFrom (s.heap.objs.size + 1) scope.names (cloFrom X.env.cells scope.names [])) s.heap.objs.size X.env) fp) [] (wipe σ (own.map (·.2))) H { s with heap := pushCells (s.heap.push { cls := .type "dict", data := .dict #[] }) scope.names } := by
  have hfree : ∀ y ∈ scope.names, y.2 = .free → ∃ c, X.env.cells.lookup y.1 = some c := fun y hy e => by
    rcases ok.free y hy e with k | k
    · exact I.ok.has _ (.inl k)
    · exact I.ok.has _ (.inr k)
  generalize hcenv : compEnvC scope (cellsFrom (s.heap.objs.size + 1) scope.names (cloFrom X.env.cells scope.names [])) s.heap.objs.size X.env = cenv
  have kp : ∀ b o, s.heap.get? b = some o → (pushCells (s.heap.push { cls := .type "dict", data := .dict #[] }) scope.names).get? b = some o := fun b o e => pushCells_keeps _ _ _ _ (Heap.get?_push_of_some _ e)
  have hL : cenv.locals = s.heap.objs.size := by rw [← hcenv]; rfl
  have hcl : cenv.cells = cellsFrom (s.heap.objs.size + 1) scope.names (cloFrom X.env.cells scope.names []) := by rw [← hcenv]; rfl
  have hsc : cenv.scope = relS scope X.env.scope := by rw [← hcenv]; rfl
  rw [← Heap.size_push s.heap { cls := .type "dict", data := .dict #[] }] at hcl
  have cm : ∀ {y c}, (y, c) ∈ cloFrom X.env.cells scope.names [] → X.env.cells.lookup y = some c ∧ c < s.heap.objs.size := fun {y c} hm => by
    rcases cloFrom_mem hm with hm | ⟨h1, rfl⟩
    · cases hm
    · obtain ⟨c, hc⟩ := hfree _ h1 rfl
      rw [hc]
      obtain ⟨w, z⟩ := I.cell _ _ hc
      exact ⟨rfl, z.lt⟩
  have mem : ∀ {y c}, cenv.cells.lookup y = some c → (X.env.cells.lookup y = some c ∧ c < s.heap.objs.size) ∨ (s.heap.objs.size + 1 ≤ c ∧ CellAt (pushCells (s.heap.push { cls := .type "dict", data := .dict #[] }) scope.names) c none) := fun {y c} e => by
    rw [hcl] at e
    rcases cells_mem (PySem.mem_of_lookup e) with hm | ⟨_, h2, h3⟩
    · exact .inl (cm hm)
    · rw [Heap.size_push] at h2; exact .inr ⟨h2, h3⟩
  have look : ∀ {y}, scope.names.lookup y = some .free → ∃ c, cenv.cells.lookup y = some c ∧ X.env.cells.lookup y = some c := fun {y} hl => by
    have hy : (y, NameKind.free) ∈ scope.names := PySem.mem_of_lookup hl
    obtain ⟨c', e'⟩ := mem_lookup (cells_acc (names := scope.names) (n := (s.heap.push { cls := .type "dict", data := .dict #[] }).objs.size) (cloFrom_has (cells := X.env.cells) (acc := []) hy))
    rw [← hcl] at e'
    refine ⟨c', e', ?_⟩
    rw [hcl] at e'
    rcases cells_mem (PySem.mem_of_lookup e') with hm | ⟨h1, _, _⟩
    · exact (cm hm).1
    · have := ok.uniq _ h1
      rw [hl] at this; cases this
  have okB : (X.blk s H scope cenv fp).Ok := by
    refine ⟨I.ok.mod, by show cenv.scope.kind = _; rw [hsc]; exact ok.kind, by show cenv.globals = _; rw [← hcenv]; exact I.ok.glob, by show cenv.builtins = _; rw [← hcenv]; exact I.ok.blt, by show s.heap.objs.size ≤ cenv.locals; rw [hL]; exact Nat.le_refl _,
      fun y z c e1 e2 => ?_, fun y hy => ?_, fun y c z e => ?_, I.ok.hd, I.ok.frames, .inl rfl, fun b hb => ⟨?_, fun y c e z => ?_⟩, I.bs, Nat.le_trans I.ok.bsz I.sz, fun b o e hb => ?_, fun b hb z => ?_, I.stack, I.stkFree⟩
    · have e1 : cenv.cells.lookup y = some c := e1
      have e2 : cenv.cells.lookup z = some c := e2
      rw [hcl] at e1 e2
      refine cells_inj (fun p hp => ?_) (fun y z c a b => I.ok.inj y z c (cm a).1 (cm b).1) (PySem.mem_of_lookup e1) (PySem.mem_of_lookup e2)
      rw [Heap.size_push]
      exact Nat.lt_succ_of_lt (cm (y := p.1) (c := p.2) hp).2
    · show ∃ c, cenv.cells.lookup y = some c
      have key : ∀ k, cenv.kindOf y = some k → (k = .cell ∨ k = .free) → ∃ c, cenv.cells.lookup y = some c := fun k hk hk' => by
        unfold Env.kindOf at hk
        rw [hsc] at hk
        obtain ⟨k', e, r⟩ := lookup_relS hk
        have : k' = .cell ∨ k' = .free := by
          rcases r with rfl | ⟨rfl, _⟩
          · exact hk'
          · exact .inr rfl
        rcases this with rfl | rfl
        · obtain ⟨c, hm⟩ := cells_has (n := (s.heap.push { cls := .type "dict", data := .dict #[] }).objs.size) (acc := cloFrom X.env.cells scope.names []) (PySem.mem_of_lookup e)
          obtain ⟨c', e'⟩ := mem_lookup hm
          exact ⟨c', by rw [hcl]; exact e'⟩
        · obtain ⟨c, h1, _⟩ := look e
          exact ⟨c, h1⟩
      rcases hy with hy | hy
      · exact key _ hy (.inl rfl)
      · exact key _ hy (.inr rfl)
    · have z : (scope.names.lookup y == some NameKind.cell) = true := z
      have z : scope.names.lookup y = some .cell := by simpa using z
      have e : cenv.cells.lookup y = some c := e
      rw [hcl] at e
      rcases cells_mem (PySem.mem_of_lookup e) with hm | ⟨_, h2, _⟩
      · rcases cloFrom_mem hm with hm | ⟨h1, _⟩
        · cases hm
        · have q := ok.uniq _ h1
          rw [z] at q; cases q
      · rw [Heap.size_push] at h2
        exact Nat.le_of_succ_le h2
    · show b ≠ cenv.locals
      rw [hL]; exact Nat.ne_of_lt (hfp b hb).2
    · have e : cenv.cells.lookup y = some c := e
      rcases mem e with ⟨h1, _⟩ | ⟨h1, _⟩
      · exact (hfp b hb).1.2.2.2.2.1 y c h1 z
      · have h2 : s.heap.objs.size + 1 ≤ b := by rw [← z]; exact h1
        exact absurd (Nat.lt_of_lt_of_le (hfp b hb).2 (Nat.le_of_succ_le h2)) (Nat.lt_irrefl _)
    · rcases (hfp b hb).1.2.2.2.1 with z | z
      · exact I.ok.noex b o e z
      · exact absurd (Nat.lt_of_lt_of_le (Heap.lt_size e) (Nat.le_trans I.ok.bsz z)) (Nat.lt_irrefl _)
    · rcases List.mem_cons.mp (I.stkSub b z) with z | z
      · exact (hfp b hb).1.2.1 z
      · exact (hfp b hb).1.2.2.1 z
  refine ⟨okB, rfl, I.bare, Un.kept kp, ⟨fun _ => none, ?_, fun i y av e1 e2 e3 => ?_⟩, fun y c e => ?_, ?_, fun y c e => ?_, fun p hp => ?_, I.hok.kept kp, by rw [wipe_length]; exact I.len⟩
  · show Heap.Ns _ cenv.locals _
    rw [hL]
    exact Heap.Ns.keeps (Heap.Ns.new ..) fun b o e => pushCells_keeps _ _ _ _ e
  · obtain ⟨e2, hne⟩ := wipe_some e2
    have hfr : scope.names.lookup y = some .free ∧ (cenv.kindOf y = some .cell ∨ cenv.kindOf y = some .free) := by
      have key : ∀ k, cenv.scope.names.lookup y = some k → k = .local ∨ k = .cell ∨ k = .free → scope.names.lookup y = some .free ∧ (cenv.kindOf y = some .cell ∨ cenv.kindOf y = some .free) := fun k hk hk' => by
        have hk0 := hk
        rw [hsc] at hk
        obtain ⟨k', e, r⟩ := lookup_relS hk
        have no : ¬ (k' = .local ∨ k' = .cell) := fun hh => by
          rcases ok.own _ (PySem.mem_of_lookup e) hh with e' | e'
          · obtain ⟨p, hp, hpy⟩ := List.mem_map.mp e'
            have e3 := ok.ix p hp
            have : p.1 = y := hpy
            rw [this] at e3
            exact hne (List.mem_map.mpr ⟨p, hp, nodup_ix hN e3 e1⟩)
          · exact e' (List.mem_of_getElem? e1)
        rcases r with rfl | ⟨rfl, rfl⟩
        · rcases hk' with rfl | rfl | rfl
          · exact absurd (.inl rfl) no
          · exact absurd (.inr rfl) no
          · exact ⟨e, .inr hk0⟩
        · exact ⟨e, .inl hk0⟩
      have e3 : Vis cenv.scope y := e3
      rcases e3 with e3 | e3 | e3
      · exact key _ e3 (.inl rfl)
      · exact key _ e3 (.inr (.inl rfl))
      · exact key _ e3 (.inr (.inr rfl))
    obtain ⟨m, hn, hl⟩ := I.loc
    have hvis : Vis X.env.scope y := (ok.free _ (PySem.mem_of_lookup hfr.1) rfl).elim (fun k => .inr (.inl k)) (fun k => .inr (.inr k))
    obtain ⟨w, r, q⟩ := hl i y av e1 e2 hvis
    refine ⟨w, r, .inr ⟨hfr.2, ?_⟩⟩
    obtain ⟨c, h1, h2⟩ := look hfr.1
    rcases q with ⟨k, _⟩ | ⟨_, c', e', z⟩
    · have k : X.env.scope.names.lookup y = some .local := k
      rcases ok.free _ (PySem.mem_of_lookup hfr.1) rfl with k' | k' <;> rw [show X.env.scope.names.lookup y = _ from k'] at k <;> cases k
    · rw [h2] at e'; cases e'
      exact ⟨c, h1, z.keeps kp⟩
  · have e : cenv.cells.lookup y = some c := e
    rcases mem e with ⟨h1, _⟩ | ⟨_, z⟩
    · obtain ⟨w, z⟩ := I.cell y c h1
      exact ⟨w, z.keeps kp⟩
    · exact ⟨_, z⟩
  · show H cenv.locals = none
    rw [hL]; exact I.hok.fresh (Nat.le_refl _)
  · have e : cenv.cells.lookup y = some c := e
    rcases mem e with ⟨h1, _⟩ | ⟨h1, _⟩
    · exact I.freeC y c h1
    · exact I.hok.fresh (Nat.le_of_succ_le h1)
  · exact absurd (show p ∈ ([] : List (Addr × Obj)) ++ [] from hp) (by simp)
theorem app_ok {E : Value → Shared → Prop} {D : Addr} {xs : List V} {y : V} {v : Value} {Q : Value → Shared → Prop} (I : Inv X pins σ H s) (hD : H D = some (.lst xs)) (hz : xs.length < sizeLine) (r : RelV y v)
    (h : ∀ s', Inv X pins σ (upd H D (.lst (xs ++ [y]))) s' → Q .none s') : wpAny (model X.prog X.w) X.A (call (.builtin "list.append") [.ref D, v]) Q E s := by
  obtain ⟨hz', its, n, ri, e⟩ := I.hok D _ hD
  have hl := ri.length
  refine append_at (hsz := by rw [List.size_toArray]; omega) e fun h' sb ho' => ?_
  refine h { s with heap := h' } (I.write (t' := s.toks) (by rw [hD]; trivial) (.inl rfl) (fun b u hb q => (sb.2 b hb).trans q) ⟨_, ho'⟩ ⟨by rw [List.length_append]; exact hz, its ++ [v], n + 1, ri.append (.cons r .nil), ?_⟩)
  rw [ho']
  simp
def PTs (X : Cx) (ifs : List Expr) (t : TT) : Prop :=
  ∀ (pins : List (Addr × Obj)) (s : Shared) (σ : St) (H : Hp) (Q : Bool → Hp → Prop), Inv X pins σ H s → t σ H Q →
    wpAny (model X.prog X.w) X.A (forIn ifs true fun c r => if r = true then do let ok ← isTrue c X.env (eval c X.env); pure (ForInStep.yield ok) else pure (ForInStep.yield r)) (TP X pins σ Q) X.xe s
def tYes : TT := fun _ H Q => Q true H
theorem pts_nil : PTs X [] tYes := fun _ _ _ H _ I h => wpAny_tests_nil ⟨H, I, h⟩
theorem pts_one {c : Expr} {t : TT} (h : PT X c t) : PTs X [c] t := fun pins s σ H Q I hw => wpAny_tests_one (h pins s σ H Q I hw)
end
theorem thnF {α : Type} {t : Sem α} {Q Q' : α → Shared → Prop} {M : Model} {A : Around} {E : Value → Shared → Prop} {s : Shared} (h : wpAny M A t Q (fun _ _ => False) s) (hQ : ∀ a s, Q a s → Q' a s) : wpAny M A t Q' E s := wpAny_mono h hQ fun _ _ z => False.elim z
theorem compLoop_any {prog : Program} {w : World} {A : Around} {R : Result → Shared → Prop} {s : Shared} {elt target iter : Expr} {ifs : List Expr} {scope : Scope} {pos : Pos} {it acc : Value} {env : Env} (I : Nat → Shared → Prop)
    (turn : ∀ n s, I n s → wpAny (model prog w) A (pyNext it) (fun r s₁ => match r with
      | none => R (.ok .next) s₁
      | some v => wpAny (model prog w) A (letOwnedTupleGo target it v) (fun _ s₁' => wpAny (model prog w) A (assign target env v) (fun _ s₂ =>
          wpAny (model prog w) A (forIn ifs true fun c r => if r = true then do let ok ← isTrue c env (eval c env); pure (ForInStep.yield ok) else pure (ForInStep.yield r)) (fun ok s₃ =>
            if ok = true then wpAny (model prog w) A (eval elt env) (fun x s₄ =>
              wpAny (model prog w) A (call (.builtin "list.append") [acc, x]) (fun _ s₅ => ∃ m, m < n ∧ I m s₅) (notedBy (model prog w) A env fun e s' => R (.error e) s') s₄) (notedBy (model prog w) A env fun e s' => R (.error e) s') s₃
            else ∃ m, m < n ∧ I m s₃) (notedBy (model prog w) A env fun e s' => R (.error e) s') s₂) (notedBy (model prog w) A env fun e s' => R (.error e) s') s₁') (notedBy (model prog w) A env fun e s' => R (.error e) s') s₁) (notedBy (model prog w) A env fun e s' => R (.error e) s') s)
    (n : Nat) (h : I n s) :
    codeAny (model prog w) A (.compLoop (.ListComp elt [⟨target, iter, ifs, 0⟩] scope pos) 0 it acc env) R s := by
  refine codeAny_loop rfl I (fun n s hI => ?_) n h
  show wpAny _ A ((compTurn (.ListComp elt [⟨target, iter, ifs, 0⟩] scope pos) 0 it acc env).onRaise (fun x => do noteFrame x env; theTreesLotGoes x)) _ _ s
  refine wpAny_noted ?_
  rw [compTurn_list]
  refine wpAny_bind (wpAny_standAt (wpAny_bind (wpAny_mono (turn n s hI) (fun r s₁ h₁ => ?_) fun _ _ h' => h')))
  cases r with
  | none => exact wpAny_pure h₁
  | some v =>
    refine wpAny_bind (wpAny_mono h₁ (fun _ s₁' h₁' => ?_) fun _ _ h' => h')
    refine wpAny_bind (wpAny_mono h₁' (fun _ s₂ h₂ => wpAny_bind (wpAny_mono h₂ (fun ok s₃ h₃ => ?_) fun _ _ h' => h')) fun _ _ h' => h')
    cases ok with
    | false => exact wpAny_pure ⟨rfl, h₃⟩
    | true =>
      exact wpAny_bind (wpAny_bind (wpAny_mono h₃ (fun x s₄ h₄ => wpAny_bind (wpAny_mono h₄ (fun _ s₅ h₅ => wpAny_pure (wpAny_pure ⟨rfl, h₅⟩)) fun _ _ h' => h')) fun _ _ h' => h'))
section
variable {X : Cx}
def tLc (wi : TI) (g : TG) (tt : TT) (te : TE) (vs : List Nat) : TE := fun σ H Q => wi σ H fun J H1 => ∀ D, H1 D = none → ∃ W : Nat → Nat → Hp → Prop, (∃ m, W 0 m (upd H1 D (.lst []))) ∧ ∀ i m H, W i m H →
  (J.stop i H ∧ Q (.ref D) H) ∨ (J.go i H ∧ ∃ Nx : Hp → Prop, (∀ H', Nx H' → ∃ m', m' < m ∧ W (i + 1) m' H') ∧ ∀ x H', J.yld i H x H' → g x (wipe σ vs) H' fun σ2 H2 => wipe σ2 vs = wipe σ vs ∧ tt σ2 H2 fun b H3 =>
    if b = true then te σ2 H3 fun y H4 => ∃ acc, H4 D = some (.lst acc) ∧ acc.length < sizeLine ∧ Nx (upd H4 D (.lst (acc ++ [y]))) else Nx H3)
theorem lc_core {pins : List (Addr × Obj)} {s : Shared} {σ : St} {H : Hp} {Q : VK} {elt tg iter : Expr} {ifs : List Expr} {scope : Scope} {own : List (Str × Nat)} {pos pos' : Pos} {wi : TI} {g : TG} {tt : TT} {te : TE} {use : Option (Value → Sem Unit)} {Qf : Value → Shared → Prop}
    (hc : X.calm = true) (hN : X.N.Nodup) (I : Inv X pins σ H s) (hi : PI X tg iter wi) (ok : BlkOk X.N X.env.scope scope own)
    (hg : ∀ (s : Shared) (H : Hp) (C : Addr) (cl : List (Str × Addr)) (fp : List Addr), PG (X.blk s H scope (compEnvC scope cl C X.env) fp) tg g) (ht : ∀ (s : Shared) (H : Hp) (C : Addr) (cl : List (Str × Addr)) (fp : List Addr), PTs (X.blk s H scope (compEnvC scope cl C X.env) fp) ifs tt)
    (he : ∀ (s : Shared) (H : Hp) (C : Addr) (cl : List (Str × Addr)) (fp : List Addr), PE (X.blk s H scope (compEnvC scope cl C X.env) fp) elt te) (hs : ∀ x, foldedSetIterable iter X.env x = pure x)
    (h : tLc wi g tt te (own.map (·.2)) σ H Q)
    (hRR : ∀ D C s' m H', Inv X pins σ H' s' → Q (.ref D) H' → s'.heap.Ns C m → FpOk X pins H' C → compPost (model X.prog X.w) X.A X.xe use Qf (.ref D) C (.ok .next) s') :
    wpAny (model X.prog X.w) X.A (comprehension (.ListComp elt [⟨tg, iter, ifs, 0⟩] scope pos) scope X.env pos' (newList []) false (eval iter X.env) use) Qf X.xe s := by
  have hfree : ∀ y ∈ scope.names, y.2 = .free → ∃ c, X.env.cells.lookup y.1 = some c := fun y hy e => by
    rcases ok.free y hy e with k | k
    · exact I.ok.has _ (.inl k)
    · exact I.ok.has _ (.inr k)
  refine wpAny_comprehension_free (use := use) rfl hs (closure_ok hfree) ok.kind (fun y hy e => by rw [ok.uniq y hy, e])
    (thn (hi pins s σ H _ I h) fun xv s1 hx => thn hx fun itv s2 h2 => ?_)
  obtain ⟨it, fp, tn, J, H2, e, I2, T, st2, f2, q⟩ := h2
  subst e
  refine wpAny_newObj_type (newEnv_comp ?_) (by show 0 ≤ sizeLine; decide)
  generalize hD : s2.heap.objs.size = D
  have hDn : H2 D = none := I2.hok.fresh (Nat.le_of_eq hD)
  obtain ⟨W, ⟨m0, w0⟩, turn⟩ := q D hDn
  -- the new list
  generalize hs3 : ({ s2 with heap := s2.heap.push { cls := .type "list", data := .seq ([] : List Value).toArray } } : Shared) = s3
  have I3 : Inv X pins σ (upd H2 D (.lst [])) s3 := by
    rw [← hs3]
    refine I2.laid (t' := s2.toks) (fun b o e => Heap.get?_push_of_some _ e) (Nat.le_of_eq hD) ⟨Nat.zero_le _, [], 0, .nil, ?_⟩
    rw [← hD]
    exact Heap.get?_push_size _ rfl
  have h3 : s3.heap = s2.heap.push { cls := .type "list", data := .seq ([] : List Value).toArray } := by rw [← hs3]
  have sz : ∀ b ∈ fp, b < s2.heap.objs.size := fun b hb => by
    obtain ⟨o, e, _⟩ := T.obj _ _ st2 b hb
    exact Heap.lt_size e
  have f3 : ∀ b ∈ fp, FpOk X pins (upd H2 D (.lst [])) b ∧ b < s3.heap.objs.size := fun b hb => by
    have hlt := sz b hb
    refine ⟨⟨?_, (f2 b hb).2⟩, by rw [h3, Heap.size_push]; exact Nat.lt_succ_of_lt hlt⟩
    rw [upd_ne (by rw [← hD]; exact Nat.ne_of_lt hlt)]
    exact (f2 b hb).1
  have st3 : tn 0 s3.heap := T.keep _ _ _ st2 fun b _ o e => by rw [h3]; exact Heap.get?_push_of_some _ e
  have I4 := block_start I3 ok hN f3
  have pg := hg s3 (upd H2 D (.lst [])) s3.heap.objs.size (cellsFrom (s3.heap.objs.size + 1) scope.names (cloFrom X.env.cells scope.names [])) fp
  have pt := ht s3 (upd H2 D (.lst [])) s3.heap.objs.size (cellsFrom (s3.heap.objs.size + 1) scope.names (cloFrom X.env.cells scope.names [])) fp
  have pe := he s3 (upd H2 D (.lst [])) s3.heap.objs.size (cellsFrom (s3.heap.objs.size + 1) scope.names (cloFrom X.env.cells scope.names [])) fp
  show codeAny _ _ (.compStart (.ListComp elt [⟨tg, iter, ifs, 0⟩] scope pos) 0 (.ref it) (.ref D) (compEnvC scope (cellsFrom (s3.heap.objs.size + 1) scope.names (cloFrom X.env.cells scope.names [])) s3.heap.objs.size X.env)) (compPost (model X.prog X.w) X.A X.xe use Qf (.ref D) s3.heap.objs.size) { s3 with heap := pushCells (s3.heap.push { cls := .type "dict", data := .dict #[] }) scope.names }
  have nfp : ∀ b ∈ fp, (upd H2 D (.lst [])) b = none := fun b hb => (f3 b hb).1.1
  generalize hce : compEnvC scope (cellsFrom (s3.heap.objs.size + 1) scope.names (cloFrom X.env.cells scope.names [])) s3.heap.objs.size X.env = ce at I4 pg pt pe ⊢
  have cL : ce.locals = s3.heap.objs.size := by subst hce; rfl
  generalize hH3 : upd H2 D (.lst []) = H3 at I3 I4 pg pt pe w0 nfp f3
  generalize hs4 : ({ s3 with heap := pushCells (s3.heap.push { cls := .type "dict", data := .dict #[] }) scope.names } : Shared) = s4 at I4 ⊢
  have st4 : tn 0 s4.heap := T.keep _ _ _ st3 fun b _ o e => by rw [← hs4]; exact pushCells_keeps _ _ _ _ (Heap.get?_push_of_some _ e)
  have stat : ∀ {σ' : St} {H' : Hp} {s' : Shared}, Inv (X.blk s3 H3 scope ce fp) [] σ' H' s' → (∀ b ∈ fp, H' b = none) → ∀ b ∈ fp, FpOk (X.blk s3 H3 scope ce fp) [] H' b := fun {σ' H' s'} I' hn b hb =>
    ⟨hn b hb, (I'.ok.exf b hb).1, I'.ok.exfs b hb, .inl hb, fun x c e => (I'.ok.exf b hb).2 x c e, fun p hp => absurd (show p ∈ ([] : List (Addr × Obj)) ++ [] from hp) (by simp)⟩
  have loop : codeAny (model X.prog X.w) X.A (.compLoop (.ListComp elt [⟨tg, iter, ifs, 0⟩] scope pos) 0 (.ref it) (.ref D) ce) (compPost (model X.prog X.w) X.A X.xe use Qf (.ref D) s3.heap.objs.size) s4 := by
    refine compLoop_any (fun n s' => ∃ i H', Inv (X.blk s3 H3 scope ce fp) [] (wipe σ (own.map (·.2))) H' s' ∧ tn i s'.heap ∧ (∀ b ∈ fp, H' b = none) ∧ W i n H') ?_ m0 ⟨0, H3, I4, st4, nfp, w0⟩
    rintro n s5 ⟨i, H5, I5, st5, n5, w5⟩
    rcases turn i n H5 w5 with ⟨stop, qq⟩ | ⟨go, Nx, hNx, step⟩
    · have td := T.done (X.blk s3 H3 scope ce fp) rfl rfl rfl hc i [] s5 _ H5 (fun _ _ => False) I5 (stat I5 n5) st5 stop
      refine thnF td fun r s6 ⟨hr, I6⟩ => ?_
      subst hr
      -- back in the def's context
      have I7 : Inv X pins σ H5 s6 := I3.call' (ch := fp) I6.os I6.base I6.hok I6.bare fun b hb => ⟨(f3 b hb).1.2.2.2.1, (f3 b hb).1.2.1, (f3 b hb).1.2.2.2.2.1, (f3 b hb).1.2.2.2.2.2⟩
      have nC : H5 s3.heap.objs.size = none := by
        have z : H5 ce.locals = none := I6.free
        rw [cL] at z
        exact z
      obtain ⟨m, hn, _⟩ := I6.loc
      have hn : s6.heap.Ns ce.locals m := hn
      rw [cL] at hn
      exact hRR D s3.heap.objs.size s6 m H5 I7 qq hn (I3.fpOk (Nat.le_refl _) nC)
    · have ti := T.item (X.blk s3 H3 scope ce fp) rfl rfl rfl hc i [] s5 _ H5 (fun _ _ => False) I5 (stat I5 n5) st5 go
      refine thnF ti fun r s6 ⟨u, hr, h6⟩ => ?_
      subst hr
      refine thnF h6 fun _ s7 ⟨x, H7, I7, r7, y7, st7, n7⟩ => ?_
      have I7' := I7.pinned (stat I7 n7) (T.obj _ _ st7)
      refine thnF (pg _ s7 _ H7 x u _ I7' r7 (step x H7 y7)) fun _ s8 ⟨σ8, H8, I8, hw8, q8⟩ => ?_
      refine thnF (pt _ s8 σ8 H8 _ I8 q8) fun b s9 ⟨H9, I9, q9⟩ => ?_
      -- the turn's end
      have fin : ∀ {s' : Shared} {H' : Hp}, Inv (X.blk s3 H3 scope ce fp) ([] ++ pinsAt fp s7.heap) σ8 H' s' → Nx H' → ∃ m, m < n ∧ ∃ i H', Inv (X.blk s3 H3 scope ce fp) [] (wipe σ (own.map (·.2))) H' s' ∧ tn i s'.heap ∧ (∀ b ∈ fp, H' b = none) ∧ W i m H' := fun {s' H'} I' nx => by
        obtain ⟨m', hm, w'⟩ := hNx H' nx
        have pin' : ∀ b ∈ fp, ∀ o, s7.heap.get? b = some o → s'.heap.get? b = some o ∧ H' b = none := fun b hb o e =>
          let z := I'.pin (b, o) (List.mem_append_right _ (List.mem_append_right _ (mem_pinsAt hb e)))
          ⟨z.1, z.2.1⟩
        have hl : (wipe σ (own.map (·.2))).length = σ8.length := by rw [← hw8, wipe_length]
        refine ⟨m', hm, i + 1, H', (I'.unpinned (pins := [])).weak hl (fun j v e => ?_), T.keep _ _ _ st7 fun b hb o e => (pin' b hb o e).1, fun b hb => ?_, w'⟩
        · rw [← hw8] at e
          exact (wipe_some e).1
        · obtain ⟨o, e, _⟩ := T.obj _ _ st7 b hb
          exact (pin' b hb o e).2
      cases b with
      | false =>
        simp only [Bool.false_eq_true, if_false] at q9 ⊢
        exact fin I9 q9
      | true =>
        simp only [if_true] at q9 ⊢
        refine thnF (pe _ s9 σ8 H9 _ I9 q9) fun z s10 ⟨yv, H10, I10, r10, acc, hD10, hz10, nx⟩ => ?_
        exact app_ok (X := X.blk s3 H3 scope ce fp) I10 hD10 hz10 r10 fun s11 I11 => fin I11 nx
  exact codeAny_compStart_list loop (T.self X.A 0 _ _ _ st4 loop)
theorem pe_lc {elt tg iter : Expr} {ifs : List Expr} {scope : Scope} {own : List (Str × Nat)} {pos : Pos} {wi : TI} {g : TG} {tt : TT} {te : TE} (hc : X.calm = true) (hN : X.N.Nodup) (hi : PI X tg iter wi) (ok : BlkOk X.N X.env.scope scope own)
    (hg : ∀ (s : Shared) (H : Hp) (C : Addr) (cl : List (Str × Addr)) (fp : List Addr), PG (X.blk s H scope (compEnvC scope cl C X.env) fp) tg g) (ht : ∀ (s : Shared) (H : Hp) (C : Addr) (cl : List (Str × Addr)) (fp : List Addr), PTs (X.blk s H scope (compEnvC scope cl C X.env) fp) ifs tt)
    (he : ∀ (s : Shared) (H : Hp) (C : Addr) (cl : List (Str × Addr)) (fp : List Addr), PE (X.blk s H scope (compEnvC scope cl C X.env) fp) elt te) (hs : ∀ x, foldedSetIterable iter X.env x = pure x := by intro _; rfl) :
    PE X (.ListComp elt [⟨tg, iter, ifs, 0⟩] scope pos) (tLc wi g tt te (own.map (·.2))) := by
  intro pins s σ H Q I h
  rw [eval_ListComp]
  refine lc_core hc hN I hi ok hg ht he hs h fun D C s' m H' I' q hn f => ⟨m, hn, fun h'' sb => ?_⟩
  obtain ⟨f0, f1, f2, f3, f4, f5⟩ := f
  exact ⟨.ref D, H', I'.turned (t' := s'.toks) (fun b o hb e => (sb.2 b hb).trans e) f0 f1 f3 f4 f5, rfl, q⟩
end
theorem lc_range {lo : Int} {n : Nat} {g : TG} {tt : TT} {te : TE} {vs : List Nat} {σ : St} {H1 : Hp} {D : Addr} {Qd : Hp → Prop} (Pv : Nat → Hp → Prop) (h0 : Pv 0 (upd H1 D (.lst [])))
    (hs : ∀ i H, i < n → Pv i H → g (.int (lo + i)) (wipe σ vs) H fun σ2 H2 => wipe σ2 vs = wipe σ vs ∧ tt σ2 H2 fun b H3 =>
      if b = true then te σ2 H3 fun y H4 => ∃ acc, H4 D = some (.lst acc) ∧ acc.length < sizeLine ∧ Pv (i + 1) (upd H4 D (.lst (acc ++ [y]))) else Pv (i + 1) H3) (hd : ∀ H, Pv n H → Qd H) :
    ∃ W : Nat → Nat → Hp → Prop, (∃ m, W 0 m (upd H1 D (.lst []))) ∧ ∀ i m H, W i m H →
      ((Itr lo n).stop i H ∧ Qd H) ∨ ((Itr lo n).go i H ∧ ∃ Nx : Hp → Prop, (∀ H', Nx H' → ∃ m', m' < m ∧ W (i + 1) m' H') ∧ ∀ x H', (Itr lo n).yld i H x H' → g x (wipe σ vs) H' fun σ2 H2 => wipe σ2 vs = wipe σ vs ∧ tt σ2 H2 fun b H3 =>
        if b = true then te σ2 H3 fun y H4 => ∃ acc, H4 D = some (.lst acc) ∧ acc.length < sizeLine ∧ Nx (upd H4 D (.lst (acc ++ [y]))) else Nx H3) := by
  refine ⟨fun i m H => m = n - i ∧ i ≤ n ∧ Pv i H, ⟨n, by simp, Nat.zero_le _, h0⟩, ?_⟩
  rintro i m H ⟨rfl, hi, p⟩
  by_cases hlt : i < n
  · refine .inr ⟨hlt, Pv (i + 1), fun H' p' => ⟨n - (i + 1), by omega, rfl, hlt, p'⟩, fun x H' y => ?_⟩
    obtain ⟨e, y⟩ := y
    subst e y
    exact hs i _ hlt p
  · have e : i = n := by omega
    subst e
    exact .inl ⟨Nat.le_refl _, hd H p⟩
theorem lc_list {K : PySem.W.Frag} {a : Addr} {xs : List V} {g : TG} {tt : TT} {te : TE} {vs : List Nat} {σ : St} {H1 : Hp} {D : Addr} {Qd : Hp → Prop} (Pv : Nat → Hp → Prop) (h0 : Pv 0 (upd H1 D (.lst []))) (hl : ∀ i H, i ≤ xs.length → Pv i H → SqL K H a xs)
    (hs : ∀ i x H, xs[i]? = some x → Pv i H → g x (wipe σ vs) H fun σ2 H2 => wipe σ2 vs = wipe σ vs ∧ tt σ2 H2 fun b H3 =>
      if b = true then te σ2 H3 fun y H4 => ∃ acc, H4 D = some (.lst acc) ∧ acc.length < sizeLine ∧ Pv (i + 1) (upd H4 D (.lst (acc ++ [y]))) else Pv (i + 1) H3) (hd : ∀ H, Pv xs.length H → Qd H) :
    ∃ W : Nat → Nat → Hp → Prop, (∃ m, W 0 m (upd H1 D (.lst []))) ∧ ∀ i m H, W i m H →
      ((Itl K a).stop i H ∧ Qd H) ∨ ((Itl K a).go i H ∧ ∃ Nx : Hp → Prop, (∀ H', Nx H' → ∃ m', m' < m ∧ W (i + 1) m' H') ∧ ∀ x H', (Itl K a).yld i H x H' → g x (wipe σ vs) H' fun σ2 H2 => wipe σ2 vs = wipe σ vs ∧ tt σ2 H2 fun b H3 =>
        if b = true then te σ2 H3 fun y H4 => ∃ acc, H4 D = some (.lst acc) ∧ acc.length < sizeLine ∧ Nx (upd H4 D (.lst (acc ++ [y]))) else Nx H3) := by
  refine ⟨fun i m H => m = xs.length - i ∧ i ≤ xs.length ∧ Pv i H, ⟨xs.length, by simp, Nat.zero_le _, h0⟩, ?_⟩
  rintro i m H ⟨rfl, hi, p⟩
  have q := hl i H hi p
  by_cases hlt : i < xs.length
  · refine .inr ⟨⟨xs, xs[i], q, by simp [hlt]⟩, Pv (i + 1), fun H' p' => ⟨xs.length - (i + 1), by omega, rfl, hlt, p'⟩, fun x H' y => ?_⟩
    obtain ⟨e, y⟩ := y
    subst e
    exact hs i x _ (y xs q) p
  · have e : i = xs.length := by omega
    subst e
    exact .inl ⟨⟨xs, q, Nat.le_refl _⟩, hd H p⟩
theorem lc_tup {K : PySem.W.Frag} {a : Addr} {xs : List V} {g : TG} {tt : TT} {te : TE} {vs : List Nat} {σ : St} {H1 : Hp} {D : Addr} {Qd : Hp → Prop} (Pv : Nat → Hp → Prop) (h0 : Pv 0 (upd H1 D (.lst []))) (hl : ∀ i H, i ≤ xs.length → Pv i H → SqT K H a xs)
    (hs : ∀ i x H, xs[i]? = some x → Pv i H → g x (wipe σ vs) H fun σ2 H2 => wipe σ2 vs = wipe σ vs ∧ tt σ2 H2 fun b H3 =>
      if b = true then te σ2 H3 fun y H4 => ∃ acc, H4 D = some (.lst acc) ∧ acc.length < sizeLine ∧ Pv (i + 1) (upd H4 D (.lst (acc ++ [y]))) else Pv (i + 1) H3) (hd : ∀ H, Pv xs.length H → Qd H) :
    ∃ W : Nat → Nat → Hp → Prop, (∃ m, W 0 m (upd H1 D (.lst []))) ∧ ∀ i m H, W i m H →
      ((Itt K a).stop i H ∧ Qd H) ∨ ((Itt K a).go i H ∧ ∃ Nx : Hp → Prop, (∀ H', Nx H' → ∃ m', m' < m ∧ W (i + 1) m' H') ∧ ∀ x H', (Itt K a).yld i H x H' → g x (wipe σ vs) H' fun σ2 H2 => wipe σ2 vs = wipe σ vs ∧ tt σ2 H2 fun b H3 =>
        if b = true then te σ2 H3 fun y H4 => ∃ acc, H4 D = some (.lst acc) ∧ acc.length < sizeLine ∧ Nx (upd H4 D (.lst (acc ++ [y]))) else Nx H3) := by
  refine ⟨fun i m H => m = xs.length - i ∧ i ≤ xs.length ∧ Pv i H, ⟨xs.length, by simp, Nat.zero_le _, h0⟩, ?_⟩
  rintro i m H ⟨rfl, hi, p⟩
  have q := hl i H hi p
  by_cases hlt : i < xs.length
  · refine .inr ⟨⟨xs, xs[i], q, by simp [hlt]⟩, Pv (i + 1), fun H' p' => ⟨xs.length - (i + 1), by omega, rfl, hlt, p'⟩, fun x H' y => ?_⟩
    obtain ⟨e, y⟩ := y
    subst e
    exact hs i x _ (y xs q) p
  · have e : i = xs.length := by omega
    subst e
    exact .inl ⟨⟨xs, q, Nat.le_refl _⟩, hd H p⟩
def blkC (N : List Str) (sc scope : Scope) (own : List (Str × Nat)) : Bool :=
  (match scope.kind with | .function => true | _ => false) && (scope.names.all fun y => decide (scope.names.lookup y.1 = some y.2)) && (own.all fun p => decide (N[p.2]? = some p.1)) &&
    (scope.names.all fun y => match y.2 with
      | .free => (match sc.names.lookup y.1 with | some .cell => true | some .free => true | _ => false)
      | .local => decide (y.1 ∈ own.map (·.1)) || decide (y.1 ∉ N)
      | .cell => decide (y.1 ∈ own.map (·.1)) || decide (y.1 ∉ N)
      | _ => true)
theorem blkOk_by {N : List Str} {sc scope : Scope} {own : List (Str × Nat)} (h : blkC N sc scope own = true) : BlkOk N sc scope own := by
  unfold blkC at h
  simp only [Bool.and_eq_true, List.all_eq_true, decide_eq_true_eq] at h
  obtain ⟨⟨⟨h1, h2⟩, h3⟩, h4⟩ := h
  refine ⟨?_, h2, h3, fun y hy e => ?_, fun y hy e => ?_⟩
  · split at h1
    · assumption
    · cases h1
  · have q := h4 y hy
    simp only [e] at q
    split at q <;> first | exact .inl (by assumption) | exact .inr (by assumption) | cases q
  · have q := h4 y hy
    rcases e with e | e <;> (simp only [e, Bool.or_eq_true, decide_eq_true_eq] at q; exact q)
end L2
namespace L2
open PySem PySem.Spec PyProof.Rows
end L2
namespace L2
open PySem PySem.Spec PyProof.Rows
section
variable {κ : Type} [DecidableEq κ]
def valV (kvs : List (κ × V)) (k : κ) : Option V := (kvs.find? fun kv => decide (kv.1 = k)).map (·.2)
def putK (kvs : List (κ × V)) (k : κ) (v : V) : List (κ × V) :=
  if (kvs.any fun kv => decide (kv.1 = k)) = true then kvs.map (fun kv => if kv.1 = k then (kv.1, v) else kv) else kvs ++ [(k, v)]
def dropK (kvs : List (κ × V)) (k : κ) : List (κ × V) := kvs.filter fun kv => decide (kv.1 ≠ k)
theorem valV_pos {p : κ × V} {r : List (κ × V)} {k : κ} (e : p.1 = k) : valV (p :: r) k = some p.2 := by simp [valV, List.find?_cons, e]
theorem valV_neg {p : κ × V} {r : List (κ × V)} {k : κ} (e : ¬ p.1 = k) : valV (p :: r) k = valV r k := by simp [valV, List.find?_cons, e]
theorem valV_any (k : κ) : ∀ kvs : List (κ × V), (kvs.any fun kv => decide (kv.1 = k)) = (valV kvs k).isSome
  | [] => rfl
  | p :: r => by
    rw [List.any_cons]
    by_cases e : p.1 = k
    · simp only [valV_pos e, decide_eq_true e, Bool.true_or, Option.isSome_some]
    · rw [valV_neg e, decide_eq_false e, Bool.false_or]; exact valV_any k r
theorem RelO.isSome_eq {o : Option V} {u : Option Value} (r : RelO o u) : o.isSome = u.isSome := by
  cases o with
  | none => cases u with
    | none => rfl
    | some _ => exact (show False from r).elim
  | some _ => cases u with
    | none => exact (show False from r).elim
    | some _ => rfl
theorem RelO.getD {o : Option V} {u : Option Value} {d : V} {d' : Value} (r : RelO o u) (rd : RelV d d') : RelV (o.getD d) (u.getD d') := by
  cases o with
  | none => cases u with
    | none => exact rd
    | some _ => exact (show False from r).elim
  | some _ => cases u with
    | none => exact (show False from r).elim
    | some _ => exact r
theorem KV.val {kvs : List (κ × V)} {vs : List (κ × Value)} (r : KV kvs vs) (k : κ) : RelO (valV kvs k) (valueAt vs k) := by
  unfold KV at r
  induction r with
  | nil => exact True.intro
  | @cons p q ps qs h t ih =>
    obtain ⟨h1, h2⟩ := h
    by_cases e : p.1 = k
    · have e' : q.1 = k := h1.symm.trans e
      have b : valueAt (q :: qs) k = some q.2 := by simp [valueAt, List.find?_cons, e']
      rw [valV_pos e, b]; exact h2
    · have e' : ¬ q.1 = k := fun z => e (h1.trans z)
      have b : valueAt (q :: qs) k = valueAt qs k := by simp [valueAt, List.find?_cons, e']
      rw [valV_neg e, b]; exact ih
theorem KV.any {kvs : List (κ × V)} {vs : List (κ × Value)} (r : KV kvs vs) (k : κ) : (kvs.any fun kv => decide (kv.1 = k)) = vs.any fun kv => decide (kv.1 = k) := by
  unfold KV at r
  induction r with
  | nil => rfl
  | cons h t ih => rw [List.any_cons, List.any_cons, ih, h.1]
theorem KV.repl {kvs : List (κ × V)} {vs : List (κ × Value)} (r : KV kvs vs) (k : κ) {y : V} {u : Value} (ry : RelV y u) :
    KV (kvs.map fun kv => if kv.1 = k then (kv.1, y) else kv) (vs.map fun kv => if kv.1 = k then (kv.1, u) else kv) := by
  unfold KV at r ⊢
  induction r with
  | nil => exact .nil
  | @cons p q ps qs h t ih =>
    rw [List.map_cons, List.map_cons]
    refine .cons ?_ ih
    obtain ⟨h1, h2⟩ := h
    by_cases e : p.1 = k
    · rw [if_pos e, if_pos (h1.symm.trans e)]; exact ⟨h1, ry⟩
    · rw [if_neg e, if_neg (fun z => e (h1.trans z))]; exact ⟨h1, h2⟩
theorem KV.put {kvs : List (κ × V)} {vs : List (κ × Value)} (r : KV kvs vs) (k : κ) {y : V} {u : Value} (ry : RelV y u) : KV (putK kvs k y) (stored vs k u) := by
  unfold putK stored
  rw [r.any k]
  by_cases e : (vs.any fun kv => decide (kv.1 = k)) = true
  · rw [if_pos e, if_pos e]; exact r.repl k ry
  · rw [if_neg e, if_neg e]; exact Paired.snoc r ⟨rfl, ry⟩
theorem KV.drop {kvs : List (κ × V)} {vs : List (κ × Value)} (r : KV kvs vs) (k : κ) : KV (dropK kvs k) (without vs k) := by
  unfold KV at r ⊢
  unfold dropK without
  induction r with
  | nil => exact .nil
  | @cons p q ps qs h t ih =>
    obtain ⟨h1, h2⟩ := h
    rw [List.filter_cons, List.filter_cons]
    by_cases e : p.1 = k
    · have a : ¬ decide (p.1 ≠ k) = true := by simp [e]
      have b : ¬ decide (q.1 ≠ k) = true := by simp [h1.symm.trans e]
      rw [if_neg a, if_neg b]; exact ih
    · have e' : ¬ q.1 = k := fun z => e (h1.trans z)
      have a : decide (p.1 ≠ k) = true := by simp [e]
      have b : decide (q.1 ≠ k) = true := by simp [e']
      rw [if_pos a, if_pos b]; exact .cons ⟨h1, h2⟩ ih
theorem KV.keys {kvs : List (κ × V)} {vs : List (κ × Value)} (r : KV kvs vs) : kvs.map (·.1) = vs.map (·.1) := by
  unfold KV at r
  induction r with
  | nil => rfl
  | cons h t ih => rw [List.map_cons, List.map_cons, ih, h.1]
theorem KV.length {kvs : List (κ × V)} {vs : List (κ × Value)} (r : KV kvs vs) : kvs.length = vs.length := Paired.length r
end
abbrev KT (H : Hp) : List (List Key × V) → List (List Key × Addr × Value) → Prop := Paired fun p q => p.1 = q.1 ∧ H q.2.1 = some (.tup (p.1.map kV)) ∧ RelV p.2 q.2.2
theorem KT.val {H : Hp} {kvs : List (List Key × V)} {xs : List (List Key × Addr × Value)} (r : KT H kvs xs) (k : List Key) : RelO (valV kvs k) ((atKey xs k).map (·.2)) := by
  induction r with
  | nil => exact True.intro
  | @cons p q ps qs h t ih =>
    obtain ⟨h1, _, h2⟩ := h
    by_cases e : p.1 = k
    · have e' : q.1 = k := h1.symm.trans e
      have b : atKey (q :: qs) k = some q.2 := by simp [atKey, List.find?_cons, e']
      rw [valV_pos e, b]; exact h2
    · have e' : ¬ q.1 = k := fun z => e (h1.trans z)
      have b : atKey (q :: qs) k = atKey qs k := by simp [atKey, List.find?_cons, e']
      rw [valV_neg e, b]; exact ih
theorem KT.repl {H : Hp} {kvs : List (List Key × V)} {xs : List (List Key × Addr × Value)} (r : KT H kvs xs) (k : List Key) {y : V} {u : Value} (ry : RelV y u) :
    KT H (kvs.map fun kv => if kv.1 = k then (kv.1, y) else kv) (xs.map (putAt k u)) := by
  induction r with
  | nil => exact .nil
  | @cons p q ps qs h t ih =>
    rw [List.map_cons, List.map_cons]
    refine .cons ?_ ih
    obtain ⟨h1, h2, h3⟩ := h
    unfold putAt
    by_cases e : p.1 = k
    · rw [if_pos e, if_pos (h1.symm.trans e)]; exact ⟨h1, h2, ry⟩
    · rw [if_neg e, if_neg (fun z => e (h1.trans z))]; exact ⟨h1, h2, h3⟩
theorem KT.put {H : Hp} {kvs : List (List Key × V)} {xs : List (List Key × Addr × Value)} (r : KT H kvs xs) (k : List Key) {b : Addr} {y : V} {u : Value} (hb : H b = some (.tup (k.map kV))) (ry : RelV y u) :
    KT H (putK kvs k y) (storedH xs k b u) := by
  have e : (kvs.any fun kv => decide (kv.1 = k)) = (atKey xs k).isSome := by
    rw [valV_any, (r.val k).isSome_eq, Option.isSome_map]
  unfold putK storedH
  rw [e]
  by_cases q : (atKey xs k).isSome = true
  · rw [if_pos q, if_pos q]; exact r.repl k ry
  · rw [if_neg q, if_neg q]; exact Paired.snoc r ⟨rfl, hb, ry⟩
theorem KT.keeps {H H' : Hp} {kvs : List (List Key × V)} {xs : List (List Key × Addr × Value)} (r : KT H kvs xs) (ht : ∀ b ys, H b = some (.tup ys) → H' b = some (.tup ys)) : KT H' kvs xs :=
  Paired.mapP r fun _ _ z => ⟨z.1, ht _ _ z.2.1, z.2.2⟩
def DGet (H : Hp) (a : Addr) (y : V) (r : Option V) : Prop :=
  (∃ kvs k, Rd H a (.dK kvs) ∧ y = kV k ∧ r = valV kvs k) ∨ ∃ kvs k b, Rd H a (.dT kvs) ∧ y = .ref b ∧ H b = some (.tup (k.map kV)) ∧ r = valV kvs k
def DPut (H : Hp) (a : Addr) (y v : V) (H' : Hp) : Prop :=
  (∃ kvs k, H a = some (.dK kvs) ∧ y = kV k ∧ kvs.length < sizeLine ∧ H' = upd H a (.dK (putK kvs k v))) ∨
  ∃ kvs k b, H a = some (.dT kvs) ∧ y = .ref b ∧ H b = some (.tup (k.map kV)) ∧ kvs.length < sizeLine ∧ H' = upd H a (.dT (putK kvs k v))
theorem DGet.k {H : Hp} {a : Addr} {kvs : List (Key × V)} {k : Key} (e : H a = some (.dK kvs)) : DGet H a (kV k) (valV kvs k) := .inl ⟨kvs, k, .inl e, rfl, rfl⟩
theorem DGet.t {H : Hp} {a b : Addr} {kvs : List (List Key × V)} {k : List Key} (e : H a = some (.dT kvs)) (eb : H b = some (.tup (k.map kV))) : DGet H a (.ref b) (valV kvs k) := .inr ⟨kvs, k, b, .inl e, rfl, eb, rfl⟩
theorem DPut.k {H : Hp} {a : Addr} {kvs : List (Key × V)} {k : Key} {v : V} (e : H a = some (.dK kvs)) (hl : kvs.length < sizeLine) : DPut H a (kV k) v (upd H a (.dK (putK kvs k v))) := .inl ⟨kvs, k, e, rfl, hl, rfl⟩
theorem DPut.t {H : Hp} {a b : Addr} {kvs : List (List Key × V)} {k : List Key} {v : V} (e : H a = some (.dT kvs)) (eb : H b = some (.tup (k.map kV))) (hl : kvs.length < sizeLine) :
    DPut H a (.ref b) v (upd H a (.dT (putK kvs k v))) := .inr ⟨kvs, k, b, e, rfl, eb, hl, rfl⟩
section
variable {X : Cx} {pins : List (Addr × Obj)} {σ : St} {H : Hp} {s : Shared} {a : Addr} {y v : V} {u r : Value} {o : Option V} {A : Around} {E : Value → Shared → Prop}
theorem Inv.big (I : Inv X pins σ H s) : sysModules < s.heap.objs.size := by
  have h : mainGlobals < s.heap.objs.size := (I.mod.glob.keeps I.bk).lt
  exact Nat.lt_trans (by decide) h
end
theorem dk_empty {P : Program} {w : World} {H : Hp} (h : Heap) (hb : sysModules < h.objs.size) : ObjOk P w H (h.push { cls := .type "dict", data := .dict #[] }) h.objs.size (.dK []) :=
  ⟨Nat.zero_le _, beq_eq_false_iff_ne.mpr (Ne.symm (Nat.ne_of_lt hb)), [], .nil, Heap.DictOf.new h⟩
def tDNewK : TE := fun _ H Q => ∀ p, H p = none → Q (.ref p) (upd H p (.dK []))
section
variable {X : Cx} {pos : Pos}
theorem pe_dnewK : PE X (.Dict [] [] pos) tDNewK := fun pins s σ H Q I h =>
  wpAny_Dict_empty ⟨.ref s.heap.objs.size, _, I.laid (a := s.heap.objs.size) (o := .dK []) (t' := s.toks) (fun _ _ q => Heap.get?_push_of_some _ q) (Nat.le_refl _) (dk_empty s.heap I.big), rfl, h _ (I.hok.fresh (Nat.le_refl _))⟩
end
structure M1 (X : Cx) (o : Expr) (m : Str) (apos : Pos) (e : Expr) (cpos : Pos) : Prop where
  base : attributeBase o m X.env (eval o X.env) = eval o X.env
  few : ((backTo cpos (starEach [e] X.env)).all (fun x => !x.1) && (backToKw cpos (keywordEach [] X.env)).all (fun x => x.1.isSome)
    && decide (([e] : List Expr).length + ([] : List Keyword).length + (if ([] : List Keyword).isEmpty then 0 else 1) < 30)) = true
  line : (apos.endLine == cpos.line) = true
  trees : backTo cpos (starEach [e] X.env) = [(false, eval e X.env)]
structure M2 (X : Cx) (o : Expr) (m : Str) (apos : Pos) (e f : Expr) (cpos : Pos) : Prop where
  base : attributeBase o m X.env (eval o X.env) = eval o X.env
  few : ((backTo cpos (starEach [e, f] X.env)).all (fun x => !x.1) && (backToKw cpos (keywordEach [] X.env)).all (fun x => x.1.isSome)
    && decide (([e, f] : List Expr).length + ([] : List Keyword).length + (if ([] : List Keyword).isEmpty then 0 else 1) < 30)) = true
  line : (apos.endLine == cpos.line) = true
  trees : backTo cpos (starEach [e, f] X.env) = [(false, eval e X.env), (false, eval f X.env)]
end L2
namespace L2
open PySem PySem.Spec PyProof.Rows
end L2
namespace L2
open PySem PySem.Spec PyProof.Rows
section
variable {X : Cx}
theorem pi_one {tg : Expr} {pins : List (Addr × Obj)} {σ : St} {H : Hp} {s : Shared} {R : It → Hp → Prop} {J : It} {tn : Nat → Heap → Prop} {tk : Nat} (I : Inv X pins σ H s) (o : Obj)
    (T : Turn X.prog X.w X.K tg J [s.heap.objs.size] s.heap.objs.size tn) (st : tn 0 (s.heap.push o)) (q : R J H) : PIE X pins σ tg R (.ref s.heap.objs.size) { s with heap := s.heap.push o, toks := tk } := by
  refine ⟨s.heap.objs.size, [s.heap.objs.size], tn, J, H, rfl, I.kept fun b ob e => Heap.get?_push_of_some _ e, T, st, fun b hb => ?_, q⟩
  have e : b = s.heap.objs.size := by simpa using hb
  subst e
  exact I.fpOk (Nat.le_refl _) (I.hok.fresh (Nat.le_refl _))
end
def Itc (lo c : Int) (n : Nat) : It := ⟨fun i _ => i < n, fun i H x H' => H' = H ∧ x = .int (lo + (i : Nat) * c), fun i _ => n ≤ i⟩
theorem turn_rangeC {P : Program} {w : World} {K : PySem.W.Frag} {tg : Expr} (it : Addr) (lo c : Int) (n : Nat) : Turn P w K tg (Itc lo c n) [it] it (fun i h => IsRangeIter h it (lo + (i : Nat) * c) ((n : Int) - (i : Nat)) c) where
  mem := by simp
  obj := fun i h st b hb => by
    have e : b = it := by simpa using hb
    subst e
    exact ⟨_, st, fun v z => nomatch z⟩
  keep := fun i h h' st k => k it (by simp) _ st
  item := by
    intro X hP hw hK hc i pins s σ H E I hf st hg
    subst hP hw hK
    obtain ⟨f0, f1, f2, f3, f4, f5⟩ := hf it (by simp)
    have W := Walks.range (prog := X.prog) (w := X.w) (I.ok.hd hc) it lo c n
    refine W.item i s _ _ hg st fun v h' tk hv st' kk => ?_
    obtain ⟨t, rfl⟩ := hv
    have I1 : Inv X pins σ H { s with heap := h', toks := tk } := I.turned (fun b o hb e => kk b o (by simpa using hb) e) f0 f1 f3 f4 f5
    exact ⟨_, rfl, go_of (s := { s with heap := h', toks := tk }) (n := "range_iterator") st' rfl rfl (by decide) ⟨.int (lo + (i : Nat) * c), H, I1, ⟨t, rfl⟩, ⟨rfl, rfl⟩, st', fun b hb => (hf b hb).1⟩⟩
  done := by
    intro X hP hw hK hc i pins s σ H E I hf st hg
    subst hP hw hK
    obtain ⟨f0, f1, f2, f3, f4, f5⟩ := hf it (by simp)
    exact wpAny_pyNext_range_end (I.ok.hd hc) st (by have : n ≤ i := hg; omega) fun h' eb => ⟨rfl, I.turned (t' := s.toks) (fun b o hb e => eb b o hb e) f0 f1 f3 f4 f5⟩
  self := fun A i s Q E st h => wpAny_pyIter_rangeiter st h
def RgC (i j c : Int) (n : Nat) : Prop := c ≠ 0 ∧ c.natAbs < 1073741824 ∧ Builtin.Range.small i j c = true ∧ Builtin.Range.rangeSize i j c = n
theorem RgC.neg {i j : Int} (ha : -(2 ^ 62) ≤ i) (ha' : i < 2 ^ 62) (hb : -(2 ^ 62) ≤ j) (hb' : j < 2 ^ 62) : RgC i j (-1) (i - j).toNat :=
  ⟨by decide, by decide, PySem.W.small_down ha ha' hb hb', PySem.W.rangeSize_downNat i j⟩
def iRng3 (ta : TA) : TI := fun σ H R => ta σ H fun vs H1 => ∃ (i j c : Int) (n : Nat), vs = [.int i, .int j, .int c] ∧ RgC i j c n ∧ R (Itc i c n) H1
section
variable {X : Cx} {tg : Expr}
theorem pi_range3 {a b c : Expr} {ta : TA} {p pos : Pos} (hg : Gl X "range") (hm : X.mg "range" = none) (ha : PA X [a, b, c] ta)
    (hs : starEach [a, b, c] X.env = (false, eval a X.env) :: starEach [b, c] X.env := by rfl) (hpl : (backTo pos (starEach [b, c] X.env)).any (·.1) = false := by rfl) :
    PI X tg (.Call (.Name "range" p) [a, b, c] [] pos) (iRng3 ta) := by
  intro pins s σ H R I h
  refine Call_ (ld_blt I hg hm boot_range (PyProof.Rows.callWith_type1 (thn (ha pos pins s σ H _ I h) fun us s1 ⟨vs, H1, I1, r1, q1⟩ => ?_) hs hpl))
  obtain ⟨i, j, k, n, e, ⟨c0, c1, c2, c3⟩, q⟩ := q1
  subst e
  cases r1 with
  | cons r rr =>
    cases rr with
    | cons r' rr =>
      cases rr with
      | cons r'' rr =>
        cases rr
        obtain ⟨t, rfl⟩ := r
        obtain ⟨t', rfl⟩ := r'
        obtain ⟨t'', rfl⟩ := r''
        refine call_range_3 c0 ?_ (.inl (PyProof.noPylong_small c1))
        refine wpAny_pyIter_range (IsRange.new ..) c2 ?_
        have I2 : Inv X pins σ H1 { s1 with heap := s1.heap.push { cls := .type "range", data := .fields #[.int i t, .int j t', .int k t''] } } := I1.kept (t' := s1.toks) fun b o e => Heap.get?_push_of_some _ e
        refine pi_one (tk := s1.toks) I2 _ (turn_rangeC _ i k n) ?_ q
        have e1 : i + ((0 : Nat) : Int) * k = i := by simp
        have e2 : (n : Int) - ((0 : Nat) : Int) = Builtin.Range.rangeSize i j k := by rw [c3]; simp
        show IsRangeIter _ _ (i + ((0 : Nat) : Int) * k) ((n : Int) - ((0 : Nat) : Int)) k
        rw [e1, e2]
        exact Heap.get?_push_size _ rfl
end
theorem for_rangeC {lo c : Int} {n : Nat} {g : TG} {tb : TS} {D : Ends} {σ : St} {H : Hp} (Pv : Nat → St → Hp → Prop) (h0 : Pv 0 σ H)
    (hs : ∀ i σ H, i < n → Pv i σ H → g (.int (lo + (i : Nat) * c)) σ H fun σ2 H2 => tb { D with nx := Pv (i + 1), ct := Pv (i + 1), bk := D.nx } σ2 H2) (hd : ∀ σ H, Pv n σ H → D.nx σ H) :
    ∃ W : Nat → Nat → St → Hp → Prop, (∃ m, W 0 m σ H) ∧ ∀ i m σ H, W i m σ H →
      ((Itc lo c n).stop i H ∧ D.nx σ H) ∨ ((Itc lo c n).go i H ∧ ∃ N : St → Hp → Prop, (∀ σ' H', N σ' H' → ∃ m', m' < m ∧ W (i + 1) m' σ' H') ∧ ∀ x H', (Itc lo c n).yld i H x H' → g x σ H' fun σ2 H2 => tb { D with nx := N, ct := N, bk := D.nx } σ2 H2) := by
  refine ⟨fun i m σ H => m = n - i ∧ i ≤ n ∧ Pv i σ H, ⟨n, by simp, Nat.zero_le _, h0⟩, ?_⟩
  rintro i m σ H ⟨rfl, hi, p⟩
  by_cases hlt : i < n
  · refine .inr ⟨hlt, Pv (i + 1), fun σ' H' p' => ⟨n - (i + 1), by omega, rfl, hlt, p'⟩, fun x H' y => ?_⟩
    obtain ⟨e, y⟩ := y
    subst e y
    exact hs i σ _ hlt p
  · have e : i = n := by omega
    subst e
    exact .inl ⟨Nat.le_refl _, hd σ H p⟩
end L2
section 
namespace Bits
open PySem PyProof.Rows
end Bits
end 
section 
namespace TL
open PySem PySem.Builtin PySem.Builtin.Str PySem.StrLaws
abbrev tl (x : Str) : List Nat := x.cps.toList
def pre (S l : List Nat) : Bool := l.take S.length == S
def par (S : List Nat) : List Nat → List Nat → Option (List Nat × List Nat)
  | _, [] => none
  | acc, c :: r => if pre S (c :: r) = true then some (acc, (c :: r).drop S.length) else par S (acc ++ [c]) r
end TL
end 
namespace L2
open PySem PySem.Spec PyProof.Rows
section
variable {X : Cx}
theorem call_int_str : CallR X (.type "int") (fun xs H Q => ∃ a n, xs = [.str a] ∧ PySem.intText? a = some n ∧ a.length ≤ 640 ∧ Q (.int n) H) := by
  intro pins s σ H xs us Q I rs h
  obtain ⟨a, n, rfl, hn, hl, h⟩ := h
  cases rs with
  | cons r1 rs =>
    cases rs
    obtain ⟨t, rfl⟩ := r1
    exact PySem.W.KIN.call_text hn hl ⟨.int n, H, I.tok _, ⟨_, rfl⟩, h⟩
end
end L2
namespace L2
open PySem PySem.Spec PyProof.Rows
theorem IsPart.raw {v : Value} {o : Option Int} (p : IsPart v o) : ∃ l : Option (Int × Tok), v = partValue l ∧ l.map (·.1) = o := by
  cases p with
  | none => exact ⟨none, rfl, rfl⟩
  | int i t => exact ⟨some (i, t), rfl, rfl⟩
def clipS (n d : Nat) : Option Int → Int
  | none => (d : Int)
  | some i => max 0 (min (if i < 0 then i + (n : Int) else i) (n : Int))
theorem clipS_eq (n d : Nat) (o : Option Int) : clipS n d o = ((HT.sIx n d o : Nat) : Int) := by
  cases o with
  | none => rfl
  | some v =>
    show max (0 : Int) (min (if v < 0 then v + (n : Int) else v) (n : Int)) = (((if v < 0 then (v + (n : Int)).toNat else min v.toNat n) : Nat) : Int)
    by_cases hv : v < 0
    · simp only [if_pos hv]
      omega
    · simp only [if_neg hv]
      omega
theorem sidx_clip (a b : Option Int) (n : Nat) : Builtin.Str.strSliceIndices a b 1 n = sliceRange (clipS n 0 a) (clipS n n b) 1 := by
  have h1 : ((1 : Int) > 0) = True := by simp
  cases a <;> cases b <;> first
    | rfl
    | (simp only [Builtin.Str.strSliceIndices, clipS, h1, if_true]; rfl)
    | simp [Builtin.Str.strSliceIndices, clipS]
theorem sidx (a b : Option Int) (n : Nat) : Builtin.Str.strSliceIndices a b 1 n = (List.range (HT.sIx n n b - HT.sIx n 0 a)).map (fun k => HT.sIx n 0 a + k) := by
  rw [sidx_clip, clipS_eq, clipS_eq]
  generalize HT.sIx n 0 a = p
  generalize HT.sIx n n b = q
  simp only [sliceRange, show ((1 : Int) > 0) = True from by simp, if_true]
  by_cases hlt : (p : Int) < q
  · have e3 : (((q : Int) - p + 1 - 1) / 1).toNat = q - p := by first | omega | (simp; done) | (simp; omega)
    simp only [hlt, if_true, e3]
    refine List.map_congr_left fun k _ => ?_
    omega
  · have : q - p = 0 := by omega
    simp [hlt, this]
def cutS (z : Str) (lo hi : Option Int) : Str :=
  ⟨((z.cps.toList.drop (HT.sIx z.length 0 lo)).take (HT.sIx z.length z.length hi - HT.sIx z.length 0 lo)).toArray⟩
theorem sliceText_cut (z : Str) (lo hi : Option Int) : PySem.StrLaws.sliceText z lo hi = cutS z lo hi := by
  have h1 : HT.sIx z.length 0 lo ≤ z.length := HT.sIx_le _ _ (Nat.zero_le _) _
  have h2 : HT.sIx z.length z.length hi ≤ z.length := HT.sIx_le _ _ (Nat.le_refl _) _
  have hp : HT.sIx z.length 0 lo ≤ max (HT.sIx z.length 0 lo) (HT.sIx z.length z.length hi) := Nat.le_max_left _ _
  have hq : max (HT.sIx z.length 0 lo) (HT.sIx z.length z.length hi) ≤ z.length := Nat.max_le.mpr ⟨h1, h2⟩
  have hd : max (HT.sIx z.length 0 lo) (HT.sIx z.length z.length hi) - HT.sIx z.length 0 lo = HT.sIx z.length z.length hi - HT.sIx z.length 0 lo := by omega
  have e : Builtin.Str.strSliceIndices lo hi 1 z.length =
      Builtin.Str.strSliceIndices (some ((HT.sIx z.length 0 lo : Nat) : Int)) (some ((max (HT.sIx z.length 0 lo) (HT.sIx z.length z.length hi) : Nat) : Int)) 1 z.length := by
    rw [PySem.StrLaws.strSliceIndices_plain hp hq, hd, sidx]
  have e2 : PySem.StrLaws.sliceText z lo hi =
      PySem.StrLaws.sliceText z (some ((HT.sIx z.length 0 lo : Nat) : Int)) (some ((max (HT.sIx z.length 0 lo) (HT.sIx z.length z.length hi) : Nat) : Int)) := by
    unfold PySem.StrLaws.sliceText
    rw [e]
  rw [e2, PySem.StrLaws.sliceText_nat z hp hq, hd]
  rfl
theorem cutS_length (z : Str) (lo hi : Option Int) : (cutS z lo hi).length ≤ z.length := by
  show (((z.cps.toList.drop (HT.sIx z.length 0 lo)).take (HT.sIx z.length z.length hi - HT.sIx z.length 0 lo)).toArray).size ≤ z.cps.size
  rw [List.size_toArray, List.length_take, List.length_drop, Array.length_toList]
  omega
def rSlS : V → Option Int → Option Int → Hp → VK → Prop := fun x lo hi H Q => ∃ z, x = .str z ∧ z.length ≤ sizeLine ∧ Q (.str (cutS z lo hi)) H
theorem sl_str {X : Cx} : SlR X rSlS := by
  intro pins s σ H x v vl vu lo hi sl Q I rx hs pl pu h
  obtain ⟨z, rfl, hz, q⟩ := h
  obtain ⟨t, rfl⟩ := rx
  obtain ⟨os, hos, hcs, hds⟩ := hs
  obtain ⟨l, rfl, rfl⟩ := IsPart.raw pl
  obtain ⟨u, rfl, rfl⟩ := IsPart.raw pu
  refine ⟨"str", _, F.slot_str_getitem.lookup, typeIs_str _ _ _, ?_⟩
  refine wpAny_getItem_str_slice (l := l) (u := u) (st := none) ⟨os, hos, hcs, hds⟩ rfl ?_
  have hl : (PySem.StrLaws.sliceText z (l.map (·.1)) (u.map (·.1))).length ≤ sizeLine := by
    rw [sliceText_cut]
    exact Nat.le_trans (cutS_length z _ _) hz
  rw [← sliceText_cut] at q
  unfold PySem.StrLaws.sliceText at q hl
  show Made.post (if ((1 : Int) == 1 && (Builtin.Str.strSliceIndices (l.map (·.1)) (u.map (·.1)) 1 z.length).length == z.length) = true then Made.val (.str z t)
    else Made.str ⟨((Builtin.Str.strSliceIndices (l.map (·.1)) (u.map (·.1)) 1 z.length).filterMap (z.cps[·]?)).toArray⟩) (EP X pins σ Q) s
  by_cases c : ((1 : Int) == 1 && (Builtin.Str.strSliceIndices (l.map (·.1)) (u.map (·.1)) 1 z.length).length == z.length) = true
  · rw [if_pos c] at q ⊢
    exact ⟨.str z, H, I, ⟨t, rfl⟩, q⟩
  · rw [if_neg c] at q hl ⊢
    exact ⟨hl, .str _, H, I.tok _, ⟨_, rfl⟩, q⟩
end L2
namespace Att
open PySem PySem.W PySem.Calls PyProof.Rows
theorem ints_of_wellAll {P : Params} {h : Heap} : ∀ (ns : List Int) (vs : List Value), WellAll P h vs (ns.map WData.int) → IntsAre vs ns := by
  intro ns
  induction ns with
  | nil =>
    intro vs w
    rw [List.map_nil] at w
    cases w
    exact .nil
  | cons n ns ih =>
    intro vs w
    rw [List.map_cons] at w
    cases w with
    | cons a b =>
      cases a
      exact .cons _ _ (ih _ b)
theorem script_of {l : OpenLaw} {n : Nat} (hn : l.most = some n) {P : Params} {h : Heap} {args : List WData} {vals : List Value}
    (hpre : l.row.toRowW.claim.pre args = true) (hwl : WellAll P h vals args) :
    ∃ a vs ns, vals = [Value.ref a] ∧ args = [WData.list (ns.map WData.int)] ∧ h.get? a = some { cls := .type "list", data := .seq vs.toArray } ∧ IntsAre vs ns ∧ ns.length ≤ n := by
  have hsh : WShape.hasAll [] args [.list .int] = true := (pre_splitW hpre).1
  have hc : l.pre.holds [] { args := args } = true := (pre_splitW hpre).2
  obtain ⟨d, r, rfl, h1, h2⟩ := hasAllW_cons hsh
  obtain rfl := hasAllW_nil h2
  obtain ⟨xs, rfl, h3⟩ := hasW_list h1
  obtain ⟨ns, rfl⟩ := items_int h3
  have hlen : ns.length ≤ n := by
    unfold OpenLaw.pre at hc
    have h4 : (WTm.not (.lt (.lit (.int (n : Int))) (.len (.arg 0)))).holds [] { args := [.list (ns.map .int)] } = true := by
      have h4 := (holds_andW hc).1
      rw [hn] at h4
      exact h4
    have h5 := condW_of h4 (w_not (w_lt w_lit (w_len_list (w_arg rfl))))
    rw [List.length_map] at h5
    refine Nat.le_of_not_lt fun q => ?_
    have q' : (n : Int) < ((ns.length : Nat) : Int) := by omega
    first
      | (rw [decide_eq_true q'] at h5; exact absurd h5 (by decide))
      | (simp at h5; omega)
  cases hwl with
  | cons w1 w2 =>
    cases w2
    cases w1 with
    | list ho hall => exact ⟨_, _, ns, rfl, rfl, ho, ints_of_wellAll ns _ hall, hlen⟩
theorem post_true (l : OpenLaw) (args : List WData) : l.row.toRowW.claim.post args (.bool true) args = true :=
  postW_of (r := l.row.toRowW) (X := (true == true))
    (show WShape.has [] (.bool true) .bool = true by first | rfl | decide | simp [WShape.has, WShape.arms, WShape.armsAll])
    (show (WTm.eq .res (.lit (.bool true))).value [] { args := args, res := some (.bool true), after := args } = some (.bool (true == true)) from w_eq_bool (w_res rfl) w_lit) rfl
theorem attach_call {l : OpenLaw} {n : Nat} {q : Program} {loose : List Str} {XP : (Str → Option Value) → Heap → Prop} {YP : World → Heap → Prop} {d : DefRec}
    (hn : l.most = some n) (hdf : d.params.defaults = [])
    (call : ∀ (w : World) (s₀ s₁ : Shared) (mg mb : Str → Option Value) (fa : Addr) (o : Obj) (pm cd doc : Value) (a : Addr) (vs : List Value) (ns : List Int),
      Ground q loose [] XP w s₀ mg mb s₁.heap → YP w s₁.heap →
      s₁.heap.get? fa = some o → o.data = .func (docDef d.name d.params d.body d.scope pm cd doc) → s₁.heap.CodeRec cd d.name → mg d.name = some (.ref fa) →
      s₁.heap.get? a = some { cls := .type "list", data := .seq vs.toArray } → IntsAre vs ns → ns.length ≤ n → s₁.gens = #[] →
      codeAny (model l.prog w) callerA (.call (.ref fa) ⟨[.ref a], []⟩) (fun r s' => r = .ok (.ret (.bool true)) ∧ OldK s₁.heap s'.heap ∧ s'.os = s₁.os ∧ AllBare s'.gens) s₁) :
    WalkO q loose XP YP l.row.toRowW d [] (fun f vs => PySem.call f vs) := by
  intro w s₀ s₁ mg mb G Y fa o pm cd doc dV kV ho hd hcd hD hmg hg args vals as hpre hlay hrd hwl hlo
  obtain rfl : dV = .none := Dflts.none hD hdf
  obtain rfl : kV = .none := Dflts.noKw hD
  obtain ⟨a, vs, ns, rfl, rfl, hobj, hints, hlen⟩ := script_of hn hpre hwl
  refine enter_call (codeAny_mono (call w s₀ s₁ mg mb fa o pm cd doc a vs ns G Y ho (fd_plain hd) hcd hmg hobj hints hlen hg) fun r s' hq => ?_)
  obtain ⟨rfl, h2, h3, h4⟩ := hq
  exact ⟨.inl ⟨.bool true, .bool true, [], rfl, fun _ => rfl, .bool true, post_true l _, fun _ => ⟨List.Pairwise.nil, fun _ hm => (nomatch hm)⟩⟩, h2, h3, h4⟩
end Att
namespace L2
open PySem PySem.Spec PyProof.Rows
theorem vals_ints : ∀ {vs : List Value} {ns : List Int}, IntsAre vs ns → Vals (ns.map V.int) vs
  | _, _, .nil => .nil
  | _, _, .cons n t h => .cons ⟨t, rfl⟩ (vals_ints h)
def Only (H : Hp) : Prop := ∀ b, H b = none ∨ ∃ o xs, H b = some (.frz o (.lst xs))
theorem law_call {P : Program} {w : World} {K : PySem.W.Frag} {mg mb : Str → Option Value} {CX : CXT} {k : Nat} {fa a : Addr} {fd : FuncData} {x : Str} {sp : Sp} {s₁ : Shared} {vs : List Value} {ns : List Int}
    (KX : K.In s₁.heap) (hns : s₁.heap.Ns mainGlobals mg) (hb : s₁.heap.Ns builtinsNs mb) (hbb : ∀ x : Str, x ≠ "__name__" → mb x = bootBuiltins x) (hlim : s₁.heap.NoLimit) (hg : s₁.gens = #[])
    (ha : s₁.heap.get? a = some { cls := .type "list", data := .seq vs.toArray }) (hi : IntsAre vs ns) (hl : ns.length ≤ sizeLine) (hr : Room k callerA)
    (F : ∀ base : Heap, K.In base → base.Ns mainGlobals mg → FnOk P w K mg base CX k fa fd [x] sp) (hbind : ∀ (s : Shared) (u : Value), BindsTo s fd ⟨[u], []⟩ [(x, u)])
    (hsp : ∀ H : Hp, Only H → SqL K H a (ns.map V.int) → sp [.ref a] H (fun v _ => v = .bl true) fun _ _ _ => False)
    (hCX : ∀ H e s', CX [] H s₁ (fun _ _ _ => False) e s' → False) :
    codeAny (model P w) callerA (.call (.ref fa) ⟨[.ref a], []⟩) (fun r s' => r = .ok (.ret (.bool true)) ∧ OldK s₁.heap s'.heap ∧ s'.os = s₁.os ∧ AllBare s'.gens) s₁ := by
  have rv := vals_ints hi
  have lenV := hi.length
  -- from an abstract heap in which nothing but the script may be tracked
  have core : ∀ H : Hp, Only H → SqL K H a (ns.map V.int) → HOk P w H s₁.heap → (∀ b, H b ≠ none → b = a) → (H a ≠ none → K.lookup a = none) →
      codeAny (model P w) callerA (.call (.ref fa) ⟨[.ref a], []⟩) (fun r s' => r = .ok (.ret (.bool true)) ∧ OldK s₁.heap s'.heap ∧ s'.os = s₁.os ∧ AllBare s'.gens) s₁ := by
    intro H hO hS hok hA hK
    have base_of : ∀ {b : Addr} {o : Obj}, s₁.heap.get? b = some o → H b = none → (hidT s₁.heap H).get? b = some o := fun e n => hidT_get e n
    have noA : ∀ {b : Addr} {o : Obj} {es : Array DictEntry} {ep : Nat}, s₁.heap.get? b = some o → o.data = .dict es ep → H b = none := fun {b o es ep} e d => by
      cases q : H b with
      | none => rfl
      | some u =>
        have e' : b = a := hA b (by rw [q]; simp)
        subst e'
        rw [ha] at e; cases e
        have d' : Data.seq vs.toArray _ = Data.dict es ep := d
        cases d'
    have nsK : ∀ {b : Addr} {m : Str → Option Value}, s₁.heap.Ns b m → (hidT s₁.heap H).Ns b m := fun {b m} ⟨o, es, ep, e, d, r⟩ => ⟨o, es, ep, base_of e (noA e d), d, r⟩
    have hKb : K.In (hidT s₁.heap H) := fun b o e => base_of (KX b o e) (by
      cases q : H b with
      | none => rfl
      | some u =>
        have e' : b = a := hA b (by rw [q]; simp)
        subst e'
        rw [hK (by rw [q]; simp)] at e; cases e)
    have hM : Mod K mg (hidT s₁.heap H) := ⟨hKb, nsK hns, ⟨mb, nsK hb, hbb⟩, let ⟨mc, h1, h2⟩ := hlim; ⟨mc, nsK h1, h2⟩⟩
    have e0 : Env0 P w K mg (hidT s₁.heap H) callerA [] s₁ H := ⟨rfl, hM, fun b o e => of_hidT e, Nat.le_of_eq (hidT_size _ _), trivial, fun b hb => absurd (show b ∈ ([] : List Addr) from hb) (by simp), hok, .of_eq hg⟩
    refine codeAny_mono ((F _ hKb (nsK hns)).run callerA [] s₁ H ⟨[.ref a], []⟩ [.ref a] [.ref a] _ _ hr e0 (hbind s₁ (.ref a)) (.cons rfl .nil) (hsp H hO hS)) fun r s' h => ?_
    cases r with
    | error e => exact (hCX H e s' h).elim
    | ok fl =>
      cases fl with
      | next => exact False.elim h
      | brk => exact False.elim h
      | cont => exact False.elim h
      | ret u =>
        obtain ⟨v, H', os, bare, un, hok', r', q⟩ := h
        have q' : v = .bl true := q
        subst q'
        obtain rfl : u = Value.bool true := r'
        refine ⟨rfl, OldK.of_keep fun b o e => ?_, os, bare⟩
        cases q : H b with
        | none => exact un.keep b o e q (by intro z; exact absurd (show b ∈ ([] : List Addr) from z) (by simp)) (by simp)
        | some u =>
          rcases hO b with z | ⟨ob, xs, z⟩
          · rw [q] at z; cases z
          · have z2 := un.frzs b ob _ z
            obtain ⟨e1, _⟩ := hok b _ z
            obtain ⟨e2, _⟩ := hok' b _ z2
            rw [e] at e1; cases e1
            exact e2
  cases hk : K.lookup a with
  | some o =>
    -- the script is one of the module's own objects
    have e := KX a o hk
    rw [ha] at e
    cases e
    refine core (fun _ => none) (fun _ => .inl rfl) (.inr ⟨_, vs.toArray, _, hk, rfl, rfl, rfl, by rw [List.size_toArray, lenV]; exact hl, by simpa using rv⟩) (fun b u z => by have z' : (none : Option HO) = some u := z; cases z') (fun b z => absurd rfl z) fun z => absurd rfl z
  | none =>
    refine core (fun b => if b = a then some (.frz { cls := .type "list", data := .seq vs.toArray } (.lst (ns.map V.int))) else none) (fun b => ?_) (.inl (.inr ⟨{ cls := .type "list", data := .seq vs.toArray }, if_pos rfl⟩)) (fun b u z => ?_) (fun b z => ?_) fun _ => hk
    · by_cases hb : b = a
      · exact .inr ⟨_, _, if_pos hb⟩
      · exact .inl (if_neg hb)
    · by_cases hb : b = a
      · have z' := (if_pos hb).symm.trans z
        cases z'
        subst hb
        exact ⟨ha, by rw [List.length_map]; exact hl, vs, _, rv, ha⟩
      · have z' := (if_neg hb).symm.trans z
        cases z'
    · by_cases hb : b = a
      · exact hb
      · exact absurd (if_neg hb) z
end L2
namespace L2
open PySem PySem.Spec PyProof.Rows
theorem walk_of {l : PySem.W.OpenLaw} {n k : Nat} {q : Program} {loose : List Str} {XP : (Str → Option Value) → Heap → Prop} {YP : World → Heap → Prop} {d : DefRec} {K : Params → PySem.W.Frag} {CX : World → CXT} {sp : World → Sp} {x : Str}
    (hn : l.most = some n) (hn2 : n ≤ sizeLine) (hdf : d.params.defaults = []) (hr : Room k callerA)
    (hY : ∀ (w : World) (h : Heap), YP w h → (K w.params).In h)
    (F : ∀ (w : World) (mg : Str → Option Value) (fa : Addr) (h : Heap), (K w.params).In h → h.Ns mainGlobals mg → mg d.name = some (.ref fa) →
      ∃ fd : FuncData, (∀ (s : Shared) (u : Value), BindsTo s fd ⟨[u], []⟩ [(x, u)]) ∧
        ∀ base : Heap, (K w.params).In base → base.Ns mainGlobals mg → FnOk l.prog w (K w.params) mg base (CX w) k fa fd [x] (sp w))
    (hsp : ∀ (w : World) (H : Hp) (a : Addr) (ns : List Int), ns.length ≤ n → Only H → SqL (K w.params) H a (ns.map V.int) → sp w [.ref a] H (fun v _ => v = .bl true) fun _ _ _ => False)
    (hCX : ∀ (w : World) (H : Hp) (s : Shared) (e : Value) (s' : Shared), CX w [] H s (fun _ _ _ => False) e s' → False) :
    PySem.W.WalkO q loose XP YP l.row.toRowW d [] (fun f vs => PySem.call f vs) := by
  refine Att.attach_call hn hdf fun w s₀ s₁ mg mb fa o pm cd doc a vs ns G Y ho hd hcd hmg hobj hints hlen hg => ?_
  have KX := hY w _ Y
  obtain ⟨fd, hb, hF⟩ := F w mg fa _ KX G.T.g hmg
  exact law_call KX G.T.g G.T.b G.T.builtins G.T.nolimit hg hobj hints (Nat.le_trans hlen hn2) hr hF hb (fun H hO hS => hsp w H a ns hlen hO hS) fun H e s' => hCX w H s₁ e s'
end L2
namespace L2
open PySem PySem.Spec PyProof.Rows
def defArgs (s : Stmt) : Arguments := match s with
  | .FunctionDef _ a _ _ _ _ _ _ _ _ => a
  | _ => { posonlyargs := [], args := [], vararg := none, kwonlyargs := [], kw_defaults := [], kwarg := none, defaults := [] }
def defBody (s : Stmt) : List Stmt := match s with
  | .FunctionDef _ _ b _ _ _ _ _ _ _ => b
  | _ => []
def defScope (s : Stmt) : Scope := match s with
  | .FunctionDef _ _ _ _ _ _ sc _ _ _ => sc
  | _ => { kind := .function, names := [], isGenerator := false, isCoroutine := false }
abbrev CX0 : CXT := fun _ _ _ _ _ _ => False
abbrev E0 : XK := fun _ _ _ => False
structure Fun (K : PySem.W.Frag) (x qual : Str) (st : Stmt) (f : Addr) (fd : FuncData) : Prop where
  ex : ∃ (oc : Value) (od : Option Addr) (kV doc pm : Value) (an : Option Addr) (cdv ct : Value) (osl : Array (Option Value)),
    fd = PySem.W.fnOf x qual (defArgs st) (defBody st) (defScope st) .none kV doc pm an cdv ct ∧ K.lookup f = some ⟨oc, od, .func fd, osl⟩ ∧ PySem.W.codeIn K cdv qual = true
  kp : PySem.W.keepIn K (.ref f) = true
section
variable {P : Program} {w : World} {K : PySem.W.Frag} {mg : Str → Option Value} {base : Heap}
theorem Fun.ok {x qual : Str} {st : Stmt} {f : Addr} {fd : FuncData} {N ps : List Str} {k : Nat} {sp : Sp} (F : Fun K x qual st f fd) (S : FnScope N ps (defScope st)) (len : ∀ vs H Q E, sp vs H Q E → vs.length = ps.length)
    (hbody : ∀ (cdv : Value) (A : Around) (outer : List Env) (s : Shared) (H : Hp) (vs : List V) (Q : VK) (E : XK), Room k (A.deeper (envOfC qual (defScope st) s.heap.objs.size f cdv)) → sp vs H Q E →
      ∃ t, PSs (cxOf CX0 P w K mg base N qual (defScope st) f cdv A outer s H E).nox (defBody st) t ∧ t { nx := fun _ H' => Q .non H', rt := Q } (start N vs) H) : FnOk P w K mg base CX0 (k + 1) f fd ps sp := by
  obtain ⟨oc, od, kV, doc, pm, an, cdv, ct, osl, rfl, lk, hcd⟩ := F.ex
  refine fn_of lk hcd S len fun A outer s H vs Q E hr hsp => ?_
  obtain ⟨t, h, q⟩ := hbody cdv A outer s H vs Q E hr hsp
  exact ⟨t, h.nox, q⟩
theorem Fun.binds {x qual : Str} {st : Stmt} {f : Addr} {fd : FuncData} {ps : List Str} (F : Fun K x qual st f fd)
    (h : ∀ (kV doc pm : Value) (an : Option Addr) (cdv ct : Value) (us : List Value), us.length = ps.length → bindArgs (PySem.W.fnOf x qual (defArgs st) (defBody st) (defScope st) .none kV doc pm an cdv ct) ⟨us, []⟩ = pure (ps.zip us)) : Binds K fd ps [] := by
  obtain ⟨oc, od, kV, doc, pm, an, cdv, ct, osl, rfl, lk, hcd⟩ := F.ex
  exact .all (h kV doc pm an cdv ct)
theorem fun_mk {x qual : Str} {st : Stmt} {f : Addr} {oc : Value} {od an : Option Addr} {osl : Array (Option Value)} {kV doc pm cdv ct : Value} (l : K.lookup f = some ⟨oc, od, .func (PySem.W.fnOf x qual (defArgs st) (defBody st) (defScope st) .none kV doc pm an cdv ct), osl⟩)
    (c : PySem.W.codeIn K cdv qual = true) (k : PySem.W.keepIn K (.ref f) = true) : Fun K x qual st f (PySem.W.fnOf x qual (defArgs st) (defBody st) (defScope st) .none kV doc pm an cdv ct) := ⟨⟨oc, od, kV, doc, pm, an, cdv, ct, osl, rfl, l, c⟩, k⟩
end
section
variable {X : Cx}
theorem pv (i : Nat) {x : Str} {pos : Pos} (hN : X.N[i]? = some x := by rfl) (hv : Vis X.env.scope x := by first | exact Or.inl rfl | exact Or.inr (Or.inl rfl) | exact Or.inr (Or.inr rfl)) (hd : (x == ("__debug__" : Str)) = false := by decide)
    (hcd : (x == ("__classdict__" : Str)) = false := by decide) : PE X (.Name x pos) (tVar i) := pe_var hN hv hd hcd
end
theorem iteF {A B : Prop} (h : B) : if false = true then A else B := by
  rw [if_neg Bool.false_ne_true]
  exact h
theorem iteT {A B : Prop} (h : A) : if true = true then A else B := by
  rw [if_pos rfl]
  exact h
def Same (H H' : Hp) : Prop := ∀ b o, H b = some o → H' b = some o
theorem Same.refl (H : Hp) : Same H H := fun _ _ h => h
theorem Same.trans {H H1 H2 : Hp} (a : Same H H1) (b : Same H1 H2) : Same H H2 := fun c o h => b c o (a c o h)
theorem Same.free {H H' : Hp} (e : Same H H') {l : Addr} (h : H' l = Option.none) : H l = Option.none := by
  cases q : H l with
  | none => rfl
  | some o =>
    rw [e l o q] at h
    cases h
theorem Same.seq {K : PySem.W.Frag} {H H' : Hp} {a : Addr} {xs : List V} (e : Same H H') (h : SqL K H a xs) : SqL K H' a xs := by
  rcases h with (h | ⟨o, h⟩) | h
  · exact .inl (.inl (e _ _ h))
  · exact .inl (.inr ⟨o, e _ _ h⟩)
  · exact .inr h
theorem nd_ix {α : Type} {l : List α} (hN : l.Nodup) {i j : Nat} {x : α} (a : l[i]? = some x) (b : l[j]? = some x) : i = j := by
  obtain ⟨h1, e1⟩ := List.getElem?_eq_some_iff.mp a
  obtain ⟨h2, e2⟩ := List.getElem?_eq_some_iff.mp b
  exact (List.getElem_inj hN).mp (e1.trans e2.symm)
end L2
set_option Elab.async false
set_option linter.all false
set_option maxRecDepth 100000
set_option maxHeartbeats 4000000
namespace I2
open PySem PySem.Spec PyProof.Rows L2
inductive D where
  | non | bl (b : Bool) | int (i : Int) | str (x : Str) | tup (ds : List D) | lst (ds : List D) | scr (ds : List D) | dic0 | ref (i : Nat) | exc (c : Str) | dcs (ks : List Str) (ds : List D)
  deriving Inhabited
inductive Cell where
  | lst (ds : List D)
  | dic (kvs : List (Int × D))
  | gone
abbrev Sto := List Cell
abbrev DEnv := List (Option D)
inductive Out (α : Type) where
  | ok (a : α)
  | ex (c : Str)
abbrev Res (α : Type) := Option (Out α × Sto)
abbrev Sm := DEnv → Sto → Res D
abbrev Smt := DEnv → Sto → Res Bool
abbrev Sma := DEnv → Sto → Res (List D)
structure GX where
  K : PySem.W.Frag
  cls : Str → Option Addr
  /-- is an error of the class c one of the class T -/
  isx : Str → Str → Option Bool
  tyv : Str → Option Value
structure MM where
  cells : List Addr
  vol : List Addr
  dead : List Addr
def MM.no (m : MM) (a : Addr) : Prop := (a ∈ m.cells → a ∈ m.dead) ∧ a ∉ m.vol
def MM.add (m : MM) (p : Addr) : MM := ⟨m.cells ++ [p], m.vol, m.dead⟩
def MM.fill (m : MM) (p : Addr) : MM := ⟨m.cells, p :: m.vol, m.dead⟩
def MM.take (m : MM) (k : Nat) : MM := ⟨m.cells.take k, m.vol, m.dead⟩
def SF (K : PySem.W.Frag) (H : Hp) (a : Addr) (xs : List V) : Prop :=
  (∃ o, H a = some (.frz o (.lst xs))) ∨ ∃ (o : Obj) (its : Array Value) (n : Nat), K.lookup a = some o ∧ o.cls = .type "list" ∧ o.dict = none ∧ o.data = .seq its n ∧ its.size ≤ sizeLine ∧ Vals xs its.toList
theorem SF.sq {K : PySem.W.Frag} {H : Hp} {a : Addr} {xs : List V} (h : SF K H a xs) : SqL K H a xs := by
  rcases h with ⟨o, h⟩ | h
  · exact .inl (.inr ⟨o, h⟩)
  · exact .inr h
def IsX (C a : Addr) : Heap → Prop := fun h => ∃ o vs, h.get? a = some o ∧ o.cls = .ref C ∧ o.data = .fields vs
mutual
inductive RD (g : GX) (m : MM) (H : Hp) : D → V → Prop
  | non : RD g m H .non .non
  | bl (b : Bool) : RD g m H (.bl b) (.bl b)
  | int (i : Int) : RD g m H (.int i) (.int i)
  | str (x : Str) : RD g m H (.str x) (.str x)
  | tup {a : Addr} {xs : List V} {ds : List D} : SqT g.K H a xs → RDs g m H ds xs → RD g m H (.tup ds) (.ref a)
  | lst {a : Addr} {xs : List V} {ds : List D} : H a = some (.lst xs) → m.no a → RDs g m H ds xs → RD g m H (.lst ds) (.ref a)
  | scr {a : Addr} {xs : List V} {ds : List D} : SF g.K H a xs → RDs g m H ds xs → RD g m H (.scr ds) (.ref a)
  | dic0 {a : Addr} : H a = some (.dK []) → m.no a → RD g m H .dic0 (.ref a)
  | dcs {a : Addr} {o : Obj} {ys : List (Key × V)} {ks : List Str} {ds : List D} : H a = some (.frz o (.dK ys)) → ys.map (·.1) = ks.map Sum.inr → RDs g m H ds (ys.map (·.2)) → RD g m H (.dcs ks ds) (.ref a)
  | ref {i : Nat} {a : Addr} : m.cells[i]? = some a → RD g m H (.ref i) (.ref a)
  | exc {c : Str} {a C : Addr} : g.cls c = some C → H a = some (.ext (IsX C a)) → RD g m H (.exc c) (.ref a)
inductive RDs (g : GX) (m : MM) (H : Hp) : List D → List V → Prop
  | nil : RDs g m H [] []
  | cons {d : D} {ds : List D} {v : V} {vs : List V} : RD g m H d v → RDs g m H ds vs → RDs g m H (d :: ds) (v :: vs)
end
structure Ext0 (m : MM) (H : Hp) (m' : MM) (H' : Hp) : Prop where
  pre : ∃ r, m'.cells = m.cells ++ r
  tup : ∀ b xs, H b = some (.tup xs) → H' b = some (.tup xs)
  frz : ∀ b o u, H b = some (.frz o u) → H' b = some (.frz o u)
  lst : ∀ b xs, H b = some (.lst xs) → m.no b → H' b = some (.lst xs) ∧ m'.no b
  dic : ∀ b kvs, H b = some (.dK kvs) → m.no b → H' b = some (.dK kvs) ∧ m'.no b
  ext : ∀ b φ, H b = some (.ext φ) → H' b = some (.ext φ)
structure Ext (m : MM) (H : Hp) (m' : MM) (H' : Hp) : Prop extends Ext0 m H m' H' where
  vols : m'.vol = m.vol
  kept : ∀ b xs, b ∈ m.vol → H b = some (.lst xs) → H' b = some (.lst xs)
theorem Ext.refl (m : MM) (H : Hp) : Ext m H m H :=
  ⟨⟨⟨[], by simp⟩, fun _ _ h => h, fun _ _ _ h => h, fun _ _ h n => ⟨h, n⟩, fun _ _ h n => ⟨h, n⟩, fun _ _ h => h⟩, rfl, fun _ _ _ h => h⟩
theorem Ext.trans {m m1 m2 : MM} {H H1 H2 : Hp} (a : Ext m H m1 H1) (b : Ext m1 H1 m2 H2) : Ext m H m2 H2 where
  pre := by
    obtain ⟨r, e⟩ := a.pre
    obtain ⟨r', e'⟩ := b.pre
    exact ⟨r ++ r', by rw [e', e, List.append_assoc]⟩
  vols := b.vols.trans a.vols
  tup := fun x xs h => b.tup x xs (a.tup x xs h)
  frz := fun x o u h => b.frz x o u (a.frz x o u h)
  lst := fun x xs h n => let ⟨h1, n1⟩ := a.lst x xs h n; b.lst x xs h1 n1
  dic := fun x kvs h n => let ⟨h1, n1⟩ := a.dic x kvs h n; b.dic x kvs h1 n1
  ext := fun x φ h => b.ext x φ (a.ext x φ h)
  kept := fun x xs hx h => b.kept x xs (by rw [a.vols]; exact hx) (a.kept x xs hx h)
theorem Ext0.at {m m' : MM} {H H' : Hp} (e : Ext0 m H m' H') {i : Nat} {a : Addr} (h : m.cells[i]? = some a) : m'.cells[i]? = some a := by
  obtain ⟨r, er⟩ := e.pre
  rw [er, List.getElem?_append_left (List.getElem?_eq_some_iff.mp h).1]
  exact h
theorem Ext0.sqT {K : PySem.W.Frag} {m m' : MM} {H H' : Hp} (e : Ext0 m H m' H') {a : Addr} {xs : List V} (h : SqT K H a xs) : SqT K H' a xs := by
  rcases h with (h | ⟨o, h⟩) | h
  · exact .inl (.inl (e.tup _ _ h))
  · exact .inl (.inr ⟨o, e.frz _ _ _ h⟩)
  · exact .inr h
theorem Ext0.sf {K : PySem.W.Frag} {m m' : MM} {H H' : Hp} (e : Ext0 m H m' H') {a : Addr} {xs : List V} (h : SF K H a xs) : SF K H' a xs := by
  rcases h with ⟨o, h⟩ | h
  · exact .inl ⟨o, e.frz _ _ _ h⟩
  · exact .inr h
mutual
theorem RD.ext0 {g : GX} {m m' : MM} {H H' : Hp} (e : Ext0 m H m' H') : ∀ {d : D} {v : V}, RD g m H d v → RD g m' H' d v
  | _, _, .non => .non
  | _, _, .bl b => .bl b
  | _, _, .int i => .int i
  | _, _, .str x => .str x
  | _, _, .tup h hs => .tup (e.sqT h) (RDs.ext0 e hs)
  | _, _, .lst h n hs => .lst (e.lst _ _ h n).1 (e.lst _ _ h n).2 (RDs.ext0 e hs)
  | _, _, .scr h hs => .scr (e.sf h) (RDs.ext0 e hs)
  | _, _, .dic0 h n => .dic0 (e.dic _ _ h n).1 (e.dic _ _ h n).2
  | _, _, .dcs h ek hs => .dcs (e.frz _ _ _ h) ek (RDs.ext0 e hs)
  | _, _, .ref h => .ref (e.at h)
  | _, _, .exc h1 h2 => .exc h1 (e.ext _ _ h2)
theorem RDs.ext0 {g : GX} {m m' : MM} {H H' : Hp} (e : Ext0 m H m' H') : ∀ {ds : List D} {vs : List V}, RDs g m H ds vs → RDs g m' H' ds vs
  | _, _, .nil => .nil
  | _, _, .cons h hs => .cons (RD.ext0 e h) (RDs.ext0 e hs)
end
theorem RD.ext {g : GX} {m m' : MM} {H H' : Hp} {d : D} {v : V} (e : Ext m H m' H') (r : RD g m H d v) : RD g m' H' d v := r.ext0 e.toExt0
theorem RDs.ext {g : GX} {m m' : MM} {H H' : Hp} {ds : List D} {vs : List V} (e : Ext m H m' H') (r : RDs g m H ds vs) : RDs g m' H' ds vs := r.ext0 e.toExt0
theorem Ext.sqT {K : PySem.W.Frag} {m m' : MM} {H H' : Hp} (e : Ext m H m' H') {a : Addr} {xs : List V} (h : SqT K H a xs) : SqT K H' a xs := e.toExt0.sqT h
theorem Ext.sf {K : PySem.W.Frag} {m m' : MM} {H H' : Hp} (e : Ext m H m' H') {a : Addr} {xs : List V} (h : SF K H a xs) : SF K H' a xs := e.toExt0.sf h
section
variable {g : GX} {m : MM} {H : Hp}
theorem RDs.length : ∀ {ds : List D} {vs : List V}, RDs g m H ds vs → ds.length = vs.length
  | _, _, .nil => rfl
  | _, _, .cons _ t => by simp [RDs.length t]
theorem RDs.get : ∀ {ds : List D} {vs : List V} {i : Nat} {d : D}, RDs g m H ds vs → ds[i]? = some d → ∃ v, vs[i]? = some v ∧ RD g m H d v
  | _, _, _, _, .nil, e => by simp at e
  | _, _, 0, _, .cons r _, e => by simp at e; subst e; exact ⟨_, rfl, r⟩
  | _, _, i + 1, d, .cons _ t, e => by
    obtain ⟨u, h1, h2⟩ := RDs.get (i := i) (d := d) t (by simpa using e)
    exact ⟨u, by simpa using h1, h2⟩
theorem RDs.get' : ∀ {ds : List D} {vs : List V} {i : Nat} {v : V}, RDs g m H ds vs → vs[i]? = some v → ∃ d, ds[i]? = some d ∧ RD g m H d v
  | _, _, _, _, .nil, e => by simp at e
  | _, _, 0, _, .cons r _, e => by simp at e; subst e; exact ⟨_, rfl, r⟩
  | _, _, i + 1, d, .cons _ t, e => by
    obtain ⟨u, h1, h2⟩ := RDs.get' (i := i) (v := d) t (by simpa using e)
    exact ⟨u, by simpa using h1, h2⟩
theorem RDs.append : ∀ {ds es : List D} {vs us : List V}, RDs g m H ds vs → RDs g m H es us → RDs g m H (ds ++ es) (vs ++ us)
  | _, _, _, _, .nil, s => s
  | _, _, _, _, .cons r t, s => .cons r (RDs.append t s)
theorem RDs.take : ∀ {ds : List D} {vs : List V} (n : Nat), RDs g m H ds vs → RDs g m H (ds.take n) (vs.take n)
  | _, _, 0, _ => .nil
  | _, _, _ + 1, .nil => .nil
  | _, _, n + 1, .cons r t => .cons r (RDs.take n t)
theorem RDs.drop : ∀ {ds : List D} {vs : List V} (n : Nat), RDs g m H ds vs → RDs g m H (ds.drop n) (vs.drop n)
  | _, _, 0, r => r
  | _, _, _ + 1, .nil => .nil
  | _, _, n + 1, .cons _ t => RDs.drop n t
theorem RDs.set {d : D} {v : V} (r : RD g m H d v) : ∀ {ds : List D} {vs : List V} (i : Nat), RDs g m H ds vs → RDs g m H (ds.set i d) (vs.set i v)
  | _, _, _, .nil => .nil
  | _, _, 0, .cons _ t => .cons r t
  | _, _, i + 1, .cons q t => .cons q (RDs.set r i t)
end
def CellAt' (g : GX) (m : MM) (H : Hp) (a : Addr) : Cell → Prop
  | .lst ds => ∃ xs, H a = some (.lst xs) ∧ RDs g m H ds xs
  | .dic kvs => ∃ ys : List (Key × V), H a = some (.dK ys) ∧ ys.map (·.1) = kvs.map (fun p => Sum.inl p.1) ∧ RDs g m H (kvs.map (·.2)) (ys.map (·.2))
  | .gone => ∃ xs, H a = some (.lst xs)
structure RS (g : GX) (m : MM) (H : Hp) (st : Sto) : Prop where
  len : m.cells.length = st.length
  nd : m.cells.Nodup
  «at» : ∀ (i : Nat) (c : Cell) (a : Addr), st[i]? = some c → m.cells[i]? = some a → CellAt' g m H a c
  vol : ∀ a ∈ m.vol, ∃ xs, H a = Option.some (.lst xs)
  disj : ∀ a ∈ m.cells, a ∉ m.vol
  lv : ∀ (i : Nat) (c : Cell) (a : Addr), st[i]? = Option.some c → m.cells[i]? = Option.some a → c ≠ .gone → a ∉ m.dead
  dd : ∀ a ∈ m.dead, a ∉ m.vol ∧ ∃ xs, H a = Option.some (.lst xs)
theorem RS.get {g : GX} {m : MM} {H : Hp} {st : Sto} (R : RS g m H st) {i : Nat} {c : Cell} (h : st[i]? = some c) : ∃ a, m.cells[i]? = some a ∧ CellAt' g m H a c := by
  have hi := (List.getElem?_eq_some_iff.mp h).1
  rw [← R.len] at hi
  exact ⟨m.cells[i], by simp [hi], R.at i c _ h (by simp [hi])⟩
theorem RS.some {g : GX} {m : MM} {H : Hp} {st : Sto} (R : RS g m H st) {a : Addr} (h : a ∈ m.cells) : (∃ xs, H a = some (.lst xs)) ∨ ∃ ys, H a = some (.dK ys) := by
  obtain ⟨i, hi, rfl⟩ := List.getElem_of_mem h
  have hs : i < st.length := by rw [← R.len]; exact hi
  have := R.at i st[i] m.cells[i] (by simp [hs]) (by simp [hi])
  cases e : st[i] with
  | lst ds => rw [e] at this; obtain ⟨xs, q, _⟩ := this; exact .inl ⟨xs, q⟩
  | dic kvs => rw [e] at this; obtain ⟨ys, q, _⟩ := this; exact .inr ⟨ys, q⟩
  | gone => rw [e] at this; obtain ⟨xs, q⟩ := this; exact .inl ⟨xs, q⟩
section
variable {g : GX} {m : MM} {H : Hp} {st : Sto} {p : Addr} {o : HO}
theorem upd_keep {b : Addr} {u : HO} (hp : H p = none) (h : H b = some u) : upd H p o b = some u := by rw [upd_ne (ne_of_none h hp)]; exact h
theorem Ext.new (hp : H p = none) : Ext m H m (upd H p o) :=
  ⟨⟨⟨[], by simp⟩, fun _ _ h => upd_keep hp h, fun _ _ _ h => upd_keep hp h, fun _ _ h n => ⟨upd_keep hp h, n⟩, fun _ _ h n => ⟨upd_keep hp h, n⟩, fun _ _ h => upd_keep hp h⟩, rfl, fun _ _ _ h => upd_keep hp h⟩
theorem RS.new (R : RS g m H st) (hp : H p = none) : RS g m (upd H p o) st :=
  ⟨R.len, R.nd, fun i c a h1 h2 => by
    have := R.at i c a h1 h2
    cases c with
    | lst ds => obtain ⟨xs, q, r⟩ := this; exact ⟨xs, upd_keep hp q, r.ext (.new hp)⟩
    | dic kvs => obtain ⟨ys, q, e, r⟩ := this; exact ⟨ys, upd_keep hp q, e, r.ext (.new hp)⟩
    | gone => obtain ⟨xs, q⟩ := this; exact ⟨xs, upd_keep hp q⟩, fun a ha => by
    obtain ⟨xs, q⟩ := R.vol a ha
    exact ⟨xs, upd_keep hp q⟩, R.disj, R.lv, fun a ha => ⟨(R.dd a ha).1, (R.dd a ha).2.imp fun xs q => upd_keep hp q⟩⟩
theorem RS.fresh (R : RS g m H st) (hp : H p = none) : p ∉ m.cells := fun h => by
  rcases R.some h with ⟨_, q⟩ | ⟨_, q⟩ <;> (rw [hp] at q; cases q)
theorem RS.undead (R : RS g m H st) (hp : H p = none) : p ∉ m.dead := fun h => by
  obtain ⟨_, _, q⟩ := R.dd p h; rw [hp] at q; cases q
theorem RS.none_not (R : RS g m H st) (hp : H p = none) : m.no p := by
  refine ⟨fun h => absurd h (R.fresh hp), fun h => ?_⟩
  · obtain ⟨_, q⟩ := R.vol p h; rw [hp] at q; cases q
theorem MM.no_add {a : Addr} (n : m.no a) (hp : a ≠ p) : (m.add p).no a := ⟨fun z => (List.mem_append.mp z).elim n.1 fun z => absurd (List.mem_singleton.mp z) hp, n.2⟩
theorem Ext.cell (hp : H p = none) : Ext m H (m.add p) (upd H p o) :=
  ⟨⟨⟨[p], rfl⟩, fun _ _ h => upd_keep hp h, fun _ _ _ h => upd_keep hp h, fun b _ h n => ⟨upd_keep hp h, MM.no_add n (ne_of_none h hp)⟩,
    fun b _ h n => ⟨upd_keep hp h, MM.no_add n (ne_of_none h hp)⟩, fun _ _ h => upd_keep hp h⟩, rfl, fun _ _ _ h => upd_keep hp h⟩
theorem nodup_snoc {l : List Addr} (h : l.Nodup) (hp : p ∉ l) : (l ++ [p]).Nodup := by
  rw [List.nodup_append]
  exact ⟨h, by simp, fun a ha b hb => by rw [List.mem_singleton.mp hb]; exact fun e => hp (e ▸ ha)⟩
theorem lv_snoc {c' c : Cell} {i : Nat} {a : Addr} (R : RS g m H st) (hp : H p = none) (h1 : (st ++ [c'])[i]? = Option.some c) (h2 : (m.add p).cells[i]? = Option.some a) (hc : c ≠ .gone) : a ∉ m.dead := by
  have h2 : (m.cells ++ [p])[i]? = Option.some a := h2
  by_cases hi : i < st.length
  · rw [List.getElem?_append_left hi] at h1
    rw [List.getElem?_append_left (by rw [R.len]; exact hi)] at h2
    exact R.lv i c a h1 h2 hc
  · rw [List.getElem?_append_right (by rw [R.len]; omega)] at h2
    have := List.mem_of_getElem? h2
    rw [List.mem_singleton.mp this]
    exact R.undead hp
theorem RS.cellL (R : RS g m H st) (hp : H p = none) {ds : List D} {xs : List V} (r : RDs g m H ds xs) : RS g (m.add p) (upd H p (.lst xs)) (st ++ [.lst ds]) := by
  refine ⟨by simp [MM.add, R.len], nodup_snoc R.nd (R.fresh hp), fun i c a h1 h2 => ?_, fun a ha => ?_, fun a ha hv => ?_, fun i c a h1 h2 hc => ?_, fun a ha => ⟨(R.dd a ha).1, (R.dd a ha).2.imp fun xs q => upd_keep hp q⟩⟩
  · by_cases hi : i < st.length
    · rw [List.getElem?_append_left hi] at h1
      have h2 : (m.cells ++ [p])[i]? = Option.some a := h2
      rw [List.getElem?_append_left (by rw [R.len]; exact hi)] at h2
      have := R.at i c a h1 h2
      cases c with
      | lst ds => obtain ⟨xs, q, r⟩ := this; exact ⟨xs, upd_keep hp q, r.ext (.cell hp)⟩
      | dic kvs => obtain ⟨ys, q, e, r⟩ := this; exact ⟨ys, upd_keep hp q, e, r.ext (.cell hp)⟩
      | gone => obtain ⟨xs, q⟩ := this; exact ⟨xs, upd_keep hp q⟩
    have hi2 : i = st.length := by
      have := (List.getElem?_eq_some_iff.mp h1).1
      simp at this; omega
    subst hi2
    simp at h1
    subst h1
    have h2 : (m.cells ++ [p])[st.length]? = Option.some a := h2
    rw [← R.len] at h2
    simp at h2
    subst h2
    exact ⟨xs, upd_same, r.ext (.cell hp)⟩
  · obtain ⟨ys, q⟩ := R.vol a ha
    exact ⟨ys, upd_keep hp q⟩
  · rcases List.mem_append.mp ha with ha | ha
    · exact R.disj a ha hv
    · rw [List.mem_singleton.mp ha] at hv; exact (R.none_not hp).2 hv
  · exact lv_snoc (m := m) (g := g) R hp h1 h2 hc
theorem Ext.put (R : RS g m H st) {i : Nat} {a : Addr} (ha : m.cells[i]? = Option.some a) (hl : a ∉ m.dead) : Ext m H m (upd H a o) := by
  have hm : a ∈ m.cells := List.mem_of_getElem? ha
  have hs := R.some hm
  have ne : ∀ b u, H b = Option.some u → (∀ xs, u ≠ .lst xs) → (∀ ys, u ≠ .dK ys) → upd H a o b = Option.some u := fun b u h n1 n2 => by
    rw [upd_ne]
    · exact h
    · rintro rfl
      rcases hs with ⟨_, q⟩ | ⟨_, q⟩
      · rw [h] at q; exact n1 _ (Option.some.inj q)
      · rw [h] at q; exact n2 _ (Option.some.inj q)
  refine ⟨⟨⟨[], by simp⟩, fun b xs h => ne b _ h (fun _ z => nomatch z) (fun _ z => nomatch z), fun b o u h => ne b _ h (fun _ z => nomatch z) (fun _ z => nomatch z), fun b xs h n => ⟨?_, n⟩, fun b xs h n => ⟨?_, n⟩, fun b φ h => ne b _ h (fun _ z => nomatch z) (fun _ z => nomatch z)⟩, rfl, fun b xs hv h => ?_⟩
  · rw [upd_ne (fun (e : b = a) => hl (by rw [← e]; exact n.1 (by rw [e]; exact hm)))]; exact h
  · rw [upd_ne (fun (e : b = a) => hl (by rw [← e]; exact n.1 (by rw [e]; exact hm)))]; exact h
  · rw [upd_ne (fun (e : b = a) => R.disj a hm (by rw [← e]; exact hv))]; exact h
theorem RS.putC (R : RS g m H st) {i : Nat} {a : Addr} (ha : m.cells[i]? = Option.some a) (hl : a ∉ m.dead) {c' : Cell} (hc : CellAt' g m (upd H a o) a c') : RS g m (upd H a o) (st.set i c') := by
  have E := Ext.put (o := o) R ha hl
  refine ⟨by simp [R.len], R.nd, fun j c b h1 h2 => ?_, fun b hb => ?_, R.disj, fun j c b h1 h2 h3 => ?_, fun b hb => ⟨(R.dd b hb).1, (R.dd b hb).2.imp fun ys q => (E.lst b ys q ⟨fun _ => hb, (R.dd b hb).1⟩).1⟩⟩
  rotate_left
  · obtain ⟨ys, q⟩ := R.vol b hb
    exact ⟨ys, E.kept b ys hb q⟩
  · by_cases hj : j = i
    · subst hj; rw [ha] at h2; cases h2; exact hl
    · rw [List.getElem?_set_ne (Ne.symm hj)] at h1; exact R.lv j c b h1 h2 h3
  by_cases hj : j = i
  · subst hj
    rw [ha] at h2
    cases h2
    have hl : j < st.length := by rw [← R.len]; exact (List.getElem?_eq_some_iff.mp ha).1
    rw [List.getElem?_set_self hl] at h1
    cases h1
    exact hc
  · rw [List.getElem?_set_ne (Ne.symm hj)] at h1
    have := R.at j c b h1 h2
    have hb : b ≠ a := by
      rintro rfl
      obtain ⟨l1, e1⟩ := List.getElem?_eq_some_iff.mp h2
      obtain ⟨l2, e2⟩ := List.getElem?_eq_some_iff.mp ha
      exact hj ((List.getElem_inj R.nd).mp (e1.trans e2.symm))
    cases c with
    | lst ds => obtain ⟨xs, q, r⟩ := this; exact ⟨xs, by rw [upd_ne hb]; exact q, r.ext E⟩
    | dic kvs => obtain ⟨ys, q, e, r⟩ := this; exact ⟨ys, by rw [upd_ne hb]; exact q, e, r.ext E⟩
    | gone => obtain ⟨xs, q⟩ := this; exact ⟨xs, by rw [upd_ne hb]; exact q⟩
theorem RS.putL (R : RS g m H st) {i : Nat} {a : Addr} (ha : m.cells[i]? = Option.some a) (hl : a ∉ m.dead) {ds : List D} {xs : List V} (r : RDs g m H ds xs) : RS g m (upd H a (.lst xs)) (st.set i (.lst ds)) :=
  R.putC ha hl ⟨xs, upd_same, r.ext (Ext.put R ha hl)⟩
end
structure RE (g : GX) (m : MM) (H : Hp) (env : DEnv) (σ : L2.St) : Prop where
  len : env.length = σ.length
  get : ∀ (i : Nat) (d : D), env[i]? = some (some d) → ∃ v, σ[i]? = some (some v) ∧ RD g m H d v
theorem RE.ext {g : GX} {m m' : MM} {H H' : Hp} {env : DEnv} {σ : L2.St} (h : RE g m H env σ) (e : Ext m H m' H') : RE g m' H' env σ := ⟨h.len, fun i d q =>
  let ⟨v, h1, h2⟩ := h.get i d q; ⟨v, h1, h2.ext e⟩⟩
theorem RE.set {g : GX} {m : MM} {H : Hp} {env : DEnv} {σ : L2.St} (h : RE g m H env σ) {d : D} {v : V} (r : RD g m H d v) (i : Nat) : RE g m H (env.set i (some d)) (σ.set i (some v)) := by
  refine ⟨by simp [h.len], fun j e q => ?_⟩
  by_cases hj : j = i
  · subst hj
    by_cases hl : j < env.length
    · rw [List.getElem?_set_self hl] at q
      cases q
      exact ⟨v, by rw [List.getElem?_set_self (by rw [← h.len]; exact hl)], r⟩
    · rw [List.getElem?_eq_none (by simpa using hl)] at q; cases q
  · rw [List.getElem?_set_ne (Ne.symm hj)] at q
    obtain ⟨w, h1, h2⟩ := h.get j e q
    exact ⟨w, by rw [List.getElem?_set_ne (Ne.symm hj)]; exact h1, h2⟩
def RI {α : Type} (g : GX) (EX : XK) (m : MM) (H : Hp) (o : Res α) (Q : α → MM → Hp → Sto → Prop) : Prop :=
  match o with
  | none => False
  | some (.ok d, st') => ∀ m' H', Ext m H m' H' → RS g m' H' st' → Q d m' H' st'
  | some (.ex c, st') => ∀ m' H' C, Ext m H m' H' → RS g m' H' st' → g.cls c = some C → EX (.ref C) none H'
def tI (g : GX) (EX : XK) (f : Sm) : TE := fun σ H Q => ∃ env m st, RE g m H env σ ∧ RS g m H st ∧ RI g EX m H (f env st) fun d m' H' _ => ∀ v, RD g m' H' d v → Q v H'
def tIt (g : GX) (EX : XK) (f : Smt) : TT := fun σ H Q => ∃ env m st, RE g m H env σ ∧ RS g m H st ∧ RI g EX m H (f env st) fun d _ H' _ => Q d H'
def tIa (g : GX) (EX : XK) (f : Sma) : TA := fun σ H Q => ∃ env m st, RE g m H env σ ∧ RS g m H st ∧ RI g EX m H (f env st) fun ds m' H' _ => ∀ vs, RDs g m' H' ds vs → Q vs H'
def bnd {α β : Type} (f : DEnv → Sto → Res α) (k : α → DEnv → Sto → Res β) : DEnv → Sto → Res β := fun env st =>
  match f env st with
  | none => none
  | some (.ok d, st') => k d env st'
  | some (.ex c, st') => some (.ex c, st')
def ret {α : Type} (d : α) : DEnv → Sto → Res α := fun _ st => some (.ok d, st)
def lift {α : Type} (o : Option α) : DEnv → Sto → Res α := fun _ st => o.map fun d => (.ok d, st)
theorem RI.bnd {α β : Type} {g : GX} {EX : XK} {m : MM} {H : Hp} {f : DEnv → Sto → Res α} {k : α → DEnv → Sto → Res β} {env : DEnv} {st : Sto} {Q : β → MM → Hp → Sto → Prop}
    (h : RI g EX m H (I2.bnd f k env st) Q) : RI g EX m H (f env st) fun d m1 H1 st1 => RI g EX m1 H1 (k d env st1) fun b m2 H2 st2 => Q b m2 H2 st2 := by
  unfold I2.bnd at h
  cases e : f env st with
  | none => rw [e] at h; exact h
  | some r =>
    obtain ⟨o, st1⟩ := r
    rw [e] at h
    cases o with
    | ex c => exact h
    | ok d =>
      intro m1 H1 E1 R1
      dsimp only at h
      cases e2 : k d env st1 with
      | none => rw [e2] at h; exact h
      | some r2 =>
        obtain ⟨o2, st2⟩ := r2
        rw [e2] at h
        cases o2 with
        | ex c => exact fun m2 H2 C E2 R2 hc => h m2 H2 C (E1.trans E2) R2 hc
        | ok b => exact fun m2 H2 E2 R2 => h m2 H2 (E1.trans E2) R2
theorem RI.mono {α : Type} {g : GX} {EX : XK} {m : MM} {H : Hp} {o : Res α} {Q Q' : α → MM → Hp → Sto → Prop} (h : RI g EX m H o Q) (hq : ∀ d m' H' st', Ext m H m' H' → RS g m' H' st' → Q d m' H' st' → Q' d m' H' st') : RI g EX m H o Q' := by
  cases o with
  | none => exact h
  | some r =>
    obtain ⟨o, st⟩ := r
    cases o with
    | ex c => exact h
    | ok d => exact fun m' H' E R => hq d m' H' st E R (h m' H' E R)
theorem RI.ret {α : Type} {g : GX} {EX : XK} {m : MM} {H : Hp} {d : α} {env : DEnv} {st : Sto} {Q : α → MM → Hp → Sto → Prop} (h : RI g EX m H (I2.ret d env st) Q) (R : RS g m H st) : Q d m H st := h m H (.refl _ _) R
theorem RI.lift {α : Type} {g : GX} {EX : XK} {m : MM} {H : Hp} {o : Option α} {env : DEnv} {st : Sto} {Q : α → MM → Hp → Sto → Prop} (h : RI g EX m H (I2.lift o env st) Q) : ∃ d, o = some d ∧ ∀ m' H', Ext m H m' H' → RS g m' H' st → Q d m' H' st := by
  cases o with
  | none => exact h.elim
  | some d => exact ⟨d, rfl, h⟩
end I2
set_option Elab.async false
set_option linter.all false
set_option maxRecDepth 100000
set_option maxHeartbeats 4000000
namespace I2
open PySem PySem.Spec PyProof.Rows L2
section
variable {X : Cx} {g : GX} {EX : XK} {a b c : Expr} {pos : Pos} {f h k : Sm}
theorem PE.mono {e : Expr} {t t' : TE} (p : PE X e t) (hm : ∀ σ H Q, t' σ H Q → t σ H Q) : PE X e t' := fun pins s σ H Q I q => p pins s σ H Q I (hm σ H Q q)
theorem PT.mono {e : Expr} {t t' : TT} (p : PT X e t) (hm : ∀ σ H Q, t' σ H Q → t σ H Q) : PT X e t' := fun pins s σ H Q I q => p pins s σ H Q I (hm σ H Q q)
theorem PW.mono {e : Expr} {t t' : TT} (p : PW X e t) (hm : ∀ σ H Q, t' σ H Q → t σ H Q) : PW X e t' := fun wh pins s σ H Q I q => p wh pins s σ H Q I (hm σ H Q q)
theorem PA.mono {es : List Expr} {t t' : TA} (p : PA X es t) (hm : ∀ σ H Q, t' σ H Q → t σ H Q) : PA X es t' := fun po pins s σ H Q I q => p po pins s σ H Q I (hm σ H Q q)
def sVar (i : Nat) : Sm := fun env st => match env[i]? with
  | some (some d) => some (.ok d, st)
  | _ => none
theorem i_var (i : Nat) {x : Str} (p : PE X (.Name x pos) (tVar i)) : PE X (.Name x pos) (tI g EX (sVar i)) := PE.mono p fun σ H Q ⟨env, m, st, re, R, q⟩ => by
  unfold sVar at q
  cases e : env[i]? with
  | none => rw [e] at q; exact q.elim
  | some o =>
    cases o with
    | none => rw [e] at q; exact q.elim
    | some d =>
      rw [e] at q
      obtain ⟨v, h1, h2⟩ := re.get i d e
      exact ⟨v, h1, q m H (.refl _ _) R v h2⟩
def sC (d : D) : Sm := ret d
theorem i_con {d : D} {v : V} {e : Expr} (p : PE X e (tC v)) (hr : ∀ m H, RD g m H d v) : PE X e (tI g EX (sC d)) := PE.mono p fun σ H Q ⟨env, m, st, re, R, q⟩ => q m H (.refl _ _) R v (hr m H)
theorem i_int {i : Int} {j : Nat} : PE X (.Constant (.int i) j pos) (tI g EX (sC (.int i))) := i_con pe_int fun _ _ => .int i
theorem i_bl {i : Bool} {j : Nat} : PE X (.Constant (.bool i) j pos) (tI g EX (sC (.bl i))) := i_con pe_bl fun _ _ => .bl i
theorem i_non {j : Nat} : PE X (.Constant .none j pos) (tI g EX (sC .non)) := i_con pe_non fun _ _ => .non
theorem i_str {x : Str} {j : Nat} : PE X (.Constant (.str x) j pos) (tI g EX (sC (.str x))) := i_con pe_str fun _ _ => .str x
def s2 (op : D → D → Option D) (f h : Sm) : Sm := bnd f fun x => bnd h fun y => lift (op x y)
def s1 (op : D → Option D) (f : Sm) : Sm := bnd f fun x => lift (op x)
def rD (g : GX) (op : D → D → Option D) : R2 := fun x y H Q => ∃ m st dx dy d, RS g m H st ∧ RD g m H dx x ∧ RD g m H dy y ∧ op dx dy = some d ∧ ∀ v m' H', Ext m H m' H' → RS g m' H' st → RD g m' H' d v → Q v H'
def rD1 (g : GX) (op : D → Option D) : V → Hp → VK → Prop := fun x H Q => ∃ m st dx d, RS g m H st ∧ RD g m H dx x ∧ op dx = some d ∧ ∀ v m' H', Ext m H m' H' → RS g m' H' st → RD g m' H' d v → Q v H'
theorem tOp_of {op : D → D → Option D} {σ : L2.St} {H : Hp} {Q : VK} (q : tI g EX (s2 op f h) σ H Q) : tOp (rD g op) (tI g EX f) (tI g EX h) σ H Q := by
  obtain ⟨env, m, st, re, R, q⟩ := q
  refine ⟨env, m, st, re, R, q.bnd.mono fun d1 m1 H1 st1 E1 R1 q v1 r1 => ?_⟩
  refine ⟨env, m1, st1, re.ext E1, R1, q.bnd.mono fun d2 m2 H2 st2 E2 R2 q2 v2 r2 => ?_⟩
  obtain ⟨d, e, q3⟩ := q2.lift
  exact ⟨m2, st2, d1, d2, d, R2, r1.ext E2, r2, e, fun v m' H' E R r => q3 m' H' E R v r⟩
theorem tUn_of {op : D → Option D} {σ : L2.St} {H : Hp} {Q : VK} (q : tI g EX (s1 op f) σ H Q) : tUn (rD1 g op) (tI g EX f) σ H Q := by
  obtain ⟨env, m, st, re, R, q⟩ := q
  refine ⟨env, m, st, re, R, q.bnd.mono fun d1 m1 H1 st1 E1 R1 q v1 r1 => ?_⟩
  obtain ⟨d, e, q3⟩ := q.lift
  exact ⟨m1, st1, d1, d, R1, r1, e, fun v m' H' E R r => q3 m' H' E R v r⟩
theorem i_bin {op : Operator} {o : D → D → Option D} (ho : OpR X (binaryOp op) (rD g o)) (ha : PE X a (tI g EX f)) (hb : PE X b (tI g EX h)) : PE X (.BinOp a op b pos) (tI g EX (s2 o f h)) := PE.mono (pe_op ho ha hb) fun _ _ _ => tOp_of
theorem i_un {op : UnaryOp} {o : D → Option D} (ho : UnR X (unaryOp op) (rD1 g o)) (ha : PE X a (tI g EX f)) : PE X (.UnaryOp op a pos) (tI g EX (s1 o f)) := PE.mono (pe_un ho ha) fun _ _ _ => tUn_of
theorem i_cmp {op : CmpOp} {o : D → D → Option D} (ho : OpR X (compareOp op) (rD g o)) (ha : PE X a (tI g EX f)) (hb : PE X b (tI g EX h)) (hm : behindInMarks op b = false) : PE X (.Compare a [op] [b] pos) (tI g EX (s2 o f h)) := PE.mono (pe_cmpR ho ha hb hm) fun _ _ _ => tOp_of
def isB : D → Option Bool
  | .bl b => some b
  | _ => none
theorem RD.isB {m : MM} {H : Hp} {d : D} {v : V} {b : Bool} (r : RD g m H d v) (e : I2.isB d = some b) : v = .bl b := by
  cases r <;> simp [I2.isB] at e
  subst e; rfl
def sTest (f : Sm) : Smt := bnd f fun d => lift (isB d)
theorem i_cmpT {op : CmpOp} {o : D → D → Option D} (ho : OpR X (compareOp op) (rD g o)) (ha : PE X a (tI g EX f)) (hb : PE X b (tI g EX h)) (hm : behindInMarks op b = false) : PT X (.Compare a [op] [b] pos) (tIt g EX (sTest (s2 o f h))) :=
  PT.mono (pt_cmpR ho ha hb hm) fun σ H Q ⟨env, m, st, re, R, q⟩ => by
    refine tOp_of ⟨env, m, st, re, R, q.bnd.mono fun d1 m1 H1 st1 E1 R1 q v1 r1 => ?_⟩
    obtain ⟨d, e, q3⟩ := q.lift
    exact ⟨d, r1.isB e, q3 m1 H1 (.refl _ _) R1⟩
def truth : D → Option Bool
  | .non => some false
  | .bl b => some b
  | .int i => some (i != 0)
  | .str x => if x.length ≤ sizeLine then some ((x.length : Int) != 0) else none
  | .tup ds => some (!ds.isEmpty)
  | .lst ds => some (!ds.isEmpty)
  | .dic0 => some false
  | _ => none
def sTru (f : Sm) : Smt := bnd f fun d => lift (truth d)
theorem RDs.empty {m : MM} {H : Hp} {ds : List D} {vs : List V} (r : RDs g m H ds vs) : ds.isEmpty = vs.isEmpty := by cases r <;> rfl
theorem i_tru (hK : X.K = g.K) (ha : PE X a (tI g EX f)) (he : ∀ whole, isTrue a X.env whole = (do let v ← whole; standAt a.pos; holding [v] (truthy v)) := by intro _; rfl) : PT X a (tIt g EX (sTru f)) :=
  PT.mono (pt_truth ha he) fun σ H Q ⟨env, m, st, re, R, q⟩ => by
    refine ⟨env, m, st, re, R, q.bnd.mono fun d1 m1 H1 st1 E1 R1 q v1 r1 => ?_⟩
    obtain ⟨d, e, q3⟩ := q.lift
    refine ⟨d, ?_, q3 m1 H1 (.refl _ _) R1⟩
    rw [hK]
    cases r1 with
    | non => simp only [truth] at e; show d = false; exact (Option.some.inj e).symm
    | bl b => simp only [truth] at e; show d = b; exact (Option.some.inj e).symm
    | int i => simp only [truth] at e; show d = (i != 0); exact (Option.some.inj e).symm
    | str x =>
      simp only [truth] at e
      split at e
      · rename_i hx; exact ⟨hx, (Option.some.inj e).symm⟩
      · cases e
    | tup hs hr => simp only [truth] at e; exact .inr (.inl ⟨_, hs, by rw [← hr.empty]; exact (Option.some.inj e).symm⟩)
    | lst hs hn hr => simp only [truth] at e; exact .inl ⟨_, .of hs, by rw [← hr.empty]; exact (Option.some.inj e).symm⟩
    | scr hs hr => simp [truth] at e
    | dic0 hs hn => simp only [truth] at e; exact .inr (.inr ⟨_, hs, (Option.some.inj e).symm⟩)
    | dcs _ _ _ => simp [truth] at e
    | ref _ => simp [truth] at e
    | exc _ _ => simp [truth] at e
variable {t u : Smt} {rest : List Expr}
def tNotI (t : Smt) : Smt := bnd t fun b => ret (!b)
def tAndI (t u : Smt) : Smt := bnd t fun b => if b = true then u else ret false
def tOrI (t u : Smt) : Smt := bnd t fun b => if b = true then ret true else u
theorem it_not (ha : PT X a (tIt g EX t)) : PT X (.UnaryOp .Not a pos) (tIt g EX (tNotI t)) := PT.mono (pt_not ha) fun σ H Q ⟨env, m, st, re, R, q⟩ =>
  ⟨env, m, st, re, R, q.bnd.mono fun b m1 H1 st1 E1 R1 q => q.ret R1⟩
theorem it_one (ha : PT X a (tIt g EX t)) : PW X (.BoolOp .And [a] pos) (tIt g EX t) := pw_and1 ha
theorem it_oneO (ha : PT X a (tIt g EX t)) : PW X (.BoolOp .Or [a] pos) (tIt g EX t) := pw_or1 ha
theorem it_and (ha : PT X a (tIt g EX t)) (hb : PW X (.BoolOp .And (b :: rest) pos) (tIt g EX u)) : PW X (.BoolOp .And (a :: b :: rest) pos) (tIt g EX (tAndI t u)) := PW.mono (pw_and ha hb) fun σ H Q ⟨env, m, st, re, R, q⟩ => by
  refine ⟨env, m, st, re, R, q.bnd.mono fun b m1 H1 st1 E1 R1 q => ?_⟩
  cases b with
  | true => exact iteT ⟨env, m1, st1, re.ext E1, R1, q⟩
  | false => exact iteF (RI.ret (env := env) q R1)
theorem it_or (ha : PT X a (tIt g EX t)) (hb : PW X (.BoolOp .Or (b :: rest) pos) (tIt g EX u)) : PW X (.BoolOp .Or (a :: b :: rest) pos) (tIt g EX (tOrI t u)) := PW.mono (pw_or ha hb) fun σ H Q ⟨env, m, st, re, R, q⟩ => by
  refine ⟨env, m, st, re, R, q.bnd.mono fun b m1 H1 st1 E1 R1 q => ?_⟩
  cases b with
  | false => exact iteF ⟨env, m1, st1, re.ext E1, R1, q⟩
  | true => exact iteT (RI.ret (env := env) q R1)
def sNotV (f : Sm) : Sm := bnd f fun d => bnd (lift (isB d)) fun b => ret (.bl (!b))
def sAndV (f h : Sm) : Sm := bnd f fun d => bnd (lift (isB d)) fun b => if b = true then h else ret (.bl false)
def sOrV (f h : Sm) : Sm := bnd f fun d => bnd (lift (isB d)) fun b => if b = true then ret (.bl true) else h
theorem i_one {op : BoolOp} (ha : PE X a (tI g EX f)) : PE X (.BoolOp op [a] pos) (tI g EX f) := pe_one ha
theorem i_not (ha : PE X a (tI g EX f)) : PE X (.UnaryOp .Not a pos) (tI g EX (sNotV f)) := PE.mono (pe_not ha) fun σ H Q ⟨env, m, st, re, R, q⟩ => by
  refine ⟨env, m, st, re, R, q.bnd.mono fun d m1 H1 st1 E1 R1 q v r => ?_⟩
  obtain ⟨b, e, q⟩ := q.bnd.lift
  exact ⟨b, r.isB e, (q m1 H1 (.refl _ _) R1).ret R1 _ (.bl _)⟩
theorem i_and (ha : PE X a (tI g EX f)) (hb : PE X (.BoolOp .And (b :: rest) pos) (tI g EX h)) : PE X (.BoolOp .And (a :: b :: rest) pos) (tI g EX (sAndV f h)) := PE.mono (pe_and ha hb) fun σ H Q ⟨env, m, st, re, R, q⟩ => by
  refine ⟨env, m, st, re, R, q.bnd.mono fun d m1 H1 st1 E1 R1 q v r => ?_⟩
  obtain ⟨b, e, q⟩ := q.bnd.lift
  refine ⟨b, r.isB e, ?_⟩
  have q := q m1 H1 (.refl _ _) R1
  cases b with
  | true => exact iteT ⟨env, m1, st1, re.ext E1, R1, q⟩
  | false => exact iteF (RI.ret (env := env) q R1 _ (.bl _))
theorem i_or (ha : PE X a (tI g EX f)) (hb : PE X (.BoolOp .Or (b :: rest) pos) (tI g EX h)) : PE X (.BoolOp .Or (a :: b :: rest) pos) (tI g EX (sOrV f h)) := PE.mono (pe_or ha hb) fun σ H Q ⟨env, m, st, re, R, q⟩ => by
  refine ⟨env, m, st, re, R, q.bnd.mono fun d m1 H1 st1 E1 R1 q v r => ?_⟩
  obtain ⟨b, e, q⟩ := q.bnd.lift
  refine ⟨b, r.isB e, ?_⟩
  have q := q m1 H1 (.refl _ _) R1
  cases b with
  | false => exact iteF ⟨env, m1, st1, re.ext E1, R1, q⟩
  | true => exact iteT (RI.ret (env := env) q R1 _ (.bl _))
variable {e : Expr} {es : List Expr} {fs : Sma}
def sNil : Sma := ret []
def sCons (f : Sm) (fs : Sma) : Sma := bnd f fun d => bnd fs fun ds => ret (d :: ds)
theorem ia_nil : PA X [] (tIa g EX sNil) := PA.mono pa_nil fun σ H Q ⟨env, m, st, re, R, q⟩ => q.ret R _ .nil
theorem ia_cons (ha : PE X e (tI g EX f)) (hr : PA X es (tIa g EX fs)) (hs : starEach (e :: es) X.env = (false, eval e X.env) :: starEach es X.env := by rfl) : PA X (e :: es) (tIa g EX (sCons f fs)) :=
  PA.mono (pa_cons ha hr hs) fun σ H Q ⟨env, m, st, re, R, q⟩ =>
    ⟨env, m, st, re, R, q.bnd.mono fun d m1 H1 st1 E1 R1 q v r => ⟨env, m1, st1, re.ext E1, R1, q.bnd.mono fun ds m2 H2 st2 E2 R2 q vs rs => q.ret R2 _ (.cons (r.ext E2) rs)⟩⟩
def small {α : Type} (xs : List α) : Bool := decide (xs.length ≤ sizeLine)
def sTup (fs : Sma) : Sm := bnd fs fun ds => lift (if small ds then some (.tup ds) else none)
def sLst (fs : Sma) : Sm := bnd fs fun ds => lift (if small ds then some (.lst ds) else none)
theorem small_of {α : Type} {xs : List α} {d d' : D} (e : (if small xs then some d else none) = some d') : xs.length ≤ sizeLine ∧ d = d' := by
  split at e
  · rename_i h; exact ⟨of_decide_eq_true h, Option.some.inj e⟩
  · cases e
theorem RD.newT {m : MM} {H : Hp} {p : Addr} {ds : List D} {vs : List V} (r : RDs g m H ds vs) (hp : H p = none) : RD g m (upd H p (.tup vs)) (.tup ds) (.ref p) := .tup (.of upd_same) (r.ext (.new hp))
theorem RD.newL {m : MM} {H : Hp} {p : Addr} {st : Sto} {ds : List D} {vs : List V} (R : RS g m H st) (r : RDs g m H ds vs) (hp : H p = none) : RD g m (upd H p (.lst vs)) (.lst ds) (.ref p) := .lst upd_same (R.none_not hp) (r.ext (.new hp))
theorem i_tup {k : Nat} (p : PA X es (tIa g EX fs)) : PE X (.Tuple es k pos) (tI g EX (sTup fs)) := PE.mono (pe_tup p) fun σ H Q ⟨env, m, st, re, R, q⟩ =>
  ⟨env, m, st, re, R, q.bnd.mono fun ds m1 H1 st1 E1 R1 q vs r => by
    obtain ⟨d, e, q⟩ := q.lift
    obtain ⟨hz, rfl⟩ := small_of e
    exact ⟨by rw [← r.length]; exact hz, fun p hp => q m1 _ (.new hp) (R1.new hp) _ (.newT r hp)⟩⟩
theorem i_lst (p : PA X es (tIa g EX fs)) : PE X (.List es pos) (tI g EX (sLst fs)) := PE.mono (pe_lst p) fun σ H Q ⟨env, m, st, re, R, q⟩ =>
  ⟨env, m, st, re, R, q.bnd.mono fun ds m1 H1 st1 E1 R1 q vs r => by
    obtain ⟨d, e, q⟩ := q.lift
    obtain ⟨hz, rfl⟩ := small_of e
    exact ⟨by rw [← r.length]; exact hz, fun p hp => q m1 _ (.new hp) (R1.new hp) _ (.newL R1 r hp)⟩⟩
def sLstM (fs : Sma) : Sm := bnd fs fun ds => fun _ st => if small ds then some (.ok (.ref st.length), st ++ [.lst ds]) else none
theorem i_lstM (p : PA X es (tIa g EX fs)) : PE X (.List es pos) (tI g EX (sLstM fs)) := PE.mono (pe_lst p) fun σ H Q ⟨env, m, st, re, R, q⟩ =>
  ⟨env, m, st, re, R, q.bnd.mono fun ds m1 H1 st1 E1 R1 q vs r => by
    by_cases hz : small ds = true
    · rw [if_pos hz] at q
      refine ⟨by rw [← r.length]; exact of_decide_eq_true hz, fun p hp => q (m1.add p) _ (.cell hp) (R1.cellL hp r) _ (.ref ?_)⟩
      rw [← R1.len]; simp [MM.add]
    · rw [if_neg hz] at q; exact q.elim⟩
def sDic0 : Sm := ret .dic0
theorem i_dic0 : PE X (.Dict [] [] pos) (tI g EX sDic0) := PE.mono pe_dnewK fun σ H Q ⟨env, m, st, re, R, q⟩ => by
  intro p hp
  exact q m _ (.new hp) (R.new hp) _ (.dic0 upd_same (R.none_not hp))
def spF (g : GX) (n : Nat) (F : List D → Sto → Res D) : Sp := fun vs H Q E => ∃ ds m st, ds.length = n ∧ RDs g m H ds vs ∧ RS g m H st ∧ RI g E m H (F ds st) fun d m' H' _ => ∀ v, RD g m' H' d v → Q v H'
def sCall (n : Nat) (F : List D → Sto → Res D) (fs : Sma) : Sm := bnd fs fun ds => fun _ st => if ds.length = n then F ds st else none
theorem tCall_of {F : List D → Sto → Res D} {n : Nat} {σ : L2.St} {H : Hp} {Q : VK} (q : tI g EX (sCall n F fs) σ H Q) : tCall (spF g n F) [] EX (tIa g EX fs) σ H Q := by
  obtain ⟨env, m, st, re, R, q⟩ := q
  refine ⟨env, m, st, re, R, q.bnd.mono fun ds m1 H1 st1 E1 R1 q vs r => ?_⟩
  by_cases hn : ds.length = n
  · rw [if_pos hn] at q
    rw [List.append_nil]
    exact ⟨ds, m1, st1, hn, r, R1, q⟩
  · rw [if_neg hn] at q; exact q.elim
theorem i_call {CX : CXT} {k n : Nat} {F : List D → Sto → Res D} {x : Str} {p : Pos} {fa : Addr} {fd : FuncData} {ps : List Str} (G : FnOk X.prog X.w X.K X.mg X.base CX k fa fd ps (spF g n F)) (hr : Room k X.A) (hg : Gl X x) (hm : X.mg x = some (.ref fa))
    (hk : PySem.W.keepIn X.K (.ref fa) = true) (hb : Binds X.K fd ps []) (hx : Passes CX X EX) (ha : PA X (e :: es) (tIa g EX fs)) (hdb : (x == ("__debug__" : Str)) = false := by decide)
    (he : starEach (e :: es) X.env = (false, eval e X.env) :: starEach es X.env := by rfl) (hpl : (backTo pos (starEach es X.env)).any (·.1) = false := by rfl) : PE X (.Call (.Name x p) (e :: es) [] pos) (tI g EX (sCall n F fs)) :=
  PE.mono (pe_call G hr hg hm hk hb .nil hx ha hdb he hpl) fun _ _ _ => tCall_of
end
end I2
set_option Elab.async false
set_option linter.all false
set_option maxRecDepth 100000
set_option maxHeartbeats 4000000
namespace I2
open PySem PySem.Spec PyProof.Rows L2
def toPy : D → Option PyData
  | .non => some .none
  | .bl b => some (.bool b)
  | .int i => some (.int i)
  | .str x => some (.str x)
  | .tup ds => (toPys ds).map .tuple
  | .lst ds => (toPys ds).map .list
  | _ => none
where toPys : List D → Option (List PyData)
  | [] => some []
  | d :: ds => match toPy d, toPys ds with
    | some p, some ps => some (p :: ps)
    | _, _ => none
mutual
theorem RD.dp {g : GX} {m : MM} {H : Hp} : ∀ {d : D} {v : V} {p : PyData}, RD g m H d v → toPy d = some p → Dp g.K H v p
  | _, _, _, .non, e => by simp only [toPy, Option.some.injEq] at e; subst e; exact .non
  | _, _, _, .bl b, e => by simp only [toPy, Option.some.injEq] at e; subst e; exact .bl b
  | _, _, _, .int i, e => by simp only [toPy, Option.some.injEq] at e; subst e; exact .int i
  | _, _, _, .str x, e => by simp only [toPy, Option.some.injEq] at e; subst e; exact .str x
  | _, _, _, .tup hs hr, e => by
    simp only [toPy, Option.map_eq_some_iff] at e
    obtain ⟨ps, e1, rfl⟩ := e
    exact .tup hs (RDs.dp hr e1)
  | _, _, _, .lst hs hn hr, e => by
    simp only [toPy, Option.map_eq_some_iff] at e
    obtain ⟨ps, e1, rfl⟩ := e
    exact .lst (.of hs) (RDs.dp hr e1)
  | _, _, _, .scr _ _, e => by simp [toPy] at e
  | _, _, _, .dic0 _ _, e => by simp [toPy] at e
  | _, _, _, .dcs _ _ _, e => by simp [toPy] at e
  | _, _, _, .ref _, e => by simp [toPy] at e
  | _, _, _, .exc _ _, e => by simp [toPy] at e
theorem RDs.dp {g : GX} {m : MM} {H : Hp} : ∀ {ds : List D} {vs : List V} {ps : List PyData}, RDs g m H ds vs → toPy.toPys ds = some ps → DpAll g.K H vs ps
  | _, _, _, .nil, e => by simp only [toPy.toPys, Option.some.injEq] at e; subst e; exact .nil
  | d :: ds, _, _, .cons r rs, e => by
    simp only [toPy.toPys] at e
    cases e1 : toPy d with
    | none => rw [e1] at e; cases e
    | some p =>
      cases e2 : toPy.toPys ds with
      | none => rw [e1, e2] at e; cases e
      | some ps =>
        rw [e1, e2] at e
        simp only [Option.some.injEq] at e
        subst e
        exact .cons (RD.dp r e1) (RDs.dp rs e2)
end
def oEq (x y : D) : Option D := match toPy x, toPy y with
  | some p, some q => if SeqAt.shaped p && SeqAt.shaped q then some (.bl (PyData.eqv p q)) else none
  | _, _ => none
def oNe (x y : D) : Option D := match toPy x, toPy y with
  | some p, some q => if SeqAt.shaped p && SeqAt.shaped q then some (.bl (!PyData.eqv p q)) else none
  | _, _ => none
def oLt : D → D → Option D
  | .int i, .int j => some (.bl (decide (i < j)))
  | _, _ => none
def oLe : D → D → Option D
  | .int i, .int j => some (.bl (decide (i ≤ j)))
  | _, _ => none
def oGt : D → D → Option D
  | .int i, .int j => some (.bl (decide (j < i)))
  | _, _ => none
def oGe : D → D → Option D
  | .int i, .int j => some (.bl (decide (j ≤ i)))
  | _, _ => none
def isNon : D → Bool
  | .non => true
  | _ => false
def oSub : D → D → Option D
  | .int i, .int j => some (.int (i - j))
  | _, _ => none
def oAdd : D → D → Option D
  | .int i, .int j => some (.int (i + j))
  | .str x, .str y => if x.length + y.length ≤ sizeLine then some (.str (x ++ y)) else none
  | .lst xs, .lst ys => if xs.length + ys.length ≤ sizeLine then some (.lst (xs ++ ys)) else none
  | .tup xs, .tup ys => if !xs.isEmpty && decide (xs.length + ys.length ≤ sizeLine) then some (.tup (xs ++ ys)) else none
  | _, _ => none
def mulOk (i j : Int) : Bool := decide (i.natAbs < 2 ^ 64) || decide (j.natAbs < 2 ^ 64) || (decide (i.natAbs < 2 ^ 60000) && decide (j.natAbs < 2 ^ 60000))
theorem mulOk_of {i j : Int} (h : mulOk i j = true) : IntMulOk i j := by
  unfold mulOk at h
  simp only [Bool.or_eq_true, Bool.and_eq_true, decide_eq_true_eq] at h
  rcases h with (h | h) | ⟨h1, h2⟩
  · exact .of_left (PySem.intBits_le_iff.mpr h)
  · exact .of_right (PySem.intBits_le_iff.mpr h)
  · exact .of_le (PySem.intBits_le_iff.mpr h1) (PySem.intBits_le_iff.mpr h2) (by decide)
def oMul : D → D → Option D
  | .int i, .int j => if mulOk i j then some (.int (i * j)) else none
  | .lst xs, .int k => if decide (-(2 ^ 63) ≤ k) && decide (k < 2 ^ 63) && decide (xs.length * k.toNat ≤ sizeLine) then some (.lst (List.replicate k.toNat xs).flatten) else none
  | _, _ => none
def oMod : D → D → Option D
  | .int i, .int j => if j = 0 then none else some (.int (i.fmod j))
  | _, _ => none
def oDiv : D → D → Option D
  | .int i, .int j => if j = 0 then none else if decide (j.natAbs < 2 ^ 9000) then some (.int (i.fdiv j)) else none
  | _, _ => none
def oPow : D → D → Option D
  | .int i, .int j => if decide (0 ≤ j) && decide (j ≤ 1000000) && decide (i.natAbs < 2 ^ 64) then some (.int (i ^ j.toNat)) else none
  | _, _ => none
def oShl : D → D → Option D
  | .int i, .int j => if decide (0 ≤ j) && decide (j ≤ 1000000) && decide (i.natAbs < 2 ^ 64) then some (.int (i * 2 ^ j.toNat)) else none
  | _, _ => none
def oNeg : D → Option D
  | .int i => some (.int (-i))
  | _ => none
section
variable {X : Cx} {g : GX}
theorem r_eq (hK : X.K = g.K) (hu : X.A.units + 64 < cLine) : OpR X (compareOp .Eq) (rD g oEq) := by
  intro pins s σ H x y v u Q I rx ry ⟨m, st, dx, dy, d, R, r1, r2, e, q⟩
  unfold oEq at e
  cases e1 : toPy dx with
  | none => rw [e1] at e; cases e
  | some p1 =>
    cases e2 : toPy dy with
    | none => rw [e1, e2] at e; cases e
    | some p2 =>
      rw [e1, e2] at e
      dsimp only at e
      split at e
      · rename_i hs
        simp only [Bool.and_eq_true] at hs
        cases e
        refine op_eqD hu pins s σ H x y v u Q I rx ry ⟨p1, p2, ?_, ?_, hs.1, hs.2, q _ m H (.refl _ _) R (.bl _)⟩
        · rw [hK]; exact r1.dp e1
        · rw [hK]; exact r2.dp e2
      · cases e
theorem r_ne (hK : X.K = g.K) (hu : X.A.units + 64 < cLine) : OpR X (compareOp .NotEq) (rD g oNe) := by
  intro pins s σ H x y v u Q I rx ry ⟨m, st, dx, dy, d, R, r1, r2, e, q⟩
  unfold oNe at e
  cases e1 : toPy dx with
  | none => rw [e1] at e; cases e
  | some p1 =>
    cases e2 : toPy dy with
    | none => rw [e1, e2] at e; cases e
    | some p2 =>
      rw [e1, e2] at e
      dsimp only at e
      split at e
      · rename_i hs
        simp only [Bool.and_eq_true] at hs
        cases e
        refine op_neD hu pins s σ H x y v u Q I rx ry ⟨p1, p2, ?_, ?_, hs.1, hs.2, q _ m H (.refl _ _) R (.bl _)⟩
        · rw [hK]; exact r1.dp e1
        · rw [hK]; exact r2.dp e2
      · cases e
theorem ints_of {m : MM} {H : Hp} {o : D → D → Option D} {dx dy d : D} {x y : V} (ho : ∀ a b, (∀ i j, ¬ (a = .int i ∧ b = .int j)) → o a b = none) (r1 : RD g m H dx x) (r2 : RD g m H dy y) (e : o dx dy = some d) :
    ∃ i j, dx = .int i ∧ dy = .int j ∧ x = .int i ∧ y = .int j := by
  cases r1 with
  | int i =>
    cases r2 with
    | int j => exact ⟨i, j, rfl, rfl, rfl, rfl⟩
    | _ => rw [ho _ _ (fun i j ⟨_, z⟩ => nomatch z)] at e; cases e
  | _ => rw [ho _ _ (fun i j ⟨z, _⟩ => nomatch z)] at e; cases e
theorem r_lt : OpR X (compareOp .Lt) (rD g oLt) := by
  intro pins s σ H x y v u Q I rx ry ⟨m, st, dx, dy, d, R, r1, r2, e, q⟩
  obtain ⟨i, j, rfl, rfl, rfl, rfl⟩ := ints_of (fun a b n => by cases a <;> cases b <;> first | rfl | exact absurd ⟨rfl, rfl⟩ (n _ _)) r1 r2 e
  cases e
  exact op_lt pins s σ H _ _ v u Q I rx ry ⟨i, j, rfl, rfl, q _ m H (.refl _ _) R (.bl _)⟩
theorem r_le : OpR X (compareOp .LtE) (rD g oLe) := by
  intro pins s σ H x y v u Q I rx ry ⟨m, st, dx, dy, d, R, r1, r2, e, q⟩
  obtain ⟨i, j, rfl, rfl, rfl, rfl⟩ := ints_of (fun a b n => by cases a <;> cases b <;> first | rfl | exact absurd ⟨rfl, rfl⟩ (n _ _)) r1 r2 e
  cases e
  exact op_le pins s σ H _ _ v u Q I rx ry ⟨i, j, rfl, rfl, q _ m H (.refl _ _) R (.bl _)⟩
theorem r_gt : OpR X (compareOp .Gt) (rD g oGt) := by
  intro pins s σ H x y v u Q I rx ry ⟨m, st, dx, dy, d, R, r1, r2, e, q⟩
  obtain ⟨i, j, rfl, rfl, rfl, rfl⟩ := ints_of (fun a b n => by cases a <;> cases b <;> first | rfl | exact absurd ⟨rfl, rfl⟩ (n _ _)) r1 r2 e
  cases e
  exact op_gt pins s σ H _ _ v u Q I rx ry ⟨i, j, rfl, rfl, q _ m H (.refl _ _) R (.bl _)⟩
theorem r_ge : OpR X (compareOp .GtE) (rD g oGe) := by
  intro pins s σ H x y v u Q I rx ry ⟨m, st, dx, dy, d, R, r1, r2, e, q⟩
  obtain ⟨i, j, rfl, rfl, rfl, rfl⟩ := ints_of (fun a b n => by cases a <;> cases b <;> first | rfl | exact absurd ⟨rfl, rfl⟩ (n _ _)) r1 r2 e
  cases e
  exact op_ge pins s σ H _ _ v u Q I rx ry ⟨i, j, rfl, rfl, q _ m H (.refl _ _) R (.bl _)⟩
theorem RD.isNon {m : MM} {H : Hp} {d : D} {v : V} (r : RD g m H d v) : decide (v = .non) = I2.isNon d := by cases r <;> simp [I2.isNon]
theorem r_sub : OpR X (binaryOp .Sub) (rD g oSub) := by
  intro pins s σ H x y v u Q I rx ry ⟨m, st, dx, dy, d, R, r1, r2, e, q⟩
  obtain ⟨i, j, rfl, rfl, rfl, rfl⟩ := ints_of (fun a b n => by cases a <;> cases b <;> first | rfl | exact absurd ⟨rfl, rfl⟩ (n _ _)) r1 r2 e
  cases e
  exact op_sub pins s σ H _ _ v u Q I rx ry ⟨i, j, rfl, rfl, q _ m H (.refl _ _) R (.int _)⟩
theorem r_mod : OpR X (binaryOp .Mod) (rD g oMod) := by
  intro pins s σ H x y v u Q I rx ry ⟨m, st, dx, dy, d, R, r1, r2, e, q⟩
  obtain ⟨i, j, rfl, rfl, rfl, rfl⟩ := ints_of (fun a b n => by cases a <;> cases b <;> first | rfl | exact absurd ⟨rfl, rfl⟩ (n _ _)) r1 r2 e
  simp only [oMod] at e
  split at e
  · cases e
  · rename_i hj
    cases e
    exact op_modN pins s σ H _ _ v u Q I rx ry ⟨i, j, rfl, rfl, hj, q _ m H (.refl _ _) R (.int _)⟩
theorem op_fdivB : OpR X (binaryOp .FloorDiv) (rI (fun _ j => j ≠ 0 ∧ j.natAbs < 2 ^ 9000) fun i j => .int (i.fdiv j)) := opI fun i j _ _ _ _ _ hc q => floordiv_int hc.1 q (.inl (PyProof.noPylong_of_log2 (by
  rcases Nat.eq_zero_or_pos j.natAbs with h0 | hp
  · rw [h0]; decide
  · exact (Nat.log2_lt (Nat.ne_of_gt hp)).mpr hc.2)))
theorem r_div : OpR X (binaryOp .FloorDiv) (rD g oDiv) := by
  intro pins s σ H x y v u Q I rx ry ⟨m, st, dx, dy, d, R, r1, r2, e, q⟩
  obtain ⟨i, j, rfl, rfl, rfl, rfl⟩ := ints_of (fun a b n => by cases a <;> cases b <;> first | rfl | exact absurd ⟨rfl, rfl⟩ (n _ _)) r1 r2 e
  simp only [oDiv] at e
  split at e
  · cases e
  · rename_i hj
    split at e
    · rename_i hz
      cases e
      exact op_fdivB pins s σ H _ _ v u Q I rx ry ⟨i, j, rfl, rfl, ⟨hj, of_decide_eq_true hz⟩, q _ m H (.refl _ _) R (.int _)⟩
    · cases e
theorem r_pow : OpR X (binaryOp .Pow) (rD g oPow) := by
  intro pins s σ H x y v u Q I rx ry ⟨m, st, dx, dy, d, R, r1, r2, e, q⟩
  obtain ⟨i, j, rfl, rfl, rfl, rfl⟩ := ints_of (fun a b n => by cases a <;> cases b <;> first | rfl | exact absurd ⟨rfl, rfl⟩ (n _ _)) r1 r2 e
  simp only [oPow] at e
  split at e
  · rename_i hz
    simp only [Bool.and_eq_true, decide_eq_true_eq] at hz
    cases e
    exact op_pow pins s σ H _ _ v u Q I rx ry ⟨i, j, rfl, rfl, ⟨hz.1.1, hz.1.2, hz.2⟩, q _ m H (.refl _ _) R (.int _)⟩
  · cases e
theorem r_shl : OpR X (binaryOp .LShift) (rD g oShl) := by
  intro pins s σ H x y v u Q I rx ry ⟨m, st, dx, dy, d, R, r1, r2, e, q⟩
  obtain ⟨i, j, rfl, rfl, rfl, rfl⟩ := ints_of (fun a b n => by cases a <;> cases b <;> first | rfl | exact absurd ⟨rfl, rfl⟩ (n _ _)) r1 r2 e
  simp only [oShl] at e
  split at e
  · rename_i hz
    simp only [Bool.and_eq_true, decide_eq_true_eq] at hz
    cases e
    exact op_shl pins s σ H _ _ v u Q I rx ry ⟨i, j, rfl, rfl, ⟨hz.1.1, hz.1.2, hz.2⟩, q _ m H (.refl _ _) R (.int _)⟩
  · cases e
theorem r_neg : UnR X (unaryOp .USub) (rD1 g oNeg) := by
  intro pins s σ H x v Q I rx ⟨m, st, dx, d, R, r1, e, q⟩
  cases r1 with
  | int i =>
    cases e
    exact un_neg pins s σ H _ v Q I rx ⟨i, rfl, q _ m H (.refl _ _) R (.int _)⟩
  | _ => cases e
theorem op_mulB : OpR X (binaryOp .Mult) (rI (fun i j => mulOk i j = true) fun i j => .int (i * j)) := opI fun _ _ _ _ _ _ _ hc q => mul_int q (mulOk_of hc)
theorem r_mul : OpR X (binaryOp .Mult) (rD g oMul) := by
  intro pins s σ H x y v u Q I rx ry ⟨m, st, dx, dy, d, R, r1, r2, e, q⟩
  cases r1 with
  | int i =>
    cases r2 with
    | int j =>
      simp only [oMul] at e
      split at e
      · rename_i hz
        cases e
        exact op_mulB pins s σ H _ _ v u Q I rx ry ⟨i, j, rfl, rfl, hz, q _ m H (.refl _ _) R (.int _)⟩
      · cases e
    | _ => cases e
  | @lst a xs ds hs hn hr =>
    cases r2 with
    | int k =>
      simp only [oMul] at e
      split at e
      · rename_i hz
        simp only [Bool.and_eq_true, decide_eq_true_eq] at hz
        cases e
        refine op_rep pins s σ H _ _ v u Q I rx ry ⟨a, k, xs, rfl, rfl, hs, hz.1.1, hz.1.2, by rw [← hr.length]; exact hz.2, fun p hp => q _ m _ (.new hp) (R.new hp) (.newL R ?_ hp)⟩
        generalize k.toNat = n
        induction n with
        | zero => exact .nil
        | succ n ih => rw [List.replicate_succ, List.replicate_succ, List.flatten_cons, List.flatten_cons]; exact hr.append ih
      · cases e
    | _ => cases e
  | _ => cases e
theorem r_add (hK : X.K = g.K) : OpR X (binaryOp .Add) (rD g oAdd) := by
  intro pins s σ H x y v u Q I rx ry ⟨m, st, dx, dy, d, R, r1, r2, e, q⟩
  cases r1 with
  | int i =>
    cases r2 with
    | int j => cases e; exact op_add pins s σ H _ _ v u Q I rx ry ⟨i, j, rfl, rfl, q _ m H (.refl _ _) R (.int _)⟩
    | _ => cases e
  | str i =>
    cases r2 with
    | str j =>
      simp only [oAdd] at e
      split at e
      · rename_i hz
        cases e
        exact op_add_str pins s σ H _ _ v u Q I rx ry ⟨i, j, rfl, rfl, hz, q _ m H (.refl _ _) R (.str _)⟩
      · cases e
    | _ => cases e
  | @lst a xs ds hs hn hr =>
    cases r2 with
    | @lst b ys es hs' hn' hr' =>
      simp only [oAdd] at e
      split at e
      · rename_i hz
        cases e
        exact op_cat pins s σ H _ _ v u Q I rx ry ⟨a, b, xs, ys, rfl, rfl, hs, hs', by rw [← hr.length, ← hr'.length]; exact hz, fun p hp => q _ m _ (.new hp) (R.new hp) (.newL R (hr.append hr') hp)⟩
      · cases e
    | _ => cases e
  | @tup a xs ds hs hr =>
    cases r2 with
    | @tup b ys es hs' hr' =>
      simp only [oAdd] at e
      split at e
      · rename_i hz
        simp only [Bool.and_eq_true, decide_eq_true_eq, Bool.not_eq_true'] at hz
        cases e
        refine op_catT pins s σ H _ _ v u Q I rx ry ⟨a, b, xs, ys, rfl, rfl, by rw [hK]; exact hs, by rw [hK]; exact hs', ?_, by rw [← hr.length, ← hr'.length]; exact hz.2, fun hy => ?_, fun hy p hp => q _ m _ (.new hp) (R.new hp) (.newT (hr.append hr') hp)⟩
        · intro z; have := hr.empty; rw [hz.1, z] at this; cases this
        · subst hy
          have : es = [] := by cases hr'; rfl
          subst this
          rw [List.append_nil] at q
          exact q _ m H (.refl _ _) R (.tup hs hr)
      · cases e
    | _ => cases e
  | _ => cases e
end
end I2
set_option Elab.async false
set_option linter.all false
set_option maxRecDepth 100000
set_option maxHeartbeats 4000000
namespace I2
open PySem PySem.Spec PyProof.Rows L2
section
variable {X : Cx} {g : GX} {EX : XK} {a b c e : Expr} {es : List Expr} {pos : Pos} {f h k : Sm} {fs : Sma}
def oIx (st : Sto) : D → D → Option D
  | .tup ds, .int k => atI ds k
  | .lst ds, .int k => atI ds k
  | .scr ds, .int k => atI ds k
  | .ref i, .int k => match st[i]? with
    | some (.lst ds) => atI ds k
    | _ => none
  | _, _ => none
def liftS {α : Type} (o : Sto → Option α) : DEnv → Sto → Res α := fun _ st => (o st).map fun d => (.ok d, st)
theorem RI.liftS {α : Type} {m : MM} {H : Hp} {o : Sto → Option α} {env : DEnv} {st : Sto} {Q : α → MM → Hp → Sto → Prop} (q : RI g EX m H (I2.liftS o env st) Q) : ∃ d, o st = some d ∧ ∀ m' H', Ext m H m' H' → RS g m' H' st → Q d m' H' st := by
  unfold I2.liftS at q
  cases e : o st with
  | none => rw [e] at q; exact q.elim
  | some d => rw [e] at q; exact ⟨d, rfl, q⟩
def sIx (f h : Sm) : Sm := bnd f fun x => bnd h fun y => liftS fun st => oIx st x y
theorem RDs.atI {m : MM} {H : Hp} {ds : List D} {vs : List V} {k : Int} {d : D} (r : RDs g m H ds vs) (e : L2.atI ds k = some d) : ∃ v, L2.atI vs k = some v ∧ RD g m H d v := by
  unfold L2.atI at e ⊢
  rw [← r.length]
  cases q : ixN ds.length k with
  | none => rw [q] at e; cases e
  | some j => rw [q] at e; exact r.get e
theorem i_ix (hK : X.K = g.K) (ha : PE X a (tI g EX f)) (hb : PE X b (tI g EX h)) (hs : PlainIx b := by intro _ _; rfl) : PE X (.Subscript a b pos) (tI g EX (sIx f h)) :=
  PE.mono (pe_ix (IxR.or ix_list ix_tup) ha hb hs) fun σ H Q ⟨env, m, st, re, R, q⟩ => by
    refine ⟨env, m, st, re, R, q.bnd.mono fun d1 m1 H1 st1 E1 R1 q v1 r1 => ?_⟩
    refine ⟨env, m1, st1, re.ext E1, R1, q.bnd.mono fun d2 m2 H2 st2 E2 R2 q v2 r2 => ?_⟩
    obtain ⟨d, e, q5⟩ := q.liftS
    rw [hK]
    have r1 := r1.ext E2
    cases r2 with
    | int k =>
      cases r1 with
      | @tup p xs ds hs hr =>
        obtain ⟨v, e2, rv⟩ := hr.atI e
        exact .inr ⟨p, xs, k, v, rfl, rfl, hs, e2, q5 m2 H2 (.refl _ _) R2 v rv⟩
      | @lst p xs ds hs hn hr =>
        obtain ⟨v, e2, rv⟩ := hr.atI e
        exact .inl ⟨p, xs, k, v, rfl, rfl, .of hs, e2, q5 m2 H2 (.refl _ _) R2 v rv⟩
      | @scr p xs ds hs hr =>
        obtain ⟨v, e2, rv⟩ := hr.atI e
        exact .inl ⟨p, xs, k, v, rfl, rfl, hs.sq, e2, q5 m2 H2 (.refl _ _) R2 v rv⟩
      | @ref i p hp =>
        simp only [oIx] at e
        cases e1 : st2[i]? with
        | none => rw [e1] at e; cases e
        | some c =>
          rw [e1] at e
          cases c with
          | dic kvs => cases e
          | gone => cases e
          | lst ds =>
            obtain ⟨xs, hx, hr⟩ := R2.at i _ p e1 hp
            obtain ⟨v, e2, rv⟩ := hr.atI e
            exact .inl ⟨p, xs, k, v, rfl, rfl, .of hx, e2, q5 m2 H2 (.refl _ _) R2 v rv⟩
      | _ => cases e
    | _ => cases r1 <;> cases e
def cutD {α : Type} (xs : List α) (lo hi : Option Int) : List α := (xs.drop (HT.sIx xs.length 0 lo)).take (HT.sIx xs.length xs.length hi - HT.sIx xs.length 0 lo)
theorem RDs.cut {m : MM} {H : Hp} {ds : List D} {vs : List V} (r : RDs g m H ds vs) (lo hi : Option Int) : RDs g m H (cutD ds lo hi) (cutV vs lo hi) := by
  unfold cutD cutV
  rw [← r.length]
  exact (r.drop _).take _
abbrev Smo := DEnv → Sto → Res (Option Int)
def tIo (g : GX) (EX : XK) (f : Smo) : TO := fun σ H Q => ∃ env m st, RE g m H env σ ∧ RS g m H st ∧ RI g EX m H (f env st) fun d _ H' _ => Q d H'
def sNoPart : Smo := ret none
def isI : D → Option Int
  | .int i => some i
  | _ => none
theorem RD.isI {m : MM} {H : Hp} {d : D} {v : V} {b : Int} (r : RD g m H d v) (e : I2.isI d = some b) : v = .int b := by
  cases r <;> simp [I2.isI] at e
  subst e; rfl
def sPart (f : Sm) : Smo := bnd f fun d => bnd (lift (isI d)) fun i => ret (some i)
theorem PO.mono {o : Option Expr} {t t' : TO} (p : PO X o t) (hm : ∀ σ H Q, t' σ H Q → t σ H Q) : PO X o t' := fun pins s σ H Q I q => p pins s σ H Q I (hm σ H Q q)
theorem io_none : PO X none (tIo g EX sNoPart) := PO.mono po_none fun σ H Q ⟨env, m, st, re, R, q⟩ => RI.ret (env := env) q R
theorem io_some (ha : PE X a (tI g EX f)) : PO X (some a) (tIo g EX (sPart f)) := PO.mono (po_some ha) fun σ H Q ⟨env, m, st, re, R, q⟩ => by
  refine ⟨env, m, st, re, R, q.bnd.mono fun d m1 H1 st1 E1 R1 q v r => ?_⟩
  obtain ⟨i, e, q⟩ := q.bnd.lift
  exact ⟨i, r.isI e, RI.ret (env := env) (q m1 H1 (.refl _ _) R1) R1⟩
def oSl (st : Sto) (lo hi : Option Int) : D → Option D
  | .lst ds => some (.lst (cutD ds lo hi))
  | .scr ds => some (.lst (cutD ds lo hi))
  | .tup ds => if HT.sIx ds.length 0 lo = 0 ∧ HT.sIx ds.length ds.length hi = ds.length then none else some (.tup (cutD ds lo hi))
  | .ref i => match st[i]? with
    | some (.lst ds) => some (.lst (cutD ds lo hi))
    | _ => none
  | _ => none
def rCs (g : GX) (op : Sto → List D → Option D) : List V → Hp → VK → Prop := fun vs H Q => ∃ m st ds d, RS g m H st ∧ RDs g m H ds vs ∧ op st ds = some d ∧ ∀ v m' H', Ext m H m' H' → RS g m' H' st → RD g m' H' d v → Q v H'
def sBs (op : Sto → List D → Option D) (fs : Sma) : Sm := bnd fs fun ds => liftS fun st => op st ds
theorem tCBs_of {op : Sto → List D → Option D} {σ : L2.St} {H : Hp} {Q : VK} (q : tI g EX (sBs op fs) σ H Q) : tCB (rCs g op) (tIa g EX fs) σ H Q := by
  obtain ⟨env, m, st, re, R, q⟩ := q
  refine ⟨env, m, st, re, R, q.bnd.mono fun ds m1 H1 st1 E1 R1 q vs r => ?_⟩
  obtain ⟨d, e, q⟩ := q.liftS
  exact ⟨m1, st1, ds, d, R1, r, e, fun v m' H' E R r => q m' H' E R v r⟩
theorem i_bltnS {op : Sto → List D → Option D} {x : Str} {p : Pos} {id : String} (hc : CallR X (.builtin id) (rCs g op)) (hg : Gl X x) (hm : X.mg x = none) (hv : bootBuiltins x = some (.builtin id)) (ha : PA X (e :: es) (tIa g EX fs)) (hn : x ≠ "__name__" := by decide) (hdb : (x == ("__debug__" : Str)) = false := by decide)
    (he : starEach (e :: es) X.env = (false, eval e X.env) :: starEach es X.env := by rfl) (hpl : (backTo pos (starEach es X.env)).any (·.1) = false := by rfl) : PE X (.Call (.Name x p) (e :: es) [] pos) (tI g EX (sBs op fs)) :=
  PE.mono (pe_callB hc hg hm hv ha hn hdb he hpl) fun _ _ _ => tCBs_of
theorem i_typeS {op : Sto → List D → Option D} {x : Str} {p : Pos} {T : String} (hc : CallR X (.type T) (rCs g op)) (hg : Gl X x) (hm : X.mg x = none) (hv : bootBuiltins x = some (.type T)) (ha : PA X (e :: es) (tIa g EX fs)) (hn : x ≠ "__name__" := by decide) (hdb : (x == ("__debug__" : Str)) = false := by decide)
    (he : starEach (e :: es) X.env = (false, eval e X.env) :: starEach es X.env := by rfl) (hpl : (backTo pos (starEach es X.env)).any (·.1) = false := by rfl) : PE X (.Call (.Name x p) (e :: es) [] pos) (tI g EX (sBs op fs)) :=
  PE.mono (pe_callTy hc hg hm hv ha hn hdb he hpl) fun _ _ _ => tCBs_of
def oLen (st : Sto) : List D → Option D
  | [.tup ds] => some (.int ds.length)
  | [.lst ds] => some (.int ds.length)
  | [.scr ds] => some (.int ds.length)
  | [.str x] => if x.length ≤ sizeLine then some (.int x.length) else none
  | [.ref i] => match st[i]? with
    | some (.lst ds) => some (.int ds.length)
    | _ => none
  | _ => none
def oAbs : List D → Option D
  | [.int i] => some (.int (if i < 0 then -i else i))
  | _ => none
def oInt : List D → Option D
  | [.int i] => some (.int i)
  | [.bl b] => some (.int (if b then 1 else 0))
  | _ => none
def oMax : List D → Option D
  | [.int i, .int j] => some (.int (if j > i then j else i))
  | _ => none
def oMin : List D → Option D
  | [.int i, .int j] => some (.int (if j < i then j else i))
  | _ => none
def oStr : List D → Option D
  | [.int i] => if i.natAbs.log2 < 1920 then some (.str (toString i)) else none
  | _ => none
def allB : List D → Option (List Bool)
  | [] => some []
  | .bl b :: ds => (allB ds).map (b :: ·)
  | _ => none
def oAll (st : Sto) : List D → Option D
  | [.lst ds] => (allB ds).map fun bs => .bl (bs.all id)
  | _ => none
theorem RDs.allB {m : MM} {H : Hp} : ∀ {ds : List D} {vs : List V} {bs : List Bool}, RDs g m H ds vs → I2.allB ds = some bs → vs = bs.map V.bl
  | _, _, _, .nil, e => by simp only [I2.allB, Option.some.injEq] at e; subst e; rfl
  | _, _, _, .cons (.bl b) rs, e => by
    simp only [I2.allB, Option.map_eq_some_iff] at e
    obtain ⟨bs, e1, rfl⟩ := e
    rw [RDs.allB rs e1]; rfl
  | _, _, _, .cons .non rs, e => by simp [I2.allB] at e
  | _, _, _, .cons (.int _) rs, e => by simp [I2.allB] at e
  | _, _, _, .cons (.str _) rs, e => by simp [I2.allB] at e
  | _, _, _, .cons (.tup _ _) rs, e => by simp [I2.allB] at e
  | _, _, _, .cons (.lst _ _ _) rs, e => by simp [I2.allB] at e
  | _, _, _, .cons (.scr _ _) rs, e => by simp [I2.allB] at e
  | _, _, _, .cons (.dic0 _ _) rs, e => by simp [I2.allB] at e
  | _, _, _, .cons (.dcs _ _ _) rs, e => by simp [I2.allB] at e
  | _, _, _, .cons (.ref _) rs, e => by simp [I2.allB] at e
  | _, _, _, .cons (.exc _ _) rs, e => by simp [I2.allB] at e
theorem one_of {α : Type} {m : MM} {H : Hp} {ds : List D} {vs : List V} {op : List D → Option α} {d : α} (r : RDs g m H ds vs) (e : op ds = some d) (h0 : op [] = none) (h2 : ∀ a b c, op (a :: b :: c) = none) : ∃ x v, ds = [x] ∧ vs = [v] ∧ RD g m H x v := by
  cases r with
  | nil => rw [h0] at e; cases e
  | cons r rs =>
    cases rs with
    | nil => exact ⟨_, _, rfl, rfl, r⟩
    | cons _ _ => rw [h2] at e; cases e
theorem two_of {α : Type} {m : MM} {H : Hp} {ds : List D} {vs : List V} {op : List D → Option α} {d : α} (r : RDs g m H ds vs) (e : op ds = some d) (h0 : op [] = none) (h1 : ∀ a, op [a] = none) (h2 : ∀ a b c r, op (a :: b :: c :: r) = none) :
    ∃ x y v u, ds = [x, y] ∧ vs = [v, u] ∧ RD g m H x v ∧ RD g m H y u := by
  cases r with
  | nil => rw [h0] at e; cases e
  | cons r rs =>
    cases rs with
    | nil => rw [h1] at e; cases e
    | cons r' rs =>
      cases rs with
      | nil => exact ⟨_, _, _, _, rfl, rfl, r, r'⟩
      | cons _ _ => rw [h2] at e; cases e
theorem c_len (hK : X.K = g.K) : CallR X (.builtin "len") (rCs g oLen) := by
  intro pins s σ H xs us Q I r ⟨m, st, ds, d, R, rs, e, q⟩
  obtain ⟨x, v, rfl, rfl, rx⟩ := one_of (op := oLen st) rs e rfl (fun a b c => by cases a <;> rfl)
  cases rx with
  | @tup p ys es hs hr => cases e; exact call_len pins s σ H _ us Q I r ⟨_, es.length, rfl, .inr ⟨ys, by rw [hK]; exact hs, hr.length⟩, q _ m H (.refl _ _) R (.int _)⟩
  | @lst p ys es hs hn hr => cases e; exact call_len pins s σ H _ us Q I r ⟨_, es.length, rfl, .inl ⟨ys, .of hs, hr.length⟩, q _ m H (.refl _ _) R (.int _)⟩
  | @scr p ys es hs hr => cases e; exact call_len pins s σ H _ us Q I r ⟨_, es.length, rfl, .inl ⟨ys, by rw [hK]; exact hs.sq, hr.length⟩, q _ m H (.refl _ _) R (.int _)⟩
  | str x =>
    simp only [oLen] at e
    split at e
    · rename_i hz; cases e; exact call_len pins s σ H _ us Q I r ⟨_, x.length, rfl, ⟨hz, rfl⟩, q _ m H (.refl _ _) R (.int _)⟩
    · cases e
  | @ref i p hp =>
    simp only [oLen] at e
    cases e1 : st[i]? with
    | none => rw [e1] at e; cases e
    | some c =>
      rw [e1] at e
      cases c with
      | dic kvs => cases e
      | gone => cases e
      | lst es =>
        obtain ⟨ys, hx, hr⟩ := R.at i _ p e1 hp
        cases e
        exact call_len pins s σ H _ us Q I r ⟨_, es.length, rfl, .inl ⟨ys, .of hx, hr.length⟩, q _ m H (.refl _ _) R (.int _)⟩
  | _ => cases e
theorem c_abs : CallR X (.builtin "abs") (rCs g fun _ => oAbs) := by
  intro pins s σ H xs us Q I r ⟨m, st, ds, d, R, rs, e, q⟩
  obtain ⟨x, v, rfl, rfl, rx⟩ := one_of (op := oAbs) rs e rfl (fun a b c => by cases a <;> rfl)
  cases rx with
  | int i => cases e; exact call_abs pins s σ H _ us Q I r ⟨i, rfl, q _ m H (.refl _ _) R (.int _)⟩
  | _ => cases e
theorem c_int : CallR X (.type "int") (rCs g fun _ => oInt) := by
  intro pins s σ H xs us Q I r ⟨m, st, ds, d, R, rs, e, q⟩
  obtain ⟨x, v, rfl, rfl, rx⟩ := one_of (op := oInt) rs e rfl (fun a b c => by cases a <;> rfl)
  cases rx with
  | int i => cases e; exact call_int1 pins s σ H _ us Q I r (.inl ⟨i, rfl, q _ m H (.refl _ _) R (.int _)⟩)
  | bl i => cases e; exact call_int1 pins s σ H _ us Q I r (.inr ⟨i, rfl, q _ m H (.refl _ _) R (.int _)⟩)
  | _ => cases e
theorem c_str : CallR X (.type "str") (rCs g fun _ => oStr) := by
  intro pins s σ H xs us Q I r ⟨m, st, ds, d, R, rs, e, q⟩
  obtain ⟨x, v, rfl, rfl, rx⟩ := one_of (op := oStr) rs e rfl (fun a b c => by cases a <;> rfl)
  cases rx with
  | int i =>
    simp only [oStr] at e
    split at e
    · rename_i hz; cases e; exact call_str_int pins s σ H _ us Q I r ⟨i, rfl, hz, q _ m H (.refl _ _) R (.str _)⟩
    · cases e
  | _ => cases e
theorem c_max (hc : X.calm = true) : CallR X (.builtin "max") (rCs g fun _ => oMax) := by
  intro pins s σ H xs us Q I r ⟨m, st, ds, d, R, rs, e, q⟩
  obtain ⟨x, y, v, u, rfl, rfl, rx, ry⟩ := two_of (op := oMax) rs e rfl (fun a => by cases a <;> rfl) (fun a b c r => by cases a <;> cases b <;> rfl)
  cases rx with
  | int i =>
    cases ry with
    | int j => cases e; exact call_max2 hc pins s σ H _ us Q I r ⟨i, j, rfl, q _ m H (.refl _ _) R (.int _)⟩
    | _ => cases e
  | _ => cases ry <;> cases e
theorem c_min (hc : X.calm = true) : CallR X (.builtin "min") (rCs g fun _ => oMin) := by
  intro pins s σ H xs us Q I r ⟨m, st, ds, d, R, rs, e, q⟩
  obtain ⟨x, y, v, u, rfl, rfl, rx, ry⟩ := two_of (op := oMin) rs e rfl (fun a => by cases a <;> rfl) (fun a b c r => by cases a <;> cases b <;> rfl)
  cases rx with
  | int i =>
    cases ry with
    | int j => cases e; exact call_min2 hc pins s σ H _ us Q I r ⟨i, j, rfl, q _ m H (.refl _ _) R (.int _)⟩
    | _ => cases e
  | _ => cases ry <;> cases e
theorem c_all (hc : X.calm = true) : CallR X (.builtin "all") (rCs g oAll) := by
  intro pins s σ H xs us Q I r ⟨m, st, ds, d, R, rs, e, q⟩
  obtain ⟨x, v, rfl, rfl, rx⟩ := one_of (op := oAll st) rs e rfl (fun a b c => by cases a <;> rfl)
  cases rx with
  | @lst p ys es hs hn hr =>
    simp only [oAll, Option.map_eq_some_iff] at e
    obtain ⟨bs, e1, rfl⟩ := e
    exact cr_all hc pins s σ H _ us Q I r ⟨p, bs, rfl, by rw [← hr.allB e1]; exact .of hs, q _ m H (.refl _ _) R (.bl _)⟩
  | _ => cases e
end
end I2
set_option Elab.async false
set_option linter.all false
set_option maxRecDepth 100000
set_option maxHeartbeats 4000000
namespace I2
open PySem PySem.Spec PyProof.Rows L2
inductive Fl where
  | nx | rt (d : D) | bk | ct | ex (c : Str)
abbrev ResS := Option (Fl × DEnv × Sto)
abbrev Sms := DEnv → Sto → ResS
def RIs (g : GX) (EX : XK) (m : MM) (H : Hp) (o : ResS) (De : Ends) : Prop :=
  match o with
  | none => False
  | some (.nx, env', st') => ∀ m' H' σ', Ext m H m' H' → RS g m' H' st' → RE g m' H' env' σ' → De.nx σ' H'
  | some (.bk, env', st') => ∀ m' H' σ', Ext m H m' H' → RS g m' H' st' → RE g m' H' env' σ' → De.bk σ' H'
  | some (.ct, env', st') => ∀ m' H' σ', Ext m H m' H' → RS g m' H' st' → RE g m' H' env' σ' → De.ct σ' H'
  | some (.rt d, _, st') => ∀ m' H' v, Ext m H m' H' → RS g m' H' st' → RD g m' H' d v → De.rt v H'
  | some (.ex c, _, st') => ∀ m' H' C, Ext m H m' H' → RS g m' H' st' → g.cls c = some C → EX (.ref C) none H'
def tIs (g : GX) (EX : XK) (f : Sms) : TS := fun De σ H => ∃ env m st, RE g m H env σ ∧ RS g m H st ∧ RIs g EX m H (f env st) De
theorem RIs.ext {g : GX} {EX : XK} {m m1 : MM} {H H1 : Hp} {o : ResS} {De : Ends} (h : RIs g EX m H o De) (E : Ext m H m1 H1) : RIs g EX m1 H1 o De := by
  cases o with
  | none => exact h
  | some r =>
    obtain ⟨fl, env, st⟩ := r
    cases fl with
    | nx => exact fun m' H' σ' E' => h m' H' σ' (E.trans E')
    | bk => exact fun m' H' σ' E' => h m' H' σ' (E.trans E')
    | ct => exact fun m' H' σ' E' => h m' H' σ' (E.trans E')
    | rt d => exact fun m' H' v E' => h m' H' v (E.trans E')
    | ex c => exact fun m' H' C E' => h m' H' C (E.trans E')
section
variable {X : Cx} {g : GX} {EX : XK} {a b c e : Expr} {es : List Expr} {pos : Pos} {f h k : Sm} {fs : Sma} {t : Smt} {u w : Sms} {st0 : Stmt} {rest : List Stmt}
theorem PS.mono {s : Stmt} {t t' : TS} (p : PS X s t) (hm : ∀ De σ H, t' De σ H → t De σ H) : PS X s t' := fun pins s σ H De I q => p pins s σ H De I (hm De σ H q)
theorem PSs.mono {s : List Stmt} {t t' : TS} (p : PSs X s t) (hm : ∀ De σ H, t' De σ H → t De σ H) : PSs X s t' := fun pins s σ H De I q => p pins s σ H De I (hm De σ H q)
def bndS {α : Type} (f : DEnv → Sto → Res α) (k : α → Sms) : Sms := fun env st =>
  match f env st with
  | none => none
  | some (.ok d, st') => k d env st'
  | some (.ex c, st') => some (.ex c, env, st')
theorem RIs.bnd {α : Type} {m : MM} {H : Hp} {f : DEnv → Sto → Res α} {k : α → Sms} {env : DEnv} {st : Sto} {De : Ends} (q : RIs g EX m H (bndS f k env st) De) :
    RI g EX m H (f env st) fun d m1 H1 st1 => RIs g EX m1 H1 (k d env st1) De := by
  unfold bndS at q
  cases e : f env st with
  | none => rw [e] at q; exact q
  | some r =>
    obtain ⟨o, st1⟩ := r
    rw [e] at q
    cases o with
    | ex c => exact q
    | ok d => exact fun m1 H1 E1 R1 => q.ext E1
def go (fl : Fl) : Sms := fun env st => some (fl, env, st)
def sNop : Sms := go .nx
def sSeq (u w : Sms) : Sms := fun env st =>
  match u env st with
  | some (.nx, env', st') => w env' st'
  | o => o
theorem is_nil : PSs X [] (tIs g EX sNop) := PSs.mono pss_nil fun De σ H ⟨env, m, st, re, R, q⟩ => q m H σ (.refl _ _) R re
theorem is_cons (h1 : PS X st0 (tIs g EX u)) (h2 : PSs X rest (tIs g EX w)) : PSs X (st0 :: rest) (tIs g EX (sSeq u w)) := PSs.mono (pss_cons h1 h2) fun De σ H ⟨env, m, st, re, R, q⟩ => by
  refine ⟨env, m, st, re, R, ?_⟩
  unfold sSeq at q
  cases e : u env st with
  | none => rw [e] at q; exact q
  | some r =>
    obtain ⟨fl, env', st'⟩ := r
    rw [e] at q
    cases fl with
    | nx => exact fun m' H' σ' E' R' re' => ⟨env', m', st', re', R', RIs.ext q E'⟩
    | bk => exact q
    | ct => exact q
    | rt d => exact q
    | ex c => exact q
theorem is_one (h1 : PS X st0 (tIs g EX u)) : PSs X [st0] (tIs g EX u) := pss_one h1
def sRet (f : Sm) : Sms := bndS f fun d => go (.rt d)
theorem is_ret (ha : PE X a (tI g EX f)) : PS X (.Return (some a) pos) (tIs g EX (sRet f)) := PS.mono (ps_ret ha) fun De σ H ⟨env, m, st, re, R, q⟩ =>
  ⟨env, m, st, re, R, q.bnd.mono fun d m1 H1 st1 E1 R1 q v r => q m1 H1 v (.refl _ _) R1 r⟩
def sExp (f : Sm) : Sms := bndS f fun _ => go .nx
def sIf (t : Smt) (u w : Sms) : Sms := bndS t fun b => if b = true then u else w
theorem is_if {ss ss' : List Stmt} (hc : PT X c (tIt g EX t)) (ha : PSs X ss (tIs g EX u)) (hb : PSs X ss' (tIs g EX w)) : PS X (.If c ss ss' pos) (tIs g EX (sIf t u w)) := PS.mono (ps_if hc ha hb) fun De σ H ⟨env, m, st, re, R, q⟩ => by
  refine ⟨env, m, st, re, R, q.bnd.mono fun b m1 H1 st1 E1 R1 q => ?_⟩
  cases b with
  | true => exact iteT ⟨env, m1, st1, re.ext E1, R1, q⟩
  | false => exact iteF ⟨env, m1, st1, re.ext E1, R1, q⟩
def sSet (i : Nat) (f : Sm) : Sms := bndS f fun d => fun env st => some (.nx, env.set i (some d), st)
theorem is_set {i : Nat} {x : Str} {pos' : Pos} (hN : X.N.Nodup) (hi : X.N[i]? = some x) (hx : Loc X.env.scope x) (ha : PE X a (tI g EX f)) (hs : swapsWith a (some (.Name x pos')) pos.line X.env = pure false := by rfl)
    (hf : X.fn x = true ∨ X.env.scope.names.lookup x = some .local := by first | exact .inl rfl | exact .inr rfl | assumption) : PS X (.Assign [.Name x pos'] a pos) (tIs g EX (sSet i f)) :=
  PS.mono (ps_set hN hi hx ha hs hf) fun De σ H ⟨env, m, st, re, R, q⟩ =>
    ⟨env, m, st, re, R, q.bnd.mono fun d m1 H1 st1 E1 R1 q v r => q m1 H1 _ (.refl _ _) R1 ((re.ext E1).set r i)⟩
abbrev Bd := D → DEnv → Option DEnv
def tIg (g : GX) (b : Bd) : TG := fun v σ H Q => ∃ env m st d env', RE g m H env σ ∧ RS g m H st ∧ RD g m H d v ∧ b d env = some env' ∧ ∀ σ', RE g m H env' σ' → Q σ' H
def bName (i : Nat) : Bd := fun d env => some (env.set i (some d))
theorem PG.mono {e : Expr} {t t' : TG} (p : PG X e t) (hm : ∀ v σ H Q, t' v σ H Q → t v σ H Q) : PG X e t' := fun pins s σ H v u Q I r q => p pins s σ H v u Q I r (hm v σ H Q q)
theorem ig_name {i : Nat} {x : Str} (p : PG X (.Name x pos) (gName i)) : PG X (.Name x pos) (tIg g (bName i)) := PG.mono p fun v σ H Q ⟨env, m, st, d, env', re, R, r, e, q⟩ => by
  cases e
  exact q _ (re.set r i)
def setAll {α : Type} : List Nat → List α → List (Option α) → List (Option α)
  | i :: is, d :: ds, env => setAll is ds (env.set i (some d))
  | _, _, env => env
def gNames : List Nat → TGs
  | [] => gNil
  | i :: is => gCons (gName i) (gNames is)
theorem gNames_of {is : List Nat} : ∀ {vs : List V} {σ : L2.St} {H : Hp} {Q : L2.St → Hp → Prop}, vs.length = is.length → Q (setAll is vs σ) H → gNames is vs σ H Q := by
  induction is with
  | nil =>
    intro vs σ H Q hl q
    cases vs with
    | nil => exact ⟨rfl, q⟩
    | cons _ _ => cases hl
  | cons i is ih =>
    intro vs σ H Q hl q
    cases vs with
    | nil => cases hl
    | cons v vs => exact ⟨v, vs, rfl, ih (by simpa using hl) q⟩
theorem RE.setAll {m : MM} {H : Hp} : ∀ {is : List Nat} {ds : List D} {vs : List V} {env : DEnv} {σ : L2.St}, RE g m H env σ → RDs g m H ds vs → RE g m H (I2.setAll is ds env) (I2.setAll is vs σ)
  | [], _, _, _, _, re, _ => re
  | _ :: _, _, _, _, _, re, .nil => re
  | i :: is, _, _, _, _, re, .cons r rs => RE.setAll (is := is) (re.set r i) rs
def bTup (is : List Nat) : Bd := fun d env => match d with
  | .tup ds => if ds.length = is.length then some (setAll is ds env) else none
  | _ => none
theorem ig_tup {is : List Nat} {k : Nat} (hK : X.K = g.K) (hc : X.calm = true) (p : PGs X es (gNames is)) (hn : (assignEach es X.env).length = is.length := by rfl) (hst : (assignEach es X.env).findIdx? (·.1) = none := by rfl) : PG X (.Tuple es k pos) (tIg g (bTup is)) :=
  PG.mono (pg_tup hc p hn hst) fun v σ H Q ⟨env, m, st, d, env', re, R, r, e, q⟩ => by
    cases r with
    | @tup p xs ds hs hr =>
      simp only [bTup] at e
      split at e
      · rename_i hl
        cases e
        exact ⟨p, xs, rfl, by rw [hK]; exact hs, by rw [← hr.length]; exact hl, gNames_of (by rw [← hr.length]; exact hl) (q _ (re.setAll hr))⟩
      · cases e
    | _ => cases e
def sAsg (b : Bd) (f : Sm) : Sms := bndS f fun d => fun env st => (b d env).map fun env' => (.nx, env', st)
theorem is_asg {tg : Expr} {bd : Bd} (ha : PE X a (tI g EX f)) (hg : PG X tg (tIg g bd)) (hs : swapsWithSole [tg] a pos.line X.env = pure false := by rfl) (hw : swappedStores [tg] a X.env = pure none := by rfl)
    (h1 : (assignEach [tg] X.env).map (·.2) = [assign tg X.env] := by rfl) : PS X (.Assign [tg] a pos) (tIs g EX (sAsg bd f)) := PS.mono (ps_asg ha hg hs hw h1) fun De σ H ⟨env, m, st, re, R, q⟩ =>
  ⟨env, m, st, re, R, q.bnd.mono fun d m1 H1 st1 E1 R1 q v r => by
    cases e : bd d env with
    | none => rw [e] at q; exact q.elim
    | some env' => rw [e] at q; exact ⟨env, m1, st1, d, env', re.ext E1, R1, r, e, fun σ' re' => q m1 H1 σ' (.refl _ _) R1 re'⟩⟩
def sPar (i j : Nat) (fs : Sma) : Sms := bndS fs fun ds => fun env st => match ds with
  | [x, y] => some (.nx, (env.set i (some x)).set j (some y), st)
  | _ => none
theorem is_par {i j : Nat} {x y : Str} {px py pt : Pos} {kt k2 pt2} (hc : X.calm = true) (hN : X.N.Nodup) (hi : X.N[i]? = some x) (hj : X.N[j]? = some y) (hij : i ≠ j)
    (hx : X.env.scope.names.lookup x = some .local) (hy : X.env.scope.names.lookup y = some .local) (ha : PA X [a, b] (tIa g EX fs))
    (hw : swappedStores [.Tuple [.Name x px, .Name y py] kt pt] (.Tuple [a, b] k2 pt2) X.env = pure (some [x, y]))
    (hs : swapsWithSole [.Tuple [.Name x px, .Name y py] kt pt] (.Tuple [a, b] k2 pt2) pos.line X.env = pure false := by rfl) :
    PS X (.Assign [.Tuple [.Name x px, .Name y py] kt pt] (.Tuple [a, b] k2 pt2) pos) (tIs g EX (sPar i j fs)) := PS.mono (ps_par hc hN hi hj hij hx hy ha hw hs) fun De σ H ⟨env, m, st, re, R, q⟩ =>
  ⟨env, m, st, re, R, q.bnd.mono fun ds m1 H1 st1 E1 R1 q vs r => by
    cases r with
    | nil => exact q.elim
    | cons r rs =>
      cases rs with
      | nil => exact q.elim
      | cons r' rs =>
        cases rs with
        | nil => exact ⟨_, _, rfl, q m1 H1 _ (.refl _ _) R1 (((re.ext E1).set r i).set r' j)⟩
        | cons _ _ => exact q.elim⟩
def sPut (f h k : Sm) : Sms := bndS f fun v => bndS h fun o => bndS k fun j => fun env st => match o, j with
  | .ref i, .int z => match st[i]? with
    | some (.lst ds) => match ixN ds.length z with
      | some n => some (.nx, env, st.set i (.lst (ds.set n v)))
      | none => none
    | _ => none
  | _, _ => none
theorem is_put {o i : Expr} {spos : Pos} (ha : PE X a (tI g EX f)) (ho : PE X o (tI g EX h)) (hi : PE X i (tI g EX k))
    (hq : ∀ v, assign (.Subscript o i spos) X.env v = (do
      let ov ← holding [v] (eval o X.env)
      let iv ← holding [v, ov] (eval i X.env)
      standAt spos
      holding [v, ov, iv] (setItem ov iv v)
      release [v, ov, iv] []) := by intro _; rfl)
    (hs : swapsWithSole [.Subscript o i spos] a pos.line X.env = pure false := by rfl) (hw : swappedStores [.Subscript o i spos] a X.env = pure none := by rfl)
    (h1 : (assignEach [.Subscript o i spos] X.env).map (·.2) = [assign (.Subscript o i spos) X.env] := by rfl) : PS X (.Assign [.Subscript o i spos] a pos) (tIs g EX (sPut f h k)) :=
  PS.mono (ps_asg ha (pg_sub ho hi set_list hq) hs hw h1) fun De σ H ⟨env, m, st, re, R, q⟩ => by
    refine ⟨env, m, st, re, R, q.bnd.mono fun dv m1 H1 st1 E1 R1 q v1 r1 => ?_⟩
    refine ⟨env, m1, st1, re.ext E1, R1, q.bnd.mono fun do2 m2 H2 st2 E2 R2 q v2 r2 => ?_⟩
    refine ⟨env, m2, st2, (re.ext E1).ext E2, R2, q.bnd.mono fun di m3 H3 st3 E3 R3 q v3 r3 => ?_⟩
    have r1 := (r1.ext E2).ext E3
    have re3 := ((re.ext E1).ext E2).ext E3
    have r2 := r2.ext E3
    cases r2 with
    | @ref n p hp =>
      cases r3 with
      | int z =>
        dsimp only at q
        cases e1 : st3[n]? with
        | none => rw [e1] at q; exact q.elim
        | some cl =>
          rw [e1] at q
          cases cl with
          | dic kvs => exact q.elim
          | gone => exact q.elim
          | lst ds =>
            obtain ⟨xs, hx, hr⟩ := R3.at n _ p e1 hp
            dsimp only at q
            cases e2 : ixN ds.length z with
            | none => rw [e2] at q; exact q.elim
            | some j =>
              rw [e2] at q
              exact ⟨p, xs, z, j, rfl, rfl, hx, by rw [← hr.length]; exact e2, q m3 _ σ (Ext.put R3 hp (R3.lv _ _ _ e1 hp (by simp))) (R3.putL hp (R3.lv _ _ _ e1 hp (by simp)) (hr.set r1 j)) (re3.ext (Ext.put R3 hp (R3.lv _ _ _ e1 hp (by simp))))⟩
      | _ => exact q.elim
    | _ => cases r3 <;> exact q.elim
def iterW (t : Smt) (u : Sms) : Nat → Sms
  | 0 => fun _ _ => none
  | n + 1 => bndS t fun b => if b = true then (fun env st => match u env st with
      | some (.nx, env', st') => iterW t u n env' st'
      | some (.ct, env', st') => iterW t u n env' st'
      | some (.bk, env', st') => some (.nx, env', st')
      | o => o) else go .nx
open Classical in
noncomputable def sWhile (t : Smt) (u : Sms) : Sms := fun env st => if h : ∃ n, (iterW t u n env st).isSome then iterW t u h.choose env st else none
theorem iterW_mono {t : Smt} {u : Sms} : ∀ {n k : Nat} {env : DEnv} {st : Sto} {r : Fl × DEnv × Sto}, iterW t u n env st = some r → n ≤ k → iterW t u k env st = some r
  | 0, _, _, _, _, h, _ => by cases h
  | n + 1, 0, _, _, _, _, h => by omega
  | n + 1, k + 1, env, st, r, h, hk => by
    unfold iterW bndS at h ⊢
    cases e : t env st with
    | none => rw [e] at h; cases h
    | some o =>
      obtain ⟨o, st'⟩ := o
      rw [e] at h
      cases o with
      | ex c => exact h
      | ok b =>
        cases b with
        | false => exact h
        | true =>
          simp only [if_true] at h ⊢
          cases e2 : u env st' with
          | none => rw [e2] at h; cases h
          | some r2 =>
            obtain ⟨fl, env2, st2⟩ := r2
            rw [e2] at h
            cases fl with
            | nx => exact iterW_mono (n := n) h (by omega)
            | ct => exact iterW_mono (n := n) h (by omega)
            | bk => exact h
            | rt d => exact h
            | ex c => exact h
theorem sWhile_of {t : Smt} {u : Sms} {n : Nat} {env : DEnv} {st : Sto} {r : Fl × DEnv × Sto} (h : iterW t u n env st = some r) : sWhile t u env st = some r := by
  have hex : ∃ n, (iterW t u n env st).isSome := ⟨n, by rw [h]; rfl⟩
  unfold sWhile
  rw [dif_pos hex]
  have h2 := hex.choose_spec
  cases e : iterW t u hex.choose env st with
  | none => rw [e] at h2; cases h2
  | some r' =>
    have a1 := iterW_mono e (Nat.le_max_left hex.choose n)
    have a2 := iterW_mono h (Nat.le_max_right hex.choose n)
    rw [a1] at a2
    exact a2
theorem sWhile_iff {t : Smt} {u : Sms} {env : DEnv} {st : Sto} {r : Fl × DEnv × Sto} (h : sWhile t u env st = some r) : ∃ n, iterW t u n env st = some r := by
  unfold sWhile at h
  split at h
  · rename_i hex; exact ⟨_, h⟩
  · cases h
theorem is_while {body : List Stmt} (hp : PassesOwn (model X.prog X.w) X.A X.env X.xe) (hc : PT X c (tIt g EX t)) (hb : PSs X body (tIs g EX u)) : PS X (.While c body [] pos) (tIs g EX (sWhile t u)) :=
  PS.mono (ps_while hp hc hb) fun De σ H ⟨env, m, st, re, R, q⟩ => by
    cases e : sWhile t u env st with
    | none => rw [e] at q; exact q.elim
    | some r =>
      rw [e] at q
      obtain ⟨n, e⟩ := sWhile_iff e
      refine ⟨fun n σ1 H1 => ∃ env1 m1 st1, RE g m1 H1 env1 σ1 ∧ RS g m1 H1 st1 ∧ RIs g EX m1 H1 (iterW t u n env1 st1) De, ⟨n, env, m, st, re, R, by rw [e]; exact q⟩, ?_⟩
      rintro n σ1 H1 ⟨env1, m1, st1, re1, R1, q1⟩
      cases n with
      | zero => exact q1.elim
      | succ n =>
        refine ⟨env1, m1, st1, re1, R1, ?_⟩
        unfold iterW at q1
        refine RI.mono q1.bnd fun b m2 H2 st2 E2 R2 q2 => ?_
        cases b with
        | false => exact iteF (q2 m2 H2 σ1 (.refl _ _) R2 (re1.ext E2))
        | true =>
          refine iteT ⟨fun σ' H' => ∃ env1 m1 st1, RE g m1 H' env1 σ' ∧ RS g m1 H' st1 ∧ RIs g EX m1 H' (iterW t u n env1 st1) De, fun σ' H' hn => ⟨n, Nat.lt_succ_self n, hn⟩, env1, m2, st2, re1.ext E2, R2, ?_⟩
          simp only [if_true] at q2
          cases e2 : u env1 st2 with
          | none => rw [e2] at q2; exact q2
          | some r2 =>
            obtain ⟨fl, env3, st3⟩ := r2
            rw [e2] at q2
            cases fl with
            | nx => exact fun m' H' σ' E' R' re' => ⟨env3, m', st3, re', R', RIs.ext q2 E'⟩
            | ct => exact fun m' H' σ' E' R' re' => ⟨env3, m', st3, re', R', RIs.ext q2 E'⟩
            | bk => exact q2
            | rt d => exact q2
            | ex c => exact q2
def forL (bd : Bd) (u : Sms) : List D → Sms
  | [] => go .nx
  | d :: ds => fun env st => match bd d env with
    | none => none
    | some env1 => match u env1 st with
      | some (.nx, env', st') => forL bd u ds env' st'
      | some (.ct, env', st') => forL bd u ds env' st'
      | some (.bk, env', st') => some (.nx, env', st')
      | o => o
theorem forL_step {bd : Bd} {d : D} {ds : List D} {env : DEnv} {st : Sto} {m : MM} {H : Hp} {σ : L2.St} {v : V} {De : Ends} {N : L2.St → Hp → Prop} (re : RE g m H env σ) (R : RS g m H st) (r : RD g m H d v) (q : RIs g EX m H (forL bd u (d :: ds) env st) De)
    (hN : ∀ env' m' st' H' σ', Ext m H m' H' → RE g m' H' env' σ' → RS g m' H' st' → RIs g EX m' H' (forL bd u ds env' st') De → N σ' H') :
    tIg g bd v σ H fun σ2 H2 => tIs g EX u { De with nx := N, ct := N, bk := De.nx } σ2 H2 := by
  unfold forL at q
  cases e : bd d env with
  | none => rw [e] at q; exact q.elim
  | some env1 =>
    rw [e] at q
    refine ⟨env, m, st, d, env1, re, R, r, e, fun σ' re' => ⟨env1, m, st, re', R, ?_⟩⟩
    dsimp only at q
    cases e2 : u env1 st with
    | none => rw [e2] at q; exact q
    | some r2 =>
      obtain ⟨fl, env3, st3⟩ := r2
      rw [e2] at q
      cases fl with
      | nx => exact fun m' H' σ' E' R' re' => hN env3 m' st3 H' σ' E' re' R' (RIs.ext q E')
      | ct => exact fun m' H' σ' E' R' re' => hN env3 m' st3 H' σ' E' re' R' (RIs.ext q E')
      | bk => exact q
      | rt d => exact q
      | ex c => exact q
def seqOf : D → Option (List D)
  | .tup ds => some ds
  | .lst ds => some ds
  | .scr ds => some ds
  | _ => none
def iSeq (K : PySem.W.Frag) (tl : TE) : TI := fun σ H R => tl σ H fun x H1 => ∃ a, x = .ref a ∧ (((∃ xs, SqL K H1 a xs) ∧ R (Itl K a) H1) ∨ ((∃ xs, SqT K H1 a xs) ∧ R (Itt K a) H1))
theorem pi_seq {tg l : Expr} {tl : TE} (hl : PE X l tl) : PI X tg l (iSeq X.K tl) := by
  intro pins s σ H R I h
  refine thn (hl pins s σ H _ I h) fun v s1 ⟨x, H1, I1, r1, q1⟩ => ?_
  obtain ⟨a, e, q1⟩ := q1
  subst e
  cases r1
  rcases q1 with ⟨⟨xs, hq⟩, q⟩ | ⟨⟨xs, hq⟩, q⟩
  · obtain ⟨its, rv, p, hz⟩ := I1.list hq
    refine wpAny_pyIter_list p.isList ?_
    refine ⟨s1.heap.objs.size, [s1.heap.objs.size], _, _, H1, rfl, I1.kept (t' := s1.toks) fun b o e => Heap.get?_push_of_some _ e, turn_list a _, ⟨_, Heap.get?_push_size _ rfl, rfl, rfl⟩, fun b hb => ?_, q⟩
    have e : b = s1.heap.objs.size := by simpa using hb
    subst e
    exact I1.fpOk (Nat.le_refl _) (I1.hok.fresh (Nat.le_refl _))
  · obtain ⟨its, rv, p, hz⟩ := I1.tuple hq
    refine wpAny_pyIter_tuple (show s1.heap.IsTuple a its.toArray from p) ?_
    refine ⟨s1.heap.objs.size, [s1.heap.objs.size], _, _, H1, rfl, I1.kept (t' := s1.toks) fun b o e => Heap.get?_push_of_some _ e, turn_tuple a _, ⟨_, Heap.get?_push_size _ rfl, rfl, rfl⟩, fun b hb => ?_, q⟩
    have e : b = s1.heap.objs.size := by simpa using hb
    subst e
    exact I1.fpOk (Nat.le_refl _) (I1.hok.fresh (Nat.le_refl _))
def sFor (bd : Bd) (f : Sm) (u : Sms) : Sms := bndS f fun d => bndS (lift (seqOf d)) fun ds => forL bd u ds
theorem drop_cons {α : Type} {xs : List α} {i : Nat} {x : α} (h : xs[i]? = some x) : xs.drop i = x :: xs.drop (i + 1) := by
  obtain ⟨hl, rfl⟩ := List.getElem?_eq_some_iff.mp h
  exact List.drop_eq_getElem_cons hl
theorem is_for {tg : Expr} {bd : Bd} {body : List Stmt} (hK : X.K = g.K) (hp : PassesOwn (model X.prog X.w) X.A X.env X.xe) (hc : X.calm = true) (ha : PE X a (tI g EX f)) (hg : PG X tg (tIg g bd)) (hb : PSs X body (tIs g EX u))
    (hs : ∀ x, foldedSetIterable a X.env x = pure x := by intro _; rfl) : PS X (.For tg a body [] pos) (tIs g EX (sFor bd f u)) :=
  PS.mono (ps_for hp hc (pi_seq ha) hg hb hs) fun De σ H ⟨env, m, st, re, R, q⟩ => by
    refine ⟨env, m, st, re, R, q.bnd.mono fun d m1 H1 st1 E1 R1 q v r => ?_⟩
    obtain ⟨ds, e, q⟩ := q.bnd.lift
    have q := q m1 H1 (.refl _ _) R1
    rw [hK]
    cases r with
    | @tup p xs es hs hr =>
      cases e
      refine ⟨p, rfl, .inr ⟨⟨xs, hs⟩, for_tup (K := g.K) (a := p) (xs := xs) (fun i σ2 H2 => ∃ env2 m2 st2, Ext m1 H1 m2 H2 ∧ RE g m2 H2 env2 σ2 ∧ RS g m2 H2 st2 ∧ RIs g EX m2 H2 (forL bd u (ds.drop i) env2 st2) De)
        ⟨env, m1, st1, .refl _ _, re.ext E1, R1, q⟩ (fun i σ2 H2 _ ⟨env2, m2, st2, E2, _⟩ => E2.sqT hs) ?_ ?_⟩⟩
      · rintro i x σ2 H2 hi ⟨env2, m2, st2, E2, re2, R2, q2⟩
        obtain ⟨d, hd, rd⟩ := hr.get' hi
        rw [drop_cons hd] at q2
        exact forL_step re2 R2 (rd.ext E2) q2 fun env' m' st' H' σ' E' re' R' q' => ⟨env', m', st', E2.trans E', re', R', q'⟩
      · rintro σ2 H2 ⟨env2, m2, st2, E2, re2, R2, q2⟩
        rw [← hr.length, List.drop_length] at q2
        exact q2 m2 H2 σ2 (.refl _ _) R2 re2
    | @lst p xs es hs hn hr =>
      cases e
      refine ⟨p, rfl, .inl ⟨⟨xs, .of hs⟩, for_list (K := g.K) (a := p) (xs := xs) (fun i σ2 H2 => ∃ env2 m2 st2, Ext m1 H1 m2 H2 ∧ RE g m2 H2 env2 σ2 ∧ RS g m2 H2 st2 ∧ RIs g EX m2 H2 (forL bd u (ds.drop i) env2 st2) De)
        ⟨env, m1, st1, .refl _ _, re.ext E1, R1, q⟩ (fun i σ2 H2 _ ⟨env2, m2, st2, E2, _⟩ => .of (E2.lst _ _ hs hn).1) ?_ ?_⟩⟩
      · rintro i x σ2 H2 hi ⟨env2, m2, st2, E2, re2, R2, q2⟩
        obtain ⟨d, hd, rd⟩ := hr.get' hi
        rw [drop_cons hd] at q2
        exact forL_step re2 R2 (rd.ext E2) q2 fun env' m' st' H' σ' E' re' R' q' => ⟨env', m', st', E2.trans E', re', R', q'⟩
      · rintro σ2 H2 ⟨env2, m2, st2, E2, re2, R2, q2⟩
        rw [← hr.length, List.drop_length] at q2
        exact q2 m2 H2 σ2 (.refl _ _) R2 re2
    | @scr p xs es hs hr =>
      cases e
      refine ⟨p, rfl, .inl ⟨⟨xs, hs.sq⟩, for_list (K := g.K) (a := p) (xs := xs) (fun i σ2 H2 => ∃ env2 m2 st2, Ext m1 H1 m2 H2 ∧ RE g m2 H2 env2 σ2 ∧ RS g m2 H2 st2 ∧ RIs g EX m2 H2 (forL bd u (ds.drop i) env2 st2) De)
        ⟨env, m1, st1, .refl _ _, re.ext E1, R1, q⟩ (fun i σ2 H2 _ ⟨env2, m2, st2, E2, _⟩ => (E2.sf hs).sq) ?_ ?_⟩⟩
      · rintro i x σ2 H2 hi ⟨env2, m2, st2, E2, re2, R2, q2⟩
        obtain ⟨d, hd, rd⟩ := hr.get' hi
        rw [drop_cons hd] at q2
        exact forL_step re2 R2 (rd.ext E2) q2 fun env' m' st' H' σ' E' re' R' q' => ⟨env', m', st', E2.trans E', re', R', q'⟩
      · rintro σ2 H2 ⟨env2, m2, st2, E2, re2, R2, q2⟩
        rw [← hr.length, List.drop_length] at q2
        exact q2 m2 H2 σ2 (.refl _ _) R2 re2
    | _ => cases e
def rngL (lo : Int) : Nat → List D
  | 0 => []
  | n + 1 => .int lo :: rngL (lo + 1) n
theorem rngL_drop (lo : Int) (n i : Nat) (h : i < n) : (rngL lo n).drop i = .int (lo + i) :: (rngL lo n).drop (i + 1) := by
  induction n generalizing lo i with
  | zero => omega
  | succ n ih =>
    cases i with
    | zero => simp [rngL]
    | succ i =>
      show (rngL (lo + 1) n).drop i = _
      rw [ih (lo + 1) i (by omega)]
      have e : lo + 1 + (i : Int) = lo + ((i + 1 : Nat) : Int) := by omega
      rw [e]; rfl
theorem rngL_length (lo : Int) (n : Nat) : (rngL lo n).length = n := by
  induction n generalizing lo with
  | zero => rfl
  | succ n ih => simp [rngL, ih]
def rngOf : List D → Option (List D)
  | [.int j] => if -(2 ^ 62) ≤ j ∧ j < 2 ^ 62 then some (rngL 0 j.toNat) else none
  | _ => none
def sForR (bd : Bd) (fs : Sma) (u : Sms) : Sms := bndS fs fun ds => bndS (lift (rngOf ds)) fun ds => forL bd u ds
theorem is_forR {tg : Expr} {bd : Bd} {body : List Stmt} {p p' : Pos} (hp : PassesOwn (model X.prog X.w) X.A X.env X.xe) (hc : X.calm = true) (hgl : Gl X "range") (hmg : X.mg "range" = none) (ha : PA X [a] (tIa g EX fs)) (hg : PG X tg (tIg g bd)) (hb : PSs X body (tIs g EX u))
    (hst : starEach [a] X.env = [(false, eval a X.env)] := by rfl) (hs : ∀ x, foldedSetIterable (.Call (.Name "range" p) [a] [] p') X.env x = pure x := by intro _; rfl) : PS X (.For tg (.Call (.Name "range" p) [a] [] p') body [] pos) (tIs g EX (sForR bd fs u)) :=
  PS.mono (ps_for hp hc (pi_range1 hgl hmg ha hst) hg hb hs) fun De σ H ⟨env, m, st, re, R, q⟩ => by
    refine ⟨env, m, st, re, R, q.bnd.mono fun d m1 H1 st1 E1 R1 q v r => ?_⟩
    obtain ⟨ds, e, q⟩ := q.bnd.lift
    have q := q m1 H1 (.refl _ _) R1
    obtain ⟨x, v, rfl, rfl, rx⟩ := one_of (op := rngOf) r e rfl (fun a b c => by cases a <;> rfl)
    cases rx with
    | int j =>
      simp only [rngOf] at e
      split at e
      · rename_i hj
        cases e
        refine ⟨j, rfl, hj.1, hj.2, for_range (lo := 0) (n := j.toNat) (fun i σ2 H2 => ∃ env2 m2 st2, Ext m1 H1 m2 H2 ∧ RE g m2 H2 env2 σ2 ∧ RS g m2 H2 st2 ∧ RIs g EX m2 H2 (forL bd u ((rngL 0 j.toNat).drop i) env2 st2) De)
          ⟨env, m1, st1, .refl _ _, re.ext E1, R1, q⟩ ?_ ?_⟩
        · rintro i σ2 H2 hi ⟨env2, m2, st2, E2, re2, R2, q2⟩
          rw [rngL_drop 0 _ i hi] at q2
          exact forL_step re2 R2 (.int _) q2 fun env' m' st' H' σ' E' re' R' q' => ⟨env', m', st', E2.trans E', re', R', q'⟩
        · rintro σ2 H2 ⟨env2, m2, st2, E2, re2, R2, q2⟩
          rw [List.drop_eq_nil_of_le (by rw [rngL_length]; exact Nat.le_refl _)] at q2
          exact q2 m2 H2 σ2 (.refl _ _) R2 re2
      · cases e
    | _ => cases e
end
end I2
set_option Elab.async false
set_option linter.all false
set_option maxRecDepth 100000
set_option maxHeartbeats 4000000
namespace I2
open PySem PySem.Spec PyProof.Rows L2
theorem wipe_get (σ : L2.St) (vs : List Nat) (j : Nat) : (wipe σ vs)[j]? = if j ∈ vs then (if j < σ.length then some none else none) else σ[j]? := by
  induction vs with
  | nil => simp [wipe]
  | cons v vs ih =>
    unfold wipe
    by_cases hv : j = v
    · subst hv
      by_cases hl : j < σ.length
      · rw [List.getElem?_set_self (by rw [wipe_length]; exact hl)]; simp [hl]
      · rw [List.getElem?_eq_none (by rw [List.length_set, wipe_length]; omega)]; simp [hl]
    · rw [List.getElem?_set_ne (Ne.symm hv), ih]; simp [hv]
theorem wipe_idem (σ : L2.St) (vs : List Nat) : wipe (wipe σ vs) vs = wipe σ vs := by
  refine List.ext_getElem? fun j => ?_
  rw [wipe_get, wipe_get, wipe_length]
  split <;> simp_all
theorem wipe_set (σ : L2.St) (vs : List Nat) (i : Nat) (x : Option V) (h : i ∈ vs) : wipe (σ.set i x) vs = wipe σ vs := by
  refine List.ext_getElem? fun j => ?_
  rw [wipe_get, wipe_get, List.length_set]
  by_cases hj : j ∈ vs
  · rw [if_pos hj, if_pos hj]
  · rw [if_neg hj, if_neg hj, List.getElem?_set_ne (fun (e : i = j) => hj (e ▸ h))]
theorem wipe_setAll (vs : List Nat) : ∀ (is : List Nat) (xs : List V) (σ : L2.St), (∀ i ∈ is, i ∈ vs) → wipe (setAll is xs σ) vs = wipe σ vs
  | [], _, _, _ => rfl
  | i :: is, [], _, _ => rfl
  | i :: is, x :: xs, σ, h => by
    unfold setAll
    rw [wipe_setAll vs is xs _ fun j hj => h j (List.mem_cons_of_mem _ hj), wipe_set σ vs i _ (h i List.mem_cons_self)]
def wipeD (env : DEnv) : List Nat → DEnv
  | [] => env
  | v :: vs => (wipeD env vs).set v none
theorem RE.unset' {g : GX} {m : MM} {H : Hp} {env : DEnv} {σ : L2.St} (re : RE g m H env σ) (i : Nat) : RE g m H (env.set i none) (σ.set i none) := by
  refine ⟨by simp [re.len], fun j d e => ?_⟩
  by_cases hj : j = i
  · subst hj
    by_cases hl : j < env.length
    · rw [List.getElem?_set_self hl] at e; cases e
    · rw [List.getElem?_eq_none (by simpa using hl)] at e; cases e
  · rw [List.getElem?_set_ne (Ne.symm hj)] at e ⊢
    exact re.get j d e
theorem RE.wipe {g : GX} {m : MM} {H : Hp} {env : DEnv} {σ : L2.St} (re : RE g m H env σ) : ∀ vs : List Nat, RE g m H (wipeD env vs) (L2.wipe σ vs)
  | [] => re
  | v :: vs => (RE.wipe re vs).unset' v
inductive Tgt where
  | name (i : Nat)
  | tup (is : List Nat)
def Tgt.tg (K : PySem.W.Frag) : Tgt → TG
  | .name i => gName i
  | .tup is => gTup K is.length (gNames is)
def Tgt.bd : Tgt → Bd
  | .name i => bName i
  | .tup is => bTup is
def Tgt.all (vs : List Nat) : Tgt → Prop
  | .name i => i ∈ vs
  | .tup is => ∀ i ∈ is, i ∈ vs
theorem Tgt.run {g : GX} {m : MM} {H : Hp} {env env' : DEnv} {σ : L2.St} {d : D} {v : V} {Q : L2.St → Hp → Prop} {vs : List Nat} (T : Tgt) (re : RE g m H env σ) (r : RD g m H d v) (e : T.bd d env = some env') (ha : T.all vs) (q : ∀ σ', RE g m H env' σ' → wipe σ' vs = wipe σ vs → Q σ' H) : T.tg g.K v σ H Q := by
  cases T with
  | name i => cases e; exact q _ (re.set r i) (wipe_set σ vs i _ ha)
  | tup is =>
    cases r with
    | @tup p xs ds hs hr =>
      simp only [Tgt.bd, bTup] at e
      split at e
      · rename_i hl
        cases e
        exact ⟨p, xs, rfl, hs, by rw [← hr.length]; exact hl, gNames_of (by rw [← hr.length]; exact hl) (q _ (re.setAll hr) (wipe_setAll vs is xs σ ha))⟩
      · cases e
    | _ => cases e
def compL (bd : Bd) (t : Smt) (h : Sm) (env : DEnv) : List D → Sto → Option (List D × Sto)
  | [], st => some ([], st)
  | d :: ds, st => match bd d env with
    | none => none
    | some env1 => match t env1 st with
      | some (.ok true, st1) => match h env1 st1 with
        | some (.ok y, st2) => (compL bd t h env ds st2).map fun r => (y :: r.1, r.2)
        | _ => none
      | some (.ok false, st1) => compL bd t h env ds st1
      | _ => none
def compR (T : Tgt) (t : Smt) (h : Sm) (vs : List Nat) (ds : List D) : Sm := fun env st => match compL T.bd t h (wipeD env vs) ds st with
  | some (ys, st') => if small ys then some (.ok (.lst ys), st') else none
  | none => none
def sComp (T : Tgt) (f : Sm) (t : Smt) (h : Sm) (vs : List Nat) : Sm := bnd f fun d => bnd (lift (seqOf d)) fun ds => compR T t h vs ds
section
variable {g : GX} {m m1 m2 m4 : MM} {H H1 H4 : Hp} {st : Sto} {D' : Addr}
theorem RS.fill (R : RS g m H st) (hp : H D' = none) : RS g (m.fill D') (upd H D' (.lst [])) st := by
  have e0 : Ext0 m H (m.fill D') (upd H D' (.lst [])) := ⟨⟨[], by simp [MM.fill]⟩, fun _ _ h => upd_keep hp h, fun _ _ _ h => upd_keep hp h, fun b _ h n => ⟨upd_keep hp h, n.1, fun z => (List.mem_cons.mp z).elim (fun z => ne_of_none h hp z) n.2⟩,
    fun b _ h n => ⟨upd_keep hp h, n.1, fun z => (List.mem_cons.mp z).elim (fun z => ne_of_none h hp z) n.2⟩, fun _ _ h => upd_keep hp h⟩
  refine ⟨R.len, R.nd, fun i c a h1 h2 => ?_, fun a ha => ?_, fun a ha hv => ?_, R.lv, fun a ha => ⟨fun z => ?_, (R.dd a ha).2.imp fun xs q => upd_keep hp q⟩⟩
  · have := R.at i c a h1 h2
    cases c with
    | lst ds => obtain ⟨xs, q, r⟩ := this; exact ⟨xs, upd_keep hp q, r.ext0 e0⟩
    | dic kvs => obtain ⟨ys, q, e, r⟩ := this; exact ⟨ys, upd_keep hp q, e, r.ext0 e0⟩
    | gone => obtain ⟨xs, q⟩ := this; exact ⟨xs, upd_keep hp q⟩
  · rcases List.mem_cons.mp ha with rfl | ha
    · exact ⟨[], upd_same⟩
    · obtain ⟨xs, q⟩ := R.vol a ha; exact ⟨xs, upd_keep hp q⟩
  · rcases List.mem_cons.mp hv with rfl | hv
    · exact R.fresh hp ha
    · exact R.disj a ha hv
  · rcases List.mem_cons.mp z with rfl | z
    · exact R.undead hp ha
    · exact (R.dd a ha).1 z
theorem Ext0.filled {xs ys : List V} (hD : H D' = some (.lst xs)) : Ext0 (m.fill D') H (m.fill D') (upd H D' (.lst ys)) := by
  have ne : ∀ b u, H b = some u → u ≠ .lst xs → upd H D' (.lst ys) b = some u := fun b u h n => by
    rw [upd_ne]; exact h
    rintro rfl; rw [hD] at h; exact n (Option.some.inj h).symm
  refine ⟨⟨[], by simp⟩, fun b _ h => ne b _ h (fun z => nomatch z), fun b _ _ h => ne b _ h (fun z => nomatch z), fun b zs h n => ⟨?_, n⟩, fun b _ h n => ⟨ne b _ h (fun z => nomatch z), n⟩, fun b _ h => ne b _ h (fun z => nomatch z)⟩
  rw [upd_ne (fun e => n.2 (by rw [e]; exact List.mem_cons_self ..))]; exact h
theorem RS.filled {xs ys : List V} (R : RS g (m.fill D') H st) (hD : H D' = Option.some (.lst xs)) : RS g (m.fill D') (upd H D' (.lst ys)) st := by
  have ne : ∀ a ∈ (m.fill D').cells, a ≠ D' := fun a ha e => R.disj a ha (by rw [e]; exact List.mem_cons_self ..)
  refine ⟨R.len, R.nd, fun i c a h1 h2 => ?_, fun a ha => ?_, R.disj, R.lv, fun a ha => ⟨(R.dd a ha).1, (R.dd a ha).2.imp fun xs q => ?_⟩⟩
  · have hn := ne a (List.mem_of_getElem? h2)
    have := R.at i c a h1 h2
    cases c with
    | lst ds => obtain ⟨xs, q, r⟩ := this; exact ⟨xs, by rw [upd_ne hn]; exact q, r.ext0 (.filled hD)⟩
    | dic kvs => obtain ⟨ys, q, e, r⟩ := this; exact ⟨ys, by rw [upd_ne hn]; exact q, e, r.ext0 (.filled hD)⟩
    | gone => obtain ⟨xs, q⟩ := this; exact ⟨xs, by rw [upd_ne hn]; exact q⟩
  · by_cases hb : a = D'
    · subst hb; exact ⟨ys, upd_same⟩
    · obtain ⟨zs, q⟩ := R.vol a ha; exact ⟨zs, by rw [upd_ne hb]; exact q⟩
  · rw [upd_ne (fun e => (R.dd a ha).1 (by rw [e]; exact List.mem_cons_self ..))]; exact q
theorem Ext.step (e1 : Ext m1 H1 m2 H) (hD : H1 D' = none) (E : Ext (m2.fill D') H m4 H4) (o : HO) : Ext m1 H1 ⟨m4.cells, m2.vol, m4.dead⟩ (upd H4 D' o) := by
  have ne : ∀ b u, H1 b = some u → b ≠ D' := fun b u h => ne_of_none h hD
  refine ⟨⟨?_, fun b xs h => ?_, fun b o u h => ?_, fun b xs h n => ?_, fun b kvs h n => ?_, fun b φ h => ?_⟩, e1.vols, fun b xs hv h => ?_⟩
  · obtain ⟨r, q⟩ := e1.pre
    obtain ⟨r', q'⟩ := E.pre
    exact ⟨r ++ r', by show m4.cells = _; rw [q', MM.fill, q, List.append_assoc]⟩
  · rw [upd_ne (ne b _ h)]; exact E.tup b xs (e1.tup b xs h)
  · rw [upd_ne (ne b _ h)]; exact E.frz b o u (e1.frz b o u h)
  · obtain ⟨h1, n1⟩ := e1.lst b xs h n
    obtain ⟨h2, n2⟩ := E.lst b xs h1 ⟨n1.1, fun z => (List.mem_cons.mp z).elim (ne b _ h) n1.2⟩
    exact ⟨by rw [upd_ne (ne b _ h)]; exact h2, n2.1, n1.2⟩
  · obtain ⟨h1, n1⟩ := e1.dic b kvs h n
    obtain ⟨h2, n2⟩ := E.dic b kvs h1 ⟨n1.1, fun z => (List.mem_cons.mp z).elim (ne b _ h) n1.2⟩
    exact ⟨by rw [upd_ne (ne b _ h)]; exact h2, n2.1, n1.2⟩
  · rw [upd_ne (ne b _ h)]; exact E.ext b φ (e1.ext b φ h)
  · rw [upd_ne (ne b _ h)]
    exact E.kept b xs (List.mem_cons_of_mem _ (by rw [e1.vols]; exact hv)) (e1.kept b xs hv h)
theorem Ext.step0 (e1 : Ext m1 H1 m2 H) (hD : H1 D' = none) (E : Ext (m2.fill D') H m4 H4) : Ext m1 H1 ⟨m4.cells, m2.vol, m4.dead⟩ H4 := by
  have ne : ∀ b u, H1 b = some u → b ≠ D' := fun b u h => ne_of_none h hD
  refine ⟨⟨?_, fun b xs h => E.tup b xs (e1.tup b xs h), fun b o u h => E.frz b o u (e1.frz b o u h), fun b xs h n => ?_, fun b kvs h n => ?_, fun b φ h => E.ext b φ (e1.ext b φ h)⟩, e1.vols, fun b xs hv h => E.kept b xs (List.mem_cons_of_mem _ (by rw [e1.vols]; exact hv)) (e1.kept b xs hv h)⟩
  · obtain ⟨r, q⟩ := e1.pre
    obtain ⟨r', q'⟩ := E.pre
    exact ⟨r ++ r', by show m4.cells = _; rw [q', MM.fill, q, List.append_assoc]⟩
  · obtain ⟨h1, n1⟩ := e1.lst b xs h n
    obtain ⟨h2, n2⟩ := E.lst b xs h1 ⟨n1.1, fun z => (List.mem_cons.mp z).elim (ne b _ h) n1.2⟩
    exact ⟨h2, n2.1, n1.2⟩
  · obtain ⟨h1, n1⟩ := e1.dic b kvs h n
    obtain ⟨h2, n2⟩ := E.dic b kvs h1 ⟨n1.1, fun z => (List.mem_cons.mp z).elim (ne b _ h) n1.2⟩
    exact ⟨h2, n2.1, n1.2⟩
theorem refill (E : Ext (m2.fill D') H m4 H4) : (⟨m4.cells, m2.vol, m4.dead⟩ : MM).fill D' = m4 := by
  obtain ⟨c, v, dl⟩ := m4
  have : v = D' :: m2.vol := E.vols
  subst this; rfl
theorem Ext0.unfill : Ext0 (m.fill D') H m H := ⟨⟨[], by simp [MM.fill]⟩, fun _ _ h => h, fun _ _ _ h => h, fun _ _ h n => ⟨h, n.1, fun z => n.2 (List.mem_cons_of_mem _ z)⟩, fun _ _ h n => ⟨h, n.1, fun z => n.2 (List.mem_cons_of_mem _ z)⟩, fun _ _ h => h⟩
theorem RS.unfill (R : RS g (m.fill D') H st) : RS g m H st := by
  refine ⟨R.len, R.nd, fun i c a h1 h2 => ?_, fun a ha => R.vol a (List.mem_cons_of_mem _ ha), fun a ha hv => R.disj a ha (List.mem_cons_of_mem _ hv), R.lv, fun a ha => ⟨fun z => (R.dd a ha).1 (List.mem_cons_of_mem _ z), (R.dd a ha).2⟩⟩
  have := R.at i c a h1 h2
  cases c with
  | lst ds => obtain ⟨xs, q, r⟩ := this; exact ⟨xs, q, r.ext0 .unfill⟩
  | dic kvs => obtain ⟨ys, q, e, r⟩ := this; exact ⟨ys, q, e, r.ext0 .unfill⟩
  | gone => exact this
structure Turns (g : GX) (m1 : MM) (H1 : Hp) (D' : Addr) (bd : Bd) (t : Smt) (h : Sm) (env : DEnv) (tot : List D) (stF : Sto) (rest : List D) (H : Hp) : Prop where
  ex : ∃ m2 st2 acc accD ys, Ext m1 H1 m2 H ∧ RS g (m2.fill D') H st2 ∧ H D' = some (.lst acc) ∧ RDs g (m2.fill D') H accD acc ∧ compL bd t h env rest st2 = some (ys, stF) ∧ accD ++ ys = tot
theorem turn_one {T : Tgt} {t : Smt} {h : Sm} {env : DEnv} {σ : L2.St} {vs : List Nat} {tot : List D} {stF : Sto} {d : D} {rest : List D} {x : V} {te : TE} {tt : TT} (hte : te = tI g (fun _ _ _ => False) h) (htt : tt = tIt g (fun _ _ _ => False) t) (hD : H1 D' = none) (hz : tot.length ≤ sizeLine) (ha : T.all vs)
    (re : RE g m1 H1 env (wipe σ vs)) (hx : ∀ m2 H2, Ext m1 H1 m2 H2 → RD g (m2.fill D') H2 d x) (P : Turns g m1 H1 D' T.bd t h env tot stF (d :: rest) H) :
    T.tg g.K x (wipe σ vs) H fun σ2 H2 => wipe σ2 vs = wipe σ vs ∧ tt σ2 H2 fun b H3 =>
      if b = true then te σ2 H3 fun y H4 => ∃ acc, H4 D' = some (.lst acc) ∧ acc.length < sizeLine ∧ Turns g m1 H1 D' T.bd t h env tot stF rest (upd H4 D' (.lst (acc ++ [y]))) else Turns g m1 H1 D' T.bd t h env tot stF rest H3 := by
  subst hte htt
  obtain ⟨m2, st2, acc, accD, ys, E1, R, hd, ra, ec, et⟩ := P.ex
  have e0 : Ext0 m1 H1 (m2.fill D') H := by
    refine ⟨E1.pre, E1.tup, E1.frz, fun b xs q n => ?_, fun b xs q n => ?_, E1.ext⟩
    · obtain ⟨q1, n1⟩ := E1.lst b xs q n
      exact ⟨q1, n1.1, fun z => (List.mem_cons.mp z).elim (ne_of_none q hD) n1.2⟩
    · obtain ⟨q1, n1⟩ := E1.dic b xs q n
      exact ⟨q1, n1.1, fun z => (List.mem_cons.mp z).elim (ne_of_none q hD) n1.2⟩
  have re2 : RE g (m2.fill D') H env (wipe σ vs) := ⟨re.len, fun i d q => let ⟨v, h1, h2⟩ := re.get i d q; ⟨v, h1, h2.ext0 e0⟩⟩
  unfold compL at ec
  cases e1 : T.bd d env with
  | none => rw [e1] at ec; cases ec
  | some env1 =>
    rw [e1] at ec
    dsimp only at ec
    refine T.run (vs := vs) re2 (hx m2 H E1) e1 ha fun σ' re' hw => ⟨by rw [hw, wipe_idem], env1, m2.fill D', st2, re', R, ?_⟩
    cases e2 : t env1 st2 with
    | none => rw [e2] at ec; cases ec
    | some r =>
      obtain ⟨o, st3⟩ := r
      rw [e2] at ec
      cases o with
      | ex c => cases ec
      | ok b =>
        cases b with
        | false =>
          intro m3 H3 E3 R3
          have hd3 := E3.kept D' acc (List.mem_cons_self ..) hd
          refine iteF ⟨⟨m3.cells, m2.vol, m3.dead⟩, st3, acc, accD, ys, E1.step0 hD E3, by rw [refill E3]; exact R3, hd3, by rw [refill E3]; exact ra.ext E3, ec, et⟩
        | true =>
          dsimp only at ec
          intro m3 H3 E3 R3
          refine iteT ⟨env1, m3, st3, re'.ext E3, R3, ?_⟩
          cases e3 : h env1 st3 with
          | none => rw [e3] at ec; cases ec
          | some r =>
            obtain ⟨o, st4⟩ := r
            rw [e3] at ec
            cases o with
            | ex c => cases ec
            | ok y =>
              dsimp only at ec
              rw [Option.map_eq_some_iff] at ec
              obtain ⟨⟨ys', sF⟩, ec, ey⟩ := ec
              cases ey
              intro m4 H4 E4 R4 v r4
              have E34 := E3.trans E4
              have hd4 := E34.kept D' acc (List.mem_cons_self ..) hd
              have hm4 := refill E34
              have hlen : acc.length < sizeLine := by
                rw [← ra.length]
                have : tot.length = accD.length + (ys'.length + 1) := by rw [← et]; simp
                omega
              refine ⟨acc, hd4, hlen, ⟨⟨m4.cells, m2.vol, m4.dead⟩, st4, acc ++ [v], accD ++ [y], ys', E1.step hD E34 (.lst (acc ++ [v])), ?_, upd_same, ?_, ec, by rw [← et]; simp⟩⟩
              · rw [← hm4] at R4
                exact R4.filled hd4
              · have ra4 := (ra.ext E34)
                rw [← hm4] at ra4 r4
                exact (ra4.append (.cons r4 .nil)).ext0 (.filled hd4)
theorem turns_end {bd : Bd} {t : Smt} {h : Sm} {env : DEnv} {tot : List D} {stF : Sto} (R1 : RS g m1 H1 st) (hD : H1 D' = none) (P : Turns g m1 H1 D' bd t h env tot stF [] H) : ∃ m2, Ext m1 H1 m2 H ∧ RS g m2 H stF ∧ RD g m2 H (.lst tot) (.ref D') := by
  obtain ⟨m2, st2, acc, accD, ys, E1, R, hd, ra, ec, et⟩ := P.ex
  cases ec
  rw [List.append_nil] at et
  subst et
  refine ⟨m2, E1, R.unfill, .lst hd ⟨fun z => absurd (List.mem_cons_self ..) (R.disj D' z), fun z => ?_⟩ (ra.ext0 .unfill)⟩
  rw [E1.vols] at z
  exact (R1.none_not hD).2 z
theorem turns_start {bd : Bd} {t : Smt} {h : Sm} {env : DEnv} {ds tot : List D} {stF : Sto} (R1 : RS g m1 H1 st) (hD : H1 D' = none) (e : compL bd t h env ds st = some (tot, stF)) : Turns g m1 H1 D' bd t h env tot stF ds (upd H1 D' (.lst [])) :=
  ⟨m1, st, [], [], tot, .new hD, R1.fill hD, upd_same, .nil, e, rfl⟩
end
theorem compR_of {g : GX} {EX : XK} {m : MM} {H : Hp} {T : Tgt} {t : Smt} {h : Sm} {vs : List Nat} {ds : List D} {env : DEnv} {st : Sto} {Q : D → MM → Hp → Sto → Prop} (q : RI g EX m H (compR T t h vs ds env st) Q) :
    ∃ ys st', compL T.bd t h (wipeD env vs) ds st = some (ys, st') ∧ ys.length ≤ sizeLine ∧ ∀ m' H', Ext m H m' H' → RS g m' H' st' → Q (.lst ys) m' H' st' := by
  unfold compR at q
  cases e : compL T.bd t h (wipeD env vs) ds st with
  | none => rw [e] at q; exact q.elim
  | some r =>
    obtain ⟨ys, st'⟩ := r
    rw [e] at q
    dsimp only at q
    by_cases hz : small ys = true
    · rw [if_pos hz] at q; exact ⟨ys, st', rfl, of_decide_eq_true hz, q⟩
    · rw [if_neg hz] at q; exact q.elim
section
variable {X : Cx} {g : GX} {EX : XK} {elt tg iter : Expr} {ifs : List Expr} {scope : Scope} {own : List (Str × Nat)} {pos : Pos} {f h : Sm} {t : Smt} {T : Tgt} {fs : Sma}
abbrev E00 : XK := fun _ _ _ => False
theorem i_comp (hK : X.K = g.K) (hc : X.calm = true) (hN : X.N.Nodup) (ha : PE X iter (tI g EX f)) (ok : BlkOk X.N X.env.scope scope own) (hall : T.all (own.map (·.2)))
    (hg : ∀ (s : Shared) (H : Hp) (C : Addr) (cl : List (Str × Addr)) (fp : List Addr), PG (X.blk s H scope (compEnvC scope cl C X.env) fp) tg (T.tg X.K)) (ht : ∀ (s : Shared) (H : Hp) (C : Addr) (cl : List (Str × Addr)) (fp : List Addr), PTs (X.blk s H scope (compEnvC scope cl C X.env) fp) ifs (tIt g E00 t))
    (he : ∀ (s : Shared) (H : Hp) (C : Addr) (cl : List (Str × Addr)) (fp : List Addr), PE (X.blk s H scope (compEnvC scope cl C X.env) fp) elt (tI g E00 h)) (hs : ∀ x, foldedSetIterable iter X.env x = pure x := by intro _; rfl) :
    PE X (.ListComp elt [⟨tg, iter, ifs, 0⟩] scope pos) (tI g EX (sComp T f t h (own.map (·.2)))) := PE.mono (pe_lc hc hN (pi_seq ha) ok hg ht he hs) fun σ H Q ⟨env, m, st, re, R, q⟩ => by
  refine ⟨env, m, st, re, R, q.bnd.mono fun d m1 H1 st1 E1 R1 q v r => ?_⟩
  obtain ⟨ds, e, q⟩ := q.bnd.lift
  obtain ⟨ys, stF, ec, hz, q⟩ := compR_of (q m1 H1 (.refl _ _) R1)
  have re1 := (re.ext E1).wipe (own.map (·.2))
  have hend : ∀ D', H1 D' = none → ∀ H2, Turns g m1 H1 D' T.bd t h (wipeD env (own.map (·.2))) ys stF [] H2 → Q (.ref D') H2 := fun D' hD H2 P => by
    obtain ⟨m2, e2, R2, r2⟩ := turns_end R1 hD P
    exact q m2 H2 e2 R2 _ r2
  have hdx : ∀ D', H1 D' = none → ∀ d x, RD g m1 H1 d x → ∀ m2 H2, Ext m1 H1 m2 H2 → RD g (m2.fill D') H2 d x := fun D' hD d x r m2 H2 E => by
    refine RD.ext0 (m' := m2.fill D') ⟨E.pre, E.tup, E.frz, fun b xs q n => ?_, fun b xs q n => ?_, E.ext⟩ r
    · obtain ⟨q1, n1⟩ := E.lst b xs q n
      exact ⟨q1, n1.1, fun z => (List.mem_cons.mp z).elim (ne_of_none q hD) n1.2⟩
    · obtain ⟨q1, n1⟩ := E.dic b xs q n
      exact ⟨q1, n1.1, fun z => (List.mem_cons.mp z).elim (ne_of_none q hD) n1.2⟩
  rw [hK]
  cases r with
  | @tup p xs es hs hr =>
    cases e
    refine ⟨p, rfl, .inr ⟨⟨xs, hs⟩, fun D' hD => lc_tup (K := g.K) (a := p) (xs := xs) (fun i H2 => Turns g m1 H1 D' T.bd t h (wipeD env (own.map (·.2))) ys stF (ds.drop i) H2) (turns_start R1 hD ec) (fun i H2 _ P => ?_) (fun i x H2 hi P => ?_) (fun H2 P => hend D' hD H2 (by rw [← hr.length, List.drop_length] at P; exact P))⟩⟩
    · obtain ⟨m2, _, _, _, _, E2, _⟩ := P.ex; exact E2.sqT hs
    · obtain ⟨d, hd, rd⟩ := hr.get' hi
      rw [drop_cons hd] at P
      exact turn_one rfl rfl hD hz hall re1 (hdx D' hD d x rd) P
  | @lst p xs es hs hn hr =>
    cases e
    refine ⟨p, rfl, .inl ⟨⟨xs, .of hs⟩, fun D' hD => lc_list (K := g.K) (a := p) (xs := xs) (fun i H2 => Turns g m1 H1 D' T.bd t h (wipeD env (own.map (·.2))) ys stF (ds.drop i) H2) (turns_start R1 hD ec) (fun i H2 _ P => ?_) (fun i x H2 hi P => ?_) (fun H2 P => hend D' hD H2 (by rw [← hr.length, List.drop_length] at P; exact P))⟩⟩
    · obtain ⟨m2, _, _, _, _, E2, _⟩ := P.ex; exact .of (E2.lst _ _ hs hn).1
    · obtain ⟨d, hd, rd⟩ := hr.get' hi
      rw [drop_cons hd] at P
      exact turn_one rfl rfl hD hz hall re1 (hdx D' hD d x rd) P
  | @scr p xs es hs hr =>
    cases e
    refine ⟨p, rfl, .inl ⟨⟨xs, hs.sq⟩, fun D' hD => lc_list (K := g.K) (a := p) (xs := xs) (fun i H2 => Turns g m1 H1 D' T.bd t h (wipeD env (own.map (·.2))) ys stF (ds.drop i) H2) (turns_start R1 hD ec) (fun i H2 _ P => ?_) (fun i x H2 hi P => ?_) (fun H2 P => hend D' hD H2 (by rw [← hr.length, List.drop_length] at P; exact P))⟩⟩
    · obtain ⟨m2, _, _, _, _, E2, _⟩ := P.ex; exact (E2.sf hs).sq
    · obtain ⟨d, hd, rd⟩ := hr.get' hi
      rw [drop_cons hd] at P
      exact turn_one rfl rfl hD hz hall re1 (hdx D' hD d x rd) P
  | _ => cases e
def sYes : Smt := ret true
theorem its_nil {X : Cx} {EX : XK} : PTs X [] (tIt g EX sYes) := fun pins s σ H Q I ⟨env, m, st, re, R, q⟩ => pts_nil pins s σ H Q I (RI.ret (env := env) q R)
theorem its_one {X : Cx} {EX : XK} {c : Expr} (h : PT X c (tIt g EX t)) : PTs X [c] (tIt g EX t) := pts_one h
end
section
variable {X : Cx} {g : GX} {EX : XK} {o e : Expr} {es : List Expr} {apos cpos : Pos} {f h : Sm} {fs : Sma}
def isL : D → Option Unit
  | .lst _ => some ()
  | _ => none
def sM (op : D → List D → Option D) (f : Sm) (fs : Sma) : Sm := bnd f fun x => bnd (lift (isL x)) fun _ => bnd fs fun ds => lift (op x ds)
def rM (g : GX) (op : D → List D → Option D) : V → List V → Hp → VK → Prop := fun x vs H Q => ∃ m st dx ds d, RS g m H st ∧ RD g m H dx x ∧ RDs g m H ds vs ∧ op dx ds = some d ∧ ∀ v m' H', Ext m H m' H' → RS g m' H' st → RD g m' H' d v → Q v H'
theorem i_methL {name : Str} {id : String} {op : D → List D → Option D} (slot : Slot "list" name id) (hty : typeOf (.builtin id) = pure (.type "method_descriptor")) (hm : MtR X id (rM g op)) (ho : PE X o (tI g EX f)) (ha : PA X (e :: es) (tIa g EX fs))
    (hbase : attributeBase o name X.env (eval o X.env) = eval o X.env := by rfl)
    (hfew : ((backTo cpos (starEach (e :: es) X.env)).all (fun x => !x.1) && (backToKw cpos (keywordEach [] X.env)).all (fun x => x.1.isSome)
      && decide ((e :: es).length + ([] : List Keyword).length + (if ([] : List Keyword).isEmpty then 0 else 1) < 30)) = true := by rfl)
    (hline : (apos.endLine == cpos.line) = true := by rfl) (hs : starEach (e :: es) X.env = (false, eval e X.env) :: starEach es X.env := by rfl) (hplain : (backTo cpos (starEach es X.env)).any (·.1) = false := by rfl) :
    PE X (.Call (.Attribute o name apos) (e :: es) [] cpos) (tI g EX (sM op f fs)) := PE.mono (pe_bm PySem.F.plainAttrs_list slot hty hm ho ha hbase hfew hline hs hplain) fun σ H Q ⟨env, m, st, re, R, q⟩ => by
  refine ⟨env, m, st, re, R, q.bnd.mono fun dx m1 H1 st1 E1 R1 q v1 r1 => ?_⟩
  obtain ⟨_, e1, q2⟩ := q.bnd.lift
  have q2 := q2 m1 H1 (.refl _ _) R1
  have r1' := r1
  cases r1 with
  | @lst p xs ds hs hn hr =>
    refine ⟨.inl ⟨rfl, _, .of hs⟩, env, m1, st1, re.ext E1, R1, q2.bnd.mono fun ds m2 H2 st2 E2 R2 q vs rs => ?_⟩
    obtain ⟨d, e2, q⟩ := q.lift
    exact ⟨m2, st2, _, ds, d, R2, r1'.ext E2, rs, e2, fun v m' H' E R r => q m' H' E R v r⟩
  | _ => cases e1
def oCount : D → List D → Option D
  | .lst ds, [.bl k] => (allB ds).map fun bs => .int (bs.count k : Nat)
  | _, _ => none
def oIndex : D → List D → Option D
  | .lst ds, [.bl k] => (allB ds).bind fun bs => (bs.findIdx? (· == k)).map fun j => .int (j : Nat)
  | _, _ => none
theorem all_bl (bs : List Bool) : (bs.map V.bl).all flatV = true := by simp [flatV]
theorem m_count : MtR X "list.count" (rM g oCount) := by
  intro pins s σ H x xs v us Q I rx rxs ⟨m, st, dx, ds, d, R, r1, r2, e, q⟩
  cases r1 with
  | @lst p ys es hs hn hr =>
    obtain ⟨y, vy, rfl, rfl, ry⟩ := one_of (op := oCount (.lst es)) r2 e rfl (fun a b c => by cases a <;> rfl)
    cases ry with
    | bl k =>
      simp only [oCount, Option.map_eq_some_iff] at e
      obtain ⟨bs, e1, rfl⟩ := e
      have hb := hr.allB e1
      subst hb
      cases rx
      obtain ⟨u, rfl, ru⟩ := vals1 rxs
      cases ru
      obtain ⟨its, rv, ⟨⟨cls, dd, data, sl⟩, n, ho, hc, hdn, hd⟩, hlen⟩ := I.list (.of hs)
      simp only at hc hd
      subst hc hd
      refine call_meets PySem.F.slot_list_count ⟨_, ho, rfl⟩ PySem.F.entry_list_count (PySem.F.args_list_count_2 _ _) (SeqAt.list_countAt p its.toArray n dd sl (.bool k) (eqU (.bl k))) ⟨ho, fun u' hu' => mem_eqAt (x := .bl k) rfl rfl rv (all_bl bs) u' (by simpa using hu'), ?_⟩
      have hcnt : its.toArray.toList.countP (eqU (.bl k)) = bs.count k := by
        rw [show its.toArray.toList = its from rfl]
        clear ho hs hr e1 q hlen hdn
        induction bs generalizing its with
        | nil => cases rv; rfl
        | cons b bs ih =>
          cases rv with
          | cons ra rt =>
            rw [List.countP_cons, List.count_cons, ih _ rt, eqU_of ra rfl]
            simp [eqV]
      rw [hcnt]
      exact ⟨.int _, H, I.tok _, ⟨_, rfl⟩, q _ m H (.refl _ _) R (.int _)⟩
    | _ => cases e
  | _ => cases e
theorem m_index : MtR X "list.index" (rM g oIndex) := by
  intro pins s σ H x xs v us Q I rx rxs ⟨m, st, dx, ds, d, R, r1, r2, e, q⟩
  cases r1 with
  | @lst p ys es hs hn hr =>
    obtain ⟨y, vy, rfl, rfl, ry⟩ := one_of (op := oIndex (.lst es)) r2 e rfl (fun a b c => by cases a <;> rfl)
    cases ry with
    | bl k =>
      simp only [oIndex, Option.bind_eq_some_iff, Option.map_eq_some_iff] at e
      obtain ⟨bs, e1, j, e2, rfl⟩ := e
      have hb := hr.allB e1
      subst hb
      obtain ⟨hj, h1, h2⟩ := List.findIdx?_eq_some_iff_getElem.mp e2
      refine mt_index pins s σ H _ _ v us Q I rx rxs ⟨p, bs.map V.bl, .bl k, j, .bl bs[j], rfl, rfl, .of hs, rfl, all_bl bs, by simp [hj], by simpa [eqV] using h1, fun mm z hm hz => ?_, q _ m H (.refl _ _) R (.int _)⟩
      rw [List.getElem?_map] at hz
      have hml : mm < bs.length := by omega
      rw [List.getElem?_eq_getElem hml] at hz
      cases hz
      have := h2 mm hm
      simpa [eqV] using this
    | _ => cases e
  | _ => cases e
def isBv (b : Bool) : D → Bool
  | .bl a => a == b
  | _ => false
def oIs (x y : D) : Option D := match y with
  | .non => some (.bl (isNon x))
  | .bl b => some (.bl (isBv b x))
  | _ => none
def oIsNot (x y : D) : Option D := match y with
  | .non => some (.bl (!isNon x))
  | .bl b => some (.bl (!isBv b x))
  | _ => none
theorem is_val {m : MM} {H : Hp} {d : D} {x : V} {v : Value} (r : RD g m H d x) (rx : RelV x v) (b : Bool) : plainIs v (.bool b) = true ∧ (v == Value.bool b) = isBv b d := by
  cases r with
  | non => cases rx; exact ⟨rfl, rfl⟩
  | bl a => cases rx; exact ⟨rfl, by cases a <;> cases b <;> rfl⟩
  | int i => obtain ⟨t, rfl⟩ := rx; exact ⟨rfl, rfl⟩
  | str i => obtain ⟨t, rfl⟩ := rx; exact ⟨rfl, rfl⟩
  | tup _ _ => cases rx; exact ⟨rfl, rfl⟩
  | lst _ _ _ => cases rx; exact ⟨rfl, rfl⟩
  | scr _ _ => cases rx; exact ⟨rfl, rfl⟩
  | dic0 _ _ => cases rx; exact ⟨rfl, rfl⟩
  | dcs _ _ _ => cases rx; exact ⟨rfl, rfl⟩
  | ref _ => cases rx; exact ⟨rfl, rfl⟩
  | exc _ _ => cases rx; exact ⟨rfl, rfl⟩
theorem r_is : OpR X (compareOp .Is) (rD g oIs) := by
  intro pins s σ H x y v u Q I rx ry ⟨m, st, dx, dy, d, R, r1, r2, e, q⟩
  cases r2 with
  | non =>
    cases e
    refine op_isN pins s σ H x _ v u Q I rx ry ⟨rfl, ?_⟩
    rw [r1.isNon]
    exact q _ m H (.refl _ _) R (.bl _)
  | bl b =>
    cases e
    cases ry
    obtain ⟨h1, h2⟩ := is_val r1 rx b
    exact wpAny_is_plain h1 (by rw [h2]; exact ⟨.bl _, H, I, rfl, q _ m H (.refl _ _) R (.bl _)⟩)
  | _ => cases e
theorem r_isNot : OpR X (compareOp .IsNot) (rD g oIsNot) := by
  intro pins s σ H x y v u Q I rx ry ⟨m, st, dx, dy, d, R, r1, r2, e, q⟩
  cases r2 with
  | non =>
    cases e
    refine op_notN pins s σ H x _ v u Q I rx ry ⟨rfl, ?_⟩
    rw [r1.isNon]
    exact q _ m H (.refl _ _) R (.bl _)
  | bl b =>
    cases e
    cases ry
    obtain ⟨h1, h2⟩ := is_val r1 rx b
    exact wpAny_isNot_plain h1 (by rw [h2]; exact ⟨.bl _, H, I, rfl, q _ m H (.refl _ _) R (.bl _)⟩)
  | _ => cases e
end
end I2
set_option Elab.async false
set_option linter.all false
set_option maxRecDepth 100000
set_option maxHeartbeats 4000000
namespace I2
open PySem PySem.Spec PyProof.Rows L2
structure Flies (outer : List Env) (H' : Hp) (h0 : Heap) (a C : Addr) (h : Heap) : Prop where
  ex : ∃ (t : Addr) (B : Heap), Heap.FlyingW B outer a (.ref C) (.ref t) h ∧ ∀ b o, h.get? b = some o → (H' b ≠ none ∨ ∃ o', h0.get? b = some o') → b ∉ frs outer → B.get? b = some o
  no : H' a = none
  new : h0.get? a = none
def CXe (P : Program) (w : World) : CXT := fun outer H s E e s' => ∃ (a C : Addr) (H' : Hp), e = .ref a ∧ s'.os = s.os ∧ AllBare s'.gens ∧ Un (frs outer) [] H H' s.heap s'.heap ∧ HOk P w H' s'.heap ∧ Flies outer H' s.heap a C s'.heap ∧ E (.ref C) none H'
theorem HOk.there {P : Program} {w : World} {H : Hp} {h : Heap} (ok : HOk P w H h) {a : Addr} {o : HO} (e : H a = some o) : ∃ ob, h.get? a = some ob := by
  have x := ok a o e
  cases o with
  | lst xs => obtain ⟨_, _, _, _, e⟩ := x; exact ⟨_, e⟩
  | tup xs => obtain ⟨_, _, _, ob, e, _⟩ := x; exact ⟨_, e⟩
  | dK kvs => obtain ⟨_, _, _, _, o, _, _, e, _⟩ := x; exact ⟨_, e⟩
  | dT kvs => obtain ⟨_, _, _, _, o, _, _, e, _⟩ := x; exact ⟨_, e⟩
  | set S n => obtain ⟨o, _, _, _, e, _⟩ := x; exact ⟨_, e⟩
  | ins C dx fs => obtain ⟨_, _, _, e, _⟩ := x; exact ⟨_, e⟩
  | own y => obtain ⟨_, e⟩ := x; exact ⟨_, e⟩
  | xd fs => obtain ⟨_, ⟨_, _, _, e, _⟩, _⟩ := x; exact ⟨_, e⟩
  | rng lo hi => obtain ⟨_, _, _, e⟩ := x; exact ⟨_, e⟩
  | frz ob u => obtain ⟨e, _⟩ := x; exact ⟨_, e⟩
  | tbl ps => exact ⟨_, x⟩
  | met f y => exact ⟨_, x⟩
  | ext φ => obtain ⟨_, ⟨_, e⟩, _⟩ := x; exact ⟨_, e⟩
theorem HOk.keptT {P : Program} {w : World} {H : Hp} {h h' : Heap} (ok : HOk P w H h) (k : ∀ b u, H b ≠ none → h.get? b = some u → h'.get? b = some u) : HOk P w H h' := fun a o e =>
  (ok a o e).stay (fun b u hb q => k b u (by rcases hb with rfl | hb <;> simp_all) q) (fun _ q => q) fun _ _ q => q
section
variable {P : Program} {w : World}
theorem leaves_made {CX : CXT} {K : PySem.W.Frag} {mg : Str → Option Value} {base : Heap} {N : List Str} {qual : Str} {scope : Scope} {f : Addr} {cd : Value} {A : Around} {outer : List Env} {s₀ : Shared} {H₀ : Hp} {E : XK}
    {pins : List (Addr × Obj)} {σ : L2.St} {H : Hp} {s : Shared} {h1 : Heap} {e C : Addr} {vs : List Value}
    (I : Inv (cxOf (CXe P w) P w K mg base N qual scope f cd A outer s₀ H₀ E) pins σ H s) (hx : Heap.MadeExcOf s.heap h1 e (.ref C) vs) (hE : E (.ref C) none H) :
    (cxOf (CXe P w) P w K mg base N qual scope f cd A outer s₀ H₀ E).xe (.ref e) { s with heap := h1 } := by
  have hst : s.heap.FunFrames base (envOfC qual scope s₀.heap.objs.size f cd :: outer) := I.stack
  have hfree : ∀ b ∈ frs (envOfC qual scope s₀.heap.objs.size f cd :: outer), H b = none := I.stkFree
  have hin : ∀ env ∈ (envOfC qual scope s₀.heap.objs.size f cd :: outer), ∀ b, env.frame = some b → b ∈ frs (envOfC qual scope s₀.heap.objs.size f cd :: outer) := fun env he b hb => List.mem_filterMap.mpr ⟨env, he, hb⟩
  have hB : ∀ b o, s.heap.get? b = some o → b ∉ frs (envOfC qual scope s₀.heap.objs.size f cd :: outer) → (PySem.W.hideAll s.heap (frs (envOfC qual scope s₀.heap.objs.size f cd :: outer))).get? b = some o := fun b o q n => PySem.W.hideAll_get _ q n
  refine wpAny_leaves_madeW (s := { s with heap := h1 }) I.ok.frames rfl (fun b o q => PySem.W.of_hideAll _ q) (PySem.W.funFrames_hide hst hin) hx fun h' t fl _ _ up => ?_
  have stay := fl.1
  have keep : ∀ b o, s.heap.get? b = some o → b ∉ frs (envOfC qual scope s₀.heap.objs.size f cd :: outer) → h'.get? b = some o := fun b o q n => stay b o (hB b o q n)
  have notL : ∀ b o, s₀.heap.get? b = some o → b ∉ frs outer → b ∉ frs (envOfC qual scope s₀.heap.objs.size f cd :: outer) := fun b o q n z => by
    have z' : b ∈ s₀.heap.objs.size :: frs outer := z
    rcases List.mem_cons.mp z' with z' | z'
    · rw [z'] at q; exact absurd (Heap.lt_size q) (Nat.lt_irrefl _)
    · exact n z'
  have ubase : Un (frs outer) [] H₀ H s₀.heap s.heap := I.base
  have slotK : ∀ b o, s.heap.get? b = some o → b ∈ frs outer → ∃ sl, h'.get? b = some { o with slots := sl } := fun b o q hb => by
    obtain ⟨_, o', q', nf⟩ := hst.mem (show b ∈ (envOfC qual scope s₀.heap.objs.size f cd :: outer).filterMap (·.frame) from List.mem_cons_of_mem _ hb)
    rw [q] at q'; cases q'
    exact up b o (hx.keeps b o q) nf
  have hnew : H e = none := by
    cases q : H e with
    | none => rfl
    | some o => obtain ⟨ob, z⟩ := HOk.there I.hok q; rw [hx.new] at z; cases z
  have trk : ∀ b, H b ≠ none → b ∉ frs (envOfC qual scope s₀.heap.objs.size f cd :: outer) := fun b hb z => hb (hfree b z)
  have old : ∀ b o, s₀.heap.get? b = some o → ∃ o', s.heap.get? b = some o' := fun b o q => ubase.there b o q (by simp)
  refine ⟨e, C, H, rfl, I.os, I.bare, ⟨fun b o q n hb _ => keep b o (ubase.keep b o q n hb (by simp)) (notL b o q hb), fun b o q n hb _ => ?_, ubase.free, fun b o q _ => ?_, ubase.tups, ubase.frzs, ubase.tbls⟩,
    HOk.keptT I.hok fun b u hb q => keep b u q (trk b hb), ⟨⟨t, _, fl, fun b o q hb hf => ?_⟩, hnew, ?_⟩, hE⟩
  · obtain ⟨sl, q1⟩ := ubase.slot b o q n hb (by simp)
    obtain ⟨sl', q2⟩ := slotK b _ q1 hb
    exact ⟨sl', q2⟩
  · obtain ⟨o', q1⟩ := old b o q
    by_cases hb : b ∈ frs outer
    · obtain ⟨sl, q2⟩ := slotK b o' q1 hb; exact ⟨_, q2⟩
    · exact ⟨o', keep b o' q1 (notL b o q hb)⟩
  · have hs : ∃ o', s.heap.get? b = some o' ∧ b ∉ frs (envOfC qual scope s₀.heap.objs.size f cd :: outer) := by
      rcases hb with hb | ⟨o', hb⟩
      · cases z : H b with
        | none => exact absurd z hb
        | some u => obtain ⟨ob, z2⟩ := HOk.there I.hok z; exact ⟨ob, z2, trk b hb⟩
      · obtain ⟨o2, q2⟩ := old b o' hb; exact ⟨o2, q2, notL b o' hb hf⟩
    obtain ⟨o', q1, n⟩ := hs
    have := keep b o' q1 n
    rw [q] at this; cases this
    exact hB b o q1 n
  · cases z : s₀.heap.get? e with
    | none => rfl
    | some o => obtain ⟨o', z2⟩ := old e o z; rw [hx.new] at z2; cases z2
theorem leaves_on {K : PySem.W.Frag} {mg : Str → Option Value} {base : Heap} {N : List Str} {qual : Str} {scope : Scope} {f : Addr} {cd : Value} {A : Around} {outer : List Env} {s₀ : Shared} {H₀ : Hp} {E : XK} :
    Passes (CXe P w) (cxOf (CXe P w) P w K mg base N qual scope f cd A outer s₀ H₀ E) E := by
  intro pins σ H s e s' I h
  obtain ⟨a, C, H', rfl, os, bare, un, hok, ⟨⟨t, B, fl, cov⟩, no, new⟩, hE⟩ := h
  have hst : s.heap.FunFrames base (envOfC qual scope s₀.heap.objs.size f cd :: outer) := I.stack
  have hfree : ∀ b ∈ frs (envOfC qual scope s₀.heap.objs.size f cd :: outer), H b = none := I.stkFree
  have ubase : Un (frs outer) [] H₀ H s₀.heap s.heap := I.base
  have un : Un (frs (envOfC qual scope s₀.heap.objs.size f cd :: outer)) [] H H' s.heap s'.heap := un
  have fl : Heap.FlyingW B (envOfC qual scope s₀.heap.objs.size f cd :: outer) a (.ref C) (.ref t) s'.heap := fl
  have notL : ∀ b o, s₀.heap.get? b = some o → b ∉ frs outer → b ∉ frs (envOfC qual scope s₀.heap.objs.size f cd :: outer) := fun b o q n z => by
    have z' : b ∈ s₀.heap.objs.size :: frs outer := z
    rcases List.mem_cons.mp z' with z' | z'
    · rw [z'] at q; exact absurd (Heap.lt_size q) (Nat.lt_irrefl _)
    · exact n z'
  have hfr' : ∀ b ∈ frs (envOfC qual scope s₀.heap.objs.size f cd :: outer), H' b = none := fun b hb => by
    obtain ⟨_, o, q, _⟩ := hst.mem hb
    exact un.free b o q (hfree b hb) (by simp)
  have trk : ∀ b, H' b ≠ none → b ∉ frs (envOfC qual scope s₀.heap.objs.size f cd :: outer) := fun b hb z => hb (hfr' b z)
  have old : ∀ b o, s₀.heap.get? b = some o → ∃ o', s.heap.get? b = some o' := fun b o q => ubase.there b o q (by simp)
  refine wpAny_leaves_onW (s := s') I.ok.frames rfl fl fun h'' fl2 up => ?_
  have keep : ∀ b o, s'.heap.get? b = some o → (H' b ≠ none ∨ ∃ o', s.heap.get? b = some o') → b ∉ frs (envOfC qual scope s₀.heap.objs.size f cd :: outer) → h''.get? b = some o := fun b o q hb n => fl2.1 b o (cov b o q hb n)
  have slotK : ∀ b o, s'.heap.get? b = some o → b ∈ frs outer → ∃ sl, h''.get? b = some { o with slots := sl } := fun b o q hb => by
    obtain ⟨_, o', q', nf⟩ := fl.2.2.1.mem (show b ∈ (envOfC qual scope s₀.heap.objs.size f cd :: outer).filterMap (·.frame) from List.mem_cons_of_mem _ hb)
    rw [q] at q'; cases q'
    exact up b o q nf
  refine ⟨a, C, H', rfl, os.trans I.os, bare, ⟨fun b o q n hb _ => ?_, fun b o q n hb _ => ?_, fun b o q n _ => ?_, fun b o q _ => ?_, fun b xs q => un.tups b xs (ubase.tups b xs q), fun b o u q => un.frzs b o u (ubase.frzs b o u q), fun b ps q => ?_⟩,
    HOk.keptT hok fun b u hb q => keep b u q (.inl hb) (trk b hb), ⟨⟨t, B, fl2, fun b o q hb hf => ?_⟩, no, ?_⟩, hE⟩
  · have q1 := ubase.keep b o q n hb (by simp)
    exact keep b o (un.keep b o q1 (ubase.free b o q n (by simp)) (notL b o q hb) (by simp)) (.inr ⟨o, q1⟩) (notL b o q hb)
  · obtain ⟨sl, q1⟩ := ubase.slot b o q n hb (by simp)
    obtain ⟨sl1, q2⟩ := un.slot b _ q1 (ubase.free b o q n (by simp)) (List.mem_cons_of_mem _ hb) (by simp)
    obtain ⟨sl', q3⟩ := slotK b _ q2 hb
    exact ⟨sl', q3⟩
  · obtain ⟨o', q1⟩ := old b o q
    exact un.free b o' q1 (ubase.free b o q n (by simp)) (by simp)
  · obtain ⟨o', q1⟩ := old b o q
    obtain ⟨o2, q2⟩ := un.there b o' q1 (by simp)
    by_cases hb : b ∈ frs outer
    · obtain ⟨sl, q3⟩ := slotK b o2 q2 hb; exact ⟨_, q3⟩
    · exact ⟨o2, keep b o2 q2 (.inr ⟨o', q1⟩) (notL b o q hb)⟩
  · obtain ⟨m1, e1⟩ := ubase.tbls b ps q
    obtain ⟨m2, e2⟩ := un.tbls b _ e1
    exact ⟨m1 ++ m2, by rw [e2, Array.append_assoc]⟩
  · have hs : ∃ o', s'.heap.get? b = some o' ∧ (H' b ≠ none ∨ ∃ o', s.heap.get? b = some o') ∧ b ∉ frs (envOfC qual scope s₀.heap.objs.size f cd :: outer) := by
      rcases hb with hb | ⟨o', hb⟩
      · cases z : H' b with
        | none => exact absurd z hb
        | some u => obtain ⟨ob, z2⟩ := HOk.there hok z; exact ⟨ob, z2, .inl (by simp), trk b hb⟩
      · obtain ⟨o1, q1⟩ := old b o' hb
        obtain ⟨o2, q2⟩ := un.there b o1 q1 (by simp)
        exact ⟨o2, q2, .inr ⟨o1, q1⟩, notL b o' hb hf⟩
    obtain ⟨o', q1, c1, n⟩ := hs
    have := keep b o' q1 c1 n
    rw [q] at this; cases this
    exact cov b o q1 c1 n
  · cases z : s₀.heap.get? a with
    | none => rfl
    | some o => obtain ⟨o', z2⟩ := old a o z; rw [new] at z2; cases z2
end
end I2
set_option Elab.async false
set_option linter.all false
set_option maxRecDepth 100000
set_option maxHeartbeats 4000000
namespace I2
open PySem PySem.Spec PyProof.Rows L2
abbrev bmV : List Value := [.type "ValueError", .type "Exception", .type "BaseException", .type "object"]
theorem own_of {K : PySem.W.Frag} {h₀ : Heap} {mg : Str → Option Value} {x : Str} {C : Addr} {bmB : List Value} {newId : String} (X : K.In h₀) (hm : mg x = some (.ref C)) (q : PySem.W.excIn K C bmB newId = true) : OwnCls x C bmB newId mg h₀ := by
  refine ⟨hm, ?_⟩
  unfold PySem.W.excIn at q
  split at q
  · rename_i dd cd sl ho
    split at q
    · rename_i C' bm k0 k1 k2 k3 n k5 hm hs
      simp only [Bool.and_eq_true, beq_iff_eq, Bool.not_eq_true'] at q
      obtain ⟨⟨⟨⟨⟨rfl, rfl⟩, hdel⟩, ht⟩, hok⟩, hni⟩ := q
      obtain ⟨nm, bs, mro, ns, qn, hd, sn, sub, ab, col, del⟩ := cd
      dsimp only at hm hdel hok hni
      subst hm hdel
      have hsl : sl = #[k0, k1, k2, k3, some (.builtin n), k5] := by
        obtain ⟨l⟩ := sl
        simp only at hs
        rw [hs]
      subst hsl
      exact ⟨bm, ns, nm, qn, bs, hd, sn, sub, ab, col, dd, k0, k1, k2, k3, k5, _, X _ _ ho, .of_isNs (PySem.W.isNs_of_in X hok), PySem.W.nsMap_none_of_in X hok hni, PySem.W.tail_of_in X ht⟩
    · cases q
  · cases q
section
variable {X : Cx} {g : GX} {EX : XK} {x : Str} {C : Addr} {np cpos pos : Pos} {e₀ : Expr} {rest : List Expr} {t : TA} {fs : Sma}
def MadeOk (X : Cx) (EX : XK) : Prop := ∀ (pins : List (Addr × Obj)) (σ : L2.St) (H : Hp) (s : Shared) (h1 : Heap) (e C : Addr) (vs : List Value), Inv X pins σ H s → Heap.MadeExcOf s.heap h1 e (.ref C) vs → EX (.ref C) none H → X.xe (.ref e) { s with heap := h1 }
theorem ps_raise (hq : PySem.W.excIn X.K C bmV "ValueError.__new__" = true) (hg : Gl X x) (hm : X.mg x = some (.ref C)) (hc : X.calm = true) (hM : MadeOk X EX) (ha : PA X (e₀ :: rest) t) (hd : (x == ("__debug__" : Str)) = false := by decide)
    (he : starEach (e₀ :: rest) X.env = (false, eval e₀ X.env) :: starEach rest X.env := by rfl) (hplain : (backTo cpos (starEach rest X.env)).any (·.1) = false := by rfl) :
    PS X (.Raise (some (.Call (.Name x np) (e₀ :: rest) [] cpos)) none pos) (fun _ σ H => t σ H fun vs H1 => vs.length ≤ sizeLine ∧ EX (.ref C) none H1) := by
  intro pins s σ H De I h
  have O : OwnCls x C bmV "ValueError.__new__" X.mg X.base := own_of I.mod.kin hm hq
  obtain ⟨tl, N, nm, q, bs, hdct, sn, sub, ab, col, dd, k0, k1, k2, k3, k5, mN, hC, hN, hni, T⟩ := O.obj
  refine wpAny_Raise_call_subT (C := C) (nm := nm) (q := q) (N := N) (bs := bs) (bm := tl) (hdct := hdct) (sn := sn) (sub := sub) (ab := ab) (col := col) (dd := dd) (k0 := k0) (k1 := k1) (k2 := k2) (k3 := k3) (k5 := k5)
    PySem.F.excBase_ValueError (mN := mN) (T.hasType PySem.F.excBase_ValueError.hasBase) (I.ok.hd hc) (by rw [he]; show (false || (backTo cpos (starEach rest X.env)).any (·.1)) = false; rw [hplain]; rfl) hni (ld_glob I hg hm ⟨rfl, ?_⟩ hd)
  have h1 := ha cpos pins s σ H _ I h
  rw [he] at h1 ⊢
  refine Calls.evalArgs_plain (thn h1 fun us s2 ⟨vs, H2, I2, r, hz, q⟩ => ⟨rfl, by rw [← r.length]; exact hz, I2.bk _ _ hC, hN.keeps I2.bk, T.keeps I2.bk, fun h' e hx => hM pins σ H2 s2 h' e C us I2 hx q⟩)
def sRaise (c : Str) (fs : Sma) : Sms := bndS fs fun ds => if small ds then go (.ex c) else fun _ _ => none
theorem is_raise {c : Str} (hq : PySem.W.excIn X.K C bmV "ValueError.__new__" = true) (hcl : g.cls c = some C) (hg : Gl X x) (hm : X.mg x = some (.ref C)) (hc : X.calm = true) (hM : MadeOk X EX) (ha : PA X (e₀ :: rest) (tIa g EX fs)) (hd : (x == ("__debug__" : Str)) = false := by decide)
    (he : starEach (e₀ :: rest) X.env = (false, eval e₀ X.env) :: starEach rest X.env := by rfl) (hplain : (backTo cpos (starEach rest X.env)).any (·.1) = false := by rfl) :
    PS X (.Raise (some (.Call (.Name x np) (e₀ :: rest) [] cpos)) none pos) (tIs g EX (sRaise c fs)) := PS.mono (ps_raise hq hg hm hc hM ha hd he hplain) fun De σ H ⟨env, m, st, re, R, q⟩ =>
  ⟨env, m, st, re, R, q.bnd.mono fun ds m1 H1 st1 E1 R1 q vs r => by
    by_cases hz : small ds = true
    · rw [if_pos hz] at q
      exact ⟨by rw [← r.length]; exact of_decide_eq_true hz, q m1 H1 C (.refl _ _) R1 hcl⟩
    · rw [if_neg hz] at q; exact q.elim⟩
end
def dlt (k : Nat) : D → Bool
  | .tup ds => dlts k ds
  | .lst ds => dlts k ds
  | .scr ds => dlts k ds
  | .dcs _ ds => dlts k ds
  | .ref i => decide (i < k)
  | _ => true
where dlts (k : Nat) : List D → Bool
  | [] => true
  | d :: ds => dlt k d && dlts k ds
def clt (k : Nat) : Cell → Bool
  | .lst ds => dlt.dlts k ds
  | .dic kvs => dlt.dlts k (kvs.map (·.2))
  | .gone => true
mutual
theorem RD.trim {g : GX} {m : MM} {H : Hp} {k : Nat} : ∀ {d : D} {v : V}, RD g m H d v → dlt k d = true → RD g (m.take k) H d v
  | _, _, .non, _ => .non
  | _, _, .bl b, _ => .bl b
  | _, _, .int i, _ => .int i
  | _, _, .str x, _ => .str x
  | _, _, .tup h hs, e => .tup h (RDs.trim hs (by simpa only [dlt] using e))
  | _, _, .lst h n hs, e => .lst h ⟨fun z => n.1 (List.mem_of_mem_take z), n.2⟩ (RDs.trim hs (by simpa only [dlt] using e))
  | _, _, .scr h hs, e => .scr h (RDs.trim hs (by simpa only [dlt] using e))
  | _, _, .dcs h ek hs, e => .dcs h ek (RDs.trim hs (by simpa only [dlt] using e))
  | _, _, .dic0 h n, _ => .dic0 h ⟨fun z => n.1 (List.mem_of_mem_take z), n.2⟩
  | _, _, .ref (i := i) h, e => .ref (by show (m.cells.take k)[i]? = _; rw [List.getElem?_take_of_lt (by simpa only [dlt, decide_eq_true_eq] using e)]; exact h)
  | _, _, .exc h1 h2, _ => .exc h1 h2
theorem RDs.trim {g : GX} {m : MM} {H : Hp} {k : Nat} : ∀ {ds : List D} {vs : List V}, RDs g m H ds vs → dlt.dlts k ds = true → RDs g (m.take k) H ds vs
  | _, _, .nil, _ => .nil
  | _, _, .cons r rs, e => by
    simp only [dlt.dlts, Bool.and_eq_true] at e
    exact .cons (RD.trim r e.1) (RDs.trim rs e.2)
end
theorem RS.trim {g : GX} {m : MM} {H : Hp} {st : Sto} {k : Nat} (R : RS g m H st) (hc : (st.take k).all (clt k) = true) : RS g (m.take k) H (st.take k) := by
  refine ⟨by simp [MM.take, R.len], R.nd.sublist (List.take_sublist _ _), fun i c a h1 h2 => ?_, R.vol, fun a ha => R.disj a (List.mem_of_mem_take ha), fun i c a h1 h2 => ?_, R.dd⟩
  rotate_left
  · have h2 : (m.cells.take k)[i]? = Option.some a := h2
    have hi : i < k := by
      have := (List.getElem?_eq_some_iff.mp h1).1
      rw [List.length_take] at this; omega
    rw [List.getElem?_take_of_lt hi] at h1 h2
    exact R.lv i c a h1 h2
  have h2 : (m.cells.take k)[i]? = Option.some a := h2
  have hi : i < k := by
    have := (List.getElem?_eq_some_iff.mp h1).1
    rw [List.length_take] at this; omega
  have hcl := List.all_eq_true.mp hc c (List.mem_of_getElem? h1)
  rw [List.getElem?_take_of_lt hi] at h1 h2
  have := R.at i c a h1 h2
  cases c with
  | lst ds => obtain ⟨xs, q, r⟩ := this; exact ⟨xs, q, r.trim hcl⟩
  | dic kvs => obtain ⟨ys, q, e, r⟩ := this; exact ⟨ys, q, e, r.trim hcl⟩
  | gone => exact this
def trimS (k : Nat) (d : D) (s : Sto) : Sto := if dlt k d && (s.take k).all (clt k) then s.take k else s
def fnRes (k : Nat) : ResS → Res D
  | some (.rt d, _, s) => some (.ok d, trimS k d s)
  | some (.nx, _, s) => some (.ok .non, trimS k .non s)
  | some (.ex c, _, s) => some (.ex c, trimS k .non s)
  | _ => none
def env0 (n nl : Nat) (ds : List D) : DEnv := ds.map some ++ List.replicate (nl - n) none
def fnOf (n nl : Nat) (body : Sms) : List D → Sto → Res D := fun ds st => if ds.length = n then fnRes st.length (body (env0 n nl ds) st) else none
theorem trim_end {g : GX} {m m' : MM} {H H' : Hp} {st st' : Sto} {d : D} {v : V} (R : RS g m H st) (E : Ext m H m' H') (R' : RS g m' H' st') (r : RD g m' H' d v) : ∃ m'', Ext m H m'' H' ∧ RS g m'' H' (trimS st.length d st') ∧ RD g m'' H' d v := by
  unfold trimS
  split
  · rename_i hc
    simp only [Bool.and_eq_true] at hc
    refine ⟨m'.take st.length, ⟨⟨?_, E.tup, E.frz, fun b xs h n => ⟨(E.lst b xs h n).1, fun z => (E.lst b xs h n).2.1 (List.mem_of_mem_take z), (E.lst b xs h n).2.2⟩, fun b xs h n => ⟨(E.dic b xs h n).1, fun z => (E.dic b xs h n).2.1 (List.mem_of_mem_take z), (E.dic b xs h n).2.2⟩, E.ext⟩, E.vols, E.kept⟩, R'.trim hc.2, r.trim hc.1⟩
    obtain ⟨rr, e⟩ := E.pre
    refine ⟨[], ?_⟩
    show m'.cells.take st.length = _
    rw [e, ← R.len, List.take_left, List.append_nil]
  · exact ⟨m', E, R', r⟩
theorem RE.starts {g : GX} {m : MM} {H : Hp} {N : List Str} {n : Nat} {ds : List D} {vs : List V} (r : RDs g m H ds vs) (hn : ds.length = n) : RE g m H (env0 n N.length ds) (L2.start N vs) := by
  have hv : vs.length = n := by rw [← r.length]; exact hn
  refine ⟨by simp [env0, L2.start, hn, hv], fun i d e => ?_⟩
  unfold env0 at e
  unfold L2.start
  have hi : i < ds.length := by
    apply Classical.byContradiction
    intro hi
    rw [List.getElem?_append_right (by simpa using hi), List.getElem?_replicate] at e
    split at e <;> cases e
  rw [List.getElem?_append_left (by simpa using hi), List.getElem?_map] at e
  cases q : ds[i]? with
  | none => rw [q] at e; cases e
  | some d' =>
    rw [q] at e
    cases e
    obtain ⟨v, h1, h2⟩ := r.get q
    exact ⟨v, by rw [List.getElem?_append_left (by rw [List.length_map, hv, ← hn]; exact hi), List.getElem?_map, h1]; rfl, h2⟩
theorem fnRes_of {g : GX} {E : XK} {m : MM} {H : Hp} {st : Sto} {r : ResS} {Q : VK} (R : RS g m H st) (q : RI g E m H (fnRes st.length r) fun d m' H' _ => ∀ v, RD g m' H' d v → Q v H') : RIs g E m H r { nx := fun _ H' => Q .non H', rt := Q } := by
  cases r with
  | none => exact q
  | some r =>
    obtain ⟨fl, env, s⟩ := r
    cases fl with
    | nx =>
      intro m' H' σ' E' R' re'
      have := q
      obtain ⟨m'', e1, e2, e3⟩ := trim_end R E' R' (d := .non) (v := .non) .non
      exact q m'' H' e1 e2 _ e3
    | rt d =>
      intro m' H' v E' R' r
      obtain ⟨m'', e1, e2, e3⟩ := trim_end R E' R' r
      exact q m'' H' e1 e2 _ e3
    | ex c =>
      intro m' H' C E' R' hc
      obtain ⟨m'', e1, e2, e3⟩ := trim_end R E' R' (d := .non) (v := .non) .non
      exact q m'' H' C e1 e2 hc
    | bk => exact q.elim
    | ct => exact q.elim
section
variable {P : Program} {w : World} {K : PySem.W.Frag} {mg : Str → Option Value} {base : Heap} {g : GX}
theorem fn_I {x qual : Str} {st : Stmt} {f : Addr} {fd : FuncData} {N ps : List Str} {k : Nat} {body : Sms} (F : Fun K x qual st f fd) (S : FnScope N ps (defScope st))
    (hb : ∀ (cdv : Value) (A : Around) (outer : List Env) (s : Shared) (H : Hp) (E : XK), Room k (A.deeper (envOfC qual (defScope st) s.heap.objs.size f cdv)) → PSs (cxOf (CXe P w) P w K mg base N qual (defScope st) f cdv A outer s H E) (defBody st) (tIs g E body)) :
    FnOk P w K mg base (CXe P w) (k + 1) f fd ps (spF g ps.length (fnOf ps.length N.length body)) := by
  obtain ⟨oc, od, kV, doc, pm, an, cdv, ct, osl, rfl, lk, hcd⟩ := F.ex
  refine fn_of lk hcd S (fun vs H Q E ⟨ds, m, st, hn, r, _⟩ => by rw [← r.length]; exact hn) fun A outer s H vs Q E hr ⟨ds, m, st, hn, r, R, q⟩ => ?_
  refine ⟨_, hb cdv A outer s H E hr, env0 ps.length N.length ds, m, st, RE.starts r hn, R, ?_⟩
  unfold fnOf at q
  rw [if_pos hn] at q
  exact fnRes_of R q
theorem made_def {N : List Str} {qual : Str} {scope : Scope} {f : Addr} {cd : Value} {A : Around} {outer : List Env} {s₀ : Shared} {H₀ : Hp} {E : XK} : MadeOk (cxOf (CXe P w) P w K mg base N qual scope f cd A outer s₀ H₀ E) E :=
  fun _ _ _ _ _ _ _ _ I hx hE => leaves_made (CX := CXe P w) I hx hE
theorem own_def {N : List Str} {qual : Str} {scope : Scope} {f : Addr} {cd : Value} {A : Around} {outer : List Env} {s₀ : Shared} {H₀ : Hp} {E : XK} :
    PassesOwn (model (cxOf (CXe P w) P w K mg base N qual scope f cd A outer s₀ H₀ E).prog (cxOf (CXe P w) P w K mg base N qual scope f cd A outer s₀ H₀ E).w) (cxOf (CXe P w) P w K mg base N qual scope f cd A outer s₀ H₀ E).A (cxOf (CXe P w) P w K mg base N qual scope f cd A outer s₀ H₀ E).env (cxOf (CXe P w) P w K mg base N qual scope f cd A outer s₀ H₀ E).xe := PassesOwn.leaving
end
end I2
set_option Elab.async false
set_option linter.all false
set_option maxRecDepth 100000
set_option maxHeartbeats 4000000
namespace I2
open PySem PySem.Spec PyProof.Rows L2
section
variable {prog : Program} {w : World} {A : Around} {E : Value → Shared → Prop} {h : Heap} {g : Array GenState} {d : Drawn} {t : Nat} {os : OsState} {a : Addr} {o : Obj} {K : PySem.W.Frag} {C : Addr}
structure XCls (K : PySem.W.Frag) (C : Addr) : Prop where
  exc : PySem.W.excIn K C bmV "ValueError.__new__" = true
  ga : PySem.W.findIn K (.ref C) "__getattribute__" = some (some (.builtin "BaseException.__getattribute__"))
  gt : PySem.W.findIn K (.ref C) "__getattr__" = some none
  cl : PySem.W.findIn K (.ref C) "__class__" = some (some (.builtin "object.__class__"))
theorem XCls.obj (x : XCls K C) (X : K.In h) : ∃ bm N nm q bs hdct sn sub ab col dd k0 k1 k2 k3 k5, h.get? C = some (excClassObj nm q C N bs bm hdct sn sub ab col dd k0 k1 k2 k3 k5 "ValueError.__new__") ∧ OwnTail h bmV bm := by
  obtain ⟨bm, N, nm, q, bs, hdct, sn, sub, ab, col, dd, k0, k1, k2, k3, k5, mN, hC, hN, hni, T⟩ := (own_of (mg := fun _ => some (.ref C)) (x := "x") X rfl x.exc).obj
  exact ⟨bm, N, nm, q, bs, hdct, sn, sub, ab, col, dd, k0, k1, k2, k3, k5, hC, T⟩
theorem xc_get {R : Result → Shared → Prop} (x : XCls K C) (X : K.In h) (hx : h.get? a = some o) (hc : o.cls = .ref C) (hq : R (.ok (.ret (.ref C))) ⟨h, g, d, t, os⟩) :
    codeAny (model prog w) A (.call (.builtin "getset_descriptor.__get__") ⟨[.builtin "object.__class__", .ref a, .ref C], []⟩) R ⟨h, g, d, t, os⟩ := by
  obtain ⟨bm, N, nm, q, bs, hdct, sn, sub, ab, col, dd, k0, k1, k2, k3, k5, hC, T⟩ := x.obj X
  have hT5 : (⟨h, g, d, t, os⟩ : Shared).TypeIs (.builtin "object.__class__") "getset_descriptor" := F.typeOf_object_class
  have hcB : (Value.ref C :: bm).contains (.type (".".intercalate ("object.__class__".cutAt '.').dropLast)) = true := by
    rw [F.owner_object_class, List.contains_cons, T.hasType (X := "object") (b := true) (by decide)]; rfl
  refine codeAny_call_builtin F.slot_gs_get.plain F.entry_gs_get (F.slot_gs_get.check _ _ _ _ _ _ _ _ hT5 (F.args_gs_get _ _ _) ?_)
  repeat (any_goals (first | assumption | (with_reducible refine wpAny_loadPart_at hx ?_; rw [hc]) | (with_reducible refine wpAny_isSubtype_exc hC ?_; rw [hcB]) | wp_step))
  refine ⟨Code.quiet_builtin _ (by decide +kernel), codeAny_builtin F.entry_object_class ?_⟩
  repeat (any_goals (first | assumption | (with_reducible refine wpAny_loadPart_at hx ?_; rw [hc]) | wp_step))
theorem xc_entry {tk : Tok} {Q : Fin → Shared → Prop} (x : XCls K C) (X : K.In h) (hx : h.get? a = some o) (hc : o.cls = .ref C) (hq : Q (.done (.ret (.ref C))) ⟨h, g, d, t, os⟩) :
    wpAny (model prog w) A (Builtin.«object.__getattribute__» ⟨[.ref a, .str "__class__" tk], []⟩) Q E ⟨h, g, d, t, os⟩ := by
  have hT5 : (⟨h, g, d, t, os⟩ : Shared).TypeIs (.builtin "object.__class__") "getset_descriptor" := F.typeOf_object_class
  have f5 := F.typeOf_object_class
  have f6 := F.slot_gs_get.lookup
  have f7 := F.slot_gs_set.lookup
  have L1 := PySem.W.looks_findIn (M := model prog w) X x.cl
  repeat (any_goals (first | assumption | (with_reducible refine wpAny_loadPart_at hx ?_; rw [hc]) | with_reducible refine L1.at ?_ | wp_step))
  refine xc_get x X hx hc ?_
  repeat (any_goals (first | assumption | wp_step))
theorem xc_check {M : Model} {nameV : Value} {Q : Unit → Shared → Prop} (x : XCls K C) (X : K.In h) (hx : h.get? a = some o) (hc : o.cls = .ref C) (hq : Q () ⟨h, g, d, t, os⟩) : wpAny M A (checkBuiltinCall "BaseException.__getattribute__" ⟨[.ref a, nameV], []⟩) Q E ⟨h, g, d, t, os⟩ := by
  obtain ⟨bm, N, nm, q, bs, hdct, sn, sub, ab, col, dd, k0, k1, k2, k3, k5, hC, T⟩ := x.obj X
  have hk : builtinKind "BaseException.__getattribute__" = some .slot := by decide +kernel
  have hsplit : splitId "BaseException.__getattribute__" = some ("BaseException", "__getattribute__") := by decide +kernel
  have hcB : (Value.ref C :: bm).contains (.type "BaseException") = true := by rw [List.contains_cons, T.hasType (X := "BaseException") (b := true) (by decide)]; rfl
  have ha := F.args_bexc_ga (.ref a) nameV
  simp only [checkBuiltinCall, hk, hsplit]
  refine wpAny_bind ?_
  · unfold isInstance
    repeat (first | (with_reducible refine wpAny_loadPart_at hx ?_; rw [hc]) | (with_reducible refine wpAny_isSubtype_exc hC ?_; rw [hcB]) | wp_step)
    exact hq
theorem xc_by {tk : Tok} {Q : Value → Shared → Prop} (x : XCls K C) (X : K.In h) (hx : h.get? a = some o) (hc : o.cls = .ref C) (hq : Q (.ref C) ⟨h, g, d, t, os⟩) : wpAny (model prog w) A (getAttrBy (.ref a) (.str "__class__" tk) false) Q E ⟨h, g, d, t, os⟩ := by
  have f3 := PySem.F.attr_ValueError.ga.bind (.ref a)
  have hx2 : (Value.builtin "BaseException.__getattribute__" == Value.builtin "object.__getattribute__") = false := by decide +kernel
  have hx1 : (onTheHeap (Value.ref C) && Value.builtin "BaseException.__getattribute__" == Value.builtin "object.__getattribute__") = false := by rw [hx2]; rfl
  have L1 := PySem.W.looks_findIn (M := model prog w) X x.ga
  have L2 := PySem.W.looks_findIn (M := model prog w) X x.gt
  repeat (any_goals (first | assumption | (with_reducible refine wpAny_loadPart_at hx ?_; rw [hc]) | with_reducible refine L1.at ?_ | with_reducible refine L2.at ?_ | wp_step))
  refine codeAny_call_builtin PySem.F.attr_ValueError.ga.plain F.entry_bexc_ga (xc_check x X hx hc (xc_entry x X hx hc ?_))
  repeat (any_goals (first | assumption | wp_step))
theorem xc_attr {Q : Option Value → Shared → Prop} (x : XCls K C) (X : K.In h) (hx : h.get? a = some o) (hc : o.cls = .ref C) (hq : Q (some (.ref C)) ⟨h, g, d, t + 1, os⟩) : wpAny (model prog w) A (getAttr? (.ref a) "__class__") Q E ⟨h, g, d, t, os⟩ := by
  unfold getAttr? getAttrBy?
  repeat (any_goals (first | assumption | with_reducible apply xc_by x X hx hc | wp_step))
end
end I2
set_option Elab.async false
set_option linter.all false
set_option maxRecDepth 100000
set_option maxHeartbeats 4000000
namespace I2
open PySem PySem.Spec PyProof.Rows L2
section
variable {K : PySem.W.Frag} {C a : Addr}
theorem XCls.isCls (x : XCls K C) : ∃ c d cd sl, K.lookup C = some ⟨c, d, .cls cd, sl⟩ := by
  have q := x.exc
  unfold PySem.W.excIn at q
  split at q
  · rename_i dd cd sl ho; exact ⟨_, _, _, _, ho⟩
  · cases q
theorem kitx_exc (x : XCls K C) : PySem.W.KitX K (.ref a) (.ref C) (fun h => ∃ o, h.get? a = some o ∧ o.cls = .ref C) where
  ty := fun M h _ p => by
    obtain ⟨o, h1, h2⟩ := p
    exact h2 ▸ (PySem.W.Looks.ld h1).andThen .now
  it := fun _ _ X _ => by
    obtain ⟨c', d', cd', sl', ho⟩ := x.isCls
    intro A' Q' E' s' k q
    unfold isType loadHead
    exact wpAny_bind (wpAny_loadPart (k _ _ (X _ _ ho)) (wpAny_pure q))
  ne := fun h tp dd its n sl X htp => by
    refine Bool.eq_false_iff.mpr fun q => ?_
    have e : C = tp := Value.ref.inj (beq_iff_eq.mp q)
    subst e
    obtain ⟨c', d', cd', sl', ho⟩ := x.isCls
    have z := (X _ _ ho).symm.trans htp
    cases z
  ca := fun {prog w A E Q s} X p k => by
    obtain ⟨o, h1, h2⟩ := p
    obtain ⟨hh, g, d, t, os⟩ := s
    exact xc_attr x X h1 h2 k
end
structure GXok (g : GX) : Prop where
  xc : ∀ c C, g.cls c = some C → XCls g.K C
  isx : ∀ c T b C tv, g.isx c T = some b → g.cls c = some C → g.tyv T = some tv → PySem.W.kitOne g.K (.ref C) tv = some b
def tyName : D → Option String
  | .non => some "NoneType"
  | .bl _ => some "bool"
  | .int _ => some "int"
  | .str _ => some "str"
  | .tup _ => some "tuple"
  | .lst _ => some "list"
  | .dic0 => some "dict"
  | _ => none
def tyOk : List String := ["int", "bool", "tuple", "str", "list", "dict"]
def isiT (T tn : String) : Bool := T == tn || (T == "int" && tn == "bool")
def oIsiB (T : String) (d : D) : Option D := match tyName d with
  | some tn => if tyOk.contains T then some (.bl (isiT T tn)) else none
  | none => none
def tyNames : List String := ["NoneType", "bool", "int", "str", "tuple", "list", "dict"]
theorem kit_tt (K : PySem.W.Frag) : ∀ T ∈ tyOk, ∀ tn ∈ tyNames, PySem.W.kitOne K (.type tn) (.type T) = some (isiT T tn) := by
  intro T hT tn htn
  simp only [tyOk, tyNames, List.mem_cons, List.not_mem_nil, or_false] at hT htn
  rcases hT with rfl | rfl | rfl | rfl | rfl | rfl <;> rcases htn with rfl | rfl | rfl | rfl | rfl | rfl | rfl <;> rfl
section
variable {X : Cx} {g : GX} {EX : XK} {pins : List (Addr × Obj)} {σ : L2.St} {H : Hp} {s : Shared} {m : MM}
theorem isi_run {A : Around} {E : Value → Shared → Prop} {Q : Value → Shared → Prop} {d : D} {x : V} {u c : Value} {tn : String} {b : Bool} (hK : X.K = g.K) (I : Inv X pins σ H s) (r : RD g m H d x) (rx : RelV x u) (ht : tyName d = some tn) (e : PySem.W.kitOne X.K (.type tn) c = some b) (h : ∀ tk, Q (.bool b) { s with toks := tk }) :
    wpAny (model X.prog X.w) A (call (.builtin "isinstance") [u, c]) Q E s := by
  cases r with
  | non => cases ht; cases (show u = Value.none from rx); exact PySem.W.kia_one PySem.W.kitx_none I.kIn True.intro e (fun z => nomatch z) h
  | bl y => cases ht; cases (show u = Value.bool y from rx); exact PySem.W.kia_one PySem.W.kitx_bool I.kIn True.intro e (fun z => nomatch z) h
  | int i => cases ht; obtain ⟨t, q⟩ := (show ∃ t, u = Value.int i t from rx); cases q; exact PySem.W.kia_one PySem.W.kitx_int I.kIn True.intro e (fun z => nomatch z) h
  | str y => cases ht; obtain ⟨t, q⟩ := (show ∃ t, u = Value.str y t from rx); cases q; exact PySem.W.kia_one PySem.W.kitx_str I.kIn True.intro e (fun z => nomatch z) h
  | @tup a xs ds hs hr =>
    cases ht
    cases (show u = Value.ref a from rx)
    obtain ⟨its, rv, ⟨o, h1, h2, _⟩, _⟩ := I.tuple (by rw [hK]; exact hs)
    exact PySem.W.kia_one PySem.W.kitx_tuple I.kIn ⟨o, h1, h2⟩ e (fun z => nomatch z) h
  | @lst a xs ds hs hn hr =>
    cases ht
    cases (show u = Value.ref a from rx)
    obtain ⟨its, rv, ⟨o, n, h1, h2, _⟩, _⟩ := I.list (.of hs)
    exact PySem.W.kia_one PySem.W.kitx_list I.kIn ⟨o, h1, h2⟩ e (fun z => nomatch z) h
  | @dic0 a hs hn =>
    cases ht
    cases (show u = Value.ref a from rx)
    obtain ⟨_, _, vs, _, p⟩ := (show ObjOk X.prog X.w H s.heap a (.dK []) from I.hok a _ hs)
    obtain ⟨o, es, ep, h1, h2, _⟩ := p
    exact PySem.W.kia_one PySem.W.kitx_dict I.kIn ⟨o, h1, h2.1⟩ e (fun z => nomatch z) h
  | scr _ _ => cases ht
  | dcs _ _ _ => cases ht
  | ref _ => cases ht
  | exc _ _ => cases ht
theorem isx_run {A : Around} {E : Value → Shared → Prop} {Q : Value → Shared → Prop} {cn : Str} {x : V} {u tv : Value} {T : Str} {b : Bool} (hK : X.K = g.K) (G : GXok g) (I : Inv X pins σ H s) (r : RD g m H (.exc cn) x) (rx : RelV x u) (ht : g.tyv T = some tv) (e : g.isx cn T = some b) (h : ∀ tk, Q (.bool b) { s with toks := tk }) :
    wpAny (model X.prog X.w) A (call (.builtin "isinstance") [u, tv]) Q E s := by
  cases r with
  | @exc _ a C h1 h2 =>
    cases (show u = Value.ref a from rx)
    obtain ⟨⟨o, vs, q1, q2, q3⟩, _⟩ := (show ObjOk X.prog X.w H s.heap a (.ext (IsX C a)) from I.hok a _ h2)
    exact PySem.W.kia_one (kitx_exc (G.xc _ _ h1)) (by rw [← hK]; exact I.kIn) ⟨o, q1, q2⟩ (G.isx _ _ _ _ _ e h1 ht) (fun z => nomatch z) h
variable {a b c e : Expr} {pos p p2 : Pos} {f : Sm}
theorem i_isiB {T : String} (hK : X.K = g.K) (hg : Gl X "isinstance") (hm : X.mg "isinstance" = none) (hgT : Gl X (Str.ofString T)) (hmT : X.mg (Str.ofString T) = none) (hbT : bootBuiltins (Str.ofString T) = some (.type T)) (ha : PE X e (tI g EX f))
    (hnT : Str.ofString T ≠ "__name__" := by decide) (hdT : (Str.ofString T == ("__debug__" : Str)) = false := by decide)
    (he : starEach (e :: [.Name (Str.ofString T) p2]) X.env = (false, eval e X.env) :: starEach [.Name (Str.ofString T) p2] X.env := by rfl) :
    PE X (.Call (.Name "isinstance" p) [e, .Name (Str.ofString T) p2] [] pos) (tI g EX (s1 (oIsiB T) f)) := by
  have hv : bootBuiltins "isinstance" = some (.builtin "isinstance") := by decide +kernel
  refine PE.mono (pe_callB (r := fun xs H Q => ∃ m st d dd x, RS g m H st ∧ RD g m H d x ∧ xs = [x, .ty T] ∧ oIsiB T d = some dd ∧ ∀ v m' H', Ext m H m' H' → RS g m' H' st → RD g m' H' dd v → Q v H') ?_ hg hm hv (pa_cons ha (pa_cons (pe_bltn hgT hmT hbT (v := .ty T) rfl hnT hdT) pa_nil) he) (by decide) (by decide) he) ?_
  · intro pins s σ H xs us Q I r ⟨m, st, d, dd, x, R, rd, ex, e1, q⟩
    subst ex
    obtain ⟨u, u2, rfl, r1, r2⟩ := vals2 r
    cases r2
    unfold oIsiB at e1
    cases e2 : tyName d with
    | none => rw [e2] at e1; cases e1
    | some tn =>
      rw [e2] at e1
      dsimp only at e1
      split at e1
      · rename_i hc
        cases e1
        have htn : tn ∈ tyNames := by cases d <;> simp [tyName] at e2 <;> subst e2 <;> decide
        refine isi_run hK I rd r1 e2 (kit_tt X.K T (by simpa using hc) tn htn) fun tk => ⟨.bl _, H, I.tok _, rfl, q _ m H (.refl _ _) R (.bl _)⟩
      · cases e1
  · intro σ H Q ⟨env, m, st, re, R, q⟩
    refine ⟨env, m, st, re, R, q.bnd.mono fun d1 m1 H1 st1 E1 R1 q v1 r1 => ?_⟩
    obtain ⟨d, e, q3⟩ := q.lift
    exact ⟨m1, st1, d1, d, v1, R1, r1, rfl, e, fun v m' H' E R r => q3 m' H' E R v r⟩
def oIsx (g : GX) (T : Str) : D → Option D
  | .exc c => (g.isx c T).map .bl
  | _ => none
theorem i_isx {T : Str} {tv : Value} {tV : V} (hK : X.K = g.K) (G : GXok g) (hg : Gl X "isinstance") (hm : X.mg "isinstance" = none) (hT : g.tyv T = some tv) (hV : ∀ u, RelV tV u → u = tv) (pT : PE X (.Name T p2) (tC tV)) (ha : PE X e (tI g EX f))
    (he : starEach (e :: [.Name T p2]) X.env = (false, eval e X.env) :: starEach [.Name T p2] X.env := by rfl) :
    PE X (.Call (.Name "isinstance" p) [e, .Name T p2] [] pos) (tI g EX (s1 (oIsx g T) f)) := by
  have hv : bootBuiltins "isinstance" = some (.builtin "isinstance") := by decide +kernel
  refine PE.mono (pe_callB (r := fun xs H Q => ∃ m st d dd x, RS g m H st ∧ RD g m H d x ∧ xs = [x, tV] ∧ oIsx g T d = some dd ∧ ∀ v m' H', Ext m H m' H' → RS g m' H' st → RD g m' H' dd v → Q v H') ?_ hg hm hv (pa_cons ha (pa_cons pT pa_nil) he) (by decide) (by decide) he) ?_
  · intro pins s σ H xs us Q I r ⟨m, st, d, dd, x, R, rd, ex, e1, q⟩
    subst ex
    obtain ⟨u, u2, rfl, r1, r2⟩ := vals2 r
    have hu : u2 = tv := hV u2 r2
    subst hu
    cases d with
    | exc cn =>
      simp only [oIsx, Option.map_eq_some_iff] at e1
      obtain ⟨bb, e1, rfl⟩ := e1
      exact isx_run hK G I rd r1 hT e1 fun tk => ⟨.bl _, H, I.tok _, rfl, q _ m H (.refl _ _) R (.bl _)⟩
    | _ => cases e1
  · intro σ H Q ⟨env, m, st, re, R, q⟩
    refine ⟨env, m, st, re, R, q.bnd.mono fun d1 m1 H1 st1 E1 R1 q v1 r1 => ?_⟩
    obtain ⟨d, e, q3⟩ := q.lift
    exact ⟨m1, st1, d1, d, v1, R1, r1, rfl, e, fun v m' H' E R r => q3 m' H' E R v r⟩
end
end I2
set_option Elab.async false
set_option linter.all false
set_option maxRecDepth 100000
set_option maxHeartbeats 4000000
namespace I2
open PySem PySem.Spec PyProof.Rows L2
structure RoomH (k : Nat) (A : Around) : Prop where
  dp : A.depth + 3 * k + 5 < recursionLimit
  un : A.units + 16 * k + 200 < cLine
theorem RoomH.mono {j k : Nat} {A : Around} (r : RoomH k A) (h : j ≤ k) : RoomH j A := ⟨by have := r.dp; omega, by have := r.un; omega⟩
theorem RoomH.deeper {k : Nat} {A : Around} (r : RoomH (k + 1) A) (env : Env) : RoomH k (A.deeper env) :=
  ⟨by have := r.dp; show A.depth + 1 + 3 * k + 5 < _; omega, by have := r.un; show A.units + 3 + 16 * k + 200 < _; omega⟩
theorem RoomH.depth {k : Nat} {A : Around} (r : RoomH k A) : A.depth < recursionLimit := by have := r.dp; omega
theorem RoomH.units {k : Nat} {A : Around} (r : RoomH k A) : A.units + 64 < cLine := by have := r.un; omega
theorem RoomH.of {k : Nat} {A : Around} (r : Room k A) (h : Option Value) : RoomH k (A.mark h) := ⟨r.dp, r.un⟩
structure FnOkH (P : Program) (w : World) (K : PySem.W.Frag) (mg : Str → Option Value) (base : Heap) (CX : CXT) (k : Nat) (f : Addr) (fd : FuncData) (ps : List Str) (sp : Sp) : Prop where
  len : ∀ vs H Q E, sp vs H Q E → vs.length = ps.length
  run : ∀ (A : Around) (outer : List Env) (s : Shared) (H : Hp) (args : Args) (us : List Value) (vs : List V) (Q : VK) (E : XK), RoomH k A → Env0 P w K mg base A outer s H → BindsTo s fd args (ps.zip us) → Vals vs us → sp vs H Q E →
    codeAny (model P w) A (.call (.ref f) args) (CR CX outer P w H s Q E) s
def cxOfH (CX : CXT) (P : Program) (w : World) (K : PySem.W.Frag) (mg : Str → Option Value) (base : Heap) (N : List Str) (qual : Str) (scope : Scope) (f : Addr) (cd : Value) (A : Around) (outer : List Env) (s : Shared) (H : Hp) (E : XK) : Cx :=
  { cxOf CX P w K mg base N qual scope f cd A outer s H E with calm := false }
theorem inv_startH {CX : CXT} {P : Program} {w : World} {K : PySem.W.Frag} {mg : Str → Option Value} {base : Heap} {N ps : List Str} {qual : Str} {scope : Scope} {f : Addr} {cd : Value} {A : Around} {outer : List Env} {s s1 : Shared} {H : Hp} {E : XK} {us : List Value} {vs : List V}
    (S : FnScope N ps scope) (e0 : Env0 P w K mg base A outer s H) (hl : vs.length = ps.length) (r : Vals vs us)
    (x : InCallC s s.heap.objs.size (bindL (envOfC qual scope s.heap.objs.size f cd).kindOf (ps.zip us) fun _ => none) (cellsFrom (s.heap.objs.size + 1) scope.names []) (bindC (envOfC qual scope s.heap.objs.size f cd).kindOf (ps.zip us) fun _ => none) s1) :
    Inv (cxOfH CX P w K mg base N qual scope f cd A outer s H E) [] (L2.start N vs) H s1 := by
  have hpl : ps.length ≤ N.length := by have := congrArg List.length S.pre; rw [List.length_take] at this; omega
  obtain ⟨h1, tk, rfl, hk⟩ := x.done
  have noA : ∀ b : Addr, b ∉ (cxOfH CX P w K mg base N qual scope f cd A outer s H E).ex := fun b z => absurd (show b ∈ ([] : List Addr) from z) (by simp)
  refine ⟨⟨e0.mod, S.kind, rfl, rfl, Nat.le_refl _, fun y z c h1 h2 => ?_, fun y hy => ?_, fun y c _ h => ?_, (fun z => nomatch z), Around.frames_deeper e0.frames, .inr ⟨rfl, rfl⟩, fun b z => absurd z (noA b), e0.bs, e0.bsz, fun b _ _ => noA b, fun b z => absurd z (noA b), e0.funs, e0.frf⟩,
    rfl, e0.bare, Un.kept hk, ⟨_, x.toInCall.ns, fun i y v h1 h2 h3 => ?_⟩, fun y c h => ⟨_, x.cell y c h⟩, e0.hok.fresh (Nat.le_refl _), fun y c h => ?_, fun p hp => absurd (show p ∈ ([] : List (Addr × Obj)) from hp) (by simp), e0.hok.kept hk, ?_⟩
  · exact name_of_addr x.apart (PySem.mem_of_lookup h1) (PySem.mem_of_lookup h2)
  · have hy : scope.names.lookup y = some .cell ∨ scope.names.lookup y = some .free := hy
    rcases hy with hy | hy
    · exact cell_has hy
    · exact absurd rfl (S.nofree _ (PySem.mem_of_lookup hy))
  · exact Nat.le_of_lt (x.above y c (PySem.mem_of_lookup h))
  · have hi : i < vs.length := by
      unfold L2.start at h2
      by_cases hi : i < vs.length
      · exact hi
      · rw [List.getElem?_append_right (by simpa using hi)] at h2
        rw [List.getElem?_replicate] at h2
        split at h2 <;> cases h2
    have ha : vs[i]? = some v := by
      unfold L2.start at h2
      rw [List.getElem?_append_left (by simpa using hi), List.getElem?_map] at h2
      cases e : vs[i]? with
      | none => rw [e] at h2; cases h2
      | some a => rw [e] at h2; cases h2; rfl
    obtain ⟨u, hu, rv⟩ := r.get ha
    have hp : ps[i]? = some y := by
      rw [← S.pre, List.getElem?_take_of_lt (by omega)]; exact h1
    have ndP : ps.Nodup := by rw [← S.pre]; exact S.nd.sublist (List.take_sublist _ _)
    refine ⟨u, rv, ?_⟩
    rcases S.par y (List.mem_of_getElem? hp) with k | k
    · exact .inl ⟨k, bindL_get ndP hp hu k⟩
    · obtain ⟨c, e⟩ := cell_has (n := s.heap.objs.size + 1) k
      refine .inr ⟨.inl k, c, e, ?_⟩
      have q := x.cell y c e
      rw [bindC_get ndP hp hu (by show scope.names.lookup y ≠ _; rw [k]; decide)] at q
      exact q
  · exact e0.hok.fresh (Nat.le_of_lt (x.above y c (PySem.mem_of_lookup h)))
  · unfold L2.start
    show _ = N.length
    rw [List.length_append, List.length_map, List.length_replicate]
    omega
theorem fn_ofH {CX : CXT} {P : Program} {w : World} {K : PySem.W.Frag} {mg : Str → Option Value} {base : Heap} {k : Nat} {f : Addr} {name qual : Str} {params : Arguments} {body : List Stmt} {scope : Scope} {dV kV doc pm cdv ct oc : Value} {an od : Option Addr}
    {osl : Array (Option Value)} {N ps : List Str} {sp : Sp} (lk : K.lookup f = some ⟨oc, od, .func (PySem.W.fnOf name qual params body scope dV kV doc pm an cdv ct), osl⟩) (hcd : PySem.W.codeIn K cdv qual = true) (S : FnScope N ps scope)
    (len : ∀ vs H Q E, sp vs H Q E → vs.length = ps.length)
    (hbody : ∀ (A : Around) (outer : List Env) (s : Shared) (H : Hp) (vs : List V) (Q : VK) (E : XK), RoomH k (A.deeper (envOfC qual scope s.heap.objs.size f cdv)) → sp vs H Q E →
      ∃ t, PSs (cxOfH CX P w K mg base N qual scope f cdv A outer s H E) body t ∧ t { nx := fun _ H' => Q .non H', rt := Q } (L2.start N vs) H) :
    FnOkH P w K mg base CX (k + 1) f (PySem.W.fnOf name qual params body scope dV kV doc pm an cdv ct) ps sp := by
  refine ⟨len, fun A outer s H args us vs Q E hr e0 hb r hsp => ?_⟩
  have hl := len _ _ _ _ hsp
  have KX : K.In s.heap := e0.mod.kin.keeps fun b o e => (e0.bs b o e).1
  have lim : s.heap.NoLimit := e0.mod.nolimit.keeps fun b o e => (e0.bs b o e).1
  have hkind : ∀ y ∈ ps.zip us, scope.names.lookup y.1 = some .local ∨ (scope.names.lookup y.1 = some .cell ∧ ((cellsFrom (s.heap.objs.size + 1) scope.names []).lookup y.1).isSome = true) := fun ⟨n, v⟩ hy => by
    rcases S.par n (List.of_mem_zip hy).1 with q | q
    · exact .inl q
    · exact .inr ⟨q, PySem.W.cellsFrom_some _ _ _ (.inl q)⟩
  refine codeAny_call_function hr.depth (KX _ _ lk) rfl S.co S.gen rfl (PySem.W.codeRec_of KX hcd) (hb _ _ _ _ ?_)
  refine wpAny_newFunctionEnv_cells S.kind hkind fun env he s1 x => ?_
  subst he
  refine ⟨lim.keeps x.toInCall.keep, codeAny_func ?_⟩
  obtain ⟨t, ht, hq⟩ := hbody A outer s H vs Q E (hr.deeper _) hsp
  have I : Inv (cxOfH CX P w K mg base N qual scope f cdv A outer s H E) [] (L2.start N vs) H s1 := inv_startH S e0 hl r x
  refine wpAny_mono (ht [] s1 (L2.start N vs) H _ I hq) (fun fl s' hs => ?_) fun e s' hs => hs
  have fin : ∀ {σ' : L2.St} {H' : Hp} {v : V} {u : Value}, Inv (cxOfH CX P w K mg base N qual scope f cdv A outer s H E) [] σ' H' s' → RelV v u → Q v H' → CE outer P w H s Q u s' :=
    fun {σ' H' v u} J rv q => ⟨v, H', J.os, J.bare, J.base, J.hok, rv, q⟩
  cases fl with
  | ret u =>
    obtain ⟨v, σ', H', J, rv, q⟩ := hs
    exact fin J rv q
  | next =>
    obtain ⟨σ', H', J, q⟩ := hs
    exact fin (v := V.non) (u := Value.none) J rfl q
  | brk =>
    obtain ⟨_, _, _, q⟩ := hs
    exact False.elim q
  | cont =>
    obtain ⟨_, _, _, q⟩ := hs
    exact False.elim q
section
variable {P : Program} {w : World} {K : PySem.W.Frag} {mg : Str → Option Value} {base : Heap} {g : GX}
theorem fn_IH {x qual : Str} {st : Stmt} {f : Addr} {fd : FuncData} {N ps : List Str} {k : Nat} {body : Sms} (F : Fun K x qual st f fd) (S : FnScope N ps (defScope st))
    (hb : ∀ (cdv : Value) (A : Around) (outer : List Env) (s : Shared) (H : Hp) (E : XK), RoomH k (A.deeper (envOfC qual (defScope st) s.heap.objs.size f cdv)) → PSs (cxOfH (CXe P w) P w K mg base N qual (defScope st) f cdv A outer s H E) (defBody st) (tIs g E body)) :
    FnOkH P w K mg base (CXe P w) (k + 1) f fd ps (spF g ps.length (fnOf ps.length N.length body)) := by
  obtain ⟨oc, od, kV, doc, pm, an, cdv, ct, osl, rfl, lk, hcd⟩ := F.ex
  refine fn_ofH lk hcd S (fun vs H Q E ⟨ds, m, st, hn, r, _⟩ => by rw [← r.length]; exact hn) fun A outer s H vs Q E hr ⟨ds, m, st, hn, r, R, q⟩ => ?_
  refine ⟨_, hb cdv A outer s H E hr, env0 ps.length N.length ds, m, st, RE.starts r hn, R, ?_⟩
  unfold fnOf at q
  rw [if_pos hn] at q
  exact fnRes_of R q
end
section
variable {X : Cx} {g : GX} {EX : XK} {e : Expr} {es : List Expr} {fs : Sma} {pos : Pos}
theorem i_callH {CX : CXT} {k n : Nat} {F : List D → Sto → Res D} {x : Str} {p : Pos} {fa : Addr} {fd : FuncData} {ps : List Str} (G : FnOkH X.prog X.w X.K X.mg X.base CX k fa fd ps (spF g n F)) (hr : RoomH k X.A) (hg : Gl X x) (hm : X.mg x = some (.ref fa))
    (hk : PySem.W.keepIn X.K (.ref fa) = true) (hb : Binds X.K fd ps []) (hx : Passes CX X EX) (ha : PA X (e :: es) (tIa g EX fs)) (hdb : (x == ("__debug__" : Str)) = false := by decide)
    (he : starEach (e :: es) X.env = (false, eval e X.env) :: starEach es X.env := by rfl) (hpl : (backTo pos (starEach es X.env)).any (·.1) = false := by rfl) : PE X (.Call (.Name x p) (e :: es) [] pos) (tI g EX (sCall n F fs)) := by
  intro pins s σ H Q I h
  have h := tCall_of h
  refine wpAny_Call_Name_kw (ld_glob I hg hm ?_ hdb)
  refine PySem.W.callWith_K (h₀ := X.base) I.ok.mod.kin hk (thn (ha pos pins s σ H _ I h) fun us s1 ⟨vs, H1, I1, r, q⟩ => ⟨I1.kIn, ?_⟩) he hpl
  dsimp only at q
  rw [List.append_nil] at q
  have hl : us.length = ps.length := by rw [← r.length]; exact G.len _ _ _ _ q
  have hbb := hb s1 us I1.kIn (by rw [List.append_nil]; exact hl)
  rw [List.append_nil] at hbb
  refine wpAny_call (codeAny_mono (G.run X.A X.stack s1 H1 ⟨us, []⟩ us vs Q EX hr I1.env0 hbb r q) fun r s' hq => ?_)
  cases r with
  | error e => exact hx pins σ H1 s1 e s' I1 hq
  | ok fl =>
    cases fl with
    | ret u => exact I1.after hq
    | next => exact False.elim hq
    | brk => exact False.elim hq
    | cont => exact False.elim hq
end
theorem unbind_ok {X : Cx} {pins : List (Addr × Obj)} {σ : L2.St} {H : Hp} {s : Shared} {M : Model} {A : Around} {E : Value → Shared → Prop} {i : Nat} {x : Str} {pos : Pos} {Q : Unit → Shared → Prop} (I : Inv X pins σ H s) (hN : X.N.Nodup) (hi : X.N[i]? = some x)
    (hx : X.env.scope.names.lookup x = some .local) (h : ∀ s', Inv X pins (σ.set i none) H s' → Q () s') : wpAny M A (do bindName X.env x .none; unbindBehindTheSuite X.env x pos) Q E s := by
  have hcls : (X.env.scope.kind == .class || (X.env.scope.kind == .module && X.env.locals != X.env.globals)) = false := by rw [I.ok.kind]; rfl
  have hiσ : i < σ.length := by rw [I.len]; exact (List.getElem?_eq_some_iff.mp hi).1
  refine wpAny_bind (wpAny_bindName (store_ok (v := .non) I hN hi (.inl hx) rfl (fun s1 I1 => ?_) (.inr hx)))
  obtain ⟨m, hn, hl⟩ := id I1.loc
  obtain ⟨u, ru, lk⟩ := hl i x .non hi (by rw [List.getElem?_set_self hiσ]) (.inl hx)
  have hm : m x = some u := by
    rcases lk with ⟨_, q⟩ | ⟨q, _⟩
    · exact q
    · have q' : X.env.scope.names.lookup x = some .cell ∨ X.env.scope.names.lookup x = some .free := q
      rw [hx] at q'; rcases q' with q' | q' <;> cases q'
  unfold unbindBehindTheSuite
  refine wpAny_onRaise (wpAny_unbindName_local hx hn hm hcls fun h' u' hn' hs => h _ ?_)
  have cne := I1.cne
  have lo : ∀ b o, X.s_0.heap.get? b = some o → b ≠ X.env.locals := fun b o e => Nat.ne_of_lt (Nat.lt_of_lt_of_le (Heap.lt_size e) I1.ok.above)
  refine ⟨I1.ok, I1.os, I1.bare, ⟨fun b o e n hb hx => (hs.2 b (lo b o e)).trans (I1.base.keep b o e n hb hx), fun b o e n hb hx => ?_, I1.base.free, fun b o e hx => ?_, I1.base.tups, I1.base.frzs, I1.base.tbls⟩, ⟨_, hn', fun j y v' e1 e2 e3 => ?_⟩, fun y c e => ?_, I1.free, I1.freeC, fun p hp => ?_, ?_, by simpa using I.len⟩
  · obtain ⟨sl, e1⟩ := I1.base.slot b o e n hb hx
    exact ⟨sl, (hs.2 b (lo b o e)).trans e1⟩
  · obtain ⟨o', e1⟩ := I1.base.there b o e hx
    exact ⟨o', (hs.2 b (lo b o e)).trans e1⟩
  · have hj : j ≠ i := by
      rintro rfl
      rw [List.getElem?_set_self hiσ] at e2; cases e2
    rw [List.getElem?_set_ne (Ne.symm hj)] at e2
    obtain ⟨u2, r2, q2⟩ := hl j y v' e1 (by rw [List.getElem?_set_ne (Ne.symm hj)]; exact e2) e3
    refine ⟨u2, r2, ?_⟩
    rcases q2 with ⟨k, e⟩ | ⟨k, c, e, z⟩
    · refine .inl ⟨k, ?_⟩
      have : y ≠ x := fun e => hj (nd_ix hN e1 (e ▸ hi))
      simp [this, e]
    · exact .inr ⟨k, c, e, z.sameBut hs (cne y c e)⟩
  · obtain ⟨w', z⟩ := I1.cell y c e
    exact ⟨w', z.sameBut hs (cne y c e)⟩
  · obtain ⟨e, n, ne, nf, d⟩ := I1.pin p hp
    exact ⟨(hs.2 p.1 ne).trans e, n, ne, nf, d⟩
  · intro b ob e
    refine (I1.hok b ob e).stay (fun c w' hc q => (hs.2 c ?_).trans q) (fun _ q => q) fun _ _ q => q
    intro z
    subst z
    rcases hc with z | z
    · rw [← z, I1.free] at e; cases e
    · rw [I1.free] at z; cases z
end I2
set_option Elab.async false
set_option linter.all false
set_option maxRecDepth 100000
set_option maxHeartbeats 4000000
namespace I2
open PySem PySem.Spec PyProof.Rows L2
theorem xc_match {M : Model} {A : Around} {E : Value → Shared → Prop} {h : Heap} {g : Array GenState} {d : Drawn} {t : Nat} {os : OsState} {a : Addr} {o : Obj} {K : PySem.W.Frag} {C CE : Addr} {Q : Bool → Shared → Prop} (X : K.In h) (xE : XCls K CE)
    (hs : PySem.W.subIn K (.ref C) (.ref CE) = some true) (hx : h.get? a = some o) (hc : o.cls = .ref C) (hq : Q true ⟨h, g, d, t, os⟩) : wpAny M A (excMatches (.ref a) (.ref CE)) Q E ⟨h, g, d, t, os⟩ := by
  obtain ⟨bm, N, nm, q, bs, hdct, sn, sub, ab, col, dd, k0, k1, k2, k3, k5, hC, T⟩ := xE.obj X
  have hcB : (Value.ref CE :: bm).contains (.type "BaseException") = true := by rw [List.contains_cons, T.hasType (X := "BaseException") (b := true) (by decide), Bool.or_true]
  have f := tc_notTuple
  have L1 := PySem.W.looks_subIn (M := M) X hs
  unfold excMatches
  repeat (first | (with_reducible refine wpAny_loadPart_at hx ?_; rw [hc]) | with_reducible refine wpAny_loadPart_at hC ?_ | with_reducible refine L1.at ?_ | (with_reducible refine wpAny_isSubtype_exc hC ?_; rw [hcB]) | wp_step)
  exact hq
def hndEnv (nl i : Nat) (c : Str) : DEnv := (List.replicate nl none).set i (some (.exc c))
def hnd (nl i : Nat) (wd : Sms) (c : Str) (st : Sto) : ResS := match wd (hndEnv nl i c) st with
  | some (.ex _, _, _) => none
  | some (fl, env', st'') => some (fl, env'.set i none, st'')
  | none => none
def sTry (nl i : Nat) (u wd : Sms) : Sms := fun env st => match u env st with
  | some (.ex c, _, st') => hnd nl i wd c st'
  | o => o
section
variable {P : Program} {w : World} {K : PySem.W.Frag} {mg : Str → Option Value} {base : Heap} {N : List Str} {qual : Str} {scope : Scope} {f : Addr} {cd : Value} {A : Around} {outer : List Env} {s₀ : Shared} {H₀ : Hp} {E : XK} {g : GX}
abbrev Xb (P : Program) (w : World) (K : PySem.W.Frag) (mg : Str → Option Value) (base : Heap) (N : List Str) (qual : Str) (scope : Scope) (f : Addr) (cd : Value) (A : Around) (outer : List Env) (s₀ : Shared) (H₀ : Hp) (E : XK) : Cx := cxOf (CXe P w) P w K mg base N qual scope f cd A outer s₀ H₀ E
abbrev Cx.tr (X : Cx) (XT : Value → Shared → Prop) (pn : List (Addr × Obj)) : Cx := { X with xe := XT, pn := pn }
abbrev Cx.ha (X : Cx) (a : Addr) (pn : List (Addr × Obj)) : Cx := { X with A := X.A.mark (some (.ref a)), calm := false, xe := fun _ _ => False, pn := pn }
theorem Inv.toTr {X : Cx} {XT : Value → Shared → Prop} {pins : List (Addr × Obj)} {σ : L2.St} {H : Hp} {s : Shared} (h0 : X.pn = []) (I : Inv X pins σ H s) : Inv (Cx.tr X XT pins) [] σ H s :=
  ⟨⟨I.ok.mod, I.ok.kind, I.ok.glob, I.ok.blt, I.ok.above, I.ok.inj, I.ok.has, I.ok.cab, I.ok.hd, I.ok.frames, I.ok.stk, I.ok.exf, I.ok.bs, I.ok.bsz, I.ok.noex, I.ok.exfs, I.ok.funs, I.ok.frf⟩, I.os, I.bare, I.base, I.loc, I.cell, I.free, I.freeC,
    fun p hp => I.pin p (by rw [h0, List.nil_append]; simpa using hp), I.hok, I.len⟩
theorem Inv.ofTr {X : Cx} {XT : Value → Shared → Prop} {pins : List (Addr × Obj)} {σ : L2.St} {H : Hp} {s : Shared} (h0 : X.pn = []) (I : Inv (Cx.tr X XT pins) [] σ H s) : Inv X pins σ H s :=
  ⟨⟨I.ok.mod, I.ok.kind, I.ok.glob, I.ok.blt, I.ok.above, I.ok.inj, I.ok.has, I.ok.cab, I.ok.hd, I.ok.frames, I.ok.stk, I.ok.exf, I.ok.bs, I.ok.bsz, I.ok.noex, I.ok.exfs, I.ok.funs, I.ok.frf⟩, I.os, I.bare, I.base, I.loc, I.cell, I.free, I.freeC,
    fun p hp => I.pin p (by rw [h0, List.nil_append] at hp; simpa using hp), I.hok, I.len⟩
theorem Inv.ofHa {X : Cx} {a : Addr} {pins : List (Addr × Obj)} {σ : L2.St} {H : Hp} {s : Shared} (h0 : X.pn = []) (ok : X.Ok) (I : Inv (Cx.ha X a pins) [] σ H s) : Inv X pins σ H s :=
  ⟨ok, I.os, I.bare, I.base, I.loc, I.cell, I.free, I.freeC, fun p hp => I.pin p (by rw [h0, List.nil_append] at hp; simpa using hp), I.hok, I.len⟩
theorem SP.ofTr {X : Cx} {XT : Value → Shared → Prop} {pins : List (Addr × Obj)} {De : Ends} {fl : Flow} {s : Shared} (h0 : X.pn = []) (h : SP (Cx.tr X XT pins) [] De fl s) : SP X pins De fl s := by
  cases fl with
  | next => obtain ⟨σ', H', I, q⟩ := h; exact ⟨σ', H', Inv.ofTr h0 I, q⟩
  | brk => obtain ⟨σ', H', I, q⟩ := h; exact ⟨σ', H', Inv.ofTr h0 I, q⟩
  | cont => obtain ⟨σ', H', I, q⟩ := h; exact ⟨σ', H', Inv.ofTr h0 I, q⟩
  | ret u => obtain ⟨v, σ', H', I, r, q⟩ := h; exact ⟨v, σ', H', Inv.ofTr h0 I, r, q⟩
theorem landed {XT : Value → Shared → Prop} {pins pins' : List (Addr × Obj)} {σ' : L2.St} {H' H2 : Hp} {s' s'' : Shared} {a C t : Addr} {B h6 : Heap}
    (I : Inv (Cx.tr (Xb P w K mg base N qual scope f cd A outer s₀ H₀ E) XT pins) pins' σ' H' s') (os : s''.os = s'.os) (bare : AllBare s''.gens) (un : Un (frs (envOfC qual scope s₀.heap.objs.size f cd :: outer)) [] H' H2 s'.heap s''.heap) (hok : HOk P w H2 s''.heap)
    (fl6 : Heap.FlyingW B (envOfC qual scope s₀.heap.objs.size f cd :: outer) a (.ref C) (.ref t) h6) (up : s''.heap.UpToSlots h6) (fl : Heap.FlyingW B (envOfC qual scope s₀.heap.objs.size f cd :: outer) a (.ref C) (.ref t) s''.heap)
    (cov : ∀ b o, s''.heap.get? b = some o → (H2 b ≠ none ∨ ∃ o', s'.heap.get? b = some o') → b ∉ frs (envOfC qual scope s₀.heap.objs.size f cd :: outer) → B.get? b = some o) (no : H2 a = none) (new : s'.heap.get? a = none) :
    Inv (Cx.ha (Xb P w K mg base N qual scope f cd A outer s₀ H₀ E) a pins) [] (List.replicate N.length none) (upd H2 a (.ext (IsX C a))) { s'' with heap := h6 } := by
  have hst : s'.heap.FunFrames base (envOfC qual scope s₀.heap.objs.size f cd :: outer) := I.stack
  have hfree : ∀ b ∈ frs (envOfC qual scope s₀.heap.objs.size f cd :: outer), H' b = none := I.stkFree
  have ubase : Un (frs outer) [] H₀ H' s₀.heap s'.heap := I.base
  have notL : ∀ b o, s₀.heap.get? b = some o → b ∉ frs outer → b ∉ frs (envOfC qual scope s₀.heap.objs.size f cd :: outer) := fun b o q n z => by
    have z' : b ∈ s₀.heap.objs.size :: frs outer := z
    rcases List.mem_cons.mp z' with z' | z'
    · rw [z'] at q; exact absurd (Heap.lt_size q) (Nat.lt_irrefl _)
    · exact n z'
  have hfr' : ∀ b ∈ frs (envOfC qual scope s₀.heap.objs.size f cd :: outer), H2 b = none := fun b hb => by
    obtain ⟨_, o, q, _⟩ := hst.mem hb
    exact un.free b o q (hfree b hb) (by simp)
  have trk : ∀ b, H2 b ≠ none → b ∉ frs (envOfC qual scope s₀.heap.objs.size f cd :: outer) := fun b hb z => hb (hfr' b z)
  have old : ∀ b o, s₀.heap.get? b = some o → ∃ o', s'.heap.get? b = some o' := fun b o q => ubase.there b o q (by simp)
  have keep : ∀ b o, s''.heap.get? b = some o → (H2 b ≠ none ∨ ∃ o', s'.heap.get? b = some o') → b ∉ frs (envOfC qual scope s₀.heap.objs.size f cd :: outer) → h6.get? b = some o := fun b o q hb n => fl6.1 b o (cov b o q hb n)
  have slotK : ∀ b o, s''.heap.get? b = some o → b ∈ frs (envOfC qual scope s₀.heap.objs.size f cd :: outer) → ∃ sl, h6.get? b = some { o with slots := sl } := fun b o q hb => by
    obtain ⟨_, o', q', nf⟩ := fl.2.2.1.mem hb
    rw [q] at q'; cases q'
    exact up b o q nf
  have ne' : ∀ b o, s'.heap.get? b = some o → b ≠ a := fun b o q z => by rw [z, new] at q; cases q
  have upE : ∀ b u, H2 b = some u → upd H2 a (.ext (IsX C a)) b = some u := fun b u q => upd_keep no q
  have upN : ∀ b, b ≠ a → H2 b = none → upd H2 a (.ext (IsX C a)) b = none := fun b n q => by rw [upd_ne n]; exact q
  -- an untracked thing that stood at the call and is no frame
  have same : ∀ b o, s'.heap.get? b = some o → H' b = none → b ∉ frs (envOfC qual scope s₀.heap.objs.size f cd :: outer) → h6.get? b = some o := fun b o q n hf =>
    keep b o (un.keep b o q n hf (by simp)) (.inr ⟨o, q⟩) hf
  have free2 : ∀ b o, s'.heap.get? b = some o → H' b = none → upd H2 a (.ext (IsX C a)) b = none := fun b o q n => upN b (ne' b o q) (un.free b o q n (by simp))
  have hL : (s₀.heap.objs.size : Addr) ∈ frs (envOfC qual scope s₀.heap.objs.size f cd :: outer) := List.mem_cons_self ..
  have cellF : ∀ x c, (envOfC qual scope s₀.heap.objs.size f cd).cells.lookup x = some c → c ∉ frs (envOfC qual scope s₀.heap.objs.size f cd :: outer) := fun x c e z => by
    obtain ⟨v, o, ho, hd⟩ := I.cell x c e
    have z' : c ∈ s₀.heap.objs.size :: frs outer := z
    rcases List.mem_cons.mp z' with z' | z'
    · exact I.cne x c e z'
    · obtain ⟨_, o2, q2, _⟩ := I.ok.funs.mem (show c ∈ outer.filterMap (·.frame) from z')
      have l1 := Heap.lt_size q2
      have l2 := I.ok.cab x c rfl e
      exact absurd (Nat.lt_of_lt_of_le l1 l2) (Nat.lt_irrefl _)
  refine ⟨⟨I.ok.mod, I.ok.kind, I.ok.glob, I.ok.blt, I.ok.above, I.ok.inj, I.ok.has, I.ok.cab, (fun z => nomatch z), I.ok.frames, I.ok.stk, I.ok.exf, I.ok.bs, I.ok.bsz, I.ok.noex, I.ok.exfs, I.ok.funs, I.ok.frf⟩, os.trans I.os, bare,
    ⟨fun b o q n hb _ => same b o (ubase.keep b o q n hb (by simp)) (ubase.free b o q n (by simp)) (notL b o q hb), fun b o q n hb _ => ?_, fun b o q n _ => ?_, fun b o q _ => ?_, fun b xs q => upE b _ (un.tups b xs (ubase.tups b xs q)), fun b o u q => upE b _ (un.frzs b o u (ubase.frzs b o u q)), fun b ps q => ?_⟩,
    ?_, fun x c e => ?_, ?_, fun x c e => ?_, fun p hp => ?_, ?_, List.length_replicate ..⟩
  · obtain ⟨sl, q1⟩ := ubase.slot b o q n hb (by simp)
    obtain ⟨sl1, q2⟩ := un.slot b _ q1 (ubase.free b o q n (by simp)) (List.mem_cons_of_mem _ hb) (by simp)
    obtain ⟨sl', q3⟩ := slotK b _ q2 (List.mem_cons_of_mem _ hb)
    exact ⟨sl', q3⟩
  · obtain ⟨o', q1⟩ := old b o q
    exact free2 b o' q1 (ubase.free b o q n (by simp))
  · obtain ⟨o', q1⟩ := old b o q
    obtain ⟨o2, q2⟩ := un.there b o' q1 (by simp)
    by_cases hb : b ∈ frs (envOfC qual scope s₀.heap.objs.size f cd :: outer)
    · obtain ⟨sl, q3⟩ := slotK b o2 q2 hb; exact ⟨_, q3⟩
    · exact ⟨o2, keep b o2 q2 (.inr ⟨o', q1⟩) hb⟩
  · obtain ⟨m1, e1⟩ := ubase.tbls b ps q
    obtain ⟨m2, e2⟩ := un.tbls b _ e1
    refine ⟨m1 ++ m2, ?_⟩
    rw [upE b _ e2, Array.append_assoc]
  · obtain ⟨mm, ⟨o, es, ep, ho, hd, r⟩, _⟩ := id I.loc
    have ho : s'.heap.get? s₀.heap.objs.size = some o := ho
    obtain ⟨sl, q1⟩ := un.slot _ o ho (hfree _ hL) hL (by simp)
    obtain ⟨sl', q2⟩ := slotK _ _ q1 hL
    refine ⟨mm, ⟨_, es, ep, q2, hd, r⟩, fun i x v _ e2 _ => ?_⟩
    rw [List.getElem?_replicate] at e2
    split at e2 <;> cases e2
  · obtain ⟨v, o, ho, hd⟩ := I.cell x c e
    exact ⟨v, o, same c o ho (I.freeC x c e) (cellF x c e), hd⟩
  · obtain ⟨mm, ⟨o, es, ep, ho, _⟩, _⟩ := id I.loc
    exact free2 _ o ho I.free
  · obtain ⟨v, o, ho, hd⟩ := I.cell x c e
    exact free2 c o ho (I.freeC x c e)
  · obtain ⟨e, n, ne, nf, d⟩ := I.pin p (by
      have hp : p ∈ pins ++ [] := hp
      rw [List.append_nil] at hp
      exact List.mem_append_left _ hp)
    have hf : p.1 ∉ frs (envOfC qual scope s₀.heap.objs.size f cd :: outer) := fun z => by
      have z' : p.1 ∈ s₀.heap.objs.size :: frs outer := z
      rcases List.mem_cons.mp z' with z' | z'
      · exact ne z'
      · exact nf z'
    exact ⟨same p.1 p.2 e n hf, free2 p.1 p.2 e n, ne, nf, d⟩
  · intro b u q
    by_cases hb : b = a
    · subst hb
      rw [upd_same] at q
      cases q
      obtain ⟨oe, vs, he, hcl, hdt, _⟩ := fl6.first
      exact ⟨⟨oe, vs, he, hcl, hdt⟩, ⟨oe, he⟩, fun h1 h2 ⟨o, vs, q1, q2, q3⟩ k => ⟨o, vs, k o q1, q2, q3⟩⟩
    · rw [upd_ne hb] at q
      exact (hok b u q).stay (fun c v hc q' => keep c v q' (.inl (by rcases hc with rfl | hc <;> simp_all)) (trk c (by rcases hc with rfl | hc <;> simp_all))) (fun c q' => upE c _ q') fun c xs q' => upE c _ q'
theorem RE.hnd {m : MM} {H : Hp} {c : Str} {a C : Addr} {nl i : Nat} (hc : g.cls c = some C) (ha : H a = some (.ext (IsX C a))) : RE g m H (hndEnv nl i c) ((List.replicate nl none).set i (some (.ref a))) := by
  refine RE.set (env := List.replicate nl none) (σ := List.replicate nl none) ⟨by simp, fun j d e => ?_⟩ (.exc hc ha) i
  rw [List.getElem?_replicate] at e
  split at e <;> cases e
theorem RE.unset {m : MM} {H : Hp} {env : DEnv} {σ : L2.St} (re : RE g m H env σ) (i : Nat) : RE g m H (env.set i none) (σ.set i none) := by
  refine ⟨by simp [re.len], fun j d e => ?_⟩
  by_cases hj : j = i
  · subst hj
    by_cases hl : j < env.length
    · rw [List.getElem?_set_self hl] at e; cases e
    · rw [List.getElem?_eq_none (by simpa using hl)] at e; cases e
  · rw [List.getElem?_set_ne (Ne.symm hj)] at e ⊢
    exact re.get j d e
set_option linter.all false in
theorem is_try {n xE : Str} {i : Nat} {CE : Addr} {u wd : Sms} {body suite : List Stmt} {b₀ : Stmt} {np hpos pos : Pos} (hN : N.Nodup) (hi : N[i]? = some n) (hloc : scope.names.lookup n = some .local) (hgE : scope.names.lookup xE = some .globalImplicit) (hmE : mg xE = some (.ref CE)) (xE' : XCls K CE)
    (hsub : ∀ c C, g.cls c = some C → PySem.W.subIn K (.ref C) (.ref CE) = some true) (hdE : (xE == ("__debug__" : Str)) = false)
    (hb : ∀ (XT : Value → Shared → Prop) (pn : List (Addr × Obj)) (EXT : XK), Passes (CXe P w) (Cx.tr (Xb P w K mg base N qual scope f cd A outer s₀ H₀ E) XT pn) EXT → PSs (Cx.tr (Xb P w K mg base N qual scope f cd A outer s₀ H₀ E) XT pn) body (tIs g EXT u))
    (hh : ∀ (a : Addr) (pn : List (Addr × Obj)), PSs (Cx.ha (Xb P w K mg base N qual scope f cd A outer s₀ H₀ E) a pn) (b₀ :: suite) (tIs g (fun _ _ _ => False) wd)) :
    PS (Xb P w K mg base N qual scope f cd A outer s₀ H₀ E) (.Try body [.ExceptHandler (some (.Name xE np)) (some n) (b₀ :: suite) hpos] [] [] pos) (tIs g E (sTry N.length i u wd)) := by
  intro pins s σ H De I ⟨env, m, st, re, R, q⟩
  refine wpAny_Try_except ?_
  have I1 := fun XT => Inv.toTr (XT := XT) (X := Xb P w K mg base N qual scope f cd A outer s₀ H₀ E) rfl I
  refine wpAny_mono (hb _ pins (fun cls _ H' => ∃ c C m' st', cls = .ref C ∧ g.cls c = some C ∧ Ext m H m' H' ∧ RS g m' H' st' ∧ RIs g E m' H' (hnd N.length i wd c st') De) ?_ [] s σ H De (I1 _) ⟨env, m, st, re, R, ?_⟩) (fun fl s' hs => ?_) fun e s' hs => hs
  · -- an error lands here
    intro pins' σ' H' s' e s'' I' hx
    obtain ⟨a, C, H2, rfl, os, bare, un, hok, ⟨⟨t, B, fl, cov⟩, no, new⟩, c, C', m', st', hCC, hcl, E1, R1, q1⟩ := hx
    cases hCC
    have un : Un (frs (envOfC qual scope s₀.heap.objs.size f cd :: outer)) [] H' H2 s'.heap s''.heap := un
    have fl : Heap.FlyingW B (envOfC qual scope s₀.heap.objs.size f cd :: outer) a (.ref C) (.ref t) s''.heap := fl
    refine wpAny_looks_onW (s := s'') I.ok.frames rfl fl fun h4 held4 up4 => ?_
    refine wpAny_landsW held4 fun h5 fl5 up5 => ?_
    have L5 := landed I' os bare un hok fl5 (up4.trans up5) fl cov no new
    refine wpAny_handleBy_cons (codeAny_handlers_test ?_) (by intro z; cases z)
    refine Calls.Name_function_global (env := envOfC qual scope s₀.heap.objs.size f cd) I.ok.kind hgE (Calls.loadGlobal_global (mg := mg) (show Heap.Ns h5 mainGlobals mg from I.mod.glob.keeps L5.bk) hmE ?_) hdE
    obtain ⟨oe, vs, he, hec, _⟩ := fl5.first
    refine xc_match (K := K) L5.kIn xE' (hsub c C hcl) he hec ?_
    refine codeAny_handlers_suite_as ?_
    refine lands_againW (s := { s'' with heap := h5 }) fl5 fun h6 fl6 up6 => ?_
    have L6 := landed I' os bare un hok fl6 ((up4.trans up5).trans up6) fl cov no new
    refine store_ok (X := Cx.ha (Xb P w K mg base N qual scope f cd A outer s₀ H₀ E) a pins) (v := .ref a) L6 hN hi (.inl hloc) rfl (fun s7 I7 => ?_) (.inr hloc)
    have E2 : Ext m' H2 m' (upd H2 a (.ext (IsX C a))) := .new no
    have R2 := R1.new (o := .ext (IsX C a)) no
    have re7 : RE g m' (upd H2 a (.ext (IsX C a))) (hndEnv N.length i c) ((List.replicate N.length none).set i (some (.ref a))) := RE.hnd hcl upd_same
    have q2 := q1.ext E2
    have h7 : wpAny (model P w) ((A.deeper (envOfC qual scope s₀.heap.objs.size f cd)).mark (some (.ref a))) (execs (b₀ :: suite) (envOfC qual scope s₀.heap.objs.size f cd))
        (SP (Cx.ha (Xb P w K mg base N qual scope f cd A outer s₀ H₀ E) a pins) [] { nx := fun σ H => De.nx (σ.set i none) H, bk := fun σ H => De.bk (σ.set i none) H, ct := fun σ H => De.ct (σ.set i none) H, rt := De.rt }) (fun _ _ => False) s7 := by
      refine hh a pins [] s7 _ _ _ I7 ⟨hndEnv N.length i c, m', st', re7, R2, ?_⟩
      unfold hnd at q2
      cases e : wd (hndEnv N.length i c) st' with
      | none => rw [e] at q2; exact q2
      | some r =>
        obtain ⟨fl, env', st''⟩ := r
        rw [e] at q2
        cases fl with
        | nx => exact fun m3 H3 σ3 E3 R3 re3 => q2 m3 H3 _ E3 R3 (re3.unset i)
        | bk => exact fun m3 H3 σ3 E3 R3 re3 => q2 m3 H3 _ E3 R3 (re3.unset i)
        | ct => exact fun m3 H3 σ3 E3 R3 re3 => q2 m3 H3 _ E3 R3 (re3.unset i)
        | rt d => exact q2
        | ex c => exact q2.elim
    refine wpAny_mono h7 (fun f' s8 h8 => ?_) fun _ _ z => z.elim
    cases f' with
    | next =>
      obtain ⟨σ8, H8, I8, q8⟩ := h8
      exact unbind_ok (Inv.ofHa rfl I.ok I8) hN hi hloc fun s9 I9 => ⟨_, H8, I9, q8⟩
    | brk =>
      obtain ⟨σ8, H8, I8, q8⟩ := h8
      exact unbind_ok (Inv.ofHa rfl I.ok I8) hN hi hloc fun s9 I9 => ⟨_, H8, I9, q8⟩
    | cont =>
      obtain ⟨σ8, H8, I8, q8⟩ := h8
      exact unbind_ok (Inv.ofHa rfl I.ok I8) hN hi hloc fun s9 I9 => ⟨_, H8, I9, q8⟩
    | ret v =>
      obtain ⟨x8, σ8, H8, I8, r8, q8⟩ := h8
      exact unbind_ok (Inv.ofHa rfl I.ok I8) hN hi hloc fun s9 I9 => ⟨x8, _, H8, I9, r8, q8⟩
  · unfold sTry at q
    cases e : u env st with
    | none => rw [e] at q; exact q
    | some r =>
      obtain ⟨fl, env', st'⟩ := r
      rw [e] at q
      cases fl with
      | nx => exact q
      | bk => exact q
      | ct => exact q
      | rt d => exact q
      | ex c => exact fun m' H' C E' R' hc => ⟨c, C, m', st', rfl, hc, E', R', q.ext E'⟩
  · have hs := SP.ofTr rfl hs
    cases fl with
    | next => exact wpAny_execs_nil hs
    | brk => exact hs
    | cont => exact hs
    | ret v => exact hs
end
end I2
set_option Elab.async false
set_option linter.all false
set_option maxRecDepth 100000
set_option maxHeartbeats 4000000
namespace I2
open PySem PySem.Spec PyProof.Rows L2
def noStar : Expr → Bool
  | .Starred _ _ => false
  | _ => true
theorem star_cons {e : Expr} {es : List Expr} {env : Env} (h : noStar e = true) : starEach (e :: es) env = (false, eval e env) :: starEach es env := by
  cases e <;> first | (cases h; done) | (rw [starEach]; done) | (rw [starEach]; intro _ _ z; cases z) | simp [starEach]
def noStars (es : List Expr) : Bool := es.all noStar
theorem star_any {pos : Pos} {env : Env} : ∀ {es : List Expr}, noStars es = true → (backTo pos (starEach es env)).any (·.1) = false
  | [], _ => by rw [starEach]; rfl
  | e :: es, h => by
    simp only [noStars, List.all_cons, Bool.and_eq_true] at h
    rw [star_cons h.1]
    show (false || (backTo pos (starEach es env)).any (·.1)) = false
    rw [star_any h.2]; rfl
theorem star_all {pos : Pos} {env : Env} : ∀ {es : List Expr}, noStars es = true → (backTo pos (starEach es env)).all (fun x => !x.1) = true
  | [], _ => by rw [starEach]; rfl
  | e :: es, h => by
    simp only [noStars, List.all_cons, Bool.and_eq_true] at h
    rw [star_cons h.1]
    show (true && (backTo pos (starEach es env)).all (fun x => !x.1)) = true
    rw [star_all h.2]; rfl
theorem kw_nil {pos : Pos} {env : Env} : (backToKw pos (keywordEach [] env)).all (fun x => x.1.isSome) = true := by rw [keywordEach]; rfl
def noComp : Expr → Bool
  | .ListComp _ _ _ _ => false
  | .SetComp _ _ _ _ => false
  | .DictComp _ _ _ _ _ => false
  | _ => true
theorem noSwap {e : Expr} {t : Option Expr} {l : Nat} {env : Env} (h : noComp e = true) : swapsWith e t l env = pure false := by
  cases e <;> first | (cases h; done) | rfl
def plainT : Expr → Bool
  | .UnaryOp .Not _ _ => false
  | .BoolOp _ _ _ => false
  | .IfExp _ _ _ _ => false
  | .Compare _ _ _ _ => false
  | _ => true
theorem plainT_of {e : Expr} {env : Env} (h : plainT e = true) : ∀ whole, isTrue e env whole = (do let v ← whole; standAt e.pos; holding [v] (truthy v)) := by
  intro whole
  cases e with
  | UnaryOp op x p =>
    cases op with
    | Not => cases h
    | _ => rfl
  | BoolOp _ _ _ => cases h
  | IfExp _ _ _ _ => cases h
  | Compare _ _ _ _ => cases h
  | _ => rfl
def noSet : Expr → Bool
  | .Set _ _ _ => false
  | _ => true
theorem noSet_of {e : Expr} {env : Env} (h : noSet e = true) : ∀ x, foldedSetIterable e env x = pure x := by
  intro x
  cases e <;> first | (cases h; done) | rfl
def plainBase : Expr → Bool
  | .Call _ _ _ _ => false
  | _ => true
theorem base_of {o : Expr} {name : Str} {env : Env} (h : plainBase o = true) : attributeBase o name env (eval o env) = eval o env := by
  cases o <;> first | (cases h; done) | rfl
def noSlice : Expr → Bool
  | .Slice _ _ _ _ => false
  | _ => true
theorem plainIx_of {b : Expr} (h : noSlice b = true) : PlainIx b := by
  intro o i
  cases b <;> first | (cases h; done) | rfl
section
variable {X : Cx} {g : GX} {EX : XK} {a b c e o : Expr} {es : List Expr} {pos p p2 apos cpos : Pos} {f h k : Sm} {fs : Sma} {t : Smt} {u w : Sms}
theorem ja_cons (ha : PE X e (tI g EX f)) (hr : PA X es (tIa g EX fs)) (hs : noStar e = true := by rfl) : PA X (e :: es) (tIa g EX (sCons f fs)) := ia_cons ha hr (star_cons hs)
theorem j_call {CX : CXT} {k n : Nat} {F : List D → Sto → Res D} {x : Str} {fa : Addr} {fd : FuncData} {ps : List Str} (G : FnOk X.prog X.w X.K X.mg X.base CX k fa fd ps (spF g n F)) (hr : Room k X.A) (hg : Gl X x) (hm : X.mg x = some (.ref fa))
    (hk : PySem.W.keepIn X.K (.ref fa) = true) (hb : Binds X.K fd ps []) (hx : Passes CX X EX) (ha : PA X (e :: es) (tIa g EX fs)) (hdb : (x == ("__debug__" : Str)) = false := by decide) (hs : noStars (e :: es) = true := by rfl) : PE X (.Call (.Name x p) (e :: es) [] pos) (tI g EX (sCall n F fs)) :=
  have h1 : noStar e = true ∧ noStars es = true := by simpa [noStars] using hs
  i_call G hr hg hm hk hb hx ha hdb (star_cons h1.1) (star_any h1.2)
theorem j_callH {CX : CXT} {k n : Nat} {F : List D → Sto → Res D} {x : Str} {fa : Addr} {fd : FuncData} {ps : List Str} (G : FnOkH X.prog X.w X.K X.mg X.base CX k fa fd ps (spF g n F)) (hr : RoomH k X.A) (hg : Gl X x) (hm : X.mg x = some (.ref fa))
    (hk : PySem.W.keepIn X.K (.ref fa) = true) (hb : Binds X.K fd ps []) (hx : Passes CX X EX) (ha : PA X (e :: es) (tIa g EX fs)) (hdb : (x == ("__debug__" : Str)) = false := by decide) (hs : noStars (e :: es) = true := by rfl) : PE X (.Call (.Name x p) (e :: es) [] pos) (tI g EX (sCall n F fs)) :=
  have h1 : noStar e = true ∧ noStars es = true := by simpa [noStars] using hs
  i_callH G hr hg hm hk hb hx ha hdb (star_cons h1.1) (star_any h1.2)
theorem j_bltnS {op : Sto → List D → Option D} {x : Str} {id : String} (hc : CallR X (.builtin id) (rCs g op)) (hg : Gl X x) (hm : X.mg x = none) (hv : bootBuiltins x = some (.builtin id)) (ha : PA X (e :: es) (tIa g EX fs)) (hn : x ≠ "__name__" := by decide) (hdb : (x == ("__debug__" : Str)) = false := by decide) (hs : noStars (e :: es) = true := by rfl) : PE X (.Call (.Name x p) (e :: es) [] pos) (tI g EX (sBs op fs)) :=
  have h1 : noStar e = true ∧ noStars es = true := by simpa [noStars] using hs
  i_bltnS hc hg hm hv ha hn hdb (star_cons h1.1) (star_any h1.2)
theorem j_typeS {op : Sto → List D → Option D} {x : Str} {T : String} (hc : CallR X (.type T) (rCs g op)) (hg : Gl X x) (hm : X.mg x = none) (hv : bootBuiltins x = some (.type T)) (ha : PA X (e :: es) (tIa g EX fs)) (hn : x ≠ "__name__" := by decide) (hdb : (x == ("__debug__" : Str)) = false := by decide) (hs : noStars (e :: es) = true := by rfl) : PE X (.Call (.Name x p) (e :: es) [] pos) (tI g EX (sBs op fs)) :=
  have h1 : noStar e = true ∧ noStars es = true := by simpa [noStars] using hs
  i_typeS hc hg hm hv ha hn hdb (star_cons h1.1) (star_any h1.2)
theorem j_isiB {T : String} (hK : X.K = g.K) (hg : Gl X "isinstance") (hm : X.mg "isinstance" = none) (hgT : Gl X (Str.ofString T)) (hmT : X.mg (Str.ofString T) = none) (hbT : bootBuiltins (Str.ofString T) = some (.type T)) (ha : PE X e (tI g EX f))
    (hnT : Str.ofString T ≠ "__name__" := by decide) (hdT : (Str.ofString T == ("__debug__" : Str)) = false := by decide) (hs : noStar e = true := by rfl) : PE X (.Call (.Name "isinstance" p) [e, .Name (Str.ofString T) p2] [] pos) (tI g EX (s1 (oIsiB T) f)) :=
  i_isiB hK hg hm hgT hmT hbT ha hnT hdT (star_cons hs)
theorem j_isx {T : Str} {tv : Value} {tV : V} (hK : X.K = g.K) (G : GXok g) (hg : Gl X "isinstance") (hm : X.mg "isinstance" = none) (hT : g.tyv T = some tv) (hV : ∀ u, RelV tV u → u = tv) (pT : PE X (.Name T p2) (tC tV)) (ha : PE X e (tI g EX f)) (hs : noStar e = true := by rfl) :
    PE X (.Call (.Name "isinstance" p) [e, .Name T p2] [] pos) (tI g EX (s1 (oIsx g T) f)) := i_isx hK G hg hm hT hV pT ha (star_cons hs)
theorem j_methL {name : Str} {id : String} {op : D → List D → Option D} (slot : Slot "list" name id) (hty : typeOf (.builtin id) = pure (.type "method_descriptor")) (hm : MtR X id (rM g op)) (ho : PE X o (tI g EX f)) (ha : PA X (e :: es) (tIa g EX fs))
    (hb : plainBase o = true := by rfl) (hs : noStars (e :: es) = true := by rfl) (hfew : decide ((e :: es).length < 30) = true := by rfl) (hline : (apos.endLine == cpos.line) = true := by rfl) : PE X (.Call (.Attribute o name apos) (e :: es) [] cpos) (tI g EX (sM op f fs)) :=
  have h1 : noStar e = true ∧ noStars es = true := by simpa [noStars] using hs
  i_methL slot hty hm ho ha (base_of hb) (by rw [star_all hs, kw_nil]; simpa using hfew) hline (star_cons h1.1) (star_any h1.2)
theorem j_tru (hK : X.K = g.K) (ha : PE X a (tI g EX f)) (he : plainT a = true := by rfl) : PT X a (tIt g EX (sTru f)) := i_tru hK ha (plainT_of he)
theorem j_ix (hK : X.K = g.K) (ha : PE X a (tI g EX f)) (hb : PE X b (tI g EX h)) (hs : noSlice b = true := by rfl) : PE X (.Subscript a b pos) (tI g EX (sIx f h)) := i_ix hK ha hb (plainIx_of hs)
theorem js_set {i : Nat} {x : Str} {pos' : Pos} (hN : X.N.Nodup) (hi : X.N[i]? = some x) (hx : Loc X.env.scope x) (ha : PE X a (tI g EX f)) (hs : noComp a = true := by rfl)
    (hf : X.fn x = true ∨ X.env.scope.names.lookup x = some .local := by first | exact .inl rfl | exact .inr rfl | assumption) : PS X (.Assign [.Name x pos'] a pos) (tIs g EX (sSet i f)) := is_set hN hi hx ha (noSwap hs) hf
theorem js_asg {tg : Expr} {bd : Bd} (ha : PE X a (tI g EX f)) (hg : PG X tg (tIg g bd)) (hs : noComp a = true := by rfl) (hw : swappedStores [tg] a X.env = pure none := by rfl)
    (h1 : (assignEach [tg] X.env).map (·.2) = [assign tg X.env] := by rfl) : PS X (.Assign [tg] a pos) (tIs g EX (sAsg bd f)) := is_asg ha hg (noSwap hs) hw h1
theorem js_put {o i : Expr} {spos : Pos} (ha : PE X a (tI g EX f)) (ho : PE X o (tI g EX h)) (hi : PE X i (tI g EX k)) (hs : noComp a = true := by rfl)
    (hq : ∀ v, assign (.Subscript o i spos) X.env v = (do
      let ov ← holding [v] (eval o X.env)
      let iv ← holding [v, ov] (eval i X.env)
      standAt spos
      holding [v, ov, iv] (setItem ov iv v)
      release [v, ov, iv] []) := by intro _; rfl)
    (hw : swappedStores [.Subscript o i spos] a X.env = pure none := by rfl) (h1 : (assignEach [.Subscript o i spos] X.env).map (·.2) = [assign (.Subscript o i spos) X.env] := by rfl) : PS X (.Assign [.Subscript o i spos] a pos) (tIs g EX (sPut f h k)) :=
  is_put ha ho hi hq (by unfold swapsWithSole; exact noSwap hs) hw h1
theorem js_for {tg : Expr} {bd : Bd} {body : List Stmt} (hK : X.K = g.K) (hp : PassesOwn (model X.prog X.w) X.A X.env X.xe) (hc : X.calm = true) (ha : PE X a (tI g EX f)) (hg : PG X tg (tIg g bd)) (hb : PSs X body (tIs g EX u)) (hs : noSet a = true := by rfl) : PS X (.For tg a body [] pos) (tIs g EX (sFor bd f u)) :=
  is_for hK hp hc ha hg hb (noSet_of hs)
theorem js_forR {tg : Expr} {bd : Bd} {body : List Stmt} (hp : PassesOwn (model X.prog X.w) X.A X.env X.xe) (hc : X.calm = true) (hgl : Gl X "range") (hmg : X.mg "range" = none) (ha : PA X [a] (tIa g EX fs)) (hg : PG X tg (tIg g bd)) (hb : PSs X body (tIs g EX u)) (hs : noStar a = true := by rfl) :
    PS X (.For tg (.Call (.Name "range" p) [a] [] p2) body [] pos) (tIs g EX (sForR bd fs u)) := is_forR hp hc hgl hmg ha hg hb (by rw [star_cons hs, starEach]) (noSet_of rfl)
theorem js_raise {x : Str} {C : Addr} {np : Pos} {cn : Str} (hq : PySem.W.excIn X.K C bmV "ValueError.__new__" = true) (hcl : g.cls cn = some C) (hg : Gl X x) (hm : X.mg x = some (.ref C)) (hc : X.calm = true) (hM : MadeOk X EX) (ha : PA X (e :: es) (tIa g EX fs)) (hd : (x == ("__debug__" : Str)) = false := by decide) (hs : noStars (e :: es) = true := by rfl) :
    PS X (.Raise (some (.Call (.Name x np) (e :: es) [] cpos)) none pos) (tIs g EX (sRaise cn fs)) :=
  have h1 : noStar e = true ∧ noStars es = true := by simpa [noStars] using hs
  is_raise hq hcl hg hm hc hM ha hd (star_cons h1.1) (star_any h1.2)
end
section
variable {X : Cx} {g : GX} {EX : XK} {elt tg iter : Expr} {ifs : List Expr} {scope : Scope} {own : List (Str × Nat)} {pos : Pos} {f h : Sm} {t : Smt} {T : Tgt} {fs : Sma} {vs : List Nat}
theorem j_comp (hK : X.K = g.K) (hc : X.calm = true) (hN : X.N.Nodup) (ha : PE X iter (tI g EX f)) (ok : BlkOk X.N X.env.scope scope own) (hv : own.map (·.2) = vs) (hall : T.all vs)
    (hg : ∀ (s : Shared) (H : Hp) (C : Addr) (cl : List (Str × Addr)) (fp : List Addr), PG (X.blk s H scope (compEnvC scope cl C X.env) fp) tg (T.tg X.K)) (ht : ∀ (s : Shared) (H : Hp) (C : Addr) (cl : List (Str × Addr)) (fp : List Addr), PTs (X.blk s H scope (compEnvC scope cl C X.env) fp) ifs (tIt g E00 t))
    (he : ∀ (s : Shared) (H : Hp) (C : Addr) (cl : List (Str × Addr)) (fp : List Addr), PE (X.blk s H scope (compEnvC scope cl C X.env) fp) elt (tI g E00 h)) (hs : noSet iter = true := by rfl) :
    PE X (.ListComp elt [⟨tg, iter, ifs, 0⟩] scope pos) (tI g EX (sComp T f t h vs)) := by subst hv; exact i_comp hK hc hN ha ok hall hg ht he (noSet_of hs)
end
theorem bb_len : bootBuiltins "len" = some (.builtin "len") := by decide +kernel
theorem bb_abs : bootBuiltins "abs" = some (.builtin "abs") := by decide +kernel
theorem bb_max : bootBuiltins "max" = some (.builtin "max") := by decide +kernel
theorem bb_min : bootBuiltins "min" = some (.builtin "min") := by decide +kernel
theorem bb_all : bootBuiltins "all" = some (.builtin "all") := by decide +kernel
theorem bb_int : bootBuiltins "int" = some (.type "int") := by decide +kernel
theorem bb_str : bootBuiltins "str" = some (.type "str") := by decide +kernel
theorem bb_tuple : bootBuiltins "tuple" = some (.type "tuple") := by decide +kernel
theorem bb_bool : bootBuiltins "bool" = some (.type "bool") := by decide +kernel
theorem bb_ValueError : bootBuiltins "ValueError" = some (.type "ValueError") := by decide +kernel
theorem pass_E0 {P : Program} {w : World} {X : Cx} : Passes (CXe P w) X E00 := fun _ _ _ _ _ _ _ ⟨_, _, _, _, _, _, _, _, _, h⟩ => h.elim
end I2
set_option Elab.async false
set_option linter.all false
set_option maxRecDepth 100000
set_option maxHeartbeats 4000000
namespace I2
open PySem PySem.Spec PyProof.Rows L2
theorem RD.top {g : GX} {m : MM} {H : Hp} {z : Addr} {od : Option Addr} {its : Array Value} {n : Nat} {sl : Array (Option Value)} {xs : List V} {ds : List D} (hl : g.K.lookup z = some ⟨.type "tuple", od, .seq its n, sl⟩) (hz : its.size ≤ sizeLine) (hv : Vals xs its.toList) (hr : RDs g m H ds xs) : RD g m H (.tup ds) (.ref z) :=
  .tup (.inr ⟨_, its, n, hl, rfl, rfl, hz, hv⟩) hr
theorem gok_of {K : PySem.W.Frag} {cl : List (Str × Addr)} {tb : List (Str × List (Str × Bool))} {ty : List (Str × Value)} (hx : ∀ e ∈ cl, XCls K e.2)
    (hk : ∀ e ∈ cl, ∀ l, tb.lookup e.1 = some l → ∀ p ∈ l, ∀ tv, ty.lookup p.1 = some tv → PySem.W.kitOne K (.ref e.2) tv = some p.2) :
    GXok ⟨K, fun c => cl.lookup c, fun c t => (tb.lookup c).bind fun l => l.lookup t, fun t => ty.lookup t⟩ := by
  refine ⟨fun c C h => hx _ (PySem.mem_of_lookup h), fun c T b C tv h1 h2 h3 => ?_⟩
  have h1 : ((tb.lookup c).bind fun l => l.lookup T) = some b := h1
  have h2 : cl.lookup c = some C := h2
  have h3 : ty.lookup T = some tv := h3
  cases e : tb.lookup c with
  | none => rw [e] at h1; cases h1
  | some l =>
    rw [e] at h1
    exact hk (c, C) (PySem.mem_of_lookup h2) l e (T, b) (PySem.mem_of_lookup h1) tv h3
end I2
set_option Elab.async false
set_option linter.all false
set_option maxRecDepth 100000
set_option maxHeartbeats 4000000
namespace I2
open PySem PySem.Spec PyProof.Rows L2
section
variable {prog : Program} {w : World} {A : Around} {E : Value → Shared → Prop} {s : Shared}
open HT in
theorem getItem_tuple_whole {t sl : Addr} {items : Array Value} {vl vu : Value} {lo hi : Option Int} {Q : Value → Shared → Prop} (ht : IsTup s.heap t items) (hs : s.heap.IsSliceOf sl vl vu .none) (pl : IsPart vl lo) (pu : IsPart vu hi)
    (hw : HT.sIx items.size 0 lo = 0 ∧ HT.sIx items.size items.size hi = items.size) (h : Q (.ref t) s) : wpAny (model prog w) A (getItem (.ref t) (.ref sl)) Q E s := by
  obtain ⟨os, hos, hcs, hds⟩ := id hs
  have hTs : s.TypeIs (.ref sl) "slice" := ⟨os, hos, hcs⟩
  unfold getItem
  try with_reducible refine wpAny_holding ?_
  first | refine wpAny_bind (wpAny_pure ?_) | skip
  refine wpAny_bind (wpAny_sequenceKey ht.typeIs (by decide) ?_)
  refine wpAny_bind (wpAny_callSpecial?_slot (name := Str.ofString "__getitem__") ht.typeIs PyProof.Rows.slot_tuple_getitem
    (wpAny_call_entry PyProof.Rows.slot_tuple_getitem ht.typeIs entry_tuple_getitem ?_ (args_tuple_getitem _ _)))
  show wpAny _ _ (Builtin.Tuple.tupleItemsOf (.ref t) >>= _) _ _ s
  refine wpAny_bind (tupleItemsOf_ ht ?_)
  refine wpAny_bind (wpAny_typeOf hTs ?_)
  rw [if_pos (by decide)]
  refine wpAny_bind (HT.sliceApplied_gen hs pl pu ?_)
  have hyes : ((((HT.sIx items.size 0 lo : Nat) : Int) == 0 && (1 : Int) == 1 && (HT.sIx items.size items.size hi - HT.sIx items.size 0 lo) == items.size) = true) := by
    rw [hw.1, hw.2]; simp
  show wpAny _ _ (if (((HT.sIx items.size 0 lo : Nat) : Int) == 0 && (1 : Int) == 1 && (HT.sIx items.size items.size hi - HT.sIx items.size 0 lo) == items.size) = true then _ else _) _ _ s
  rw [if_pos hyes]
  unfold Builtin.Tuple.tupleIsExact
  refine wpAny_bind (wpAny_bind (wpAny_typeOf ht.typeIs (wpAny_pure ?_)))
  rw [if_pos (by decide)]
  exact wpAny_bind (wpAny_rule (wpAny_pure ⟨_, rfl, wpAny_pure h⟩))
end
def rSlW (K : PySem.W.Frag) : V → Option Int → Option Int → Hp → VK → Prop := fun x lo hi H Q => ∃ a xs, x = .ref a ∧ SqT K H a xs ∧ (HT.sIx xs.length 0 lo = 0 ∧ HT.sIx xs.length xs.length hi = xs.length) ∧ Q (.ref a) H
theorem sl_whole {X : Cx} : SlR X (rSlW X.K) := by
  intro pins s σ H x v vl vu lo hi sl Q I rx hs pl pu h
  obtain ⟨a, xs, rfl, hx, hw, q⟩ := h
  cases rx
  obtain ⟨its, r, ht, hz⟩ := I.tuple hx
  have hlen : its.toArray.size = xs.length := by rw [List.size_toArray]; exact r.length.symm
  refine ⟨"tuple", _, PyProof.Rows.slot_tuple_getitem.lookup, ht.typeIs, ?_⟩
  exact getItem_tuple_whole ht hs pl pu (by rw [hlen]; exact hw) ⟨.ref a, H, I, rfl, q⟩
def oSlX (st : Sto) (lo hi : Option Int) : D → Option D
  | .tup ds => some (.tup (cutD ds lo hi))
  | x => oSl st lo hi x
def sSlX (f : Sm) (l u : Smo) : Sm := bnd f fun x => bnd l fun lo => bnd u fun hi => liftS fun st => oSlX st lo hi x
theorem i_slX {X : Cx} {g : GX} {EX : XK} {a : Expr} {pos : Pos} {f : Sm} {lo hi : Option Expr} {p2 : Pos} {l u : Smo} (hK : X.K = g.K) (ha : PE X a (tI g EX f)) (hl : PO X lo (tIo g EX l)) (hu : PO X hi (tIo g EX u)) : PE X (.Subscript a (.Slice lo hi none p2) pos) (tI g EX (sSlX f l u)) :=
  PE.mono (pe_slice (SlR.or sl_whole (SlR.or sl_list sl_tup)) ha hl hu) fun σ H Q ⟨env, m, st, re, R, q⟩ => by
    refine ⟨env, m, st, re, R, q.bnd.mono fun d1 m1 H1 st1 E1 R1 q v1 r1 => ?_⟩
    refine ⟨env, m1, st1, re.ext E1, R1, q.bnd.mono fun lo m2 H2 st2 E2 R2 q => ?_⟩
    refine ⟨env, m2, st2, (re.ext E1).ext E2, R2, q.bnd.mono fun hi m3 H3 st3 E3 R3 q => ?_⟩
    obtain ⟨d, e, q⟩ := q.liftS
    rw [hK]
    have r1 := (r1.ext E2).ext E3
    cases r1 with
    | @lst p xs ds hs hn hr => cases e; exact .inr (.inl ⟨p, xs, rfl, .of hs, fun p hp => q m3 _ (.new hp) (R3.new hp) _ (.newL R3 (hr.cut lo hi) hp)⟩)
    | @scr p xs ds hs hr => cases e; exact .inr (.inl ⟨p, xs, rfl, hs.sq, fun p hp => q m3 _ (.new hp) (R3.new hp) _ (.newL R3 (hr.cut lo hi) hp)⟩)
    | @tup p xs ds hs hr =>
      cases e
      by_cases hw : HT.sIx ds.length 0 lo = 0 ∧ HT.sIx ds.length ds.length hi = ds.length
      · refine .inl ⟨p, xs, rfl, hs, by rw [← hr.length]; exact hw, q m3 H3 (.refl _ _) R3 _ ?_⟩
        have : cutD ds lo hi = ds := by unfold cutD; rw [hw.1, hw.2]; simp
        rw [this]
        exact .tup hs hr
      · exact .inr (.inr ⟨p, xs, rfl, hs, by rw [← hr.length]; exact hw, fun p hp => q m3 _ (.new hp) (R3.new hp) _ (.newT (hr.cut lo hi) hp)⟩)
    | @ref i p hp =>
      simp only [oSlX, oSl] at e
      cases e1 : st3[i]? with
      | none => rw [e1] at e; cases e
      | some c =>
        rw [e1] at e
        cases c with
        | dic kvs => cases e
        | gone => cases e
        | lst ds =>
          obtain ⟨xs, hx, hr⟩ := R3.at i _ p e1 hp
          cases e
          exact .inr (.inl ⟨p, xs, rfl, .of hx, fun p hp => q m3 _ (.new hp) (R3.new hp) _ (.newL R3 (hr.cut lo hi) hp)⟩)
    | _ => cases e
end I2
set_option Elab.async false
set_option linter.all false
set_option maxRecDepth 100000
set_option maxHeartbeats 4000000
namespace I2
open PySem PySem.Spec PyProof.Rows L2
section
variable {X : Cx} {g : GX} {EX : XK} {a : Expr} {pos p2 : Pos} {f : Sm}
theorem tuple_addW0 (l b : Addr) (items items2 : Array Value) (n n2 : Nat) (dd dd2 : Option Addr) (sl sl2 : Array (Option Value)) (hc0 : items.isEmpty = true) :
    Meets (Builtin.«tuple.__add__» ⟨[.ref l, .ref b], []⟩) (fun _ R s => s.heap.get? l = some { cls := .type "tuple", dict := dd, data := .seq items n, slots := sl } ∧ s.heap.get? b = some { cls := .type "tuple", dict := dd2, data := .seq items2 n2, slots := sl2 } ∧ R (.ok (.ret (Value.ref b))) { s with heap := s.heap, toks := s.toks }) :=
  .of_wp fun prog w A R s h => by obtain ⟨hp, g, d, tk, os⟩ := s; obtain ⟨hl, hb, h⟩ := h; have f1 := AutoSeq1.idx_int; have f2 := AutoSeq1.sub_tuple_tuple; have f3 := AutoSeq1.sub_list_list; have f4 := AutoSeq1.sub_tuple_list; have f5 := AutoSeq1.sub_list_tuple; wp_walk using wpAny_loadPart' hl, wpAny_loadPart' hb; exact ⟨_, rfl, h⟩
theorem op_catT0 : OpR X (binaryOp .Add) (fun x y H Q => ∃ a b ys, x = .ref a ∧ y = .ref b ∧ SqT X.K H a [] ∧ SqT X.K H b ys ∧ Q (.ref b) H) := by
  intro pins s σ H x y v u Q I rx ry h
  obtain ⟨t, b, ys, rfl, rfl, ha, hb, q⟩ := h
  cases rx
  cases ry
  obtain ⟨its, r1, p1, _⟩ := I.tuple ha
  obtain ⟨its2, r2, p2, _⟩ := I.tuple hb
  have e0 : its = [] := r1.nil_iff.mpr rfl
  subst e0
  obtain ⟨⟨cls, dd, data, sl⟩, ho, hc, n, hd⟩ := id p1
  obtain ⟨⟨cls2, dd2, data2, sl2⟩, ho2, hc2, n2, hd2⟩ := id p2
  simp only at hc hd hc2 hd2
  subst hc hd hc2 hd2
  exact PySem.concat_meets ⟨_, ho, rfl⟩ ⟨_, ho2, rfl⟩ PySem.noFill_tuple_add PySem.seq_tuple_add PySem.F.slot_tuple_add PySem.F.entry_tuple_add (PySem.F.args_tuple_add_2 _ _)
      (tuple_addW0 t b #[] its2.toArray n n2 dd dd2 sl sl2 rfl) ⟨ho, ho2, ⟨.ref b, H, I, rfl, q⟩⟩
def oAddX : D → D → Option D
  | .tup [], .tup ys => some (.tup ys)
  | x, y => oAdd x y
theorem r_addX (hK : X.K = g.K) : OpR X (binaryOp .Add) (rD g oAddX) := by
  intro pins s σ H x y v u Q I rx ry ⟨m, st, dx, dy, d, R, r1, r2, e, q⟩
  by_cases h : ∃ ys, dx = .tup [] ∧ dy = .tup ys
  · obtain ⟨ys, rfl, rfl⟩ := h
    cases e
    cases r1 with
    | @tup a xs ds hs hr =>
      cases hr
      cases r2 with
      | @tup b us es hs' hr' => exact op_catT0 pins s σ H _ _ v u Q I rx ry ⟨a, b, us, rfl, rfl, by rw [hK]; exact hs, by rw [hK]; exact hs', q _ m H (.refl _ _) R (.tup hs' hr')⟩
  · have e' : oAdd dx dy = some d := by
      unfold oAddX at e
      split at e
      · exact absurd ⟨_, rfl, rfl⟩ h
      · exact e
    exact r_add hK pins s σ H x y v u Q I rx ry ⟨m, st, dx, dy, d, R, r1, r2, e', q⟩
end
section
variable {X : Cx} {g : GX} {EX : XK} {elt tg iter : Expr} {ifs : List Expr} {scope : Scope} {own : List (Str × Nat)} {pos : Pos} {f h : Sm} {t : Smt} {T : Tgt} {fs : Sma} {vs : List Nat}
def rngOf2 : List D → Option (List D)
  | [.int i, .int j] => if (-(2 ^ 62) ≤ i ∧ i < 2 ^ 62) ∧ (-(2 ^ 62) ≤ j ∧ j < 2 ^ 62) then some (rngL i (j - i).toNat) else none
  | _ => none
def sCompR2 (T : Tgt) (fs : Sma) (t : Smt) (h : Sm) (vs : List Nat) : Sm := bnd fs fun ds => bnd (lift (rngOf2 ds)) fun ds => compR T t h vs ds
theorem i_compR2 {a b : Expr} {p p' : Pos} (hK : X.K = g.K) (hc : X.calm = true) (hN : X.N.Nodup) (hgl : Gl X "range") (hmg : X.mg "range" = none) (ha : PA X [a, b] (tIa g EX fs)) (ok : BlkOk X.N X.env.scope scope own) (hall : T.all (own.map (·.2)))
    (hg : ∀ (s : Shared) (H : Hp) (C : Addr) (cl : List (Str × Addr)) (fp : List Addr), PG (X.blk s H scope (compEnvC scope cl C X.env) fp) tg (T.tg X.K)) (ht : ∀ (s : Shared) (H : Hp) (C : Addr) (cl : List (Str × Addr)) (fp : List Addr), PTs (X.blk s H scope (compEnvC scope cl C X.env) fp) ifs (tIt g E00 t))
    (he : ∀ (s : Shared) (H : Hp) (C : Addr) (cl : List (Str × Addr)) (fp : List Addr), PE (X.blk s H scope (compEnvC scope cl C X.env) fp) elt (tI g E00 h)) (hst : starEach [a, b] X.env = [(false, eval a X.env), (false, eval b X.env)]) (hst2 : starEach [b] X.env = [(false, eval b X.env)]) (hs : ∀ x, foldedSetIterable (.Call (.Name "range" p) [a, b] [] p') X.env x = pure x) :
    PE X (.ListComp elt [⟨tg, .Call (.Name "range" p) [a, b] [] p', ifs, 0⟩] scope pos) (tI g EX (sCompR2 T fs t h (own.map (·.2)))) := PE.mono (pe_lc hc hN (pi_range2 hgl hmg ha hst hst2) ok hg ht he hs) fun σ H Q ⟨env, m, st, re, R, q⟩ => by
  refine ⟨env, m, st, re, R, q.bnd.mono fun d m1 H1 st1 E1 R1 q v r => ?_⟩
  obtain ⟨ds, e, q⟩ := q.bnd.lift
  obtain ⟨ys, stF, ec, hz, q9⟩ := compR_of (q m1 H1 (.refl _ _) R1)
  have re1 := (re.ext E1).wipe (own.map (·.2))
  obtain ⟨x, y, v, u, rfl, rfl, rx, ry⟩ := two_of (op := rngOf2) r e rfl (fun a => by cases a <;> rfl) (fun a b c r => by cases a <;> cases b <;> rfl)
  rw [hK]
  cases rx with
  | int i =>
    cases ry with
    | int j =>
      simp only [rngOf2] at e
      split at e
      · rename_i hj
        cases e
        refine ⟨i, j, rfl, ⟨hj.1.1, hj.1.2, hj.2.1, hj.2.2⟩, fun D' hD => lc_range (lo := i) (n := (j - i).toNat) (fun k H2 => Turns g m1 H1 D' T.bd t h (wipeD env (own.map (·.2))) ys stF ((rngL i (j - i).toNat).drop k) H2) (turns_start R1 hD ec) (fun k H2 hi P => ?_) (fun H2 P => ?_)⟩
        · rw [rngL_drop i _ k hi] at P
          exact turn_one rfl rfl hD hz hall re1 (fun _ _ _ => .int _) P
        · rw [List.drop_eq_nil_of_le (by rw [rngL_length]; exact Nat.le_refl _)] at P
          obtain ⟨m2, e2, R2, r2⟩ := turns_end R1 hD P
          exact q9 m2 H2 e2 R2 _ r2
      · cases e
    | _ => cases e
  | _ => cases ry <;> cases e
theorem j_compR2 {a b : Expr} {p p' : Pos} (hK : X.K = g.K) (hc : X.calm = true) (hN : X.N.Nodup) (hgl : Gl X "range") (hmg : X.mg "range" = none) (ha : PA X [a, b] (tIa g EX fs)) (ok : BlkOk X.N X.env.scope scope own) (hv : own.map (·.2) = vs) (hall : T.all vs)
    (hg : ∀ (s : Shared) (H : Hp) (C : Addr) (cl : List (Str × Addr)) (fp : List Addr), PG (X.blk s H scope (compEnvC scope cl C X.env) fp) tg (T.tg X.K)) (ht : ∀ (s : Shared) (H : Hp) (C : Addr) (cl : List (Str × Addr)) (fp : List Addr), PTs (X.blk s H scope (compEnvC scope cl C X.env) fp) ifs (tIt g E00 t))
    (he : ∀ (s : Shared) (H : Hp) (C : Addr) (cl : List (Str × Addr)) (fp : List Addr), PE (X.blk s H scope (compEnvC scope cl C X.env) fp) elt (tI g E00 h)) (hs : noStar a = true := by rfl) (hs2 : noStar b = true := by rfl) :
    PE X (.ListComp elt [⟨tg, .Call (.Name "range" p) [a, b] [] p', ifs, 0⟩] scope pos) (tI g EX (sCompR2 T fs t h vs)) := by subst hv; exact i_compR2 hK hc hN hgl hmg ha ok hall hg ht he (by rw [star_cons hs, star_cons hs2, starEach]) (by rw [star_cons hs2, starEach]) (noSet_of rfl)
end
end I2
set_option Elab.async false
set_option linter.all false
set_option maxRecDepth 100000
set_option maxHeartbeats 4000000
namespace I2
open PySem PySem.Spec PyProof.Rows L2
end I2
set_option Elab.async false
set_option linter.all false
set_option maxRecDepth 100000
set_option maxHeartbeats 4000000
namespace I2
open PySem PySem.Spec PyProof.Rows L2
section
variable {X : Cx} {g : GX}
theorem op_neT0 (hu : X.A.units + 64 < cLine) : OpR X (compareOp .NotEq) (fun x y H Q => ∃ a b xs, x = .ref a ∧ y = .ref b ∧ SqT X.K H a xs ∧ SqT X.K H b [] ∧ Q (.bl (!xs.isEmpty)) H) := by
  intro pins s σ H x y v u Q I rx ry h
  obtain ⟨t, b, xs, rfl, rfl, ha, hb, q⟩ := h
  cases rx
  cases ry
  obtain ⟨its, r1, p1, _⟩ := I.tuple ha
  obtain ⟨its2, r2, p2, _⟩ := I.tuple hb
  have e0 : its2 = [] := r2.nil_iff.mpr rfl
  subst e0
  have e : (!((List.range (min its.toArray.size (#[] : Array Value).size)).all (fun _ => true) && its.toArray.size == (#[] : Array Value).size)) = !xs.isEmpty := by
    have hl := r1.length
    cases xs with
    | nil =>
      have : its = [] := List.eq_nil_of_length_eq_zero (by simpa using hl.symm)
      subst this; rfl
    | cons x xs =>
      cases its with
      | nil => simp at hl
      | cons y ys => simp
  have R := PySem.SeqAt.RcNeAt.tuples (A := X.A) (s := s) (l := t) (b := b) (items := its.toArray) (items2 := #[]) (e := fun _ => true) p1 p2 (by omega) (fun j h1 h2 => absurd h2 (by simp))
  rw [e] at R
  exact R X.prog X.w X.xe _ ⟨.bl _, H, I, rfl, q⟩
def oNeX : D → D → Option D
  | .tup xs, .tup [] => some (.bl (!xs.isEmpty))
  | x, y => oNe x y
theorem r_neX (hK : X.K = g.K) (hu : X.A.units + 64 < cLine) : OpR X (compareOp .NotEq) (rD g oNeX) := by
  intro pins s σ H x y v u Q I rx ry ⟨m, st, dx, dy, d, R, r1, r2, e, q⟩
  by_cases h : ∃ xs, dx = .tup xs ∧ dy = .tup []
  · obtain ⟨xs, rfl, rfl⟩ := h
    cases e
    cases r1 with
    | @tup a us ds hs hr =>
      cases r2 with
      | @tup b ws es hs' hr' =>
        cases hr'
        refine op_neT0 hu pins s σ H _ _ v u Q I rx ry ⟨a, b, us, rfl, rfl, by rw [hK]; exact hs, by rw [hK]; exact hs', ?_⟩
        rw [← hr.empty]
        exact q _ m H (.refl _ _) R (.bl _)
  · have e' : oNe dx dy = some d := by
      unfold oNeX at e
      split at e
      · exact absurd ⟨_, rfl, rfl⟩ h
      · exact e
    exact r_ne hK hu pins s σ H x y v u Q I rx ry ⟨m, st, dx, dy, d, R, r1, r2, e', q⟩
end
end I2
set_option Elab.async false
set_option linter.all false
set_option maxRecDepth 100000
set_option maxHeartbeats 4000000
namespace I2
open PySem PySem.Spec PyProof.Rows L2
section
variable {g : GX} {m m1 m2 m4 : MM} {H H1 H4 : Hp} {st : Sto} {D' : Addr}
theorem Turns.new {bd : Bd} {t : Smt} {h : Sm} {env : DEnv} {tot : List D} {stF : Sto} {rest : List D} {T : Addr} {o : HO} (P : Turns g m1 H1 D' bd t h env tot stF rest H) (hT : H T = none) : Turns g m1 H1 D' bd t h env tot stF rest (upd H T o) := by
  obtain ⟨m2, st2, acc, accD, ys, E1, R, hd, ra, ec, et⟩ := P.ex
  exact ⟨m2, st2, acc, accD, ys, E1.trans (.new hT), R.new hT, upd_keep hT hd, ra.ext (.new hT), ec, et⟩
end
end I2
set_option Elab.async false
set_option linter.all false
set_option maxRecDepth 100000
set_option maxHeartbeats 4000000
namespace I2
open PySem PySem.Spec PyProof.Rows L2
def getZ (kvs : List (Int × D)) (k : Int) : Option D := (kvs.find? fun kv => decide (kv.1 = k)).map (·.2)
def putZ (kvs : List (Int × D)) (k : Int) (v : D) : List (Int × D) :=
  if (kvs.any fun kv => decide (kv.1 = k)) = true then kvs.map (fun kv => if kv.1 = k then (kv.1, v) else kv) else kvs ++ [(k, v)]
inductive KR (g : GX) (m : MM) (H : Hp) : List (Int × D) → List (Key × V) → Prop
  | nil : KR g m H [] []
  | cons {k : Int} {d : D} {v : V} {kvs : List (Int × D)} {ys : List (Key × V)} : RD g m H d v → KR g m H kvs ys → KR g m H ((k, d) :: kvs) ((Sum.inl k, v) :: ys)
section
variable {g : GX} {m : MM} {H : Hp}
theorem KR.of : ∀ {kvs : List (Int × D)} {ys : List (Key × V)}, ys.map (·.1) = kvs.map (fun p => Sum.inl p.1) → RDs g m H (kvs.map (·.2)) (ys.map (·.2)) → KR g m H kvs ys
  | [], [], _, _ => .nil
  | [], _ :: _, e, _ => by simp at e
  | _ :: _, [], e, _ => by simp at e
  | (k, d) :: kvs, (k', v) :: ys, e, r => by
    simp only [List.map_cons, List.cons.injEq] at e
    obtain ⟨e1, e2⟩ := e
    subst e1
    cases r with
    | cons r t => exact .cons r (KR.of e2 t)
theorem KR.keys : ∀ {kvs : List (Int × D)} {ys : List (Key × V)}, KR g m H kvs ys → ys.map (·.1) = kvs.map (fun p => Sum.inl p.1)
  | _, _, .nil => rfl
  | _, _, .cons _ t => by simp [KR.keys t]
theorem KR.vals : ∀ {kvs : List (Int × D)} {ys : List (Key × V)}, KR g m H kvs ys → RDs g m H (kvs.map (·.2)) (ys.map (·.2))
  | _, _, .nil => .nil
  | _, _, .cons r t => .cons r (KR.vals t)
theorem KR.length : ∀ {kvs : List (Int × D)} {ys : List (Key × V)}, KR g m H kvs ys → kvs.length = ys.length
  | _, _, .nil => rfl
  | _, _, .cons r t => by simp [KR.length t]
theorem inl_iff {a b : Int} : (Sum.inl a : Key) = Sum.inl b ↔ a = b := ⟨fun e => Sum.inl.inj e, fun e => by rw [e]⟩
theorem KR.get : ∀ {kvs : List (Int × D)} {ys : List (Key × V)} {k : Int} {d : D}, KR g m H kvs ys → getZ kvs k = some d → ∃ v, valV ys (Sum.inl k) = some v ∧ RD g m H d v
  | _, _, _, _, .nil, e => by simp [getZ] at e
  | _, _, k, d, .cons (k := j) (d := d0) (v := v0) r t, e => by
    by_cases h : j = k
    · subst h
      simp [getZ] at e
      subst e
      exact ⟨_, valV_pos rfl, r⟩
    · rw [valV_neg (fun z => h (inl_iff.mp z))]
      exact KR.get t (by simpa [getZ, List.find?_cons, h] using e)
theorem KR.any : ∀ {kvs : List (Int × D)} {ys : List (Key × V)} (k : Int), KR g m H kvs ys → (ys.any fun kv => decide (kv.1 = (Sum.inl k : Key))) = kvs.any fun kv => decide (kv.1 = k)
  | _, _, _, .nil => rfl
  | _, _, k, .cons (k := j) r t => by
    rw [List.any_cons, List.any_cons, KR.any k t]
    congr 1
    exact decide_eq_decide.mpr inl_iff
theorem KR.repl {d : D} {v : V} (r0 : RD g m H d v) (k : Int) : ∀ {kvs : List (Int × D)} {ys : List (Key × V)}, KR g m H kvs ys →
    KR g m H (kvs.map fun kv => if kv.1 = k then (kv.1, d) else kv) (ys.map fun kv => if kv.1 = (Sum.inl k : Key) then (kv.1, v) else kv)
  | _, _, .nil => .nil
  | _, _, .cons (k := j) r t => by
    rw [List.map_cons, List.map_cons]
    by_cases h : j = k
    · rw [if_pos h, if_pos (inl_iff.mpr h)]; exact .cons r0 (KR.repl r0 k t)
    · rw [if_neg h, if_neg (fun z => h (inl_iff.mp z))]; exact .cons r (KR.repl r0 k t)
theorem KR.snoc {d : D} {v : V} (r0 : RD g m H d v) (k : Int) : ∀ {kvs : List (Int × D)} {ys : List (Key × V)}, KR g m H kvs ys → KR g m H (kvs ++ [(k, d)]) (ys ++ [(Sum.inl k, v)])
  | _, _, .nil => .cons r0 .nil
  | _, _, .cons r t => .cons r (KR.snoc r0 k t)
theorem KR.put {d : D} {v : V} (r0 : RD g m H d v) (k : Int) {kvs : List (Int × D)} {ys : List (Key × V)} (h : KR g m H kvs ys) : KR g m H (putZ kvs k d) (putK ys (Sum.inl k) v) := by
  unfold putZ putK
  rw [h.any k]
  split
  · exact h.repl r0 k
  · exact h.snoc r0 k
theorem KR.ext {m' : MM} {H' : Hp} (e : Ext m H m' H') : ∀ {kvs : List (Int × D)} {ys : List (Key × V)}, KR g m H kvs ys → KR g m' H' kvs ys
  | _, _, .nil => .nil
  | _, _, .cons r t => .cons (r.ext e) (KR.ext e t)
end
section
variable {X : Cx} {g : GX} {EX : XK} {a b e : Expr} {es : List Expr} {pos p2 : Pos} {f h k : Sm} {fs : Sma}
theorem rds_ints {m : MM} {H : Hp} : ∀ ns : List Int, RDs g m H (ns.map D.int) (ns.map V.int)
  | [] => .nil
  | n :: ns => .cons (.int n) (rds_ints ns)
end
end I2
set_option Elab.async false
set_option linter.all false
set_option maxRecDepth 100000
set_option maxHeartbeats 4000000
namespace I2
open PySem PySem.Spec PyProof.Rows L2
end I2
set_option Elab.async false
set_option linter.all false
set_option maxRecDepth 100000
set_option maxHeartbeats 4000000
namespace I2
open PySem PySem.Spec PyProof.Rows L2
section
variable {X : Cx} {g : GX} {EX : XK}
def dV : D → Option V
  | .non => some .non
  | .bl b => some (.bl b)
  | .int i => some (.int i)
  | .str x => some (.str x)
  | _ => none
theorem RD.dV {m : MM} {H : Hp} {d : D} {v w : V} (r : RD g m H d v) (e : I2.dV d = some w) : v = w ∧ flatV v = true := by
  cases r <;> simp [I2.dV] at e <;> subst e <;> exact ⟨rfl, rfl⟩
end
end I2
set_option Elab.async false
set_option linter.all false
set_option maxRecDepth 100000
set_option maxHeartbeats 4000000
namespace I2
open PySem PySem.Spec PyProof.Rows L2
end I2
set_option Elab.async false
set_option linter.all false
set_option maxRecDepth 100000
set_option maxHeartbeats 4000000
namespace I2
open PySem PySem.Spec PyProof.Rows L2
end I2
set_option Elab.async false
set_option linter.all false
set_option maxRecDepth 100000
set_option maxHeartbeats 4000000
namespace I2
open PySem PySem.Spec PyProof.Rows L2
end I2
set_option Elab.async false
set_option linter.all false
set_option maxRecDepth 100000
set_option maxHeartbeats 4000000
namespace I2
open PySem PySem.Spec PyProof.Rows L2
section
variable {X : Cx} {g : GX} {EX : XK}
noncomputable def eqRd (h : Heap) (dx : PyData) (u : Value) : Bool := @decide (∃ d as, Reads h u d as ∧ PyData.eqv d dx = true) (Classical.propDecidable _)
theorem eqRd_of {h : Heap} {dx d : PyData} {u : Value} {as : List Addr} (r : Reads h u d as) (hl : d.canLay0 = true) : eqRd h dx u = PyData.eqv d dx := by
  unfold eqRd
  cases e : PyData.eqv d dx with
  | true => exact @decide_eq_true _ (Classical.propDecidable _) ⟨d, as, r, e⟩
  | false =>
    refine @decide_eq_false _ (Classical.propDecidable _) ?_
    rintro ⟨d', as', r', e'⟩
    have := (Reads.unique r d' as' r').1
    subst this
    rw [e] at e'
    cases e'
def rInD (K : PySem.W.Frag) (neg : Bool) : R2 := fun x y H Q => ∃ p xs ds dx, y = .ref p ∧ (SqL K H p xs ∨ SqT K H p xs) ∧ Dp K H x dx ∧ SeqAt.shaped dx = true ∧ dx.depth ≤ 60 ∧ DpAll K H xs ds ∧ ds.all SeqAt.shaped = true ∧ Q (.bl (if neg then !(ds.any fun d => PyData.eqv d dx) else ds.any fun d => PyData.eqv d dx)) H
theorem all_rd {pins : List (Addr × Obj)} {σ : L2.St} {H : Hp} {s : Shared} (I : Inv X pins σ H s) : ∀ {xs : List V} {us : List Value} {ds : List PyData}, Vals xs us → DpAll X.K H xs ds → ds.all SeqAt.shaped = true → (∀ u ∈ us, ∃ d as, Reads s.heap u d as ∧ SeqAt.shaped d = true) ∧ ∀ dx, us.any (eqRd s.heap dx) = ds.any fun d => PyData.eqv d dx
  | _, _, _, .nil, .nil, _ => ⟨fun u hu => (by cases hu), fun _ => rfl⟩
  | _, _, _, .cons r t, .cons d dd, h => by
    rw [List.all_cons, Bool.and_eq_true] at h
    obtain ⟨as, rd⟩ := Dp.reads I _ _ _ d r
    obtain ⟨a, b⟩ := all_rd I t dd h.2
    refine ⟨fun u hu => ?_, fun dx => ?_⟩
    · rcases List.mem_cons.mp hu with rfl | hu
      · exact ⟨_, as, rd, h.1⟩
      · exact a u hu
    · rw [List.any_cons, List.any_cons, eqRd_of rd (SeqAt.canLay_of_shaped h.1), b dx]
theorem mem_rd {A : Around} {s : Shared} {dx : PyData} {v : Value} {as : List Addr} (hu : A.in1.units + 60 < cLine) (rx : Reads s.heap v dx as) (hx : SeqAt.shaped dx = true) (h60 : dx.depth ≤ 60) {us : List Value} (h : ∀ u ∈ us, ∃ d as, Reads s.heap u d as ∧ SeqAt.shaped d = true) : ∀ u ∈ us, SeqAt.EqAt A.in1 s u v (eqRd s.heap dx u) := fun u hm => by
  obtain ⟨d, bs, rd, hd⟩ := h u hm
  rw [eqRd_of rd (SeqAt.canLay_of_shaped hd)]
  exact SeqAt.eqAt_reads d dx A.in1 s u v bs as rd rx (SeqAt.canLay_of_shaped hd) (SeqAt.canLay_of_shaped hx) (by have : min d.depth dx.depth ≤ dx.depth := Nat.min_le_right _ _
                                                                                                                  omega)
theorem in1_room {A : Around} (hu : A.units + 64 < cLine) : A.in1.units + 60 < cLine := by
  have : A.in1.units = A.units + 1 := rfl
  omega
theorem op_inD (hu : X.A.units + 64 < cLine) : OpR X (compareOp .In) (rInD X.K false) := by
  intro pins s σ H x y v u Q I rx ry h
  obtain ⟨p, xs, ds, dx, rfl, hq, hx, sx, h60, hd, sd, q⟩ := h
  cases ry
  obtain ⟨as, rdx⟩ := Dp.reads I _ _ _ hx rx
  rcases hq with hq | hq
  · obtain ⟨its, r, pl, hz⟩ := I.list hq
    obtain ⟨a, b⟩ := all_rd I r hd sd
    refine SeqAt.in_listAt (eqRd s.heap dx) pl.isList (fun w hw => mem_rd (in1_room hu) rdx sx h60 a w (by simpa using hw)) ⟨.bl _, H, I, rfl, ?_⟩
    rw [show its.toArray.any (eqRd s.heap dx) = its.any (eqRd s.heap dx) by simp, b]
    exact q
  · obtain ⟨its, r, pl, hz⟩ := I.tuple hq
    obtain ⟨a, b⟩ := all_rd I r hd sd
    refine SeqAt.in_tupleAt (eqRd s.heap dx) pl (fun w hw => mem_rd (in1_room hu) rdx sx h60 a w (by simpa using hw)) ⟨.bl _, H, I, rfl, ?_⟩
    rw [show its.toArray.any (eqRd s.heap dx) = its.any (eqRd s.heap dx) by simp, b]
    exact q
def inPy (x : D) (ds : List D) : Option Bool := match toPy x, toPy.toPys ds with
  | some p, some ps => if SeqAt.shaped p && (decide (p.depth ≤ 60) && ps.all SeqAt.shaped) then some (ps.any fun d => PyData.eqv d p) else none
  | _, _ => none
def oInD (neg : Bool) : D → D → Option D
  | x, .tup ds => (inPy x ds).map fun b => .bl (if neg then !b else b)
  | x, .lst ds => (inPy x ds).map fun b => .bl (if neg then !b else b)
  | _, _ => none
theorem inPy_of {x : D} {ds : List D} {b : Bool} (h : inPy x ds = some b) : ∃ p ps, toPy x = some p ∧ toPy.toPys ds = some ps ∧ SeqAt.shaped p = true ∧ p.depth ≤ 60 ∧ ps.all SeqAt.shaped = true ∧ b = ps.any fun d => PyData.eqv d p := by
  unfold inPy at h
  split at h
  · rename_i p ps e1 e2
    split at h
    · rename_i hc
      rw [Bool.and_eq_true, Bool.and_eq_true] at hc
      cases h
      exact ⟨p, ps, e1, e2, hc.1, of_decide_eq_true hc.2.1, hc.2.2, rfl⟩
    · cases h
  · cases h
theorem rInD_of {neg : Bool} {x y : V} {H : Hp} {Q : VK} (hK : X.K = g.K) (h : rD g (oInD neg) x y H Q) : rInD X.K neg x y H Q := by
  obtain ⟨m, st, dx, dy, d, R, r1, r2, e, q⟩ := h
  cases r2 with
  | @tup p ys es hs hr =>
    simp only [oInD, Option.map_eq_some_iff] at e
    obtain ⟨b, e, rfl⟩ := e
    obtain ⟨px, ps, e1, e2, s1, s60, s2, rfl⟩ := inPy_of e
    exact ⟨p, ys, ps, px, rfl, .inr (by rw [hK]; exact hs), by rw [hK]; exact r1.dp e1, s1, s60, by rw [hK]; exact hr.dp e2, s2, q _ m H (.refl _ _) R (.bl _)⟩
  | @lst p ys es hs hn hr =>
    simp only [oInD, Option.map_eq_some_iff] at e
    obtain ⟨b, e, rfl⟩ := e
    obtain ⟨px, ps, e1, e2, s1, s60, s2, rfl⟩ := inPy_of e
    exact ⟨p, ys, ps, px, rfl, .inl (.of hs), by rw [hK]; exact r1.dp e1, s1, s60, by rw [hK]; exact hr.dp e2, s2, q _ m H (.refl _ _) R (.bl _)⟩
  | _ => simp [oInD] at e
theorem r_inD (hK : X.K = g.K) (hu : X.A.units + 64 < cLine) : OpR X (compareOp .In) (rD g (oInD false)) := fun pins s σ H x y v u Q I rx ry h => op_inD hu pins s σ H x y v u Q I rx ry (rInD_of hK h)
end
end I2
set_option Elab.async false
set_option linter.all false
set_option maxRecDepth 100000
set_option maxHeartbeats 4000000
namespace I2
open PySem PySem.Spec PyProof.Rows L2
section
variable {X : Cx} {g : GX} {EX : XK} {a : Expr} {pos : Pos} {f : Sm} {lo hi : Option Expr} {p2 : Pos} {l u : Smo}
def oSlS (lo hi : Option Int) : D → Option D
  | .str z => if decide (z.length ≤ sizeLine) then some (.str (L2.cutS z lo hi)) else none
  | _ => none
def sSlS (f : Sm) (l u : Smo) : Sm := bnd f fun x => bnd l fun lo => bnd u fun hi => lift (oSlS lo hi x)
theorem i_slS (ha : PE X a (tI g EX f)) (hl : PO X lo (tIo g EX l)) (hu : PO X hi (tIo g EX u)) : PE X (.Subscript a (.Slice lo hi none p2) pos) (tI g EX (sSlS f l u)) :=
  PE.mono (pe_slice sl_str ha hl hu) fun σ H Q ⟨env, m, st, re, R, q⟩ => by
    refine ⟨env, m, st, re, R, q.bnd.mono fun d1 m1 H1 st1 E1 R1 q v1 r1 => ?_⟩
    refine ⟨env, m1, st1, re.ext E1, R1, q.bnd.mono fun lo m2 H2 st2 E2 R2 q => ?_⟩
    refine ⟨env, m2, st2, (re.ext E1).ext E2, R2, q.bnd.mono fun hi m3 H3 st3 E3 R3 q => ?_⟩
    obtain ⟨d, e, q⟩ := q.lift
    have r1 := (r1.ext E2).ext E3
    cases r1 with
    | str z =>
      simp only [oSlS] at e
      split at e
      · rename_i h
        cases e
        exact ⟨z, rfl, of_decide_eq_true h, q m3 H3 (.refl _ _) R3 _ (.str _)⟩
      · cases e
    | _ => cases e
end
end I2
set_option Elab.async false
set_option linter.all false
set_option maxRecDepth 100000
set_option maxHeartbeats 4000000
namespace I2
open PySem PySem.Spec PyProof.Rows L2
end I2
set_option Elab.async false
set_option linter.all false
set_option maxRecDepth 100000
set_option maxHeartbeats 4000000
namespace I2
open PySem PySem.Spec PyProof.Rows L2
end I2
set_option Elab.async false
set_option linter.all false
set_option maxRecDepth 100000
set_option maxHeartbeats 4000000
namespace I2
open PySem PySem.Spec PyProof.Rows L2
end I2
set_option Elab.async false
set_option linter.all false
set_option maxRecDepth 100000
set_option maxHeartbeats 4000000
namespace I2
open PySem PySem.Spec PyProof.Rows L2
section
variable {X : Cx} {g : GX} {EX : XK} {o : Expr} {apos cpos : Pos} {f : Sm}
def oBits : D → Option D
  | .int i => some (.int ((Builtin.Int.intBits i : Nat) : Int))
  | _ => none
theorem mt_bits : MtR X "int.bit_length" (fun x xs H Q => ∃ i, x = .int i ∧ xs = [] ∧ Q (.int ((Builtin.Int.intBits i : Nat) : Int)) H) := by
  intro pins s σ H x xs v us Q I rx rxs h
  obtain ⟨i, rfl, rfl, q⟩ := h
  obtain ⟨t, rfl⟩ := rx
  cases rxs
  exact PyProof.Rows.call_int_bit_length ⟨.int _, H, I.kept (t' := s.toks + 1) fun _ _ e => e, ⟨_, rfl⟩, q⟩
theorem i_bits (ho : PE X o (tI g EX f)) (hbase : attributeBase o "bit_length" X.env (eval o X.env) = eval o X.env) (hline : (apos.endLine == cpos.line) = true) : PE X (.Call (.Attribute o "bit_length" apos) [] [] cpos) (tI g EX (s1 oBits f)) :=
  PE.mono (pe_bm0 PySem.F.plainAttrs_int PySem.F.slot_int_bit_length PySem.F.type_int_bit_length mt_bits ho hbase hline) fun σ H Q ⟨env, m, st, re, R, q⟩ => by
    refine ⟨env, m, st, re, R, q.bnd.mono fun dx m1 H1 st1 E1 R1 q v1 r1 => ?_⟩
    obtain ⟨d, e1, q⟩ := q.lift
    cases r1 with
    | int i =>
      cases e1
      exact ⟨rfl, i, rfl, rfl, q m1 H1 (.refl _ _) R1 _ (.int _)⟩
    | _ => cases e1
theorem j_bits (ho : PE X o (tI g EX f)) (hb : plainBase o = true := by rfl) (hline : (apos.endLine == cpos.line) = true := by rfl) : PE X (.Call (.Attribute o "bit_length" apos) [] [] cpos) (tI g EX (s1 oBits f)) := i_bits ho (base_of hb) hline
end
end I2
set_option Elab.async false
set_option linter.all false
set_option maxRecDepth 100000
set_option maxHeartbeats 4000000
namespace I2
open PySem PySem.Spec PyProof.Rows L2
theorem RI.at {α : Type} {g : GX} {EX : XK} {m m' : MM} {H H' : Hp} {o : Res α} {Q : α → MM → Hp → Sto → Prop} (h : RI g EX m H o Q) (E : Ext m H m' H') : RI g EX m' H' o Q := by
  match o, h with
  | none, h => exact h
  | some (.ok d, st'), h => exact fun m2 H2 E2 R2 => h m2 H2 (E.trans E2) R2
  | some (.ex c, st'), h => exact fun m2 H2 C E2 R2 hc => h m2 H2 C (E.trans E2) R2 hc
end I2
set_option Elab.async false
set_option linter.all false
set_option maxRecDepth 100000
set_option maxHeartbeats 4000000
namespace I2
open PySem PySem.Spec PyProof.Rows L2
end I2
set_option Elab.async false
set_option linter.all false
set_option maxRecDepth 100000
set_option maxHeartbeats 4000000
namespace I2
open PySem PySem.Spec PyProof.Rows L2
end I2
set_option Elab.async false
set_option linter.all false
set_option maxRecDepth 100000
set_option maxHeartbeats 4000000
namespace I2
open PySem PySem.Spec PyProof.Rows L2
end I2
set_option Elab.async false
set_option linter.all false
set_option maxRecDepth 100000
set_option maxHeartbeats 4000000
namespace I2
open PySem PySem.Spec PyProof.Rows L2
end I2
set_option Elab.async false
set_option linter.all false
set_option maxRecDepth 100000
set_option maxHeartbeats 4000000
namespace I2
open PySem PySem.Spec PyProof.Rows L2
end I2
set_option Elab.async false
set_option linter.all false
set_option maxRecDepth 100000
set_option maxHeartbeats 4000000
namespace I2
open PySem PySem.Spec PyProof.Rows L2
end I2
set_option Elab.async false
set_option linter.all false
set_option maxRecDepth 100000
set_option maxHeartbeats 4000000
namespace I2
open PySem PySem.Spec PyProof.Rows L2
end I2
set_option Elab.async false
set_option linter.all false
set_option maxRecDepth 100000
set_option maxHeartbeats 4000000
namespace I2
open PySem PySem.Spec PyProof.Rows L2
def consO (y : D) : Res (List D) → Res (List D)
  | some (.ok ys, s) => some (.ok (y :: ys), s)
  | some (.ex c, s) => some (.ex c, s)
  | none => none
def compX (bd : Bd) (t : Smt) (h : Sm) (env : DEnv) : List D → Sto → Res (List D)
  | [], st => some (.ok [], st)
  | d :: ds, st => match bd d env with
    | none => none
    | some env1 => match t env1 st with
      | some (.ok true, st1) => match h env1 st1 with
        | some (.ok y, st2) => consO y (compX bd t h env ds st2)
        | some (.ex c, st2) => some (.ex c, st2)
        | none => none
      | some (.ok false, st1) => compX bd t h env ds st1
      | _ => none
def joinO (xs : List D) : Out (List D) → Out (List D)
  | .ok ys => .ok (xs ++ ys)
  | .ex c => .ex c
section
variable {g : GX} {m m1 m2 m4 : MM} {H H1 H4 : Hp} {st : Sto} {D' : Addr} {EX : XK}
structure TurnsX (g : GX) (m1 : MM) (H1 : Hp) (D' : Addr) (bd : Bd) (t : Smt) (h : Sm) (env : DEnv) (tot : Out (List D)) (stF : Sto) (rest : List D) (H : Hp) : Prop where
  ex : ∃ m2 st2 acc accD o, Ext m1 H1 m2 H ∧ RS g (m2.fill D') H st2 ∧ H D' = some (.lst acc) ∧ RDs g (m2.fill D') H accD acc ∧ compX bd t h env rest st2 = some (o, stF) ∧ joinO accD o = tot ∧ accD.length + rest.length ≤ sizeLine
end
end I2
set_option Elab.async false
set_option linter.all false
set_option maxRecDepth 100000
set_option maxHeartbeats 4000000
namespace I2
open PySem PySem.Spec PyProof.Rows L2
end I2
set_option Elab.async false
set_option linter.all false
set_option maxRecDepth 100000
set_option maxHeartbeats 4000000
namespace I2
open PySem PySem.Spec PyProof.Rows L2
def oIntT : List D → Option D
  | [.str a] => if a.length ≤ 640 then (intText? a).map .int else none
  | ds => oInt ds
def oMulT : D → D → Option D
  | .str x, .int n => if n = 0 then some (.str Str.empty) else if n = 1 then some (.str x) else none
  | x, y => oMul x y
def rngC (lo c : Int) : Nat → List D
  | 0 => []
  | n + 1 => .int lo :: rngC (lo + c) c n
theorem rngC_drop (lo c : Int) (n i : Nat) (h : i < n) : (rngC lo c n).drop i = .int (lo + (i : Nat) * c) :: (rngC lo c n).drop (i + 1) := by
  induction n generalizing lo i with
  | zero => omega
  | succ n ih =>
    cases i with
    | zero => simp [rngC]
    | succ i =>
      show (rngC (lo + c) c n).drop i = _
      rw [ih (lo + c) i (by omega)]
      have : lo + c + (i : Int) * c = lo + ((i + 1 : Nat) : Int) * c := by
        rw [Int.natCast_add, Int.add_mul]; omega
      rw [this]
      rfl
theorem rngC_length (lo c : Int) (n : Nat) : (rngC lo c n).length = n := by
  induction n generalizing lo with
  | zero => rfl
  | succ n ih => simp [rngC, ih]
def rngOf3 : List D → Option (List D)
  | [.int i, .int j, .int c] => if (c ≠ 0 ∧ c.natAbs < 1073741824) ∧ (Builtin.Range.small i j c = true ∧ 0 ≤ Builtin.Range.rangeSize i j c) then some (rngC i c (Builtin.Range.rangeSize i j c).toNat) else none
  | _ => none
section
variable {X : Cx} {g : GX} {EX : XK} {a b c : Expr} {pos p p2 : Pos} {fs : Sma} {u : Sms}
theorem c_intT : CallR X (.type "int") (rCs g fun _ => oIntT) := by
  intro pins s σ H xs us Q I r ⟨m, st, ds, d, R, rs, e, q⟩
  by_cases h : ∃ a, ds = [.str a]
  · obtain ⟨a, rfl⟩ := h
    cases rs with
    | cons r1 r2 =>
      cases r2
      cases r1
      simp only [oIntT] at e
      split at e
      · rename_i hl
        rw [Option.map_eq_some_iff] at e
        obtain ⟨n, hn, rfl⟩ := e
        exact call_int_str pins s σ H _ us Q I r ⟨a, n, rfl, hn, hl, q _ m H (.refl _ _) R (.int _)⟩
      · cases e
  · have e' : oInt ds = some d := by
      have e : oIntT ds = some d := e
      unfold oIntT at e
      split at e
      · exact absurd ⟨_, rfl⟩ h
      · exact e
    exact c_int pins s σ H xs us Q I r ⟨m, st, ds, d, R, rs, e', q⟩
theorem r_mulT (hK : X.K = g.K) : OpR X (binaryOp .Mult) (rD g oMulT) := by
  intro pins s σ H x y v u Q I rx ry ⟨m, st, dx, dy, d, R, r1, r2, e, q⟩
  by_cases h : ∃ t n, dx = .str t ∧ dy = .int n
  · obtain ⟨t, n, rfl, rfl⟩ := h
    cases r1
    cases r2
    obtain ⟨tx, rfl⟩ := rx
    obtain ⟨ty, rfl⟩ := ry
    have hm : ∀ k : Int, (k = 0 ∨ k = 1) → MulOk t k := fun k hk => by
      rcases hk with rfl | rfl
      · exact ⟨by decide, fun h => absurd (by decide) h, fun h => absurd (by decide) h⟩
      · exact ⟨by decide, fun _ h => by simp at h, fun _ h => by simp at h⟩
    simp only [oMulT] at e
    split at e
    · rename_i h0
      subst h0
      cases e
      exact SB.mul (hm 0 (.inl rfl)) fun t' k => ⟨.str Str.empty, H, I.tok _, ⟨_, rfl⟩, q _ m H (.refl _ _) R (.str _)⟩
    · split at e
      · rename_i h0 h1
        subst h1
        cases e
        exact SB.mul (hm 1 (.inr rfl)) fun t' k => ⟨.str t, H, I.tok _, ⟨_, rfl⟩, q _ m H (.refl _ _) R (.str _)⟩
      · cases e
  · have e' : oMul dx dy = some d := by
      unfold oMulT at e
      split at e
      · exact absurd ⟨_, _, rfl, rfl⟩ h
      · exact e
    exact r_mul pins s σ H x y v u Q I rx ry ⟨m, st, dx, dy, d, R, r1, r2, e', q⟩
def sForR3 (bd : Bd) (fs : Sma) (u : Sms) : Sms := bndS fs fun ds => bndS (lift (rngOf3 ds)) fun ds => forL bd u ds
theorem js_forR3 {tg : Expr} {bd : Bd} {body : List Stmt} (hp : PassesOwn (model X.prog X.w) X.A X.env X.xe) (hc : X.calm = true) (hgl : Gl X "range") (hmg : X.mg "range" = none) (ha : PA X [a, b, c] (tIa g EX fs)) (hg : PG X tg (tIg g bd)) (hb : PSs X body (tIs g EX u)) (hs : noStar a = true := by rfl) (hs2 : noStar b = true := by rfl) (hs3 : noStar c = true := by rfl) :
    PS X (.For tg (.Call (.Name "range" p) [a, b, c] [] p2) body [] pos) (tIs g EX (sForR3 bd fs u)) :=
  PS.mono (ps_for hp hc (pi_range3 hgl hmg ha (by rw [star_cons hs, star_cons hs2, star_cons hs3, starEach]) (by rw [star_cons hs2, star_cons hs3, starEach]; rfl)) hg hb (noSet_of rfl)) fun De σ H ⟨env, m, st, re, R, q⟩ => by
    refine ⟨env, m, st, re, R, q.bnd.mono fun d m1 H1 st1 E1 R1 q v r => ?_⟩
    obtain ⟨ds, e, q⟩ := q.bnd.lift
    have q := q m1 H1 (.refl _ _) R1
    unfold rngOf3 at e
    split at e
    · cases r with
      | cons r1 r =>
        cases r with
        | cons r2 r =>
          cases r with
          | cons r3 r =>
            cases r
            cases r1
            cases r2
            cases r3
            rename_i i j c
            split at e
            · rename_i hj
              cases e
              obtain ⟨⟨c0, c1⟩, c2, c3⟩ := hj
              have en : Builtin.Range.rangeSize i j c = ((Builtin.Range.rangeSize i j c).toNat : Int) := by omega
              generalize (Builtin.Range.rangeSize i j c).toNat = n at *
              refine ⟨i, j, c, n, rfl, ⟨c0, c1, c2, en⟩, for_rangeC (lo := i) (c := c) (n := n) (fun k σ2 H2 => ∃ env2 m2 st2, Ext m1 H1 m2 H2 ∧ RE g m2 H2 env2 σ2 ∧ RS g m2 H2 st2 ∧ RIs g EX m2 H2 (forL bd u ((rngC i c n).drop k) env2 st2) De)
                ⟨env, m1, st1, .refl _ _, re.ext E1, R1, q⟩ ?_ ?_⟩
              · rintro k σ2 H2 hk ⟨env2, m2, st2, E2, re2, R2, q2⟩
                rw [rngC_drop i c _ k hk] at q2
                exact forL_step re2 R2 (.int _) q2 fun env' m' st' H' σ' E' re' R' q' => ⟨env', m', st', E2.trans E', re', R', q'⟩
              · rintro σ2 H2 ⟨env2, m2, st2, E2, re2, R2, q2⟩
                rw [List.drop_eq_nil_of_le (by rw [rngC_length]; exact Nat.le_refl _)] at q2
                exact q2 m2 H2 σ2 (.refl _ _) R2 re2
            · cases e
    · cases e
theorem sForR3_ap {bd : Bd} {envS : DEnv} {st : Sto} : sForR3 bd fs u envS st = bndS fs (fun ds => bndS (lift (rngOf3 ds)) fun ds => forL bd u ds) envS st := rfl
end
end I2
set_option Elab.async false
set_option linter.all false
set_option maxRecDepth 100000
set_option maxHeartbeats 4000000
namespace Law
open PySem PySem.Spec PyProof.Rows L2 I2
def top (i : Nat) : Stmt := PySem.Challenge.pw_earthends_k02_roots_told.main.body.getD i (.Pass ⟨0, 0, 0, 0⟩)
abbrev s_is_whole : Stmt := top 21
abbrev s_is_tuple_of : Stmt := top 22
abbrev s_common_divisor : Stmt := top 23
abbrev s_whole_root : Stmt := top 25
abbrev s_l_cell : Stmt := top 28
abbrev s_l_purse : Stmt := top 29
abbrev s_l_pick : Stmt := top 30
abbrev s_l_whole : Stmt := top 31
abbrev s_l_low : Stmt := top 32
abbrev s_l_sort : Stmt := top 34
abbrev s_l_square_of : Stmt := top 36
abbrev s_is_fraction : Stmt := top 24
abbrev s_l_is_fraction : Stmt := top 33
abbrev s_l_number : Stmt := top 35
abbrev s_root : Stmt := top 26
abbrev s_l_told : Stmt := top 37
abbrev s_l_right : Stmt := top 38
abbrev s_law : Stmt := top 39
structure Ad where
  K : PySem.W.Frag
  f_is_whole : Addr
  fd_is_whole : FuncData
  f_is_tuple_of : Addr
  fd_is_tuple_of : FuncData
  f_common_divisor : Addr
  fd_common_divisor : FuncData
  f_whole_root : Addr
  fd_whole_root : FuncData
  f_l_cell : Addr
  fd_l_cell : FuncData
  f_l_purse : Addr
  fd_l_purse : FuncData
  f_l_pick : Addr
  fd_l_pick : FuncData
  f_l_whole : Addr
  fd_l_whole : FuncData
  f_l_low : Addr
  fd_l_low : FuncData
  f_l_sort : Addr
  fd_l_sort : FuncData
  f_l_square_of : Addr
  fd_l_square_of : FuncData
  f_is_fraction : Addr
  fd_is_fraction : FuncData
  f_l_is_fraction : Addr
  fd_l_is_fraction : FuncData
  f_l_number : Addr
  fd_l_number : FuncData
  f_root : Addr
  fd_root : FuncData
  f_l_told : Addr
  fd_l_told : FuncData
  f_l_right : Addr
  fd_l_right : FuncData
  f_law : Addr
  fd_law : FuncData
  c_EarthError : Addr
  c_NoNumber : Addr
  c_NoCable : Addr
  c_NoDrag : Addr
  c_NoText : Addr
  c_NoLeaks : Addr
  c_NoStretch : Addr
  c_NoWord : Addr
  c_NoReading : Addr
  c_NoPlace : Addr
  c_NoDay : Addr
  c_NoPair : Addr
  c_NoSplice : Addr
  c_NoDays : Addr
  c_NoPlaces : Addr
  c_NoLength : Addr
  c_NoDeed : Addr
  c_NoBack : Addr
  c_NoRow : Addr
def clsT (a : Ad) : List (Str × Addr) := [("NoNumber", a.c_NoNumber)]
def tabT : List (Str × List (Str × Bool)) := [("NoNumber", [("EarthError", true), ("NoNumber", true), ("NoCable", false), ("NoDrag", false), ("NoText", false), ("NoLeaks", false), ("NoStretch", false), ("NoWord", false), ("NoReading", false), ("NoPlace", false), ("NoDay", false), ("NoPair", false), ("NoSplice", false), ("NoDays", false), ("NoPlaces", false), ("NoLength", false), ("NoDeed", false), ("NoBack", false), ("NoRow", false), ("ValueError", true)])]
def tyT (a : Ad) : List (Str × Value) := [("EarthError", Value.ref a.c_EarthError), ("NoNumber", Value.ref a.c_NoNumber), ("NoCable", Value.ref a.c_NoCable), ("NoDrag", Value.ref a.c_NoDrag), ("NoText", Value.ref a.c_NoText), ("NoLeaks", Value.ref a.c_NoLeaks), ("NoStretch", Value.ref a.c_NoStretch), ("NoWord", Value.ref a.c_NoWord), ("NoReading", Value.ref a.c_NoReading), ("NoPlace", Value.ref a.c_NoPlace), ("NoDay", Value.ref a.c_NoDay), ("NoPair", Value.ref a.c_NoPair), ("NoSplice", Value.ref a.c_NoSplice), ("NoDays", Value.ref a.c_NoDays), ("NoPlaces", Value.ref a.c_NoPlaces), ("NoLength", Value.ref a.c_NoLength), ("NoDeed", Value.ref a.c_NoDeed), ("NoBack", Value.ref a.c_NoBack), ("NoRow", Value.ref a.c_NoRow), ("ValueError", Value.type "ValueError")]
def gx (a : Ad) : GX := ⟨a.K, fun c => (clsT a).lookup c, fun c t => (tabT.lookup c).bind fun l => l.lookup t, fun t => (tyT a).lookup t⟩
def N_is_whole : List Str := ["x"]
noncomputable def b_is_whole : Sms := (sRet (sAndV (s1 (oIsiB "int") (sVar 0)) (sNotV (s1 (oIsiB "bool") (sVar 0)))))
noncomputable def F_is_whole : List D → Sto → Res D := fnOf 1 1 (b_is_whole)
def N_is_tuple_of : List Str := ["x", "many"]
noncomputable def b_is_tuple_of : Sms := (sRet (sAndV (s1 (oIsiB "tuple") (sVar 0)) (s2 oEq (sBs oLen (sCons (sVar 0) sNil)) (sVar 1))))
noncomputable def F_is_tuple_of : List D → Sto → Res D := fnOf 2 2 (b_is_tuple_of)
def N_common_divisor : List Str := ["one", "other"]
noncomputable def b_common_divisor : Sms := (sSeq (sWhile (sTest (s2 oNe (sVar 1) (sC (.int 0)))) (sPar 0 1 (sCons (sVar 1) (sCons (s2 oMod (sVar 0) (sVar 1)) sNil)))) (sRet (sBs (fun _ => oAbs) (sCons (sVar 0) sNil))))
noncomputable def F_common_divisor : List D → Sto → Res D := fnOf 2 2 (b_common_divisor)
def N_whole_root : List Str := ["number", "guess", "better"]
noncomputable def b_whole_root : Sms := (sSeq (sIf (sTest (s2 oEq (sVar 0) (sC (.int 0)))) (sRet (sC (.int 0))) sNop) (sSeq (sSet 1 (s2 oShl (sC (.int 1)) (s2 oDiv (s2 oAdd (s1 oBits (sVar 0)) (sC (.int 1))) (sC (.int 2))))) (sSeq (sSet 2 (s2 oDiv (s2 oAdd (sVar 1) (s2 oDiv (sVar 0) (sVar 1))) (sC (.int 2)))) (sSeq (sWhile (sTest (s2 oLt (sVar 2) (sVar 1))) (sSeq (sSet 1 (sVar 2)) (sSet 2 (s2 oDiv (s2 oAdd (sVar 1) (s2 oDiv (sVar 0) (sVar 1))) (sC (.int 2)))))) (sRet (sVar 1))))))
noncomputable def F_whole_root : List D → Sto → Res D := fnOf 1 3 (b_whole_root)
def N_l_cell : List Str := ["_law_script", "_law_k", "_law_state", "_law_cell_here"]
noncomputable def b_l_cell : Sms := (sSeq (sIf (sTest (s2 oLt (sVar 1) (sBs oLen (sCons (sVar 0) sNil)))) (sRet (sIx (sVar 0) (sVar 1))) sNop) (sSeq (sSet 2 (s2 oMod (s2 oMul (sC (.int 70001)) (s2 oAdd (s2 oAdd (s2 oMul (sVar 1) (sVar 1)) (s2 oMul (sC (.int 11)) (sVar 1))) (sC (.int 5)))) (sC (.int 1000000021)))) (sSeq (sFor (bName 3) (sSlX (sVar 0) sNoPart (sPart (sC (.int 4)))) (sSet 2 (s2 oMod (s2 oAdd (s2 oMul (sVar 2) (sC (.int 20011))) (sVar 3)) (sC (.int 1000000021))))) (sRet (sVar 2)))))
noncomputable def F_l_cell : List D → Sto → Res D := fnOf 2 4 (b_l_cell)
def N_l_purse : List Str := ["_law_cell_here"]
noncomputable def b_l_purse : Sms := (sRet (sLstM (sCons (s2 oAdd (s2 oMul (s2 oMod (sVar 0) (sC (.int 999999893))) (sC (.int 6007))) (sC (.int 2503))) (sCons (sIx (sLst (sCons (sC (.int 0)) (sCons (sVar 0) sNil))) (sBs (fun _ => oInt) (sCons (s2 oGe (sVar 0) (s2 oPow (sC (.int 10)) (sC (.int 18)))) sNil))) (sCons (sC (.int 0)) sNil)))))
noncomputable def F_l_purse : List D → Sto → Res D := fnOf 1 1 (b_l_purse)
def N_l_pick : List Str := ["_law_purse_here", "_law_many", "_law_state", "_law_taken"]
noncomputable def b_l_pick : Sms := (sSeq (sPut (s2 oAdd (sIx (sVar 0) (sC (.int 2))) (sC (.int 1))) (sVar 0) (sC (.int 2))) (sSeq (sSet 2 (s2 oMod (sIx (sVar 0) (sC (.int 0))) (sC (.int 999999893)))) (sSeq (sPut (s2 oAdd (s2 oMul (sVar 2) (s2 oAdd (s2 oMod (sVar 2) (sC (.int 40009))) (sC (.int 10007)))) (s2 oMul (sC (.int 80021)) (sIx (sVar 0) (sC (.int 2))))) (sVar 0) (sC (.int 0))) (sSeq (sIf (sTest (s2 oGt (sIx (sVar 0) (sC (.int 1))) (sC (.int 0)))) (sSeq (sSet 3 (s2 oMod (sIx (sVar 0) (sC (.int 1))) (sVar 1))) (sSeq (sPut (s2 oDiv (sIx (sVar 0) (sC (.int 1))) (sVar 1)) (sVar 0) (sC (.int 1))) (sRet (sVar 3)))) sNop) (sRet (s2 oMod (s2 oDiv (s2 oMod (sIx (sVar 0) (sC (.int 0))) (sC (.int 999999893))) (sC (.int 16))) (sVar 1)))))))
noncomputable def F_l_pick : List D → Sto → Res D := fnOf 2 4 (b_l_pick)
def N_l_whole : List Str := ["_law_thing"]
noncomputable def b_l_whole : Sms := (sRet (sAndV (s1 (oIsiB "int") (sVar 0)) (sNotV (s1 (oIsiB "bool") (sVar 0)))))
noncomputable def F_l_whole : List D → Sto → Res D := fnOf 1 1 (b_l_whole)
def N_l_low : List Str := ["_law_top", "_law_bottom", "_law_one", "_law_other"]
noncomputable def b_l_low : Sms := (sSeq (sIf (sTest (s2 oLt (sVar 1) (sC (.int 0)))) (sPar 0 1 (sCons (s2 oSub (sC (.int 0)) (sVar 0)) (sCons (s2 oSub (sC (.int 0)) (sVar 1)) sNil))) sNop) (sSeq (sPar 2 3 (sCons (sBs (fun _ => oAbs) (sCons (sVar 0) sNil)) (sCons (sVar 1) sNil))) (sSeq (sWhile (sTest (s2 oGt (sVar 3) (sC (.int 0)))) (sPar 2 3 (sCons (sVar 3) (sCons (s2 oMod (sVar 2) (sVar 3)) sNil)))) (sRet (sTup (sCons (s2 oDiv (sVar 0) (sVar 2)) (sCons (s2 oDiv (sVar 1) (sVar 2)) sNil)))))))
noncomputable def F_l_low : List D → Sto → Res D := fnOf 2 4 (b_l_low)
def N_l_sort : List Str := ["_law_e", "_law_kinds", "_law_words"]
noncomputable def b_l_sort (g : GX) : Sms := (sSeq (sSet 1 (sLst (sCons (s1 (oIsx g "NoNumber") (sVar 0)) (sCons (s1 (oIsx g "NoCable") (sVar 0)) (sCons (s1 (oIsx g "NoDrag") (sVar 0)) (sCons (s1 (oIsx g "NoText") (sVar 0)) sNil)))))) (sSeq (sSet 1 (s2 oAdd (sVar 1) (sLst (sCons (s1 (oIsx g "NoLeaks") (sVar 0)) (sCons (s1 (oIsx g "NoStretch") (sVar 0)) (sCons (s1 (oIsx g "NoWord") (sVar 0)) sNil)))))) (sSeq (sSet 1 (s2 oAdd (sVar 1) (sLst (sCons (s1 (oIsx g "NoReading") (sVar 0)) sNil)))) (sSeq (sSet 1 (s2 oAdd (sVar 1) (sLst (sCons (s1 (oIsx g "NoPlace") (sVar 0)) (sCons (s1 (oIsx g "NoDay") (sVar 0)) (sCons (s1 (oIsx g "NoPair") (sVar 0)) (sCons (s1 (oIsx g "NoSplice") (sVar 0)) sNil))))))) (sSeq (sSet 1 (s2 oAdd (sVar 1) (sLst (sCons (s1 (oIsx g "NoDays") (sVar 0)) (sCons (s1 (oIsx g "NoPlaces") (sVar 0)) (sCons (s1 (oIsx g "NoLength") (sVar 0)) (sCons (s1 (oIsx g "NoDeed") (sVar 0)) sNil))))))) (sSeq (sSet 1 (s2 oAdd (sVar 1) (sLst (sCons (s1 (oIsx g "NoBack") (sVar 0)) (sCons (s1 (oIsx g "NoRow") (sVar 0)) sNil))))) (sSeq (sIf (tOrI (sTest (s2 oNe (sM oCount (sVar 1) (sCons (sC (.bl true)) sNil)) (sC (.int 1)))) (tNotI (sTru (s1 (oIsx g "ValueError") (sVar 0))))) (sRet (sC (.str "other"))) sNop) (sSeq (sSet 2 (sLst (sCons (sC (.str "number")) (sCons (sC (.str "cable")) (sCons (sC (.str "drag")) (sCons (sC (.str "text")) (sCons (sC (.str "leaks")) (sCons (sC (.str "stretch")) (sCons (sC (.str "word")) (sCons (sC (.str "reading")) (sCons (sC (.str "place")) sNil))))))))))) (sSeq (sSet 2 (s2 oAdd (sVar 2) (sLst (sCons (sC (.str "day")) (sCons (sC (.str "pair")) (sCons (sC (.str "splice")) sNil)))))) (sRet (sIx (s2 oAdd (sVar 2) (sLst (sCons (sC (.str "days")) (sCons (sC (.str "places")) (sCons (sC (.str "length")) (sCons (sC (.str "deed")) (sCons (sC (.str "back")) (sCons (sC (.str "row")) sNil)))))))) (sM oIndex (sVar 1) (sCons (sC (.bl true)) sNil)))))))))))))
noncomputable def F_l_sort (g : GX) : List D → Sto → Res D := fnOf 1 3 (b_l_sort g)
def N_l_square_of : List Str := ["_law_number_here", "_law_word", "_law_k", "_law_found", "_law_left", "_law_figure", "_law_one"]
noncomputable def b_l_square_of : Sms := (sSeq (sSet 1 (sBs (fun _ => oStr) (sCons (sVar 0) sNil))) (sSeq (sSet 1 (s2 oAdd (s2 oMulT (sC (.str "0")) (s2 oMod (sBs oLen (sCons (sVar 1) sNil)) (sC (.int 2)))) (sVar 1))) (sSeq (sAsg (bTup [3, 4]) (sTup (sCons (sC (.int 0)) (sCons (sC (.int 0)) sNil)))) (sSeq (sForR3 (bName 2) (sCons (sC (.int 0)) (sCons (sBs oLen (sCons (sVar 1) sNil)) (sCons (sC (.int 2)) sNil))) (sSeq (sSet 4 (s2 oAdd (s2 oMul (sC (.int 100)) (sVar 4)) (sBs (fun _ => oIntT) (sCons (sSlS (sVar 1) (sPart (sVar 2)) (sPart (s2 oAdd (sVar 2) (sC (.int 2))))) sNil)))) (sSeq (sSet 5 (sBs oLen (sCons (sCompR2 (Tgt.name 6) (sCons (sC (.int 1)) (sCons (sC (.int 10)) sNil)) (sTest (s2 oLe (s2 oMul (s2 oAdd (s2 oMul (sC (.int 20)) (sVar 3)) (sVar 6)) (sVar 6)) (sVar 4))) (sVar 6) [6]) sNil))) (sSeq (sSet 4 (s2 oSub (sVar 4) (s2 oMul (s2 oAdd (s2 oMul (sC (.int 20)) (sVar 3)) (sVar 5)) (sVar 5)))) (sSet 3 (s2 oAdd (s2 oMul (sC (.int 10)) (sVar 3)) (sVar 5))))))) (sRet (sIx (sLst (sCons (sC .non) (sCons (sVar 3) sNil))) (sBs (fun _ => oIntT) (sCons (s2 oEq (sVar 4) (sC (.int 0))) sNil))))))))
noncomputable def F_l_square_of : List D → Sto → Res D := fnOf 1 7 (b_l_square_of)
def N_is_fraction : List Str := ["x"]
noncomputable def b_is_fraction : Sms := (sSeq (sIf (tOrI (tNotI (sTru (sCall 2 F_is_tuple_of (sCons (sVar 0) (sCons (sC (.int 2)) sNil))))) (tOrI (tNotI (sTru (sCall 1 F_is_whole (sCons (sIx (sVar 0) (sC (.int 0))) sNil)))) (tNotI (sTru (sCall 1 F_is_whole (sCons (sIx (sVar 0) (sC (.int 1))) sNil)))))) (sRet (sC (.bl false))) sNop) (sRet (sAndV (s2 oGt (sIx (sVar 0) (sC (.int 1))) (sC (.int 0))) (s2 oEq (sCall 2 F_common_divisor (sCons (sIx (sVar 0) (sC (.int 0))) (sCons (sIx (sVar 0) (sC (.int 1))) sNil))) (sC (.int 1))))))
noncomputable def F_is_fraction : List D → Sto → Res D := fnOf 1 1 (b_is_fraction)
def N_l_is_fraction : List Str := ["_law_thing"]
noncomputable def b_l_is_fraction : Sms := (sSeq (sIf (tOrI (tNotI (sTru (s1 (oIsiB "tuple") (sVar 0)))) (tOrI (sTest (s2 oNe (sBs oLen (sCons (sVar 0) sNil)) (sC (.int 2)))) (tOrI (tNotI (sTru (sCall 1 F_l_whole (sCons (sIx (sVar 0) (sC (.int 0))) sNil)))) (tNotI (sTru (sCall 1 F_l_whole (sCons (sIx (sVar 0) (sC (.int 1))) sNil))))))) (sRet (sC (.bl false))) sNop) (sRet (sAndV (s2 oGt (sIx (sVar 0) (sC (.int 1))) (sC (.int 0))) (s2 oEq (sCall 2 F_l_low (sCons (sIx (sVar 0) (sC (.int 0))) (sCons (sIx (sVar 0) (sC (.int 1))) sNil))) (sVar 0)))))
noncomputable def F_l_is_fraction : List D → Sto → Res D := fnOf 1 1 (b_l_is_fraction)
def N_l_number : List Str := ["_law_purse_here", "_law_far"]
noncomputable def b_l_number : Sms := (sSeq (sSet 1 (sIx (sLst (sCons (sC (.int 1)) (sCons (sC (.int 1)) (sCons (s2 oPow (sC (.int 10)) (sC (.int 9))) (sCons (s2 oPow (sC (.int 10)) (sC (.int 20))) sNil))))) (sCall 2 F_l_pick (sCons (sVar 0) (sCons (sC (.int 4)) sNil))))) (sRet (s2 oAdd (s2 oMul (sCall 2 F_l_pick (sCons (sVar 0) (sCons (sIx (sLst (sCons (sC (.int 10)) (sCons (s2 oPow (sC (.int 10)) (sC (.int 9))) sNil))) (sCall 2 F_l_pick (sCons (sVar 0) (sCons (sC (.int 2)) sNil)))) sNil))) (sVar 1)) (sCall 2 F_l_pick (sCons (sVar 0) (sCons (sC (.int 3)) sNil))))))
noncomputable def F_l_number : List D → Sto → Res D := fnOf 1 2 (b_l_number)
def N_root : List Str := ["a", "top", "bottom"]
noncomputable def b_root : Sms := (sSeq (sIf (tNotI (sTru (sCall 1 F_is_fraction (sCons (sVar 0) sNil)))) (sRaise "NoNumber" (sCons (sC (.str "not a fraction")) sNil)) sNop) (sSeq (sIf (sTest (s2 oLt (sIx (sVar 0) (sC (.int 0))) (sC (.int 0)))) (sRet (sC .non)) sNop) (sSeq (sSet 1 (sCall 1 F_whole_root (sCons (sIx (sVar 0) (sC (.int 0))) sNil))) (sSeq (sSet 2 (sCall 1 F_whole_root (sCons (sIx (sVar 0) (sC (.int 1))) sNil))) (sSeq (sIf (tOrI (sTest (s2 oNe (s2 oMul (sVar 1) (sVar 1)) (sIx (sVar 0) (sC (.int 0))))) (sTest (s2 oNe (s2 oMul (sVar 2) (sVar 2)) (sIx (sVar 0) (sC (.int 1)))))) (sRet (sC .non)) sNop) (sRet (sTup (sCons (sVar 1) (sCons (sVar 2) sNil)))))))))
noncomputable def F_root : List D → Sto → Res D := fnOf 1 3 (b_root)
def N_l_told : List Str := ["_law_thing", "_law_e"]
noncomputable def b_l_told (g : GX) : Sms := (sTry 2 1 (sRet (sTup (sCons (sC (.str "told")) (sCons (sCall 1 F_root (sCons (sVar 0) sNil)) sNil)))) (sRet (sTup (sCons (sCall 1 (F_l_sort g) (sCons (sVar 1) sNil)) (sCons (sC .non) sNil)))))
noncomputable def F_l_told (g : GX) : List D → Sto → Res D := fnOf 1 2 (b_l_told g)
def N_l_right : List Str := ["_law_a", "_law_due", "_law_turn", "_law_word", "_law_told_here"]
noncomputable def b_l_right (g : GX) : Sms := (sSeq (sSet 1 (sC .non)) (sSeq (sIf (sTest (s2 oGe (sIx (sVar 0) (sC (.int 0))) (sC (.int 0)))) (sSeq (sSet 1 (sTup (sCons (sCall 1 F_l_square_of (sCons (sIx (sVar 0) (sC (.int 0))) sNil)) (sCons (sCall 1 F_l_square_of (sCons (sIx (sVar 0) (sC (.int 1))) sNil)) sNil)))) (sIf (sTest (s2 (oInD false) (sC .non) (sVar 1))) (sSet 1 (sC .non)) sNop)) sNop) (sSeq (sForR (bName 2) (sCons (sC (.int 2)) sNil) (sSeq (sAsg (bTup [3, 4]) (sCall 1 (F_l_told g) (sCons (sVar 0) sNil))) (sIf (tOrI (sTest (s2 oNe (sVar 3) (sC (.str "told")))) (tOrI (sTest (s2 oNe (sVar 4) (sVar 1))) (tAndI (sTest (s2 oIsNot (sVar 1) (sC .non))) (tNotI (sTru (sCall 1 F_l_is_fraction (sCons (sVar 4) sNil))))))) (sRet (sC (.bl false))) sNop))) (sRet (sOrV (s2 oIs (sVar 1) (sC .non)) (s2 oEq (sCall 2 F_l_low (sCons (s2 oMul (sIx (sVar 1) (sC (.int 0))) (sIx (sVar 1) (sC (.int 0)))) (sCons (s2 oMul (sIx (sVar 1) (sC (.int 1))) (sIx (sVar 1) (sC (.int 1)))) sNil))) (sVar 0)))))))
noncomputable def F_l_right (g : GX) : List D → Sto → Res D := fnOf 1 5 (b_l_right g)
def N_law : List Str := ["_law_script", "_law_k", "_law_purse_here", "_law_some", "_law_step", "_law_odd", "_law_thing", "_law_top", "_law_bottom", "_law_a"]
noncomputable def b_law (g : GX) : Sms := (sSeq (sForR (bName 1) (sCons (sBs (fun _ => oMax) (sCons (sC (.int 2)) (sCons (sBs (fun _ => oMin) (sCons (sC (.int 6)) (sCons (sBs oLen (sCons (sVar 0) sNil)) sNil))) sNil))) sNil) (sSeq (sSet 2 (sCall 1 F_l_purse (sCons (sCall 2 F_l_cell (sCons (sVar 0) (sCons (sVar 1) sNil))) sNil))) (sSeq (sAsg (bTup [7, 8]) (sCall 2 F_l_low (sCons (sCall 1 F_l_number (sCons (sVar 2) sNil)) (sCons (s2 oAddX (sCall 1 F_l_number (sCons (sVar 2) sNil)) (sC (.int 1))) sNil)))) (sSeq (sSet 3 (sLst (sCons (sTup (sCons (sVar 7) (sCons (sVar 8) sNil))) (sCons (sTup (sCons (s2 oMul (sVar 7) (sVar 7)) (sCons (s2 oMul (sVar 8) (sVar 8)) sNil))) (sCons (sCall 2 F_l_low (sCons (s2 oMul (sVar 7) (sVar 7)) (sCons (sVar 8) sNil))) sNil))))) (sSeq (sSet 3 (s2 oAddX (sVar 3) (sLst (sCons (sCall 2 F_l_low (sCons (sVar 7) (sCons (s2 oMul (sVar 8) (sVar 8)) sNil))) sNil)))) (sSeq (sSet 4 (s2 oAddX (sC (.int 1)) (sCall 2 F_l_pick (sCons (sVar 2) (sCons (sC (.int 9)) sNil))))) (sSeq (sSet 3 (s2 oAddX (sVar 3) (sLst (sCons (sCall 2 F_l_low (sCons (s2 oAddX (s2 oMul (sVar 7) (sVar 7)) (sVar 4)) (sCons (s2 oMul (sVar 8) (sVar 8)) sNil))) (sCons (sCall 2 F_l_low (sCons (s2 oSub (s2 oMul (sVar 7) (sVar 7)) (sVar 4)) (sCons (s2 oMul (sVar 8) (sVar 8)) sNil))) sNil))))) (sSeq (sSet 3 (s2 oAddX (sVar 3) (sLst (sCons (sCall 2 F_l_low (sCons (s2 oMul (s2 oMul (sC (.int 2)) (sVar 7)) (sVar 7)) (sCons (s2 oMul (sVar 8) (sVar 8)) sNil))) (sCons (sCall 2 F_l_low (sCons (s2 oMul (sVar 7) (sVar 7)) (sCons (s2 oAddX (s2 oMul (sVar 8) (sVar 8)) (sVar 4)) sNil))) sNil))))) (sSeq (sSet 3 (s2 oAddX (sVar 3) (sLst (sCons (sTup (sCons (s2 oSub (sC (.int 0)) (s2 oMul (sVar 7) (sVar 7))) (sCons (s2 oMul (sVar 8) (sVar 8)) sNil))) (sCons (sCall 2 F_l_low (sCons (sCall 2 F_l_pick (sCons (sVar 2) (sCons (sC (.int 201)) sNil))) (sCons (s2 oAddX (sC (.int 1)) (sCall 2 F_l_pick (sCons (sVar 2) (sCons (sC (.int 30)) sNil)))) sNil))) sNil))))) (sSeq (sIf (tNotI (sTru (sBs oAll (sCons (sComp (Tgt.name 9) (sVar 3) sYes (sCall 1 (F_l_right g) (sCons (sVar 9) sNil)) [9]) sNil)))) (sRet (sC (.bl false))) sNop) (sSeq (sSet 5 (sLst (sCons (sC .non) (sCons (sC (.bl true)) (sCons (sC (.int 4)) (sCons (sC (.int 0)) (sCons (sC (.str "4")) (sCons (sC (.str "")) (sCons (sTup sNil) (sCons (sLst sNil) (sCons sDic0 (sCons (sLst (sCons (sC (.int 4)) (sCons (sC (.int 1)) sNil))) (sCons (sTup (sCons (sC (.int 4)) sNil)) (sCons (sTup (sCons (sC (.int 4)) (sCons (sC (.int 1)) (sCons (sC (.int 1)) sNil)))) (sCons (sTup (sCons (sC (.int 8)) (sCons (sC (.int 2)) sNil))) (sCons (sTup (sCons (sC (.int 4)) (sCons (sC (.int 0)) sNil))) sNil)))))))))))))))) (sSeq (sSet 5 (s2 oAddX (sVar 5) (sLst (sCons (sTup (sCons (sC (.int 4)) (sCons (s1 oNeg (sC (.int 1))) sNil))) (sCons (sTup (sCons (sC (.bl true)) (sCons (sC (.int 1)) sNil))) (sCons (sTup (sCons (sC (.int 4)) (sCons (sC (.bl true)) sNil))) sNil)))))) (sSeq (sSet 5 (s2 oAddX (sVar 5) (sLst (sCons (sTup (sCons (sLst (sCons (sC (.int 4)) sNil)) (sCons (sC (.int 1)) sNil))) (sCons (sTup (sCons (sC (.int 4)) (sCons (sLst (sCons (sC (.int 1)) sNil)) sNil))) (sCons (sTup (sCons (sC (.str "4")) (sCons (sC (.int 1)) sNil))) (sCons (sTup (sCons sDic0 (sCons (sC (.int 1)) sNil))) (sCons (sTup (sCons (sTup (sCons (sC (.int 4)) (sCons (sC (.int 1)) sNil))) sNil)) (sCons (sTup (sCons (sC (.int 0)) (sCons (sC (.int 4)) sNil))) (sCons (sTup (sCons (s1 oNeg (sC (.int 4))) (sCons (s1 oNeg (sC (.int 1))) sNil))) (sCons (sC (.bl false)) sNil))))))))))) (sSeq (sSet 6 (sIx (sVar 5) (sCall 2 F_l_pick (sCons (sVar 2) (sCons (sBs oLen (sCons (sVar 5) sNil)) sNil))))) (sIf (tOrI (sTest (s2 oNeX (sCall 1 (F_l_told g) (sCons (sVar 6) sNil)) (sTup (sCons (sC (.str "number")) (sCons (sC .non) sNil))))) (sTest (s2 oNeX (sCall 1 (F_l_told g) (sCons (sLst (sCons (sTup (sCons (sVar 7) (sCons (sVar 8) sNil))) sNil)) sNil)) (sTup (sCons (sC (.str "number")) (sCons (sC .non) sNil)))))) (sRet (sC (.bl false))) sNop))))))))))))))) (sRet (sAndV (sCall 1 (F_l_right g) (sCons (sTup (sCons (sC (.int 0)) (sCons (sC (.int 1)) sNil))) sNil)) (sAndV (sCall 1 (F_l_right g) (sCons (sTup (sCons (sC (.int 1)) (sCons (sC (.int 1)) sNil))) sNil)) (sAndV (sCall 1 (F_l_right g) (sCons (sTup (sCons (s1 oNeg (sC (.int 1))) (sCons (sC (.int 1)) sNil))) sNil)) (sCall 1 (F_l_right g) (sCons (sTup (sCons (s1 oNeg (sC (.int 4))) (sCons (sC (.int 9)) sNil))) sNil)))))))
noncomputable def F_law (g : GX) : List D → Sto → Res D := fnOf 1 10 (b_law g)
structure Tx (mg : Str → Option Value) (a : Ad) : Prop where
  F_is_whole : Fun a.K "is_whole" "is_whole" s_is_whole a.f_is_whole a.fd_is_whole
  m_is_whole : mg "is_whole" = some (.ref a.f_is_whole)
  b_is_whole : Binds a.K a.fd_is_whole ["x"] []
  F_is_tuple_of : Fun a.K "is_tuple_of" "is_tuple_of" s_is_tuple_of a.f_is_tuple_of a.fd_is_tuple_of
  m_is_tuple_of : mg "is_tuple_of" = some (.ref a.f_is_tuple_of)
  b_is_tuple_of : Binds a.K a.fd_is_tuple_of ["x", "many"] []
  F_common_divisor : Fun a.K "common_divisor" "common_divisor" s_common_divisor a.f_common_divisor a.fd_common_divisor
  m_common_divisor : mg "common_divisor" = some (.ref a.f_common_divisor)
  b_common_divisor : Binds a.K a.fd_common_divisor ["one", "other"] []
  F_whole_root : Fun a.K "whole_root" "whole_root" s_whole_root a.f_whole_root a.fd_whole_root
  m_whole_root : mg "whole_root" = some (.ref a.f_whole_root)
  b_whole_root : Binds a.K a.fd_whole_root ["number"] []
  F_l_cell : Fun a.K "_law_cell" "_law_cell" s_l_cell a.f_l_cell a.fd_l_cell
  m_l_cell : mg "_law_cell" = some (.ref a.f_l_cell)
  b_l_cell : Binds a.K a.fd_l_cell ["_law_script", "_law_k"] []
  F_l_purse : Fun a.K "_law_purse" "_law_purse" s_l_purse a.f_l_purse a.fd_l_purse
  m_l_purse : mg "_law_purse" = some (.ref a.f_l_purse)
  b_l_purse : Binds a.K a.fd_l_purse ["_law_cell_here"] []
  F_l_pick : Fun a.K "_law_pick" "_law_pick" s_l_pick a.f_l_pick a.fd_l_pick
  m_l_pick : mg "_law_pick" = some (.ref a.f_l_pick)
  b_l_pick : Binds a.K a.fd_l_pick ["_law_purse_here", "_law_many"] []
  F_l_whole : Fun a.K "_law_whole" "_law_whole" s_l_whole a.f_l_whole a.fd_l_whole
  m_l_whole : mg "_law_whole" = some (.ref a.f_l_whole)
  b_l_whole : Binds a.K a.fd_l_whole ["_law_thing"] []
  F_l_low : Fun a.K "_law_low" "_law_low" s_l_low a.f_l_low a.fd_l_low
  m_l_low : mg "_law_low" = some (.ref a.f_l_low)
  b_l_low : Binds a.K a.fd_l_low ["_law_top", "_law_bottom"] []
  F_l_sort : Fun a.K "_law_sort" "_law_sort" s_l_sort a.f_l_sort a.fd_l_sort
  m_l_sort : mg "_law_sort" = some (.ref a.f_l_sort)
  b_l_sort : Binds a.K a.fd_l_sort ["_law_e"] []
  F_l_square_of : Fun a.K "_law_square_of" "_law_square_of" s_l_square_of a.f_l_square_of a.fd_l_square_of
  m_l_square_of : mg "_law_square_of" = some (.ref a.f_l_square_of)
  b_l_square_of : Binds a.K a.fd_l_square_of ["_law_number_here"] []
  F_is_fraction : Fun a.K "is_fraction" "is_fraction" s_is_fraction a.f_is_fraction a.fd_is_fraction
  m_is_fraction : mg "is_fraction" = some (.ref a.f_is_fraction)
  b_is_fraction : Binds a.K a.fd_is_fraction ["x"] []
  F_l_is_fraction : Fun a.K "_law_is_fraction" "_law_is_fraction" s_l_is_fraction a.f_l_is_fraction a.fd_l_is_fraction
  m_l_is_fraction : mg "_law_is_fraction" = some (.ref a.f_l_is_fraction)
  b_l_is_fraction : Binds a.K a.fd_l_is_fraction ["_law_thing"] []
  F_l_number : Fun a.K "_law_number" "_law_number" s_l_number a.f_l_number a.fd_l_number
  m_l_number : mg "_law_number" = some (.ref a.f_l_number)
  b_l_number : Binds a.K a.fd_l_number ["_law_purse_here"] []
  F_root : Fun a.K "root" "root" s_root a.f_root a.fd_root
  m_root : mg "root" = some (.ref a.f_root)
  b_root : Binds a.K a.fd_root ["a"] []
  F_l_told : Fun a.K "_law_told" "_law_told" s_l_told a.f_l_told a.fd_l_told
  m_l_told : mg "_law_told" = some (.ref a.f_l_told)
  b_l_told : Binds a.K a.fd_l_told ["_law_thing"] []
  F_l_right : Fun a.K "_law_right" "_law_right" s_l_right a.f_l_right a.fd_l_right
  m_l_right : mg "_law_right" = some (.ref a.f_l_right)
  b_l_right : Binds a.K a.fd_l_right ["_law_a"] []
  F_law : Fun a.K "law" "law" s_law a.f_law a.fd_law
  m_law : mg "law" = some (.ref a.f_law)
  b_law : Binds a.K a.fd_law ["_law_script"] []
  n_ValueError : mg "ValueError" = none
  n_abs : mg "abs" = none
  n_all : mg "all" = none
  n_bool : mg "bool" = none
  n_int : mg "int" = none
  n_isinstance : mg "isinstance" = none
  n_len : mg "len" = none
  n_max : mg "max" = none
  n_min : mg "min" = none
  n_range : mg "range" = none
  n_str : mg "str" = none
  n_tuple : mg "tuple" = none
  c_EarthError : mg "EarthError" = some (.ref a.c_EarthError)
  tv_EarthError : (gx a).tyv "EarthError" = some (.ref a.c_EarthError)
  c_NoNumber : mg "NoNumber" = some (.ref a.c_NoNumber)
  tv_NoNumber : (gx a).tyv "NoNumber" = some (.ref a.c_NoNumber)
  c_NoCable : mg "NoCable" = some (.ref a.c_NoCable)
  tv_NoCable : (gx a).tyv "NoCable" = some (.ref a.c_NoCable)
  c_NoDrag : mg "NoDrag" = some (.ref a.c_NoDrag)
  tv_NoDrag : (gx a).tyv "NoDrag" = some (.ref a.c_NoDrag)
  c_NoText : mg "NoText" = some (.ref a.c_NoText)
  tv_NoText : (gx a).tyv "NoText" = some (.ref a.c_NoText)
  c_NoLeaks : mg "NoLeaks" = some (.ref a.c_NoLeaks)
  tv_NoLeaks : (gx a).tyv "NoLeaks" = some (.ref a.c_NoLeaks)
  c_NoStretch : mg "NoStretch" = some (.ref a.c_NoStretch)
  tv_NoStretch : (gx a).tyv "NoStretch" = some (.ref a.c_NoStretch)
  c_NoWord : mg "NoWord" = some (.ref a.c_NoWord)
  tv_NoWord : (gx a).tyv "NoWord" = some (.ref a.c_NoWord)
  c_NoReading : mg "NoReading" = some (.ref a.c_NoReading)
  tv_NoReading : (gx a).tyv "NoReading" = some (.ref a.c_NoReading)
  c_NoPlace : mg "NoPlace" = some (.ref a.c_NoPlace)
  tv_NoPlace : (gx a).tyv "NoPlace" = some (.ref a.c_NoPlace)
  c_NoDay : mg "NoDay" = some (.ref a.c_NoDay)
  tv_NoDay : (gx a).tyv "NoDay" = some (.ref a.c_NoDay)
  c_NoPair : mg "NoPair" = some (.ref a.c_NoPair)
  tv_NoPair : (gx a).tyv "NoPair" = some (.ref a.c_NoPair)
  c_NoSplice : mg "NoSplice" = some (.ref a.c_NoSplice)
  tv_NoSplice : (gx a).tyv "NoSplice" = some (.ref a.c_NoSplice)
  c_NoDays : mg "NoDays" = some (.ref a.c_NoDays)
  tv_NoDays : (gx a).tyv "NoDays" = some (.ref a.c_NoDays)
  c_NoPlaces : mg "NoPlaces" = some (.ref a.c_NoPlaces)
  tv_NoPlaces : (gx a).tyv "NoPlaces" = some (.ref a.c_NoPlaces)
  c_NoLength : mg "NoLength" = some (.ref a.c_NoLength)
  tv_NoLength : (gx a).tyv "NoLength" = some (.ref a.c_NoLength)
  c_NoDeed : mg "NoDeed" = some (.ref a.c_NoDeed)
  tv_NoDeed : (gx a).tyv "NoDeed" = some (.ref a.c_NoDeed)
  c_NoBack : mg "NoBack" = some (.ref a.c_NoBack)
  tv_NoBack : (gx a).tyv "NoBack" = some (.ref a.c_NoBack)
  c_NoRow : mg "NoRow" = some (.ref a.c_NoRow)
  tv_NoRow : (gx a).tyv "NoRow" = some (.ref a.c_NoRow)
  tv_ValueError : (gx a).tyv "ValueError" = some (.type "ValueError")
  x_EarthError : XCls a.K a.c_EarthError
  x_NoNumber : XCls a.K a.c_NoNumber
  cl_NoNumber : (gx a).cls "NoNumber" = some a.c_NoNumber
  under : ∀ c C, (gx a).cls c = some C → PySem.W.subIn a.K (.ref C) (.ref a.c_EarthError) = some true
  gok : GXok (gx a)
section
variable {P : Program} {w : World} {mg : Str → Option Value} {base : Heap} {a : Ad}
theorem pass_E00 {X : Cx} : Passes (CXe P w) X E00 := pass_E0
theorem sc_is_whole : FnScope N_is_whole ["x"] (defScope s_is_whole) := ⟨rfl, rfl, rfl, by decide +kernel, rfl, by decide +kernel, by decide +kernel⟩
theorem ok_is_whole (T : Tx mg a) : FnOk P w a.K mg base (CXe P w) 1 a.f_is_whole a.fd_is_whole ["x"] (spF (gx a) 1 (F_is_whole)) := by
  refine fn_I (g := gx a) (N := N_is_whole) (body := b_is_whole) T.F_is_whole sc_is_whole fun cdv A outer s H E hr => ?_
  have hu := hr.units
  refine is_one ?_
  refine is_ret ?_
  refine i_and ?_ ?_
  refine j_isiB (T := "int") rfl rfl T.n_isinstance rfl T.n_int bb_int ?_
  exact i_var 0 (pv 0)
  refine i_one ?_
  refine i_not ?_
  refine j_isiB (T := "bool") rfl rfl T.n_isinstance rfl T.n_bool bb_bool ?_
  exact i_var 0 (pv 0)
theorem sc_is_tuple_of : FnScope N_is_tuple_of ["x", "many"] (defScope s_is_tuple_of) := ⟨rfl, rfl, rfl, by decide +kernel, rfl, by decide +kernel, by decide +kernel⟩
theorem ok_is_tuple_of (T : Tx mg a) : FnOk P w a.K mg base (CXe P w) 1 a.f_is_tuple_of a.fd_is_tuple_of ["x", "many"] (spF (gx a) 2 (F_is_tuple_of)) := by
  refine fn_I (g := gx a) (N := N_is_tuple_of) (body := b_is_tuple_of) T.F_is_tuple_of sc_is_tuple_of fun cdv A outer s H E hr => ?_
  have hu := hr.units
  refine is_one ?_
  refine is_ret ?_
  refine i_and ?_ ?_
  refine j_isiB (T := "tuple") rfl rfl T.n_isinstance rfl T.n_tuple bb_tuple ?_
  exact i_var 0 (pv 0)
  refine i_one ?_
  refine i_cmp (r_eq rfl hu) ?_ ?_ (nomark _)
  refine j_bltnS (c_len rfl) rfl T.n_len bb_len ?_
  refine ja_cons ?_ ?_
  exact i_var 0 (pv 0)
  exact ia_nil
  exact i_var 1 (pv 1)
theorem sc_common_divisor : FnScope N_common_divisor ["one", "other"] (defScope s_common_divisor) := ⟨rfl, rfl, rfl, by decide +kernel, rfl, by decide +kernel, by decide +kernel⟩
theorem ok_common_divisor (T : Tx mg a) : FnOk P w a.K mg base (CXe P w) 1 a.f_common_divisor a.fd_common_divisor ["one", "other"] (spF (gx a) 2 (F_common_divisor)) := by
  refine fn_I (g := gx a) (N := N_common_divisor) (body := b_common_divisor) T.F_common_divisor sc_common_divisor fun cdv A outer s H E hr => ?_
  have hu := hr.units
  refine is_cons ?_ ?_
  · refine is_while own_def ?_ ?_
    refine i_cmpT (r_ne rfl hu) ?_ ?_ (nomark _)
    exact i_var 1 (pv 1)
    exact i_int
    refine is_one ?_
    refine is_par (i := 0) (j := 1) rfl sc_common_divisor.nd rfl rfl (by decide) rfl rfl ?_ rfl
    refine ja_cons ?_ ?_
    exact i_var 1 (pv 1)
    refine ja_cons ?_ ?_
    refine i_bin r_mod ?_ ?_
    exact i_var 0 (pv 0)
    exact i_var 1 (pv 1)
    exact ia_nil
  refine is_one ?_
  refine is_ret ?_
  refine j_bltnS c_abs rfl T.n_abs bb_abs ?_
  refine ja_cons ?_ ?_
  exact i_var 0 (pv 0)
  exact ia_nil
theorem sc_whole_root : FnScope N_whole_root ["number"] (defScope s_whole_root) := ⟨rfl, rfl, rfl, by decide +kernel, rfl, by decide +kernel, by decide +kernel⟩
theorem ok_whole_root (T : Tx mg a) : FnOk P w a.K mg base (CXe P w) 1 a.f_whole_root a.fd_whole_root ["number"] (spF (gx a) 1 (F_whole_root)) := by
  refine fn_I (g := gx a) (N := N_whole_root) (body := b_whole_root) T.F_whole_root sc_whole_root fun cdv A outer s H E hr => ?_
  have hu := hr.units
  refine is_cons ?_ ?_
  · refine is_if ?_ ?_ ?_
    refine i_cmpT (r_eq rfl hu) ?_ ?_ (nomark _)
    exact i_var 0 (pv 0)
    exact i_int
    refine is_one ?_
    refine is_ret ?_
    exact i_int
    exact is_nil
  refine is_cons ?_ ?_
  · refine js_set (i := 1) (hN := ?hN1) (hi := ?hi1) (hx := ?hx1) (ha := ?ha1) (hs := ?hs1) (hf := ?hf1)
    case hN1 => exact sc_whole_root.nd
    case hi1 => exact rfl
    case hx1 => first | exact Or.inl rfl | exact Or.inr rfl
    case hs1 => rfl
    case hf1 => first | exact Or.inl rfl | exact Or.inr rfl | assumption
    refine i_bin r_shl ?_ ?_
    exact i_int
    refine i_bin r_div ?_ ?_
    refine i_bin (r_add rfl) ?_ ?_
    refine j_bits ?_
    exact i_var 0 (pv 0)
    exact i_int
    exact i_int
  refine is_cons ?_ ?_
  · refine js_set (i := 2) (hN := ?hN2) (hi := ?hi2) (hx := ?hx2) (ha := ?ha2) (hs := ?hs2) (hf := ?hf2)
    case hN2 => exact sc_whole_root.nd
    case hi2 => exact rfl
    case hx2 => first | exact Or.inl rfl | exact Or.inr rfl
    case hs2 => rfl
    case hf2 => first | exact Or.inl rfl | exact Or.inr rfl | assumption
    refine i_bin r_div ?_ ?_
    refine i_bin (r_add rfl) ?_ ?_
    exact i_var 1 (pv 1)
    refine i_bin r_div ?_ ?_
    exact i_var 0 (pv 0)
    exact i_var 1 (pv 1)
    exact i_int
  refine is_cons ?_ ?_
  · refine is_while own_def ?_ ?_
    refine i_cmpT r_lt ?_ ?_ (nomark _)
    exact i_var 2 (pv 2)
    exact i_var 1 (pv 1)
    refine is_cons ?_ ?_
    · refine js_set (i := 1) (hN := ?hN3) (hi := ?hi3) (hx := ?hx3) (ha := ?ha3) (hs := ?hs3) (hf := ?hf3)
      case hN3 => exact sc_whole_root.nd
      case hi3 => exact rfl
      case hx3 => first | exact Or.inl rfl | exact Or.inr rfl
      case hs3 => rfl
      case hf3 => first | exact Or.inl rfl | exact Or.inr rfl | assumption
      exact i_var 2 (pv 2)
    refine is_one ?_
    refine js_set (i := 2) (hN := ?hN4) (hi := ?hi4) (hx := ?hx4) (ha := ?ha4) (hs := ?hs4) (hf := ?hf4)
    case hN4 => exact sc_whole_root.nd
    case hi4 => exact rfl
    case hx4 => first | exact Or.inl rfl | exact Or.inr rfl
    case hs4 => rfl
    case hf4 => first | exact Or.inl rfl | exact Or.inr rfl | assumption
    refine i_bin r_div ?_ ?_
    refine i_bin (r_add rfl) ?_ ?_
    exact i_var 1 (pv 1)
    refine i_bin r_div ?_ ?_
    exact i_var 0 (pv 0)
    exact i_var 1 (pv 1)
    exact i_int
  refine is_one ?_
  refine is_ret ?_
  exact i_var 1 (pv 1)
theorem sc_l_cell : FnScope N_l_cell ["_law_script", "_law_k"] (defScope s_l_cell) := ⟨rfl, rfl, rfl, by decide +kernel, rfl, by decide +kernel, by decide +kernel⟩
theorem ok_l_cell (T : Tx mg a) : FnOk P w a.K mg base (CXe P w) 1 a.f_l_cell a.fd_l_cell ["_law_script", "_law_k"] (spF (gx a) 2 (F_l_cell)) := by
  refine fn_I (g := gx a) (N := N_l_cell) (body := b_l_cell) T.F_l_cell sc_l_cell fun cdv A outer s H E hr => ?_
  have hu := hr.units
  refine is_cons ?_ ?_
  · refine is_if ?_ ?_ ?_
    refine i_cmpT r_lt ?_ ?_ (nomark _)
    exact i_var 1 (pv 1)
    refine j_bltnS (c_len rfl) rfl T.n_len bb_len ?_
    refine ja_cons ?_ ?_
    exact i_var 0 (pv 0)
    exact ia_nil
    refine is_one ?_
    refine is_ret ?_
    refine j_ix (hK := ?xK1) (ha := ?xa1) (hb := ?xb1) (hs := ?xs1)
    case xK1 => rfl
    case xs1 => rfl
    exact i_var 0 (pv 0)
    exact i_var 1 (pv 1)
    exact is_nil
  refine is_cons ?_ ?_
  · refine js_set (i := 2) (hN := ?hN5) (hi := ?hi5) (hx := ?hx5) (ha := ?ha5) (hs := ?hs5) (hf := ?hf5)
    case hN5 => exact sc_l_cell.nd
    case hi5 => exact rfl
    case hx5 => first | exact Or.inl rfl | exact Or.inr rfl
    case hs5 => rfl
    case hf5 => first | exact Or.inl rfl | exact Or.inr rfl | assumption
    refine i_bin r_mod ?_ ?_
    refine i_bin r_mul ?_ ?_
    exact i_int
    refine i_bin (r_add rfl) ?_ ?_
    refine i_bin (r_add rfl) ?_ ?_
    refine i_bin r_mul ?_ ?_
    exact i_var 1 (pv 1)
    exact i_var 1 (pv 1)
    refine i_bin r_mul ?_ ?_
    exact i_int
    exact i_var 1 (pv 1)
    exact i_int
    exact i_int
  refine is_cons ?_ ?_
  · refine js_for rfl own_def rfl ?_ ?_ ?_
    refine i_slX rfl ?_ ?_ ?_
    exact i_var 0 (pv 0)
    exact io_none
    refine io_some ?_
    exact i_int
    exact ig_name (pg_name (i := 3) sc_l_cell.nd rfl (by first | exact Or.inl rfl | exact Or.inr rfl))
    refine is_one ?_
    refine js_set (i := 2) (hN := ?hN6) (hi := ?hi6) (hx := ?hx6) (ha := ?ha6) (hs := ?hs6) (hf := ?hf6)
    case hN6 => exact sc_l_cell.nd
    case hi6 => exact rfl
    case hx6 => first | exact Or.inl rfl | exact Or.inr rfl
    case hs6 => rfl
    case hf6 => first | exact Or.inl rfl | exact Or.inr rfl | assumption
    refine i_bin r_mod ?_ ?_
    refine i_bin (r_add rfl) ?_ ?_
    refine i_bin r_mul ?_ ?_
    exact i_var 2 (pv 2)
    exact i_int
    exact i_var 3 (pv 3)
    exact i_int
  refine is_one ?_
  refine is_ret ?_
  exact i_var 2 (pv 2)
theorem sc_l_purse : FnScope N_l_purse ["_law_cell_here"] (defScope s_l_purse) := ⟨rfl, rfl, rfl, by decide +kernel, rfl, by decide +kernel, by decide +kernel⟩
theorem ok_l_purse (T : Tx mg a) : FnOk P w a.K mg base (CXe P w) 1 a.f_l_purse a.fd_l_purse ["_law_cell_here"] (spF (gx a) 1 (F_l_purse)) := by
  refine fn_I (g := gx a) (N := N_l_purse) (body := b_l_purse) T.F_l_purse sc_l_purse fun cdv A outer s H E hr => ?_
  have hu := hr.units
  refine is_one ?_
  refine is_ret ?_
  refine i_lstM ?_
  refine ja_cons ?_ ?_
  refine i_bin (r_add rfl) ?_ ?_
  refine i_bin r_mul ?_ ?_
  refine i_bin r_mod ?_ ?_
  exact i_var 0 (pv 0)
  exact i_int
  exact i_int
  exact i_int
  refine ja_cons ?_ ?_
  refine j_ix (hK := ?xK2) (ha := ?xa2) (hb := ?xb2) (hs := ?xs2)
  case xK2 => rfl
  case xs2 => rfl
  refine i_lst ?_
  refine ja_cons ?_ ?_
  exact i_int
  refine ja_cons ?_ ?_
  exact i_var 0 (pv 0)
  exact ia_nil
  refine j_typeS c_int rfl T.n_int bb_int ?_
  refine ja_cons ?_ ?_
  refine i_cmp r_ge ?_ ?_ (nomark _)
  exact i_var 0 (pv 0)
  refine i_bin r_pow ?_ ?_
  exact i_int
  exact i_int
  exact ia_nil
  refine ja_cons ?_ ?_
  exact i_int
  exact ia_nil
theorem sc_l_pick : FnScope N_l_pick ["_law_purse_here", "_law_many"] (defScope s_l_pick) := ⟨rfl, rfl, rfl, by decide +kernel, rfl, by decide +kernel, by decide +kernel⟩
theorem ok_l_pick (T : Tx mg a) : FnOk P w a.K mg base (CXe P w) 1 a.f_l_pick a.fd_l_pick ["_law_purse_here", "_law_many"] (spF (gx a) 2 (F_l_pick)) := by
  refine fn_I (g := gx a) (N := N_l_pick) (body := b_l_pick) T.F_l_pick sc_l_pick fun cdv A outer s H E hr => ?_
  have hu := hr.units
  refine is_cons ?_ ?_
  · refine js_put ?_ ?_ ?_
    refine i_bin (r_add rfl) ?_ ?_
    refine j_ix (hK := ?xK3) (ha := ?xa3) (hb := ?xb3) (hs := ?xs3)
    case xK3 => rfl
    case xs3 => rfl
    exact i_var 0 (pv 0)
    exact i_int
    exact i_int
    exact i_var 0 (pv 0)
    exact i_int
  refine is_cons ?_ ?_
  · refine js_set (i := 2) (hN := ?hN7) (hi := ?hi7) (hx := ?hx7) (ha := ?ha7) (hs := ?hs7) (hf := ?hf7)
    case hN7 => exact sc_l_pick.nd
    case hi7 => exact rfl
    case hx7 => first | exact Or.inl rfl | exact Or.inr rfl
    case hs7 => rfl
    case hf7 => first | exact Or.inl rfl | exact Or.inr rfl | assumption
    refine i_bin r_mod ?_ ?_
    refine j_ix (hK := ?xK4) (ha := ?xa4) (hb := ?xb4) (hs := ?xs4)
    case xK4 => rfl
    case xs4 => rfl
    exact i_var 0 (pv 0)
    exact i_int
    exact i_int
  refine is_cons ?_ ?_
  · refine js_put ?_ ?_ ?_
    refine i_bin (r_add rfl) ?_ ?_
    refine i_bin r_mul ?_ ?_
    exact i_var 2 (pv 2)
    refine i_bin (r_add rfl) ?_ ?_
    refine i_bin r_mod ?_ ?_
    exact i_var 2 (pv 2)
    exact i_int
    exact i_int
    refine i_bin r_mul ?_ ?_
    exact i_int
    refine j_ix (hK := ?xK5) (ha := ?xa5) (hb := ?xb5) (hs := ?xs5)
    case xK5 => rfl
    case xs5 => rfl
    exact i_var 0 (pv 0)
    exact i_int
    exact i_var 0 (pv 0)
    exact i_int
  refine is_cons ?_ ?_
  · refine is_if ?_ ?_ ?_
    refine i_cmpT r_gt ?_ ?_ (nomark _)
    refine j_ix (hK := ?xK6) (ha := ?xa6) (hb := ?xb6) (hs := ?xs6)
    case xK6 => rfl
    case xs6 => rfl
    exact i_var 0 (pv 0)
    exact i_int
    exact i_int
    · refine is_cons ?_ ?_
      · refine js_set (i := 3) (hN := ?hN8) (hi := ?hi8) (hx := ?hx8) (ha := ?ha8) (hs := ?hs8) (hf := ?hf8)
        case hN8 => exact sc_l_pick.nd
        case hi8 => exact rfl
        case hx8 => first | exact Or.inl rfl | exact Or.inr rfl
        case hs8 => rfl
        case hf8 => first | exact Or.inl rfl | exact Or.inr rfl | assumption
        refine i_bin r_mod ?_ ?_
        refine j_ix (hK := ?xK7) (ha := ?xa7) (hb := ?xb7) (hs := ?xs7)
        case xK7 => rfl
        case xs7 => rfl
        exact i_var 0 (pv 0)
        exact i_int
        exact i_var 1 (pv 1)
      refine is_cons ?_ ?_
      · refine js_put ?_ ?_ ?_
        refine i_bin r_div ?_ ?_
        refine j_ix (hK := ?xK8) (ha := ?xa8) (hb := ?xb8) (hs := ?xs8)
        case xK8 => rfl
        case xs8 => rfl
        exact i_var 0 (pv 0)
        exact i_int
        exact i_var 1 (pv 1)
        exact i_var 0 (pv 0)
        exact i_int
      refine is_one ?_
      refine is_ret ?_
      exact i_var 3 (pv 3)
    · exact is_nil
  refine is_one ?_
  refine is_ret ?_
  refine i_bin r_mod ?_ ?_
  refine i_bin r_div ?_ ?_
  refine i_bin r_mod ?_ ?_
  refine j_ix (hK := ?xK9) (ha := ?xa9) (hb := ?xb9) (hs := ?xs9)
  case xK9 => rfl
  case xs9 => rfl
  exact i_var 0 (pv 0)
  exact i_int
  exact i_int
  exact i_int
  exact i_var 1 (pv 1)
theorem sc_l_whole : FnScope N_l_whole ["_law_thing"] (defScope s_l_whole) := ⟨rfl, rfl, rfl, by decide +kernel, rfl, by decide +kernel, by decide +kernel⟩
theorem ok_l_whole (T : Tx mg a) : FnOk P w a.K mg base (CXe P w) 1 a.f_l_whole a.fd_l_whole ["_law_thing"] (spF (gx a) 1 (F_l_whole)) := by
  refine fn_I (g := gx a) (N := N_l_whole) (body := b_l_whole) T.F_l_whole sc_l_whole fun cdv A outer s H E hr => ?_
  have hu := hr.units
  refine is_one ?_
  refine is_ret ?_
  refine i_and ?_ ?_
  refine j_isiB (T := "int") rfl rfl T.n_isinstance rfl T.n_int bb_int ?_
  exact i_var 0 (pv 0)
  refine i_one ?_
  refine i_not ?_
  refine j_isiB (T := "bool") rfl rfl T.n_isinstance rfl T.n_bool bb_bool ?_
  exact i_var 0 (pv 0)
theorem sc_l_low : FnScope N_l_low ["_law_top", "_law_bottom"] (defScope s_l_low) := ⟨rfl, rfl, rfl, by decide +kernel, rfl, by decide +kernel, by decide +kernel⟩
theorem ok_l_low (T : Tx mg a) : FnOk P w a.K mg base (CXe P w) 1 a.f_l_low a.fd_l_low ["_law_top", "_law_bottom"] (spF (gx a) 2 (F_l_low)) := by
  refine fn_I (g := gx a) (N := N_l_low) (body := b_l_low) T.F_l_low sc_l_low fun cdv A outer s H E hr => ?_
  have hu := hr.units
  refine is_cons ?_ ?_
  · refine is_if ?_ ?_ ?_
    refine i_cmpT r_lt ?_ ?_ (nomark _)
    exact i_var 1 (pv 1)
    exact i_int
    · refine is_one ?_
      refine is_par (i := 0) (j := 1) rfl sc_l_low.nd rfl rfl (by decide) rfl rfl ?_ rfl
      refine ja_cons ?_ ?_
      refine i_bin r_sub ?_ ?_
      exact i_int
      exact i_var 0 (pv 0)
      refine ja_cons ?_ ?_
      refine i_bin r_sub ?_ ?_
      exact i_int
      exact i_var 1 (pv 1)
      exact ia_nil
    · exact is_nil
  refine is_cons ?_ ?_
  · refine is_par (i := 2) (j := 3) rfl sc_l_low.nd rfl rfl (by decide) rfl rfl ?_ rfl
    refine ja_cons ?_ ?_
    refine j_bltnS c_abs rfl T.n_abs bb_abs ?_
    refine ja_cons ?_ ?_
    exact i_var 0 (pv 0)
    exact ia_nil
    refine ja_cons ?_ ?_
    exact i_var 1 (pv 1)
    exact ia_nil
  refine is_cons ?_ ?_
  · refine is_while own_def ?_ ?_
    refine i_cmpT r_gt ?_ ?_ (nomark _)
    exact i_var 3 (pv 3)
    exact i_int
    refine is_one ?_
    refine is_par (i := 2) (j := 3) rfl sc_l_low.nd rfl rfl (by decide) rfl rfl ?_ rfl
    refine ja_cons ?_ ?_
    exact i_var 3 (pv 3)
    refine ja_cons ?_ ?_
    refine i_bin r_mod ?_ ?_
    exact i_var 2 (pv 2)
    exact i_var 3 (pv 3)
    exact ia_nil
  refine is_one ?_
  refine is_ret ?_
  refine i_tup ?_
  refine ja_cons ?_ ?_
  refine i_bin r_div ?_ ?_
  exact i_var 0 (pv 0)
  exact i_var 2 (pv 2)
  refine ja_cons ?_ ?_
  refine i_bin r_div ?_ ?_
  exact i_var 1 (pv 1)
  exact i_var 2 (pv 2)
  exact ia_nil
theorem sc_l_sort : FnScope N_l_sort ["_law_e"] (defScope s_l_sort) := ⟨rfl, rfl, rfl, by decide +kernel, rfl, by decide +kernel, by decide +kernel⟩
theorem okH_l_sort (T : Tx mg a) : FnOkH P w a.K mg base (CXe P w) 1 a.f_l_sort a.fd_l_sort ["_law_e"] (spF (gx a) 1 (F_l_sort (gx a))) := by
  refine fn_IH (g := gx a) (N := N_l_sort) (body := b_l_sort (gx a)) T.F_l_sort sc_l_sort fun cdv A outer s H E hr => ?_
  have hu := hr.units
  refine is_cons ?_ ?_
  · refine js_set (i := 1) (hN := ?hN9) (hi := ?hi9) (hx := ?hx9) (ha := ?ha9) (hs := ?hs9) (hf := ?hf9)
    case hN9 => exact sc_l_sort.nd
    case hi9 => exact rfl
    case hx9 => first | exact Or.inl rfl | exact Or.inr rfl
    case hs9 => rfl
    case hf9 => first | exact Or.inl rfl | exact Or.inr rfl | assumption
    refine i_lst ?_
    refine ja_cons ?_ ?_
    refine j_isx (tV := .ref a.c_NoNumber) rfl T.gok rfl T.n_isinstance T.tv_NoNumber (fun _ h => h) (pe_glob (v := .ref a.c_NoNumber) rfl T.c_NoNumber rfl) ?_
    exact i_var 0 (pv 0)
    refine ja_cons ?_ ?_
    refine j_isx (tV := .ref a.c_NoCable) rfl T.gok rfl T.n_isinstance T.tv_NoCable (fun _ h => h) (pe_glob (v := .ref a.c_NoCable) rfl T.c_NoCable rfl) ?_
    exact i_var 0 (pv 0)
    refine ja_cons ?_ ?_
    refine j_isx (tV := .ref a.c_NoDrag) rfl T.gok rfl T.n_isinstance T.tv_NoDrag (fun _ h => h) (pe_glob (v := .ref a.c_NoDrag) rfl T.c_NoDrag rfl) ?_
    exact i_var 0 (pv 0)
    refine ja_cons ?_ ?_
    refine j_isx (tV := .ref a.c_NoText) rfl T.gok rfl T.n_isinstance T.tv_NoText (fun _ h => h) (pe_glob (v := .ref a.c_NoText) rfl T.c_NoText rfl) ?_
    exact i_var 0 (pv 0)
    exact ia_nil
  refine is_cons ?_ ?_
  · refine js_set (i := 1) (hN := ?hN10) (hi := ?hi10) (hx := ?hx10) (ha := ?ha10) (hs := ?hs10) (hf := ?hf10)
    case hN10 => exact sc_l_sort.nd
    case hi10 => exact rfl
    case hx10 => first | exact Or.inl rfl | exact Or.inr rfl
    case hs10 => rfl
    case hf10 => first | exact Or.inl rfl | exact Or.inr rfl | assumption
    refine i_bin (r_add rfl) ?_ ?_
    exact i_var 1 (pv 1)
    refine i_lst ?_
    refine ja_cons ?_ ?_
    refine j_isx (tV := .ref a.c_NoLeaks) rfl T.gok rfl T.n_isinstance T.tv_NoLeaks (fun _ h => h) (pe_glob (v := .ref a.c_NoLeaks) rfl T.c_NoLeaks rfl) ?_
    exact i_var 0 (pv 0)
    refine ja_cons ?_ ?_
    refine j_isx (tV := .ref a.c_NoStretch) rfl T.gok rfl T.n_isinstance T.tv_NoStretch (fun _ h => h) (pe_glob (v := .ref a.c_NoStretch) rfl T.c_NoStretch rfl) ?_
    exact i_var 0 (pv 0)
    refine ja_cons ?_ ?_
    refine j_isx (tV := .ref a.c_NoWord) rfl T.gok rfl T.n_isinstance T.tv_NoWord (fun _ h => h) (pe_glob (v := .ref a.c_NoWord) rfl T.c_NoWord rfl) ?_
    exact i_var 0 (pv 0)
    exact ia_nil
  refine is_cons ?_ ?_
  · refine js_set (i := 1) (hN := ?hN11) (hi := ?hi11) (hx := ?hx11) (ha := ?ha11) (hs := ?hs11) (hf := ?hf11)
    case hN11 => exact sc_l_sort.nd
    case hi11 => exact rfl
    case hx11 => first | exact Or.inl rfl | exact Or.inr rfl
    case hs11 => rfl
    case hf11 => first | exact Or.inl rfl | exact Or.inr rfl | assumption
    refine i_bin (r_add rfl) ?_ ?_
    exact i_var 1 (pv 1)
    refine i_lst ?_
    refine ja_cons ?_ ?_
    refine j_isx (tV := .ref a.c_NoReading) rfl T.gok rfl T.n_isinstance T.tv_NoReading (fun _ h => h) (pe_glob (v := .ref a.c_NoReading) rfl T.c_NoReading rfl) ?_
    exact i_var 0 (pv 0)
    exact ia_nil
  refine is_cons ?_ ?_
  · refine js_set (i := 1) (hN := ?hN12) (hi := ?hi12) (hx := ?hx12) (ha := ?ha12) (hs := ?hs12) (hf := ?hf12)
    case hN12 => exact sc_l_sort.nd
    case hi12 => exact rfl
    case hx12 => first | exact Or.inl rfl | exact Or.inr rfl
    case hs12 => rfl
    case hf12 => first | exact Or.inl rfl | exact Or.inr rfl | assumption
    refine i_bin (r_add rfl) ?_ ?_
    exact i_var 1 (pv 1)
    refine i_lst ?_
    refine ja_cons ?_ ?_
    refine j_isx (tV := .ref a.c_NoPlace) rfl T.gok rfl T.n_isinstance T.tv_NoPlace (fun _ h => h) (pe_glob (v := .ref a.c_NoPlace) rfl T.c_NoPlace rfl) ?_
    exact i_var 0 (pv 0)
    refine ja_cons ?_ ?_
    refine j_isx (tV := .ref a.c_NoDay) rfl T.gok rfl T.n_isinstance T.tv_NoDay (fun _ h => h) (pe_glob (v := .ref a.c_NoDay) rfl T.c_NoDay rfl) ?_
    exact i_var 0 (pv 0)
    refine ja_cons ?_ ?_
    refine j_isx (tV := .ref a.c_NoPair) rfl T.gok rfl T.n_isinstance T.tv_NoPair (fun _ h => h) (pe_glob (v := .ref a.c_NoPair) rfl T.c_NoPair rfl) ?_
    exact i_var 0 (pv 0)
    refine ja_cons ?_ ?_
    refine j_isx (tV := .ref a.c_NoSplice) rfl T.gok rfl T.n_isinstance T.tv_NoSplice (fun _ h => h) (pe_glob (v := .ref a.c_NoSplice) rfl T.c_NoSplice rfl) ?_
    exact i_var 0 (pv 0)
    exact ia_nil
  refine is_cons ?_ ?_
  · refine js_set (i := 1) (hN := ?hN13) (hi := ?hi13) (hx := ?hx13) (ha := ?ha13) (hs := ?hs13) (hf := ?hf13)
    case hN13 => exact sc_l_sort.nd
    case hi13 => exact rfl
    case hx13 => first | exact Or.inl rfl | exact Or.inr rfl
    case hs13 => rfl
    case hf13 => first | exact Or.inl rfl | exact Or.inr rfl | assumption
    refine i_bin (r_add rfl) ?_ ?_
    exact i_var 1 (pv 1)
    refine i_lst ?_
    refine ja_cons ?_ ?_
    refine j_isx (tV := .ref a.c_NoDays) rfl T.gok rfl T.n_isinstance T.tv_NoDays (fun _ h => h) (pe_glob (v := .ref a.c_NoDays) rfl T.c_NoDays rfl) ?_
    exact i_var 0 (pv 0)
    refine ja_cons ?_ ?_
    refine j_isx (tV := .ref a.c_NoPlaces) rfl T.gok rfl T.n_isinstance T.tv_NoPlaces (fun _ h => h) (pe_glob (v := .ref a.c_NoPlaces) rfl T.c_NoPlaces rfl) ?_
    exact i_var 0 (pv 0)
    refine ja_cons ?_ ?_
    refine j_isx (tV := .ref a.c_NoLength) rfl T.gok rfl T.n_isinstance T.tv_NoLength (fun _ h => h) (pe_glob (v := .ref a.c_NoLength) rfl T.c_NoLength rfl) ?_
    exact i_var 0 (pv 0)
    refine ja_cons ?_ ?_
    refine j_isx (tV := .ref a.c_NoDeed) rfl T.gok rfl T.n_isinstance T.tv_NoDeed (fun _ h => h) (pe_glob (v := .ref a.c_NoDeed) rfl T.c_NoDeed rfl) ?_
    exact i_var 0 (pv 0)
    exact ia_nil
  refine is_cons ?_ ?_
  · refine js_set (i := 1) (hN := ?hN14) (hi := ?hi14) (hx := ?hx14) (ha := ?ha14) (hs := ?hs14) (hf := ?hf14)
    case hN14 => exact sc_l_sort.nd
    case hi14 => exact rfl
    case hx14 => first | exact Or.inl rfl | exact Or.inr rfl
    case hs14 => rfl
    case hf14 => first | exact Or.inl rfl | exact Or.inr rfl | assumption
    refine i_bin (r_add rfl) ?_ ?_
    exact i_var 1 (pv 1)
    refine i_lst ?_
    refine ja_cons ?_ ?_
    refine j_isx (tV := .ref a.c_NoBack) rfl T.gok rfl T.n_isinstance T.tv_NoBack (fun _ h => h) (pe_glob (v := .ref a.c_NoBack) rfl T.c_NoBack rfl) ?_
    exact i_var 0 (pv 0)
    refine ja_cons ?_ ?_
    refine j_isx (tV := .ref a.c_NoRow) rfl T.gok rfl T.n_isinstance T.tv_NoRow (fun _ h => h) (pe_glob (v := .ref a.c_NoRow) rfl T.c_NoRow rfl) ?_
    exact i_var 0 (pv 0)
    exact ia_nil
  refine is_cons ?_ ?_
  · refine is_if ?_ ?_ ?_
    refine PW.pt ?_
    refine it_or ?_ ?_
    refine i_cmpT (r_ne rfl hu) ?_ ?_ (nomark _)
    refine j_methL PySem.F.slot_list_count PySem.F.type_list_count m_count ?_ ?_
    exact i_var 1 (pv 1)
    refine ja_cons ?_ ?_
    exact i_bl
    exact ia_nil
    exact i_int
    refine it_oneO ?_
    refine it_not ?_
    refine j_tru rfl ?_
    refine j_isx (tV := .ty "ValueError") rfl T.gok rfl T.n_isinstance T.tv_ValueError (fun _ h => h) (pe_bltn rfl T.n_ValueError bb_ValueError (v := .ty "ValueError") rfl) ?_
    exact i_var 0 (pv 0)
    refine is_one ?_
    refine is_ret ?_
    exact i_str
    exact is_nil
  refine is_cons ?_ ?_
  · refine js_set (i := 2) (hN := ?hN15) (hi := ?hi15) (hx := ?hx15) (ha := ?ha15) (hs := ?hs15) (hf := ?hf15)
    case hN15 => exact sc_l_sort.nd
    case hi15 => exact rfl
    case hx15 => first | exact Or.inl rfl | exact Or.inr rfl
    case hs15 => rfl
    case hf15 => first | exact Or.inl rfl | exact Or.inr rfl | assumption
    refine i_lst ?_
    refine ja_cons ?_ ?_
    exact i_str
    refine ja_cons ?_ ?_
    exact i_str
    refine ja_cons ?_ ?_
    exact i_str
    refine ja_cons ?_ ?_
    exact i_str
    refine ja_cons ?_ ?_
    exact i_str
    refine ja_cons ?_ ?_
    exact i_str
    refine ja_cons ?_ ?_
    exact i_str
    refine ja_cons ?_ ?_
    exact i_str
    refine ja_cons ?_ ?_
    exact i_str
    exact ia_nil
  refine is_cons ?_ ?_
  · refine js_set (i := 2) (hN := ?hN16) (hi := ?hi16) (hx := ?hx16) (ha := ?ha16) (hs := ?hs16) (hf := ?hf16)
    case hN16 => exact sc_l_sort.nd
    case hi16 => exact rfl
    case hx16 => first | exact Or.inl rfl | exact Or.inr rfl
    case hs16 => rfl
    case hf16 => first | exact Or.inl rfl | exact Or.inr rfl | assumption
    refine i_bin (r_add rfl) ?_ ?_
    exact i_var 2 (pv 2)
    refine i_lst ?_
    refine ja_cons ?_ ?_
    exact i_str
    refine ja_cons ?_ ?_
    exact i_str
    refine ja_cons ?_ ?_
    exact i_str
    exact ia_nil
  refine is_one ?_
  refine is_ret ?_
  refine j_ix (hK := ?xK10) (ha := ?xa10) (hb := ?xb10) (hs := ?xs10)
  case xK10 => rfl
  case xs10 => rfl
  refine i_bin (r_add rfl) ?_ ?_
  exact i_var 2 (pv 2)
  refine i_lst ?_
  refine ja_cons ?_ ?_
  exact i_str
  refine ja_cons ?_ ?_
  exact i_str
  refine ja_cons ?_ ?_
  exact i_str
  refine ja_cons ?_ ?_
  exact i_str
  refine ja_cons ?_ ?_
  exact i_str
  refine ja_cons ?_ ?_
  exact i_str
  exact ia_nil
  refine j_methL PySem.F.slot_list_index PySem.F.type_list_index m_index ?_ ?_
  exact i_var 1 (pv 1)
  refine ja_cons ?_ ?_
  exact i_bl
  exact ia_nil
theorem sc_l_square_of : FnScope N_l_square_of ["_law_number_here"] (defScope s_l_square_of) := ⟨rfl, rfl, rfl, by decide +kernel, rfl, by decide +kernel, by decide +kernel⟩
theorem ok_l_square_of (T : Tx mg a) : FnOk P w a.K mg base (CXe P w) 1 a.f_l_square_of a.fd_l_square_of ["_law_number_here"] (spF (gx a) 1 (F_l_square_of)) := by
  refine fn_I (g := gx a) (N := N_l_square_of) (body := b_l_square_of) T.F_l_square_of sc_l_square_of fun cdv A outer s H E hr => ?_
  have hu := hr.units
  refine is_cons ?_ ?_
  · refine js_set (i := 1) (hN := ?hN17) (hi := ?hi17) (hx := ?hx17) (ha := ?ha17) (hs := ?hs17) (hf := ?hf17)
    case hN17 => exact sc_l_square_of.nd
    case hi17 => exact rfl
    case hx17 => first | exact Or.inl rfl | exact Or.inr rfl
    case hs17 => rfl
    case hf17 => first | exact Or.inl rfl | exact Or.inr rfl | assumption
    refine j_typeS c_str rfl T.n_str bb_str ?_
    refine ja_cons ?_ ?_
    exact i_var 0 (pv 0)
    exact ia_nil
  refine is_cons ?_ ?_
  · refine js_set (i := 1) (hN := ?hN18) (hi := ?hi18) (hx := ?hx18) (ha := ?ha18) (hs := ?hs18) (hf := ?hf18)
    case hN18 => exact sc_l_square_of.nd
    case hi18 => exact rfl
    case hx18 => first | exact Or.inl rfl | exact Or.inr rfl
    case hs18 => rfl
    case hf18 => first | exact Or.inl rfl | exact Or.inr rfl | assumption
    refine i_bin (r_add rfl) ?_ ?_
    refine i_bin (r_mulT rfl) ?_ ?_
    exact i_str
    refine i_bin r_mod ?_ ?_
    refine j_bltnS (c_len rfl) rfl T.n_len bb_len ?_
    refine ja_cons ?_ ?_
    exact i_var 1 (pv 1)
    exact ia_nil
    exact i_int
    exact i_var 1 (pv 1)
  refine is_cons ?_ ?_
  · refine js_asg ?_ ?_
    refine i_tup ?_
    refine ja_cons ?_ ?_
    exact i_int
    refine ja_cons ?_ ?_
    exact i_int
    exact ia_nil
    exact ig_tup rfl rfl (show PGs _ _ (gNames [3, 4]) from (pgs_cons (pg_name (i := 3) sc_l_square_of.nd rfl (by first | exact Or.inl rfl | exact Or.inr rfl)) (pgs_cons (pg_name (i := 4) sc_l_square_of.nd rfl (by first | exact Or.inl rfl | exact Or.inr rfl)) pgs_nil)))
  refine is_cons ?_ ?_
  · refine js_forR3 own_def rfl rfl T.n_range ?_ ?_ ?_
    refine ja_cons ?_ ?_
    exact i_int
    refine ja_cons ?_ ?_
    refine j_bltnS (c_len rfl) rfl T.n_len bb_len ?_
    refine ja_cons ?_ ?_
    exact i_var 1 (pv 1)
    exact ia_nil
    refine ja_cons ?_ ?_
    exact i_int
    exact ia_nil
    exact ig_name (pg_name (i := 2) sc_l_square_of.nd rfl (by first | exact Or.inl rfl | exact Or.inr rfl))
    refine is_cons ?_ ?_
    · refine js_set (i := 4) (hN := ?hN19) (hi := ?hi19) (hx := ?hx19) (ha := ?ha19) (hs := ?hs19) (hf := ?hf19)
      case hN19 => exact sc_l_square_of.nd
      case hi19 => exact rfl
      case hx19 => first | exact Or.inl rfl | exact Or.inr rfl
      case hs19 => rfl
      case hf19 => first | exact Or.inl rfl | exact Or.inr rfl | assumption
      refine i_bin (r_add rfl) ?_ ?_
      refine i_bin r_mul ?_ ?_
      exact i_int
      exact i_var 4 (pv 4)
      refine j_typeS c_intT rfl T.n_int bb_int ?_
      refine ja_cons ?_ ?_
      refine i_slS ?_ ?_ ?_
      exact i_var 1 (pv 1)
      refine io_some ?_
      exact i_var 2 (pv 2)
      refine io_some ?_
      refine i_bin (r_add rfl) ?_ ?_
      exact i_var 2 (pv 2)
      exact i_int
      exact ia_nil
    refine is_cons ?_ ?_
    · refine js_set (i := 5) (hN := ?hN20) (hi := ?hi20) (hx := ?hx20) (ha := ?ha20) (hs := ?hs20) (hf := ?hf20)
      case hN20 => exact sc_l_square_of.nd
      case hi20 => exact rfl
      case hx20 => first | exact Or.inl rfl | exact Or.inr rfl
      case hs20 => rfl
      case hf20 => first | exact Or.inl rfl | exact Or.inr rfl | assumption
      refine j_bltnS (c_len rfl) rfl T.n_len bb_len ?_
      refine ja_cons ?_ ?_
      refine j_compR2 (T := (Tgt.name 6)) (own := [("_law_one", 6)]) rfl rfl sc_l_square_of.nd rfl T.n_range ?_ (blkOk_by (own := [("_law_one", 6)]) (N := N_l_square_of) (sc := defScope s_l_square_of) (by decide +kernel)) rfl (show (6 : Nat) ∈ ([6] : List Nat) from by decide) (fun _ _ _ _ _ => pg_name (i := 6) sc_l_square_of.nd rfl (Or.inl rfl)) (fun _ _ _ _ _ => its_one (i_cmpT r_le (i_bin r_mul (i_bin (r_add rfl) (i_bin r_mul i_int (i_var 3 (pv 3))) (i_var 6 (pv 6))) (i_var 6 (pv 6))) (i_var 4 (pv 4)) (nomark _))) (fun _ _ _ _ _ => (i_var 6 (pv 6)))
      refine ja_cons ?_ ?_
      exact i_int
      refine ja_cons ?_ ?_
      exact i_int
      exact ia_nil
      exact ia_nil
    refine is_cons ?_ ?_
    · refine js_set (i := 4) (hN := ?hN21) (hi := ?hi21) (hx := ?hx21) (ha := ?ha21) (hs := ?hs21) (hf := ?hf21)
      case hN21 => exact sc_l_square_of.nd
      case hi21 => exact rfl
      case hx21 => first | exact Or.inl rfl | exact Or.inr rfl
      case hs21 => rfl
      case hf21 => first | exact Or.inl rfl | exact Or.inr rfl | assumption
      refine i_bin r_sub ?_ ?_
      exact i_var 4 (pv 4)
      refine i_bin r_mul ?_ ?_
      refine i_bin (r_add rfl) ?_ ?_
      refine i_bin r_mul ?_ ?_
      exact i_int
      exact i_var 3 (pv 3)
      exact i_var 5 (pv 5)
      exact i_var 5 (pv 5)
    refine is_one ?_
    refine js_set (i := 3) (hN := ?hN22) (hi := ?hi22) (hx := ?hx22) (ha := ?ha22) (hs := ?hs22) (hf := ?hf22)
    case hN22 => exact sc_l_square_of.nd
    case hi22 => exact rfl
    case hx22 => first | exact Or.inl rfl | exact Or.inr rfl
    case hs22 => rfl
    case hf22 => first | exact Or.inl rfl | exact Or.inr rfl | assumption
    refine i_bin (r_add rfl) ?_ ?_
    refine i_bin r_mul ?_ ?_
    exact i_int
    exact i_var 3 (pv 3)
    exact i_var 5 (pv 5)
  refine is_one ?_
  refine is_ret ?_
  refine j_ix (hK := ?xK11) (ha := ?xa11) (hb := ?xb11) (hs := ?xs11)
  case xK11 => rfl
  case xs11 => rfl
  refine i_lst ?_
  refine ja_cons ?_ ?_
  exact i_non
  refine ja_cons ?_ ?_
  exact i_var 3 (pv 3)
  exact ia_nil
  refine j_typeS c_intT rfl T.n_int bb_int ?_
  refine ja_cons ?_ ?_
  refine i_cmp (r_eq rfl hu) ?_ ?_ (nomark _)
  exact i_var 4 (pv 4)
  exact i_int
  exact ia_nil
theorem sc_is_fraction : FnScope N_is_fraction ["x"] (defScope s_is_fraction) := ⟨rfl, rfl, rfl, by decide +kernel, rfl, by decide +kernel, by decide +kernel⟩
theorem ok_is_fraction (T : Tx mg a) : FnOk P w a.K mg base (CXe P w) 2 a.f_is_fraction a.fd_is_fraction ["x"] (spF (gx a) 1 (F_is_fraction)) := by
  refine fn_I (g := gx a) (N := N_is_fraction) (body := b_is_fraction) T.F_is_fraction sc_is_fraction fun cdv A outer s H E hr => ?_
  have hu := hr.units
  refine is_cons ?_ ?_
  · refine is_if ?_ ?_ ?_
    refine PW.pt ?_
    refine it_or ?_ ?_
    refine it_not ?_
    refine j_tru rfl ?_
    refine j_call (ok_is_tuple_of T) (hr.mono (by decide)) rfl T.m_is_tuple_of T.F_is_tuple_of.kp T.b_is_tuple_of leaves_on ?_
    refine ja_cons ?_ ?_
    exact i_var 0 (pv 0)
    refine ja_cons ?_ ?_
    exact i_int
    exact ia_nil
    refine it_or ?_ ?_
    refine it_not ?_
    refine j_tru rfl ?_
    refine j_call (ok_is_whole T) (hr.mono (by decide)) rfl T.m_is_whole T.F_is_whole.kp T.b_is_whole leaves_on ?_
    refine ja_cons ?_ ?_
    refine j_ix (hK := ?xK12) (ha := ?xa12) (hb := ?xb12) (hs := ?xs12)
    case xK12 => rfl
    case xs12 => rfl
    exact i_var 0 (pv 0)
    exact i_int
    exact ia_nil
    refine it_oneO ?_
    refine it_not ?_
    refine j_tru rfl ?_
    refine j_call (ok_is_whole T) (hr.mono (by decide)) rfl T.m_is_whole T.F_is_whole.kp T.b_is_whole leaves_on ?_
    refine ja_cons ?_ ?_
    refine j_ix (hK := ?xK13) (ha := ?xa13) (hb := ?xb13) (hs := ?xs13)
    case xK13 => rfl
    case xs13 => rfl
    exact i_var 0 (pv 0)
    exact i_int
    exact ia_nil
    refine is_one ?_
    refine is_ret ?_
    exact i_bl
    exact is_nil
  refine is_one ?_
  refine is_ret ?_
  refine i_and ?_ ?_
  refine i_cmp r_gt ?_ ?_ (nomark _)
  refine j_ix (hK := ?xK14) (ha := ?xa14) (hb := ?xb14) (hs := ?xs14)
  case xK14 => rfl
  case xs14 => rfl
  exact i_var 0 (pv 0)
  exact i_int
  exact i_int
  refine i_one ?_
  refine i_cmp (r_eq rfl hu) ?_ ?_ (nomark _)
  refine j_call (ok_common_divisor T) (hr.mono (by decide)) rfl T.m_common_divisor T.F_common_divisor.kp T.b_common_divisor leaves_on ?_
  refine ja_cons ?_ ?_
  refine j_ix (hK := ?xK15) (ha := ?xa15) (hb := ?xb15) (hs := ?xs15)
  case xK15 => rfl
  case xs15 => rfl
  exact i_var 0 (pv 0)
  exact i_int
  refine ja_cons ?_ ?_
  refine j_ix (hK := ?xK16) (ha := ?xa16) (hb := ?xb16) (hs := ?xs16)
  case xK16 => rfl
  case xs16 => rfl
  exact i_var 0 (pv 0)
  exact i_int
  exact ia_nil
  exact i_int
theorem sc_l_is_fraction : FnScope N_l_is_fraction ["_law_thing"] (defScope s_l_is_fraction) := ⟨rfl, rfl, rfl, by decide +kernel, rfl, by decide +kernel, by decide +kernel⟩
theorem ok_l_is_fraction (T : Tx mg a) : FnOk P w a.K mg base (CXe P w) 2 a.f_l_is_fraction a.fd_l_is_fraction ["_law_thing"] (spF (gx a) 1 (F_l_is_fraction)) := by
  refine fn_I (g := gx a) (N := N_l_is_fraction) (body := b_l_is_fraction) T.F_l_is_fraction sc_l_is_fraction fun cdv A outer s H E hr => ?_
  have hu := hr.units
  refine is_cons ?_ ?_
  · refine is_if ?_ ?_ ?_
    refine PW.pt ?_
    refine it_or ?_ ?_
    refine it_not ?_
    refine j_tru rfl ?_
    refine j_isiB (T := "tuple") rfl rfl T.n_isinstance rfl T.n_tuple bb_tuple ?_
    exact i_var 0 (pv 0)
    refine it_or ?_ ?_
    refine i_cmpT (r_ne rfl hu) ?_ ?_ (nomark _)
    refine j_bltnS (c_len rfl) rfl T.n_len bb_len ?_
    refine ja_cons ?_ ?_
    exact i_var 0 (pv 0)
    exact ia_nil
    exact i_int
    refine it_or ?_ ?_
    refine it_not ?_
    refine j_tru rfl ?_
    refine j_call (ok_l_whole T) (hr.mono (by decide)) rfl T.m_l_whole T.F_l_whole.kp T.b_l_whole leaves_on ?_
    refine ja_cons ?_ ?_
    refine j_ix (hK := ?xK17) (ha := ?xa17) (hb := ?xb17) (hs := ?xs17)
    case xK17 => rfl
    case xs17 => rfl
    exact i_var 0 (pv 0)
    exact i_int
    exact ia_nil
    refine it_oneO ?_
    refine it_not ?_
    refine j_tru rfl ?_
    refine j_call (ok_l_whole T) (hr.mono (by decide)) rfl T.m_l_whole T.F_l_whole.kp T.b_l_whole leaves_on ?_
    refine ja_cons ?_ ?_
    refine j_ix (hK := ?xK18) (ha := ?xa18) (hb := ?xb18) (hs := ?xs18)
    case xK18 => rfl
    case xs18 => rfl
    exact i_var 0 (pv 0)
    exact i_int
    exact ia_nil
    refine is_one ?_
    refine is_ret ?_
    exact i_bl
    exact is_nil
  refine is_one ?_
  refine is_ret ?_
  refine i_and ?_ ?_
  refine i_cmp r_gt ?_ ?_ (nomark _)
  refine j_ix (hK := ?xK19) (ha := ?xa19) (hb := ?xb19) (hs := ?xs19)
  case xK19 => rfl
  case xs19 => rfl
  exact i_var 0 (pv 0)
  exact i_int
  exact i_int
  refine i_one ?_
  refine i_cmp (r_eq rfl hu) ?_ ?_ (nomark _)
  refine j_call (ok_l_low T) (hr.mono (by decide)) rfl T.m_l_low T.F_l_low.kp T.b_l_low leaves_on ?_
  refine ja_cons ?_ ?_
  refine j_ix (hK := ?xK20) (ha := ?xa20) (hb := ?xb20) (hs := ?xs20)
  case xK20 => rfl
  case xs20 => rfl
  exact i_var 0 (pv 0)
  exact i_int
  refine ja_cons ?_ ?_
  refine j_ix (hK := ?xK21) (ha := ?xa21) (hb := ?xb21) (hs := ?xs21)
  case xK21 => rfl
  case xs21 => rfl
  exact i_var 0 (pv 0)
  exact i_int
  exact ia_nil
  exact i_var 0 (pv 0)
theorem sc_l_number : FnScope N_l_number ["_law_purse_here"] (defScope s_l_number) := ⟨rfl, rfl, rfl, by decide +kernel, rfl, by decide +kernel, by decide +kernel⟩
theorem ok_l_number (T : Tx mg a) : FnOk P w a.K mg base (CXe P w) 2 a.f_l_number a.fd_l_number ["_law_purse_here"] (spF (gx a) 1 (F_l_number)) := by
  refine fn_I (g := gx a) (N := N_l_number) (body := b_l_number) T.F_l_number sc_l_number fun cdv A outer s H E hr => ?_
  have hu := hr.units
  refine is_cons ?_ ?_
  · refine js_set (i := 1) (hN := ?hN23) (hi := ?hi23) (hx := ?hx23) (ha := ?ha23) (hs := ?hs23) (hf := ?hf23)
    case hN23 => exact sc_l_number.nd
    case hi23 => exact rfl
    case hx23 => first | exact Or.inl rfl | exact Or.inr rfl
    case hs23 => rfl
    case hf23 => first | exact Or.inl rfl | exact Or.inr rfl | assumption
    refine j_ix (hK := ?xK22) (ha := ?xa22) (hb := ?xb22) (hs := ?xs22)
    case xK22 => rfl
    case xs22 => rfl
    refine i_lst ?_
    refine ja_cons ?_ ?_
    exact i_int
    refine ja_cons ?_ ?_
    exact i_int
    refine ja_cons ?_ ?_
    refine i_bin r_pow ?_ ?_
    exact i_int
    exact i_int
    refine ja_cons ?_ ?_
    refine i_bin r_pow ?_ ?_
    exact i_int
    exact i_int
    exact ia_nil
    refine j_call (ok_l_pick T) (hr.mono (by decide)) rfl T.m_l_pick T.F_l_pick.kp T.b_l_pick leaves_on ?_
    refine ja_cons ?_ ?_
    exact i_var 0 (pv 0)
    refine ja_cons ?_ ?_
    exact i_int
    exact ia_nil
  refine is_one ?_
  refine is_ret ?_
  refine i_bin (r_add rfl) ?_ ?_
  refine i_bin r_mul ?_ ?_
  refine j_call (ok_l_pick T) (hr.mono (by decide)) rfl T.m_l_pick T.F_l_pick.kp T.b_l_pick leaves_on ?_
  refine ja_cons ?_ ?_
  exact i_var 0 (pv 0)
  refine ja_cons ?_ ?_
  refine j_ix (hK := ?xK23) (ha := ?xa23) (hb := ?xb23) (hs := ?xs23)
  case xK23 => rfl
  case xs23 => rfl
  refine i_lst ?_
  refine ja_cons ?_ ?_
  exact i_int
  refine ja_cons ?_ ?_
  refine i_bin r_pow ?_ ?_
  exact i_int
  exact i_int
  exact ia_nil
  refine j_call (ok_l_pick T) (hr.mono (by decide)) rfl T.m_l_pick T.F_l_pick.kp T.b_l_pick leaves_on ?_
  refine ja_cons ?_ ?_
  exact i_var 0 (pv 0)
  refine ja_cons ?_ ?_
  exact i_int
  exact ia_nil
  exact ia_nil
  exact i_var 1 (pv 1)
  refine j_call (ok_l_pick T) (hr.mono (by decide)) rfl T.m_l_pick T.F_l_pick.kp T.b_l_pick leaves_on ?_
  refine ja_cons ?_ ?_
  exact i_var 0 (pv 0)
  refine ja_cons ?_ ?_
  exact i_int
  exact ia_nil
theorem sc_root : FnScope N_root ["a"] (defScope s_root) := ⟨rfl, rfl, rfl, by decide +kernel, rfl, by decide +kernel, by decide +kernel⟩
theorem ok_root (T : Tx mg a) : FnOk P w a.K mg base (CXe P w) 3 a.f_root a.fd_root ["a"] (spF (gx a) 1 (F_root)) := by
  refine fn_I (g := gx a) (N := N_root) (body := b_root) T.F_root sc_root fun cdv A outer s H E hr => ?_
  have hu := hr.units
  refine is_cons ?_ ?_
  · refine is_if ?_ ?_ ?_
    refine it_not ?_
    refine j_tru rfl ?_
    refine j_call (ok_is_fraction T) (hr.mono (by decide)) rfl T.m_is_fraction T.F_is_fraction.kp T.b_is_fraction leaves_on ?_
    refine ja_cons ?_ ?_
    exact i_var 0 (pv 0)
    exact ia_nil
    refine is_one ?_
    refine js_raise T.x_NoNumber.exc T.cl_NoNumber rfl T.c_NoNumber rfl made_def ?_
    refine ja_cons ?_ ?_
    exact i_str
    exact ia_nil
    exact is_nil
  refine is_cons ?_ ?_
  · refine is_if ?_ ?_ ?_
    refine i_cmpT r_lt ?_ ?_ (nomark _)
    refine j_ix (hK := ?xK24) (ha := ?xa24) (hb := ?xb24) (hs := ?xs24)
    case xK24 => rfl
    case xs24 => rfl
    exact i_var 0 (pv 0)
    exact i_int
    exact i_int
    refine is_one ?_
    refine is_ret ?_
    exact i_non
    exact is_nil
  refine is_cons ?_ ?_
  · refine js_set (i := 1) (hN := ?hN24) (hi := ?hi24) (hx := ?hx24) (ha := ?ha24) (hs := ?hs24) (hf := ?hf24)
    case hN24 => exact sc_root.nd
    case hi24 => exact rfl
    case hx24 => first | exact Or.inl rfl | exact Or.inr rfl
    case hs24 => rfl
    case hf24 => first | exact Or.inl rfl | exact Or.inr rfl | assumption
    refine j_call (ok_whole_root T) (hr.mono (by decide)) rfl T.m_whole_root T.F_whole_root.kp T.b_whole_root leaves_on ?_
    refine ja_cons ?_ ?_
    refine j_ix (hK := ?xK25) (ha := ?xa25) (hb := ?xb25) (hs := ?xs25)
    case xK25 => rfl
    case xs25 => rfl
    exact i_var 0 (pv 0)
    exact i_int
    exact ia_nil
  refine is_cons ?_ ?_
  · refine js_set (i := 2) (hN := ?hN25) (hi := ?hi25) (hx := ?hx25) (ha := ?ha25) (hs := ?hs25) (hf := ?hf25)
    case hN25 => exact sc_root.nd
    case hi25 => exact rfl
    case hx25 => first | exact Or.inl rfl | exact Or.inr rfl
    case hs25 => rfl
    case hf25 => first | exact Or.inl rfl | exact Or.inr rfl | assumption
    refine j_call (ok_whole_root T) (hr.mono (by decide)) rfl T.m_whole_root T.F_whole_root.kp T.b_whole_root leaves_on ?_
    refine ja_cons ?_ ?_
    refine j_ix (hK := ?xK26) (ha := ?xa26) (hb := ?xb26) (hs := ?xs26)
    case xK26 => rfl
    case xs26 => rfl
    exact i_var 0 (pv 0)
    exact i_int
    exact ia_nil
  refine is_cons ?_ ?_
  · refine is_if ?_ ?_ ?_
    refine PW.pt ?_
    refine it_or ?_ ?_
    refine i_cmpT (r_ne rfl hu) ?_ ?_ (nomark _)
    refine i_bin r_mul ?_ ?_
    exact i_var 1 (pv 1)
    exact i_var 1 (pv 1)
    refine j_ix (hK := ?xK27) (ha := ?xa27) (hb := ?xb27) (hs := ?xs27)
    case xK27 => rfl
    case xs27 => rfl
    exact i_var 0 (pv 0)
    exact i_int
    refine it_oneO ?_
    refine i_cmpT (r_ne rfl hu) ?_ ?_ (nomark _)
    refine i_bin r_mul ?_ ?_
    exact i_var 2 (pv 2)
    exact i_var 2 (pv 2)
    refine j_ix (hK := ?xK28) (ha := ?xa28) (hb := ?xb28) (hs := ?xs28)
    case xK28 => rfl
    case xs28 => rfl
    exact i_var 0 (pv 0)
    exact i_int
    refine is_one ?_
    refine is_ret ?_
    exact i_non
    exact is_nil
  refine is_one ?_
  refine is_ret ?_
  refine i_tup ?_
  refine ja_cons ?_ ?_
  exact i_var 1 (pv 1)
  refine ja_cons ?_ ?_
  exact i_var 2 (pv 2)
  exact ia_nil
theorem sc_l_told : FnScope N_l_told ["_law_thing"] (defScope s_l_told) := ⟨rfl, rfl, rfl, by decide +kernel, rfl, by decide +kernel, by decide +kernel⟩
theorem ok_l_told (T : Tx mg a) : FnOk P w a.K mg base (CXe P w) 4 a.f_l_told a.fd_l_told ["_law_thing"] (spF (gx a) 1 (F_l_told (gx a))) := by
  refine fn_I (g := gx a) (N := N_l_told) (body := b_l_told (gx a)) T.F_l_told sc_l_told fun cdv A outer s H E hr => ?_
  have hu := hr.units
  refine is_one ?_
  exact is_try (i := 1) sc_l_told.nd rfl rfl rfl T.c_EarthError T.x_EarthError T.under (by decide) (fun _ _ _ hP => (is_one (is_ret (i_tup (ja_cons i_str (ja_cons (j_call (ok_root T) (hr.mono (by decide)) rfl T.m_root T.F_root.kp T.b_root hP (ja_cons (i_var 0 (pv 0)) ia_nil)) ia_nil)))))) (fun ea _ => by have hrH := RoomH.of hr (some (.ref ea)); exact (is_one (is_ret (i_tup (ja_cons (j_callH (okH_l_sort T) (hrH.mono (by decide)) rfl T.m_l_sort T.F_l_sort.kp T.b_l_sort pass_E00 (ja_cons (i_var 1 (pv 1)) ia_nil)) (ja_cons i_non ia_nil))))))
theorem sc_l_right : FnScope N_l_right ["_law_a"] (defScope s_l_right) := ⟨rfl, rfl, rfl, by decide +kernel, rfl, by decide +kernel, by decide +kernel⟩
theorem ok_l_right (T : Tx mg a) : FnOk P w a.K mg base (CXe P w) 5 a.f_l_right a.fd_l_right ["_law_a"] (spF (gx a) 1 (F_l_right (gx a))) := by
  refine fn_I (g := gx a) (N := N_l_right) (body := b_l_right (gx a)) T.F_l_right sc_l_right fun cdv A outer s H E hr => ?_
  have hu := hr.units
  refine is_cons ?_ ?_
  · refine js_set (i := 1) (hN := ?hN26) (hi := ?hi26) (hx := ?hx26) (ha := ?ha26) (hs := ?hs26) (hf := ?hf26)
    case hN26 => exact sc_l_right.nd
    case hi26 => exact rfl
    case hx26 => first | exact Or.inl rfl | exact Or.inr rfl
    case hs26 => rfl
    case hf26 => first | exact Or.inl rfl | exact Or.inr rfl | assumption
    exact i_non
  refine is_cons ?_ ?_
  · refine is_if ?_ ?_ ?_
    refine i_cmpT r_ge ?_ ?_ (nomark _)
    refine j_ix (hK := ?xK29) (ha := ?xa29) (hb := ?xb29) (hs := ?xs29)
    case xK29 => rfl
    case xs29 => rfl
    exact i_var 0 (pv 0)
    exact i_int
    exact i_int
    · refine is_cons ?_ ?_
      · refine js_set (i := 1) (hN := ?hN27) (hi := ?hi27) (hx := ?hx27) (ha := ?ha27) (hs := ?hs27) (hf := ?hf27)
        case hN27 => exact sc_l_right.nd
        case hi27 => exact rfl
        case hx27 => first | exact Or.inl rfl | exact Or.inr rfl
        case hs27 => rfl
        case hf27 => first | exact Or.inl rfl | exact Or.inr rfl | assumption
        refine i_tup ?_
        refine ja_cons ?_ ?_
        refine j_call (ok_l_square_of T) (hr.mono (by decide)) rfl T.m_l_square_of T.F_l_square_of.kp T.b_l_square_of leaves_on ?_
        refine ja_cons ?_ ?_
        refine j_ix (hK := ?xK30) (ha := ?xa30) (hb := ?xb30) (hs := ?xs30)
        case xK30 => rfl
        case xs30 => rfl
        exact i_var 0 (pv 0)
        exact i_int
        exact ia_nil
        refine ja_cons ?_ ?_
        refine j_call (ok_l_square_of T) (hr.mono (by decide)) rfl T.m_l_square_of T.F_l_square_of.kp T.b_l_square_of leaves_on ?_
        refine ja_cons ?_ ?_
        refine j_ix (hK := ?xK31) (ha := ?xa31) (hb := ?xb31) (hs := ?xs31)
        case xK31 => rfl
        case xs31 => rfl
        exact i_var 0 (pv 0)
        exact i_int
        exact ia_nil
        exact ia_nil
      refine is_one ?_
      refine is_if ?_ ?_ ?_
      refine i_cmpT (r_inD rfl hu) ?_ ?_ rfl
      exact i_non
      exact i_var 1 (pv 1)
      · refine is_one ?_
        refine js_set (i := 1) (hN := ?hN28) (hi := ?hi28) (hx := ?hx28) (ha := ?ha28) (hs := ?hs28) (hf := ?hf28)
        case hN28 => exact sc_l_right.nd
        case hi28 => exact rfl
        case hx28 => first | exact Or.inl rfl | exact Or.inr rfl
        case hs28 => rfl
        case hf28 => first | exact Or.inl rfl | exact Or.inr rfl | assumption
        exact i_non
      · exact is_nil
    · exact is_nil
  refine is_cons ?_ ?_
  · refine js_forR own_def rfl rfl T.n_range ?_ ?_ ?_
    refine ja_cons ?_ ?_
    exact i_int
    exact ia_nil
    exact ig_name (pg_name (i := 2) sc_l_right.nd rfl (by first | exact Or.inl rfl | exact Or.inr rfl))
    refine is_cons ?_ ?_
    · refine js_asg ?_ ?_
      refine j_call (ok_l_told T) (hr.mono (by decide)) rfl T.m_l_told T.F_l_told.kp T.b_l_told leaves_on ?_
      refine ja_cons ?_ ?_
      exact i_var 0 (pv 0)
      exact ia_nil
      exact ig_tup rfl rfl (show PGs _ _ (gNames [3, 4]) from (pgs_cons (pg_name (i := 3) sc_l_right.nd rfl (by first | exact Or.inl rfl | exact Or.inr rfl)) (pgs_cons (pg_name (i := 4) sc_l_right.nd rfl (by first | exact Or.inl rfl | exact Or.inr rfl)) pgs_nil)))
    refine is_one ?_
    refine is_if ?_ ?_ ?_
    refine PW.pt ?_
    refine it_or ?_ ?_
    refine i_cmpT (r_ne rfl hu) ?_ ?_ (nomark _)
    exact i_var 3 (pv 3)
    exact i_str
    refine it_or ?_ ?_
    refine i_cmpT (r_ne rfl hu) ?_ ?_ (nomark _)
    exact i_var 4 (pv 4)
    exact i_var 1 (pv 1)
    refine it_oneO ?_
    refine PW.pt ?_
    refine it_and ?_ ?_
    refine i_cmpT r_isNot ?_ ?_ (nomark _)
    exact i_var 1 (pv 1)
    exact i_non
    refine it_one ?_
    refine it_not ?_
    refine j_tru rfl ?_
    refine j_call (ok_l_is_fraction T) (hr.mono (by decide)) rfl T.m_l_is_fraction T.F_l_is_fraction.kp T.b_l_is_fraction leaves_on ?_
    refine ja_cons ?_ ?_
    exact i_var 4 (pv 4)
    exact ia_nil
    refine is_one ?_
    refine is_ret ?_
    exact i_bl
    exact is_nil
  refine is_one ?_
  refine is_ret ?_
  refine i_or ?_ ?_
  refine i_cmp r_is ?_ ?_ (nomark _)
  exact i_var 1 (pv 1)
  exact i_non
  refine i_one ?_
  refine i_cmp (r_eq rfl hu) ?_ ?_ (nomark _)
  refine j_call (ok_l_low T) (hr.mono (by decide)) rfl T.m_l_low T.F_l_low.kp T.b_l_low leaves_on ?_
  refine ja_cons ?_ ?_
  refine i_bin r_mul ?_ ?_
  refine j_ix (hK := ?xK32) (ha := ?xa32) (hb := ?xb32) (hs := ?xs32)
  case xK32 => rfl
  case xs32 => rfl
  exact i_var 1 (pv 1)
  exact i_int
  refine j_ix (hK := ?xK33) (ha := ?xa33) (hb := ?xb33) (hs := ?xs33)
  case xK33 => rfl
  case xs33 => rfl
  exact i_var 1 (pv 1)
  exact i_int
  refine ja_cons ?_ ?_
  refine i_bin r_mul ?_ ?_
  refine j_ix (hK := ?xK34) (ha := ?xa34) (hb := ?xb34) (hs := ?xs34)
  case xK34 => rfl
  case xs34 => rfl
  exact i_var 1 (pv 1)
  exact i_int
  refine j_ix (hK := ?xK35) (ha := ?xa35) (hb := ?xb35) (hs := ?xs35)
  case xK35 => rfl
  case xs35 => rfl
  exact i_var 1 (pv 1)
  exact i_int
  exact ia_nil
  exact i_var 0 (pv 0)
theorem sc_law : FnScope N_law ["_law_script"] (defScope s_law) := ⟨rfl, rfl, rfl, by decide +kernel, rfl, by decide +kernel, by decide +kernel⟩
theorem ok_law (T : Tx mg a) : FnOk P w a.K mg base (CXe P w) 6 a.f_law a.fd_law ["_law_script"] (spF (gx a) 1 (F_law (gx a))) := by
  refine fn_I (g := gx a) (N := N_law) (body := b_law (gx a)) T.F_law sc_law fun cdv A outer s H E hr => ?_
  have hu := hr.units
  refine is_cons ?_ ?_
  · refine js_forR own_def rfl rfl T.n_range ?_ ?_ ?_
    refine ja_cons ?_ ?_
    refine j_bltnS (c_max rfl) rfl T.n_max bb_max ?_
    refine ja_cons ?_ ?_
    exact i_int
    refine ja_cons ?_ ?_
    refine j_bltnS (c_min rfl) rfl T.n_min bb_min ?_
    refine ja_cons ?_ ?_
    exact i_int
    refine ja_cons ?_ ?_
    refine j_bltnS (c_len rfl) rfl T.n_len bb_len ?_
    refine ja_cons ?_ ?_
    exact i_var 0 (pv 0)
    exact ia_nil
    exact ia_nil
    exact ia_nil
    exact ia_nil
    exact ig_name (pg_name (i := 1) sc_law.nd rfl (by first | exact Or.inl rfl | exact Or.inr rfl))
    refine is_cons ?_ ?_
    · refine js_set (i := 2) (hN := ?hN29) (hi := ?hi29) (hx := ?hx29) (ha := ?ha29) (hs := ?hs29) (hf := ?hf29)
      case hN29 => exact sc_law.nd
      case hi29 => exact rfl
      case hx29 => first | exact Or.inl rfl | exact Or.inr rfl
      case hs29 => rfl
      case hf29 => first | exact Or.inl rfl | exact Or.inr rfl | assumption
      refine j_call (ok_l_purse T) (hr.mono (by decide)) rfl T.m_l_purse T.F_l_purse.kp T.b_l_purse leaves_on ?_
      refine ja_cons ?_ ?_
      refine j_call (ok_l_cell T) (hr.mono (by decide)) rfl T.m_l_cell T.F_l_cell.kp T.b_l_cell leaves_on ?_
      refine ja_cons ?_ ?_
      exact i_var 0 (pv 0)
      refine ja_cons ?_ ?_
      exact i_var 1 (pv 1)
      exact ia_nil
      exact ia_nil
    refine is_cons ?_ ?_
    · refine js_asg ?_ ?_
      refine j_call (ok_l_low T) (hr.mono (by decide)) rfl T.m_l_low T.F_l_low.kp T.b_l_low leaves_on ?_
      refine ja_cons ?_ ?_
      refine j_call (ok_l_number T) (hr.mono (by decide)) rfl T.m_l_number T.F_l_number.kp T.b_l_number leaves_on ?_
      refine ja_cons ?_ ?_
      exact i_var 2 (pv 2)
      exact ia_nil
      refine ja_cons ?_ ?_
      refine i_bin (r_addX rfl) ?_ ?_
      refine j_call (ok_l_number T) (hr.mono (by decide)) rfl T.m_l_number T.F_l_number.kp T.b_l_number leaves_on ?_
      refine ja_cons ?_ ?_
      exact i_var 2 (pv 2)
      exact ia_nil
      exact i_int
      exact ia_nil
      exact ig_tup rfl rfl (show PGs _ _ (gNames [7, 8]) from (pgs_cons (pg_name (i := 7) sc_law.nd rfl (by first | exact Or.inl rfl | exact Or.inr rfl)) (pgs_cons (pg_name (i := 8) sc_law.nd rfl (by first | exact Or.inl rfl | exact Or.inr rfl)) pgs_nil)))
    refine is_cons ?_ ?_
    · refine js_set (i := 3) (hN := ?hN30) (hi := ?hi30) (hx := ?hx30) (ha := ?ha30) (hs := ?hs30) (hf := ?hf30)
      case hN30 => exact sc_law.nd
      case hi30 => exact rfl
      case hx30 => first | exact Or.inl rfl | exact Or.inr rfl
      case hs30 => rfl
      case hf30 => first | exact Or.inl rfl | exact Or.inr rfl | assumption
      refine i_lst ?_
      refine ja_cons ?_ ?_
      refine i_tup ?_
      refine ja_cons ?_ ?_
      exact i_var 7 (pv 7)
      refine ja_cons ?_ ?_
      exact i_var 8 (pv 8)
      exact ia_nil
      refine ja_cons ?_ ?_
      refine i_tup ?_
      refine ja_cons ?_ ?_
      refine i_bin r_mul ?_ ?_
      exact i_var 7 (pv 7)
      exact i_var 7 (pv 7)
      refine ja_cons ?_ ?_
      refine i_bin r_mul ?_ ?_
      exact i_var 8 (pv 8)
      exact i_var 8 (pv 8)
      exact ia_nil
      refine ja_cons ?_ ?_
      refine j_call (ok_l_low T) (hr.mono (by decide)) rfl T.m_l_low T.F_l_low.kp T.b_l_low leaves_on ?_
      refine ja_cons ?_ ?_
      refine i_bin r_mul ?_ ?_
      exact i_var 7 (pv 7)
      exact i_var 7 (pv 7)
      refine ja_cons ?_ ?_
      exact i_var 8 (pv 8)
      exact ia_nil
      exact ia_nil
    refine is_cons ?_ ?_
    · refine js_set (i := 3) (hN := ?hN31) (hi := ?hi31) (hx := ?hx31) (ha := ?ha31) (hs := ?hs31) (hf := ?hf31)
      case hN31 => exact sc_law.nd
      case hi31 => exact rfl
      case hx31 => first | exact Or.inl rfl | exact Or.inr rfl
      case hs31 => rfl
      case hf31 => first | exact Or.inl rfl | exact Or.inr rfl | assumption
      refine i_bin (r_addX rfl) ?_ ?_
      exact i_var 3 (pv 3)
      refine i_lst ?_
      refine ja_cons ?_ ?_
      refine j_call (ok_l_low T) (hr.mono (by decide)) rfl T.m_l_low T.F_l_low.kp T.b_l_low leaves_on ?_
      refine ja_cons ?_ ?_
      exact i_var 7 (pv 7)
      refine ja_cons ?_ ?_
      refine i_bin r_mul ?_ ?_
      exact i_var 8 (pv 8)
      exact i_var 8 (pv 8)
      exact ia_nil
      exact ia_nil
    refine is_cons ?_ ?_
    · refine js_set (i := 4) (hN := ?hN32) (hi := ?hi32) (hx := ?hx32) (ha := ?ha32) (hs := ?hs32) (hf := ?hf32)
      case hN32 => exact sc_law.nd
      case hi32 => exact rfl
      case hx32 => first | exact Or.inl rfl | exact Or.inr rfl
      case hs32 => rfl
      case hf32 => first | exact Or.inl rfl | exact Or.inr rfl | assumption
      refine i_bin (r_addX rfl) ?_ ?_
      exact i_int
      refine j_call (ok_l_pick T) (hr.mono (by decide)) rfl T.m_l_pick T.F_l_pick.kp T.b_l_pick leaves_on ?_
      refine ja_cons ?_ ?_
      exact i_var 2 (pv 2)
      refine ja_cons ?_ ?_
      exact i_int
      exact ia_nil
    refine is_cons ?_ ?_
    · refine js_set (i := 3) (hN := ?hN33) (hi := ?hi33) (hx := ?hx33) (ha := ?ha33) (hs := ?hs33) (hf := ?hf33)
      case hN33 => exact sc_law.nd
      case hi33 => exact rfl
      case hx33 => first | exact Or.inl rfl | exact Or.inr rfl
      case hs33 => rfl
      case hf33 => first | exact Or.inl rfl | exact Or.inr rfl | assumption
      refine i_bin (r_addX rfl) ?_ ?_
      exact i_var 3 (pv 3)
      refine i_lst ?_
      refine ja_cons ?_ ?_
      refine j_call (ok_l_low T) (hr.mono (by decide)) rfl T.m_l_low T.F_l_low.kp T.b_l_low leaves_on ?_
      refine ja_cons ?_ ?_
      refine i_bin (r_addX rfl) ?_ ?_
      refine i_bin r_mul ?_ ?_
      exact i_var 7 (pv 7)
      exact i_var 7 (pv 7)
      exact i_var 4 (pv 4)
      refine ja_cons ?_ ?_
      refine i_bin r_mul ?_ ?_
      exact i_var 8 (pv 8)
      exact i_var 8 (pv 8)
      exact ia_nil
      refine ja_cons ?_ ?_
      refine j_call (ok_l_low T) (hr.mono (by decide)) rfl T.m_l_low T.F_l_low.kp T.b_l_low leaves_on ?_
      refine ja_cons ?_ ?_
      refine i_bin r_sub ?_ ?_
      refine i_bin r_mul ?_ ?_
      exact i_var 7 (pv 7)
      exact i_var 7 (pv 7)
      exact i_var 4 (pv 4)
      refine ja_cons ?_ ?_
      refine i_bin r_mul ?_ ?_
      exact i_var 8 (pv 8)
      exact i_var 8 (pv 8)
      exact ia_nil
      exact ia_nil
    refine is_cons ?_ ?_
    · refine js_set (i := 3) (hN := ?hN34) (hi := ?hi34) (hx := ?hx34) (ha := ?ha34) (hs := ?hs34) (hf := ?hf34)
      case hN34 => exact sc_law.nd
      case hi34 => exact rfl
      case hx34 => first | exact Or.inl rfl | exact Or.inr rfl
      case hs34 => rfl
      case hf34 => first | exact Or.inl rfl | exact Or.inr rfl | assumption
      refine i_bin (r_addX rfl) ?_ ?_
      exact i_var 3 (pv 3)
      refine i_lst ?_
      refine ja_cons ?_ ?_
      refine j_call (ok_l_low T) (hr.mono (by decide)) rfl T.m_l_low T.F_l_low.kp T.b_l_low leaves_on ?_
      refine ja_cons ?_ ?_
      refine i_bin r_mul ?_ ?_
      refine i_bin r_mul ?_ ?_
      exact i_int
      exact i_var 7 (pv 7)
      exact i_var 7 (pv 7)
      refine ja_cons ?_ ?_
      refine i_bin r_mul ?_ ?_
      exact i_var 8 (pv 8)
      exact i_var 8 (pv 8)
      exact ia_nil
      refine ja_cons ?_ ?_
      refine j_call (ok_l_low T) (hr.mono (by decide)) rfl T.m_l_low T.F_l_low.kp T.b_l_low leaves_on ?_
      refine ja_cons ?_ ?_
      refine i_bin r_mul ?_ ?_
      exact i_var 7 (pv 7)
      exact i_var 7 (pv 7)
      refine ja_cons ?_ ?_
      refine i_bin (r_addX rfl) ?_ ?_
      refine i_bin r_mul ?_ ?_
      exact i_var 8 (pv 8)
      exact i_var 8 (pv 8)
      exact i_var 4 (pv 4)
      exact ia_nil
      exact ia_nil
    refine is_cons ?_ ?_
    · refine js_set (i := 3) (hN := ?hN35) (hi := ?hi35) (hx := ?hx35) (ha := ?ha35) (hs := ?hs35) (hf := ?hf35)
      case hN35 => exact sc_law.nd
      case hi35 => exact rfl
      case hx35 => first | exact Or.inl rfl | exact Or.inr rfl
      case hs35 => rfl
      case hf35 => first | exact Or.inl rfl | exact Or.inr rfl | assumption
      refine i_bin (r_addX rfl) ?_ ?_
      exact i_var 3 (pv 3)
      refine i_lst ?_
      refine ja_cons ?_ ?_
      refine i_tup ?_
      refine ja_cons ?_ ?_
      refine i_bin r_sub ?_ ?_
      exact i_int
      refine i_bin r_mul ?_ ?_
      exact i_var 7 (pv 7)
      exact i_var 7 (pv 7)
      refine ja_cons ?_ ?_
      refine i_bin r_mul ?_ ?_
      exact i_var 8 (pv 8)
      exact i_var 8 (pv 8)
      exact ia_nil
      refine ja_cons ?_ ?_
      refine j_call (ok_l_low T) (hr.mono (by decide)) rfl T.m_l_low T.F_l_low.kp T.b_l_low leaves_on ?_
      refine ja_cons ?_ ?_
      refine j_call (ok_l_pick T) (hr.mono (by decide)) rfl T.m_l_pick T.F_l_pick.kp T.b_l_pick leaves_on ?_
      refine ja_cons ?_ ?_
      exact i_var 2 (pv 2)
      refine ja_cons ?_ ?_
      exact i_int
      exact ia_nil
      refine ja_cons ?_ ?_
      refine i_bin (r_addX rfl) ?_ ?_
      exact i_int
      refine j_call (ok_l_pick T) (hr.mono (by decide)) rfl T.m_l_pick T.F_l_pick.kp T.b_l_pick leaves_on ?_
      refine ja_cons ?_ ?_
      exact i_var 2 (pv 2)
      refine ja_cons ?_ ?_
      exact i_int
      exact ia_nil
      exact ia_nil
      exact ia_nil
    refine is_cons ?_ ?_
    · refine is_if ?_ ?_ ?_
      refine it_not ?_
      refine j_tru rfl ?_
      refine j_bltnS (c_all rfl) rfl T.n_all bb_all ?_
      refine ja_cons ?_ ?_
      refine j_comp (T := (Tgt.name 9)) (own := [("_law_a", 9)]) rfl rfl sc_law.nd ?_ (blkOk_by (own := [("_law_a", 9)]) (N := N_law) (sc := defScope s_law) (by decide +kernel)) rfl (show (9 : Nat) ∈ ([9] : List Nat) from by decide) (fun _ _ _ _ _ => pg_name (i := 9) sc_law.nd rfl (Or.inl rfl)) (fun _ _ _ _ _ => its_nil) (fun _ _ _ _ _ => (j_call (ok_l_right T) (hr.mono (by decide)) rfl T.m_l_right T.F_l_right.kp T.b_l_right pass_E00 (ja_cons (i_var 9 (pv 9)) ia_nil)))
      exact i_var 3 (pv 3)
      exact ia_nil
      refine is_one ?_
      refine is_ret ?_
      exact i_bl
      exact is_nil
    refine is_cons ?_ ?_
    · refine js_set (i := 5) (hN := ?hN36) (hi := ?hi36) (hx := ?hx36) (ha := ?ha36) (hs := ?hs36) (hf := ?hf36)
      case hN36 => exact sc_law.nd
      case hi36 => exact rfl
      case hx36 => first | exact Or.inl rfl | exact Or.inr rfl
      case hs36 => rfl
      case hf36 => first | exact Or.inl rfl | exact Or.inr rfl | assumption
      refine i_lst ?_
      refine ja_cons ?_ ?_
      exact i_non
      refine ja_cons ?_ ?_
      exact i_bl
      refine ja_cons ?_ ?_
      exact i_int
      refine ja_cons ?_ ?_
      exact i_int
      refine ja_cons ?_ ?_
      exact i_str
      refine ja_cons ?_ ?_
      exact i_str
      refine ja_cons ?_ ?_
      refine i_tup ?_
      exact ia_nil
      refine ja_cons ?_ ?_
      refine i_lst ?_
      exact ia_nil
      refine ja_cons ?_ ?_
      exact i_dic0
      refine ja_cons ?_ ?_
      refine i_lst ?_
      refine ja_cons ?_ ?_
      exact i_int
      refine ja_cons ?_ ?_
      exact i_int
      exact ia_nil
      refine ja_cons ?_ ?_
      refine i_tup ?_
      refine ja_cons ?_ ?_
      exact i_int
      exact ia_nil
      refine ja_cons ?_ ?_
      refine i_tup ?_
      refine ja_cons ?_ ?_
      exact i_int
      refine ja_cons ?_ ?_
      exact i_int
      refine ja_cons ?_ ?_
      exact i_int
      exact ia_nil
      refine ja_cons ?_ ?_
      refine i_tup ?_
      refine ja_cons ?_ ?_
      exact i_int
      refine ja_cons ?_ ?_
      exact i_int
      exact ia_nil
      refine ja_cons ?_ ?_
      refine i_tup ?_
      refine ja_cons ?_ ?_
      exact i_int
      refine ja_cons ?_ ?_
      exact i_int
      exact ia_nil
      exact ia_nil
    refine is_cons ?_ ?_
    · refine js_set (i := 5) (hN := ?hN37) (hi := ?hi37) (hx := ?hx37) (ha := ?ha37) (hs := ?hs37) (hf := ?hf37)
      case hN37 => exact sc_law.nd
      case hi37 => exact rfl
      case hx37 => first | exact Or.inl rfl | exact Or.inr rfl
      case hs37 => rfl
      case hf37 => first | exact Or.inl rfl | exact Or.inr rfl | assumption
      refine i_bin (r_addX rfl) ?_ ?_
      exact i_var 5 (pv 5)
      refine i_lst ?_
      refine ja_cons ?_ ?_
      refine i_tup ?_
      refine ja_cons ?_ ?_
      exact i_int
      refine ja_cons ?_ ?_
      refine i_un r_neg ?_
      exact i_int
      exact ia_nil
      refine ja_cons ?_ ?_
      refine i_tup ?_
      refine ja_cons ?_ ?_
      exact i_bl
      refine ja_cons ?_ ?_
      exact i_int
      exact ia_nil
      refine ja_cons ?_ ?_
      refine i_tup ?_
      refine ja_cons ?_ ?_
      exact i_int
      refine ja_cons ?_ ?_
      exact i_bl
      exact ia_nil
      exact ia_nil
    refine is_cons ?_ ?_
    · refine js_set (i := 5) (hN := ?hN38) (hi := ?hi38) (hx := ?hx38) (ha := ?ha38) (hs := ?hs38) (hf := ?hf38)
      case hN38 => exact sc_law.nd
      case hi38 => exact rfl
      case hx38 => first | exact Or.inl rfl | exact Or.inr rfl
      case hs38 => rfl
      case hf38 => first | exact Or.inl rfl | exact Or.inr rfl | assumption
      refine i_bin (r_addX rfl) ?_ ?_
      exact i_var 5 (pv 5)
      refine i_lst ?_
      refine ja_cons ?_ ?_
      refine i_tup ?_
      refine ja_cons ?_ ?_
      refine i_lst ?_
      refine ja_cons ?_ ?_
      exact i_int
      exact ia_nil
      refine ja_cons ?_ ?_
      exact i_int
      exact ia_nil
      refine ja_cons ?_ ?_
      refine i_tup ?_
      refine ja_cons ?_ ?_
      exact i_int
      refine ja_cons ?_ ?_
      refine i_lst ?_
      refine ja_cons ?_ ?_
      exact i_int
      exact ia_nil
      exact ia_nil
      refine ja_cons ?_ ?_
      refine i_tup ?_
      refine ja_cons ?_ ?_
      exact i_str
      refine ja_cons ?_ ?_
      exact i_int
      exact ia_nil
      refine ja_cons ?_ ?_
      refine i_tup ?_
      refine ja_cons ?_ ?_
      exact i_dic0
      refine ja_cons ?_ ?_
      exact i_int
      exact ia_nil
      refine ja_cons ?_ ?_
      refine i_tup ?_
      refine ja_cons ?_ ?_
      refine i_tup ?_
      refine ja_cons ?_ ?_
      exact i_int
      refine ja_cons ?_ ?_
      exact i_int
      exact ia_nil
      exact ia_nil
      refine ja_cons ?_ ?_
      refine i_tup ?_
      refine ja_cons ?_ ?_
      exact i_int
      refine ja_cons ?_ ?_
      exact i_int
      exact ia_nil
      refine ja_cons ?_ ?_
      refine i_tup ?_
      refine ja_cons ?_ ?_
      refine i_un r_neg ?_
      exact i_int
      refine ja_cons ?_ ?_
      refine i_un r_neg ?_
      exact i_int
      exact ia_nil
      refine ja_cons ?_ ?_
      exact i_bl
      exact ia_nil
    refine is_cons ?_ ?_
    · refine js_set (i := 6) (hN := ?hN39) (hi := ?hi39) (hx := ?hx39) (ha := ?ha39) (hs := ?hs39) (hf := ?hf39)
      case hN39 => exact sc_law.nd
      case hi39 => exact rfl
      case hx39 => first | exact Or.inl rfl | exact Or.inr rfl
      case hs39 => rfl
      case hf39 => first | exact Or.inl rfl | exact Or.inr rfl | assumption
      refine j_ix (hK := ?xK36) (ha := ?xa36) (hb := ?xb36) (hs := ?xs36)
      case xK36 => rfl
      case xs36 => rfl
      exact i_var 5 (pv 5)
      refine j_call (ok_l_pick T) (hr.mono (by decide)) rfl T.m_l_pick T.F_l_pick.kp T.b_l_pick leaves_on ?_
      refine ja_cons ?_ ?_
      exact i_var 2 (pv 2)
      refine ja_cons ?_ ?_
      refine j_bltnS (c_len rfl) rfl T.n_len bb_len ?_
      refine ja_cons ?_ ?_
      exact i_var 5 (pv 5)
      exact ia_nil
      exact ia_nil
    refine is_one ?_
    refine is_if ?_ ?_ ?_
    refine PW.pt ?_
    refine it_or ?_ ?_
    refine i_cmpT (r_neX rfl hu) ?_ ?_ (nomark _)
    refine j_call (ok_l_told T) (hr.mono (by decide)) rfl T.m_l_told T.F_l_told.kp T.b_l_told leaves_on ?_
    refine ja_cons ?_ ?_
    exact i_var 6 (pv 6)
    exact ia_nil
    refine i_tup ?_
    refine ja_cons ?_ ?_
    exact i_str
    refine ja_cons ?_ ?_
    exact i_non
    exact ia_nil
    refine it_oneO ?_
    refine i_cmpT (r_neX rfl hu) ?_ ?_ (nomark _)
    refine j_call (ok_l_told T) (hr.mono (by decide)) rfl T.m_l_told T.F_l_told.kp T.b_l_told leaves_on ?_
    refine ja_cons ?_ ?_
    refine i_lst ?_
    refine ja_cons ?_ ?_
    refine i_tup ?_
    refine ja_cons ?_ ?_
    exact i_var 7 (pv 7)
    refine ja_cons ?_ ?_
    exact i_var 8 (pv 8)
    exact ia_nil
    exact ia_nil
    exact ia_nil
    refine i_tup ?_
    refine ja_cons ?_ ?_
    exact i_str
    refine ja_cons ?_ ?_
    exact i_non
    exact ia_nil
    refine is_one ?_
    refine is_ret ?_
    exact i_bl
    exact is_nil
  refine is_one ?_
  refine is_ret ?_
  refine i_and ?_ ?_
  refine j_call (ok_l_right T) (hr.mono (by decide)) rfl T.m_l_right T.F_l_right.kp T.b_l_right leaves_on ?_
  refine ja_cons ?_ ?_
  refine i_tup ?_
  refine ja_cons ?_ ?_
  exact i_int
  refine ja_cons ?_ ?_
  exact i_int
  exact ia_nil
  exact ia_nil
  refine i_and ?_ ?_
  refine j_call (ok_l_right T) (hr.mono (by decide)) rfl T.m_l_right T.F_l_right.kp T.b_l_right leaves_on ?_
  refine ja_cons ?_ ?_
  refine i_tup ?_
  refine ja_cons ?_ ?_
  exact i_int
  refine ja_cons ?_ ?_
  exact i_int
  exact ia_nil
  exact ia_nil
  refine i_and ?_ ?_
  refine j_call (ok_l_right T) (hr.mono (by decide)) rfl T.m_l_right T.F_l_right.kp T.b_l_right leaves_on ?_
  refine ja_cons ?_ ?_
  refine i_tup ?_
  refine ja_cons ?_ ?_
  refine i_un r_neg ?_
  exact i_int
  refine ja_cons ?_ ?_
  exact i_int
  exact ia_nil
  exact ia_nil
  refine i_one ?_
  refine j_call (ok_l_right T) (hr.mono (by decide)) rfl T.m_l_right T.F_l_right.kp T.b_l_right leaves_on ?_
  refine ja_cons ?_ ?_
  refine i_tup ?_
  refine ja_cons ?_ ?_
  refine i_un r_neg ?_
  exact i_int
  refine ja_cons ?_ ?_
  exact i_int
  exact ia_nil
  exact ia_nil
end
theorem under_mk (a : Ad) (h_NoNumber : PySem.W.subIn a.K (.ref a.c_NoNumber) (.ref a.c_EarthError) = some true) : ∀ c C, (gx a).cls c = some C → PySem.W.subIn a.K (.ref C) (.ref a.c_EarthError) = some true := fun c C h => by
  have A : ∀ e ∈ clsT a, PySem.W.subIn a.K (.ref e.2) (.ref a.c_EarthError) = some true := (List.forall_mem_cons.mpr ⟨h_NoNumber, List.forall_mem_nil _⟩)
  exact A (c, C) (PySem.mem_of_lookup h)
theorem all_mk {l : PySem.W.OpenLaw} {w : World} {K : PySem.W.Frag} {h : Heap} {mg : Str → Option Value} {fa : Addr}
    {f_is_whole : Addr} {od_is_whole an_is_whole : Option Addr} {sl_is_whole : Array (Option Value)} {oc_is_whole kV_is_whole dc_is_whole pm_is_whole cd_is_whole ct_is_whole : Value}
    {f_is_tuple_of : Addr} {od_is_tuple_of an_is_tuple_of : Option Addr} {sl_is_tuple_of : Array (Option Value)} {oc_is_tuple_of kV_is_tuple_of dc_is_tuple_of pm_is_tuple_of cd_is_tuple_of ct_is_tuple_of : Value}
    {f_common_divisor : Addr} {od_common_divisor an_common_divisor : Option Addr} {sl_common_divisor : Array (Option Value)} {oc_common_divisor kV_common_divisor dc_common_divisor pm_common_divisor cd_common_divisor ct_common_divisor : Value}
    {f_whole_root : Addr} {od_whole_root an_whole_root : Option Addr} {sl_whole_root : Array (Option Value)} {oc_whole_root kV_whole_root dc_whole_root pm_whole_root cd_whole_root ct_whole_root : Value}
    {f_l_cell : Addr} {od_l_cell an_l_cell : Option Addr} {sl_l_cell : Array (Option Value)} {oc_l_cell kV_l_cell dc_l_cell pm_l_cell cd_l_cell ct_l_cell : Value}
    {f_l_purse : Addr} {od_l_purse an_l_purse : Option Addr} {sl_l_purse : Array (Option Value)} {oc_l_purse kV_l_purse dc_l_purse pm_l_purse cd_l_purse ct_l_purse : Value}
    {f_l_pick : Addr} {od_l_pick an_l_pick : Option Addr} {sl_l_pick : Array (Option Value)} {oc_l_pick kV_l_pick dc_l_pick pm_l_pick cd_l_pick ct_l_pick : Value}
    {f_l_whole : Addr} {od_l_whole an_l_whole : Option Addr} {sl_l_whole : Array (Option Value)} {oc_l_whole kV_l_whole dc_l_whole pm_l_whole cd_l_whole ct_l_whole : Value}
    {f_l_low : Addr} {od_l_low an_l_low : Option Addr} {sl_l_low : Array (Option Value)} {oc_l_low kV_l_low dc_l_low pm_l_low cd_l_low ct_l_low : Value}
    {f_l_sort : Addr} {od_l_sort an_l_sort : Option Addr} {sl_l_sort : Array (Option Value)} {oc_l_sort kV_l_sort dc_l_sort pm_l_sort cd_l_sort ct_l_sort : Value}
    {f_l_square_of : Addr} {od_l_square_of an_l_square_of : Option Addr} {sl_l_square_of : Array (Option Value)} {oc_l_square_of kV_l_square_of dc_l_square_of pm_l_square_of cd_l_square_of ct_l_square_of : Value}
    {f_is_fraction : Addr} {od_is_fraction an_is_fraction : Option Addr} {sl_is_fraction : Array (Option Value)} {oc_is_fraction kV_is_fraction dc_is_fraction pm_is_fraction cd_is_fraction ct_is_fraction : Value}
    {f_l_is_fraction : Addr} {od_l_is_fraction an_l_is_fraction : Option Addr} {sl_l_is_fraction : Array (Option Value)} {oc_l_is_fraction kV_l_is_fraction dc_l_is_fraction pm_l_is_fraction cd_l_is_fraction ct_l_is_fraction : Value}
    {f_l_number : Addr} {od_l_number an_l_number : Option Addr} {sl_l_number : Array (Option Value)} {oc_l_number kV_l_number dc_l_number pm_l_number cd_l_number ct_l_number : Value}
    {f_root : Addr} {od_root an_root : Option Addr} {sl_root : Array (Option Value)} {oc_root kV_root dc_root pm_root cd_root ct_root : Value}
    {f_l_told : Addr} {od_l_told an_l_told : Option Addr} {sl_l_told : Array (Option Value)} {oc_l_told kV_l_told dc_l_told pm_l_told cd_l_told ct_l_told : Value}
    {f_l_right : Addr} {od_l_right an_l_right : Option Addr} {sl_l_right : Array (Option Value)} {oc_l_right kV_l_right dc_l_right pm_l_right cd_l_right ct_l_right : Value}
    {f_law : Addr} {od_law an_law : Option Addr} {sl_law : Array (Option Value)} {oc_law kV_law dc_law pm_law cd_law ct_law : Value}
    {c_EarthError : Addr}
    {c_NoNumber : Addr}
    {c_NoCable : Addr}
    {c_NoDrag : Addr}
    {c_NoText : Addr}
    {c_NoLeaks : Addr}
    {c_NoStretch : Addr}
    {c_NoWord : Addr}
    {c_NoReading : Addr}
    {c_NoPlace : Addr}
    {c_NoDay : Addr}
    {c_NoPair : Addr}
    {c_NoSplice : Addr}
    {c_NoDays : Addr}
    {c_NoPlaces : Addr}
    {c_NoLength : Addr}
    {c_NoDeed : Addr}
    {c_NoBack : Addr}
    {c_NoRow : Addr}
    (X : K.In h) (G : h.Ns mainGlobals mg) (hfa : mg "law" = some (.ref fa))
    (a_is_whole : PySem.W.nsIn K mainGlobals "is_whole" = some (some (.ref f_is_whole)))
    (l_is_whole : K.lookup f_is_whole = some ⟨oc_is_whole, od_is_whole, .func (PySem.W.fnOf "is_whole" "is_whole" (defArgs s_is_whole) (defBody s_is_whole) (defScope s_is_whole) .none kV_is_whole dc_is_whole pm_is_whole an_is_whole cd_is_whole ct_is_whole), sl_is_whole⟩)
    (e_is_whole : PySem.W.codeIn K cd_is_whole "is_whole" = true)
    (k_is_whole : PySem.W.keepIn K (.ref f_is_whole) = true)
    (a_is_tuple_of : PySem.W.nsIn K mainGlobals "is_tuple_of" = some (some (.ref f_is_tuple_of)))
    (l_is_tuple_of : K.lookup f_is_tuple_of = some ⟨oc_is_tuple_of, od_is_tuple_of, .func (PySem.W.fnOf "is_tuple_of" "is_tuple_of" (defArgs s_is_tuple_of) (defBody s_is_tuple_of) (defScope s_is_tuple_of) .none kV_is_tuple_of dc_is_tuple_of pm_is_tuple_of an_is_tuple_of cd_is_tuple_of ct_is_tuple_of), sl_is_tuple_of⟩)
    (e_is_tuple_of : PySem.W.codeIn K cd_is_tuple_of "is_tuple_of" = true)
    (k_is_tuple_of : PySem.W.keepIn K (.ref f_is_tuple_of) = true)
    (a_common_divisor : PySem.W.nsIn K mainGlobals "common_divisor" = some (some (.ref f_common_divisor)))
    (l_common_divisor : K.lookup f_common_divisor = some ⟨oc_common_divisor, od_common_divisor, .func (PySem.W.fnOf "common_divisor" "common_divisor" (defArgs s_common_divisor) (defBody s_common_divisor) (defScope s_common_divisor) .none kV_common_divisor dc_common_divisor pm_common_divisor an_common_divisor cd_common_divisor ct_common_divisor), sl_common_divisor⟩)
    (e_common_divisor : PySem.W.codeIn K cd_common_divisor "common_divisor" = true)
    (k_common_divisor : PySem.W.keepIn K (.ref f_common_divisor) = true)
    (a_whole_root : PySem.W.nsIn K mainGlobals "whole_root" = some (some (.ref f_whole_root)))
    (l_whole_root : K.lookup f_whole_root = some ⟨oc_whole_root, od_whole_root, .func (PySem.W.fnOf "whole_root" "whole_root" (defArgs s_whole_root) (defBody s_whole_root) (defScope s_whole_root) .none kV_whole_root dc_whole_root pm_whole_root an_whole_root cd_whole_root ct_whole_root), sl_whole_root⟩)
    (e_whole_root : PySem.W.codeIn K cd_whole_root "whole_root" = true)
    (k_whole_root : PySem.W.keepIn K (.ref f_whole_root) = true)
    (a_l_cell : PySem.W.nsIn K mainGlobals "_law_cell" = some (some (.ref f_l_cell)))
    (l_l_cell : K.lookup f_l_cell = some ⟨oc_l_cell, od_l_cell, .func (PySem.W.fnOf "_law_cell" "_law_cell" (defArgs s_l_cell) (defBody s_l_cell) (defScope s_l_cell) .none kV_l_cell dc_l_cell pm_l_cell an_l_cell cd_l_cell ct_l_cell), sl_l_cell⟩)
    (e_l_cell : PySem.W.codeIn K cd_l_cell "_law_cell" = true)
    (k_l_cell : PySem.W.keepIn K (.ref f_l_cell) = true)
    (a_l_purse : PySem.W.nsIn K mainGlobals "_law_purse" = some (some (.ref f_l_purse)))
    (l_l_purse : K.lookup f_l_purse = some ⟨oc_l_purse, od_l_purse, .func (PySem.W.fnOf "_law_purse" "_law_purse" (defArgs s_l_purse) (defBody s_l_purse) (defScope s_l_purse) .none kV_l_purse dc_l_purse pm_l_purse an_l_purse cd_l_purse ct_l_purse), sl_l_purse⟩)
    (e_l_purse : PySem.W.codeIn K cd_l_purse "_law_purse" = true)
    (k_l_purse : PySem.W.keepIn K (.ref f_l_purse) = true)
    (a_l_pick : PySem.W.nsIn K mainGlobals "_law_pick" = some (some (.ref f_l_pick)))
    (l_l_pick : K.lookup f_l_pick = some ⟨oc_l_pick, od_l_pick, .func (PySem.W.fnOf "_law_pick" "_law_pick" (defArgs s_l_pick) (defBody s_l_pick) (defScope s_l_pick) .none kV_l_pick dc_l_pick pm_l_pick an_l_pick cd_l_pick ct_l_pick), sl_l_pick⟩)
    (e_l_pick : PySem.W.codeIn K cd_l_pick "_law_pick" = true)
    (k_l_pick : PySem.W.keepIn K (.ref f_l_pick) = true)
    (a_l_whole : PySem.W.nsIn K mainGlobals "_law_whole" = some (some (.ref f_l_whole)))
    (l_l_whole : K.lookup f_l_whole = some ⟨oc_l_whole, od_l_whole, .func (PySem.W.fnOf "_law_whole" "_law_whole" (defArgs s_l_whole) (defBody s_l_whole) (defScope s_l_whole) .none kV_l_whole dc_l_whole pm_l_whole an_l_whole cd_l_whole ct_l_whole), sl_l_whole⟩)
    (e_l_whole : PySem.W.codeIn K cd_l_whole "_law_whole" = true)
    (k_l_whole : PySem.W.keepIn K (.ref f_l_whole) = true)
    (a_l_low : PySem.W.nsIn K mainGlobals "_law_low" = some (some (.ref f_l_low)))
    (l_l_low : K.lookup f_l_low = some ⟨oc_l_low, od_l_low, .func (PySem.W.fnOf "_law_low" "_law_low" (defArgs s_l_low) (defBody s_l_low) (defScope s_l_low) .none kV_l_low dc_l_low pm_l_low an_l_low cd_l_low ct_l_low), sl_l_low⟩)
    (e_l_low : PySem.W.codeIn K cd_l_low "_law_low" = true)
    (k_l_low : PySem.W.keepIn K (.ref f_l_low) = true)
    (a_l_sort : PySem.W.nsIn K mainGlobals "_law_sort" = some (some (.ref f_l_sort)))
    (l_l_sort : K.lookup f_l_sort = some ⟨oc_l_sort, od_l_sort, .func (PySem.W.fnOf "_law_sort" "_law_sort" (defArgs s_l_sort) (defBody s_l_sort) (defScope s_l_sort) .none kV_l_sort dc_l_sort pm_l_sort an_l_sort cd_l_sort ct_l_sort), sl_l_sort⟩)
    (e_l_sort : PySem.W.codeIn K cd_l_sort "_law_sort" = true)
    (k_l_sort : PySem.W.keepIn K (.ref f_l_sort) = true)
    (a_l_square_of : PySem.W.nsIn K mainGlobals "_law_square_of" = some (some (.ref f_l_square_of)))
    (l_l_square_of : K.lookup f_l_square_of = some ⟨oc_l_square_of, od_l_square_of, .func (PySem.W.fnOf "_law_square_of" "_law_square_of" (defArgs s_l_square_of) (defBody s_l_square_of) (defScope s_l_square_of) .none kV_l_square_of dc_l_square_of pm_l_square_of an_l_square_of cd_l_square_of ct_l_square_of), sl_l_square_of⟩)
    (e_l_square_of : PySem.W.codeIn K cd_l_square_of "_law_square_of" = true)
    (k_l_square_of : PySem.W.keepIn K (.ref f_l_square_of) = true)
    (a_is_fraction : PySem.W.nsIn K mainGlobals "is_fraction" = some (some (.ref f_is_fraction)))
    (l_is_fraction : K.lookup f_is_fraction = some ⟨oc_is_fraction, od_is_fraction, .func (PySem.W.fnOf "is_fraction" "is_fraction" (defArgs s_is_fraction) (defBody s_is_fraction) (defScope s_is_fraction) .none kV_is_fraction dc_is_fraction pm_is_fraction an_is_fraction cd_is_fraction ct_is_fraction), sl_is_fraction⟩)
    (e_is_fraction : PySem.W.codeIn K cd_is_fraction "is_fraction" = true)
    (k_is_fraction : PySem.W.keepIn K (.ref f_is_fraction) = true)
    (a_l_is_fraction : PySem.W.nsIn K mainGlobals "_law_is_fraction" = some (some (.ref f_l_is_fraction)))
    (l_l_is_fraction : K.lookup f_l_is_fraction = some ⟨oc_l_is_fraction, od_l_is_fraction, .func (PySem.W.fnOf "_law_is_fraction" "_law_is_fraction" (defArgs s_l_is_fraction) (defBody s_l_is_fraction) (defScope s_l_is_fraction) .none kV_l_is_fraction dc_l_is_fraction pm_l_is_fraction an_l_is_fraction cd_l_is_fraction ct_l_is_fraction), sl_l_is_fraction⟩)
    (e_l_is_fraction : PySem.W.codeIn K cd_l_is_fraction "_law_is_fraction" = true)
    (k_l_is_fraction : PySem.W.keepIn K (.ref f_l_is_fraction) = true)
    (a_l_number : PySem.W.nsIn K mainGlobals "_law_number" = some (some (.ref f_l_number)))
    (l_l_number : K.lookup f_l_number = some ⟨oc_l_number, od_l_number, .func (PySem.W.fnOf "_law_number" "_law_number" (defArgs s_l_number) (defBody s_l_number) (defScope s_l_number) .none kV_l_number dc_l_number pm_l_number an_l_number cd_l_number ct_l_number), sl_l_number⟩)
    (e_l_number : PySem.W.codeIn K cd_l_number "_law_number" = true)
    (k_l_number : PySem.W.keepIn K (.ref f_l_number) = true)
    (a_root : PySem.W.nsIn K mainGlobals "root" = some (some (.ref f_root)))
    (l_root : K.lookup f_root = some ⟨oc_root, od_root, .func (PySem.W.fnOf "root" "root" (defArgs s_root) (defBody s_root) (defScope s_root) .none kV_root dc_root pm_root an_root cd_root ct_root), sl_root⟩)
    (e_root : PySem.W.codeIn K cd_root "root" = true)
    (k_root : PySem.W.keepIn K (.ref f_root) = true)
    (a_l_told : PySem.W.nsIn K mainGlobals "_law_told" = some (some (.ref f_l_told)))
    (l_l_told : K.lookup f_l_told = some ⟨oc_l_told, od_l_told, .func (PySem.W.fnOf "_law_told" "_law_told" (defArgs s_l_told) (defBody s_l_told) (defScope s_l_told) .none kV_l_told dc_l_told pm_l_told an_l_told cd_l_told ct_l_told), sl_l_told⟩)
    (e_l_told : PySem.W.codeIn K cd_l_told "_law_told" = true)
    (k_l_told : PySem.W.keepIn K (.ref f_l_told) = true)
    (a_l_right : PySem.W.nsIn K mainGlobals "_law_right" = some (some (.ref f_l_right)))
    (l_l_right : K.lookup f_l_right = some ⟨oc_l_right, od_l_right, .func (PySem.W.fnOf "_law_right" "_law_right" (defArgs s_l_right) (defBody s_l_right) (defScope s_l_right) .none kV_l_right dc_l_right pm_l_right an_l_right cd_l_right ct_l_right), sl_l_right⟩)
    (e_l_right : PySem.W.codeIn K cd_l_right "_law_right" = true)
    (k_l_right : PySem.W.keepIn K (.ref f_l_right) = true)
    (a_law : PySem.W.nsIn K mainGlobals "law" = some (some (.ref f_law)))
    (l_law : K.lookup f_law = some ⟨oc_law, od_law, .func (PySem.W.fnOf "law" "law" (defArgs s_law) (defBody s_law) (defScope s_law) .none kV_law dc_law pm_law an_law cd_law ct_law), sl_law⟩)
    (e_law : PySem.W.codeIn K cd_law "law" = true)
    (k_law : PySem.W.keepIn K (.ref f_law) = true)
    (cc_EarthError : PySem.W.nsIn K mainGlobals "EarthError" = some (some (.ref c_EarthError)))
    (cc_NoNumber : PySem.W.nsIn K mainGlobals "NoNumber" = some (some (.ref c_NoNumber)))
    (cc_NoCable : PySem.W.nsIn K mainGlobals "NoCable" = some (some (.ref c_NoCable)))
    (cc_NoDrag : PySem.W.nsIn K mainGlobals "NoDrag" = some (some (.ref c_NoDrag)))
    (cc_NoText : PySem.W.nsIn K mainGlobals "NoText" = some (some (.ref c_NoText)))
    (cc_NoLeaks : PySem.W.nsIn K mainGlobals "NoLeaks" = some (some (.ref c_NoLeaks)))
    (cc_NoStretch : PySem.W.nsIn K mainGlobals "NoStretch" = some (some (.ref c_NoStretch)))
    (cc_NoWord : PySem.W.nsIn K mainGlobals "NoWord" = some (some (.ref c_NoWord)))
    (cc_NoReading : PySem.W.nsIn K mainGlobals "NoReading" = some (some (.ref c_NoReading)))
    (cc_NoPlace : PySem.W.nsIn K mainGlobals "NoPlace" = some (some (.ref c_NoPlace)))
    (cc_NoDay : PySem.W.nsIn K mainGlobals "NoDay" = some (some (.ref c_NoDay)))
    (cc_NoPair : PySem.W.nsIn K mainGlobals "NoPair" = some (some (.ref c_NoPair)))
    (cc_NoSplice : PySem.W.nsIn K mainGlobals "NoSplice" = some (some (.ref c_NoSplice)))
    (cc_NoDays : PySem.W.nsIn K mainGlobals "NoDays" = some (some (.ref c_NoDays)))
    (cc_NoPlaces : PySem.W.nsIn K mainGlobals "NoPlaces" = some (some (.ref c_NoPlaces)))
    (cc_NoLength : PySem.W.nsIn K mainGlobals "NoLength" = some (some (.ref c_NoLength)))
    (cc_NoDeed : PySem.W.nsIn K mainGlobals "NoDeed" = some (some (.ref c_NoDeed)))
    (cc_NoBack : PySem.W.nsIn K mainGlobals "NoBack" = some (some (.ref c_NoBack)))
    (cc_NoRow : PySem.W.nsIn K mainGlobals "NoRow" = some (some (.ref c_NoRow)))
    (x1_EarthError : PySem.W.excIn K c_EarthError bmV "ValueError.__new__" = true)
    (x2_EarthError : PySem.W.findIn K (.ref c_EarthError) "__getattribute__" = some (some (.builtin "BaseException.__getattribute__")))
    (x3_EarthError : PySem.W.findIn K (.ref c_EarthError) "__getattr__" = some none)
    (x4_EarthError : PySem.W.findIn K (.ref c_EarthError) "__class__" = some (some (.builtin "object.__class__")))
    (x1_NoNumber : PySem.W.excIn K c_NoNumber bmV "ValueError.__new__" = true)
    (x2_NoNumber : PySem.W.findIn K (.ref c_NoNumber) "__getattribute__" = some (some (.builtin "BaseException.__getattribute__")))
    (x3_NoNumber : PySem.W.findIn K (.ref c_NoNumber) "__getattr__" = some none)
    (x4_NoNumber : PySem.W.findIn K (.ref c_NoNumber) "__class__" = some (some (.builtin "object.__class__")))
    (kk_NoNumber_EarthError : PySem.W.kitOne K (.ref c_NoNumber) (.ref c_EarthError) = some true)
    (kk_NoNumber_NoNumber : PySem.W.kitOne K (.ref c_NoNumber) (.ref c_NoNumber) = some true)
    (kk_NoNumber_NoCable : PySem.W.kitOne K (.ref c_NoNumber) (.ref c_NoCable) = some false)
    (kk_NoNumber_NoDrag : PySem.W.kitOne K (.ref c_NoNumber) (.ref c_NoDrag) = some false)
    (kk_NoNumber_NoText : PySem.W.kitOne K (.ref c_NoNumber) (.ref c_NoText) = some false)
    (kk_NoNumber_NoLeaks : PySem.W.kitOne K (.ref c_NoNumber) (.ref c_NoLeaks) = some false)
    (kk_NoNumber_NoStretch : PySem.W.kitOne K (.ref c_NoNumber) (.ref c_NoStretch) = some false)
    (kk_NoNumber_NoWord : PySem.W.kitOne K (.ref c_NoNumber) (.ref c_NoWord) = some false)
    (kk_NoNumber_NoReading : PySem.W.kitOne K (.ref c_NoNumber) (.ref c_NoReading) = some false)
    (kk_NoNumber_NoPlace : PySem.W.kitOne K (.ref c_NoNumber) (.ref c_NoPlace) = some false)
    (kk_NoNumber_NoDay : PySem.W.kitOne K (.ref c_NoNumber) (.ref c_NoDay) = some false)
    (kk_NoNumber_NoPair : PySem.W.kitOne K (.ref c_NoNumber) (.ref c_NoPair) = some false)
    (kk_NoNumber_NoSplice : PySem.W.kitOne K (.ref c_NoNumber) (.ref c_NoSplice) = some false)
    (kk_NoNumber_NoDays : PySem.W.kitOne K (.ref c_NoNumber) (.ref c_NoDays) = some false)
    (kk_NoNumber_NoPlaces : PySem.W.kitOne K (.ref c_NoNumber) (.ref c_NoPlaces) = some false)
    (kk_NoNumber_NoLength : PySem.W.kitOne K (.ref c_NoNumber) (.ref c_NoLength) = some false)
    (kk_NoNumber_NoDeed : PySem.W.kitOne K (.ref c_NoNumber) (.ref c_NoDeed) = some false)
    (kk_NoNumber_NoBack : PySem.W.kitOne K (.ref c_NoNumber) (.ref c_NoBack) = some false)
    (kk_NoNumber_NoRow : PySem.W.kitOne K (.ref c_NoNumber) (.ref c_NoRow) = some false)
    (kk_NoNumber_ValueError : PySem.W.kitOne K (.ref c_NoNumber) (.type "ValueError") = some true)
    (su_NoNumber_EarthError : PySem.W.subIn K (.ref c_NoNumber) (.ref c_EarthError) = some true)
    (z_ValueError : PySem.W.nsIn K mainGlobals "ValueError" = some none)
    (z_abs : PySem.W.nsIn K mainGlobals "abs" = some none)
    (z_all : PySem.W.nsIn K mainGlobals "all" = some none)
    (z_bool : PySem.W.nsIn K mainGlobals "bool" = some none)
    (z_int : PySem.W.nsIn K mainGlobals "int" = some none)
    (z_isinstance : PySem.W.nsIn K mainGlobals "isinstance" = some none)
    (z_len : PySem.W.nsIn K mainGlobals "len" = some none)
    (z_max : PySem.W.nsIn K mainGlobals "max" = some none)
    (z_min : PySem.W.nsIn K mainGlobals "min" = some none)
    (z_range : PySem.W.nsIn K mainGlobals "range" = some none)
    (z_str : PySem.W.nsIn K mainGlobals "str" = some none)
    (z_tuple : PySem.W.nsIn K mainGlobals "tuple" = some none)
    : ∃ (a : Ad) (fd : FuncData), a.K = K ∧ Tx mg a ∧ (∀ (s : Shared) (v : Value), BindsTo s fd ⟨[v], []⟩ [("_law_script", v)]) ∧ ∀ base : Heap, FnOk l.prog w K mg base (CXe l.prog w) 6 fa fd ["_law_script"] (spF (gx a) 1 (F_law (gx a))) := by
  have e : fa = f_law := by have e := hfa.symm.trans (PySem.W.mg_of X G a_law); simpa using e
  subst e
  let a : Ad := { K := K, f_is_whole := f_is_whole, fd_is_whole := PySem.W.fnOf "is_whole" "is_whole" (defArgs s_is_whole) (defBody s_is_whole) (defScope s_is_whole) .none kV_is_whole dc_is_whole pm_is_whole an_is_whole cd_is_whole ct_is_whole, f_is_tuple_of := f_is_tuple_of, fd_is_tuple_of := PySem.W.fnOf "is_tuple_of" "is_tuple_of" (defArgs s_is_tuple_of) (defBody s_is_tuple_of) (defScope s_is_tuple_of) .none kV_is_tuple_of dc_is_tuple_of pm_is_tuple_of an_is_tuple_of cd_is_tuple_of ct_is_tuple_of, f_common_divisor := f_common_divisor, fd_common_divisor := PySem.W.fnOf "common_divisor" "common_divisor" (defArgs s_common_divisor) (defBody s_common_divisor) (defScope s_common_divisor) .none kV_common_divisor dc_common_divisor pm_common_divisor an_common_divisor cd_common_divisor ct_common_divisor, f_whole_root := f_whole_root, fd_whole_root := PySem.W.fnOf "whole_root" "whole_root" (defArgs s_whole_root) (defBody s_whole_root) (defScope s_whole_root) .none kV_whole_root dc_whole_root pm_whole_root an_whole_root cd_whole_root ct_whole_root, f_l_cell := f_l_cell, fd_l_cell := PySem.W.fnOf "_law_cell" "_law_cell" (defArgs s_l_cell) (defBody s_l_cell) (defScope s_l_cell) .none kV_l_cell dc_l_cell pm_l_cell an_l_cell cd_l_cell ct_l_cell, f_l_purse := f_l_purse, fd_l_purse := PySem.W.fnOf "_law_purse" "_law_purse" (defArgs s_l_purse) (defBody s_l_purse) (defScope s_l_purse) .none kV_l_purse dc_l_purse pm_l_purse an_l_purse cd_l_purse ct_l_purse, f_l_pick := f_l_pick, fd_l_pick := PySem.W.fnOf "_law_pick" "_law_pick" (defArgs s_l_pick) (defBody s_l_pick) (defScope s_l_pick) .none kV_l_pick dc_l_pick pm_l_pick an_l_pick cd_l_pick ct_l_pick, f_l_whole := f_l_whole, fd_l_whole := PySem.W.fnOf "_law_whole" "_law_whole" (defArgs s_l_whole) (defBody s_l_whole) (defScope s_l_whole) .none kV_l_whole dc_l_whole pm_l_whole an_l_whole cd_l_whole ct_l_whole, f_l_low := f_l_low, fd_l_low := PySem.W.fnOf "_law_low" "_law_low" (defArgs s_l_low) (defBody s_l_low) (defScope s_l_low) .none kV_l_low dc_l_low pm_l_low an_l_low cd_l_low ct_l_low, f_l_sort := f_l_sort, fd_l_sort := PySem.W.fnOf "_law_sort" "_law_sort" (defArgs s_l_sort) (defBody s_l_sort) (defScope s_l_sort) .none kV_l_sort dc_l_sort pm_l_sort an_l_sort cd_l_sort ct_l_sort, f_l_square_of := f_l_square_of, fd_l_square_of := PySem.W.fnOf "_law_square_of" "_law_square_of" (defArgs s_l_square_of) (defBody s_l_square_of) (defScope s_l_square_of) .none kV_l_square_of dc_l_square_of pm_l_square_of an_l_square_of cd_l_square_of ct_l_square_of, f_is_fraction := f_is_fraction, fd_is_fraction := PySem.W.fnOf "is_fraction" "is_fraction" (defArgs s_is_fraction) (defBody s_is_fraction) (defScope s_is_fraction) .none kV_is_fraction dc_is_fraction pm_is_fraction an_is_fraction cd_is_fraction ct_is_fraction, f_l_is_fraction := f_l_is_fraction, fd_l_is_fraction := PySem.W.fnOf "_law_is_fraction" "_law_is_fraction" (defArgs s_l_is_fraction) (defBody s_l_is_fraction) (defScope s_l_is_fraction) .none kV_l_is_fraction dc_l_is_fraction pm_l_is_fraction an_l_is_fraction cd_l_is_fraction ct_l_is_fraction, f_l_number := f_l_number, fd_l_number := PySem.W.fnOf "_law_number" "_law_number" (defArgs s_l_number) (defBody s_l_number) (defScope s_l_number) .none kV_l_number dc_l_number pm_l_number an_l_number cd_l_number ct_l_number, f_root := f_root, fd_root := PySem.W.fnOf "root" "root" (defArgs s_root) (defBody s_root) (defScope s_root) .none kV_root dc_root pm_root an_root cd_root ct_root, f_l_told := f_l_told, fd_l_told := PySem.W.fnOf "_law_told" "_law_told" (defArgs s_l_told) (defBody s_l_told) (defScope s_l_told) .none kV_l_told dc_l_told pm_l_told an_l_told cd_l_told ct_l_told, f_l_right := f_l_right, fd_l_right := PySem.W.fnOf "_law_right" "_law_right" (defArgs s_l_right) (defBody s_l_right) (defScope s_l_right) .none kV_l_right dc_l_right pm_l_right an_l_right cd_l_right ct_l_right, f_law := fa, fd_law := PySem.W.fnOf "law" "law" (defArgs s_law) (defBody s_law) (defScope s_law) .none kV_law dc_law pm_law an_law cd_law ct_law, c_EarthError := c_EarthError, c_NoNumber := c_NoNumber, c_NoCable := c_NoCable, c_NoDrag := c_NoDrag, c_NoText := c_NoText, c_NoLeaks := c_NoLeaks, c_NoStretch := c_NoStretch, c_NoWord := c_NoWord, c_NoReading := c_NoReading, c_NoPlace := c_NoPlace, c_NoDay := c_NoDay, c_NoPair := c_NoPair, c_NoSplice := c_NoSplice, c_NoDays := c_NoDays, c_NoPlaces := c_NoPlaces, c_NoLength := c_NoLength, c_NoDeed := c_NoDeed, c_NoBack := c_NoBack, c_NoRow := c_NoRow }
  have F_is_whole : Fun a.K "is_whole" "is_whole" s_is_whole a.f_is_whole a.fd_is_whole := fun_mk (st := s_is_whole) l_is_whole e_is_whole k_is_whole
  have F_is_tuple_of : Fun a.K "is_tuple_of" "is_tuple_of" s_is_tuple_of a.f_is_tuple_of a.fd_is_tuple_of := fun_mk (st := s_is_tuple_of) l_is_tuple_of e_is_tuple_of k_is_tuple_of
  have F_common_divisor : Fun a.K "common_divisor" "common_divisor" s_common_divisor a.f_common_divisor a.fd_common_divisor := fun_mk (st := s_common_divisor) l_common_divisor e_common_divisor k_common_divisor
  have F_whole_root : Fun a.K "whole_root" "whole_root" s_whole_root a.f_whole_root a.fd_whole_root := fun_mk (st := s_whole_root) l_whole_root e_whole_root k_whole_root
  have F_l_cell : Fun a.K "_law_cell" "_law_cell" s_l_cell a.f_l_cell a.fd_l_cell := fun_mk (st := s_l_cell) l_l_cell e_l_cell k_l_cell
  have F_l_purse : Fun a.K "_law_purse" "_law_purse" s_l_purse a.f_l_purse a.fd_l_purse := fun_mk (st := s_l_purse) l_l_purse e_l_purse k_l_purse
  have F_l_pick : Fun a.K "_law_pick" "_law_pick" s_l_pick a.f_l_pick a.fd_l_pick := fun_mk (st := s_l_pick) l_l_pick e_l_pick k_l_pick
  have F_l_whole : Fun a.K "_law_whole" "_law_whole" s_l_whole a.f_l_whole a.fd_l_whole := fun_mk (st := s_l_whole) l_l_whole e_l_whole k_l_whole
  have F_l_low : Fun a.K "_law_low" "_law_low" s_l_low a.f_l_low a.fd_l_low := fun_mk (st := s_l_low) l_l_low e_l_low k_l_low
  have F_l_sort : Fun a.K "_law_sort" "_law_sort" s_l_sort a.f_l_sort a.fd_l_sort := fun_mk (st := s_l_sort) l_l_sort e_l_sort k_l_sort
  have F_l_square_of : Fun a.K "_law_square_of" "_law_square_of" s_l_square_of a.f_l_square_of a.fd_l_square_of := fun_mk (st := s_l_square_of) l_l_square_of e_l_square_of k_l_square_of
  have F_is_fraction : Fun a.K "is_fraction" "is_fraction" s_is_fraction a.f_is_fraction a.fd_is_fraction := fun_mk (st := s_is_fraction) l_is_fraction e_is_fraction k_is_fraction
  have F_l_is_fraction : Fun a.K "_law_is_fraction" "_law_is_fraction" s_l_is_fraction a.f_l_is_fraction a.fd_l_is_fraction := fun_mk (st := s_l_is_fraction) l_l_is_fraction e_l_is_fraction k_l_is_fraction
  have F_l_number : Fun a.K "_law_number" "_law_number" s_l_number a.f_l_number a.fd_l_number := fun_mk (st := s_l_number) l_l_number e_l_number k_l_number
  have F_root : Fun a.K "root" "root" s_root a.f_root a.fd_root := fun_mk (st := s_root) l_root e_root k_root
  have F_l_told : Fun a.K "_law_told" "_law_told" s_l_told a.f_l_told a.fd_l_told := fun_mk (st := s_l_told) l_l_told e_l_told k_l_told
  have F_l_right : Fun a.K "_law_right" "_law_right" s_l_right a.f_l_right a.fd_l_right := fun_mk (st := s_l_right) l_l_right e_l_right k_l_right
  have F_law : Fun a.K "law" "law" s_law a.f_law a.fd_law := fun_mk (st := s_law) l_law e_law k_law
  have T : Tx mg a := {
    F_is_whole := F_is_whole
    m_is_whole := PySem.W.mg_of X G a_is_whole
    b_is_whole := F_is_whole.binds (ps := ["x"]) (fun _ _ _ _ _ _ us hl => (match us, hl with | [_], _ => rfl))
    F_is_tuple_of := F_is_tuple_of
    m_is_tuple_of := PySem.W.mg_of X G a_is_tuple_of
    b_is_tuple_of := F_is_tuple_of.binds (ps := ["x", "many"]) (fun _ _ _ _ _ _ us hl => (match us, hl with | [_, _], _ => rfl))
    F_common_divisor := F_common_divisor
    m_common_divisor := PySem.W.mg_of X G a_common_divisor
    b_common_divisor := F_common_divisor.binds (ps := ["one", "other"]) (fun _ _ _ _ _ _ us hl => (match us, hl with | [_, _], _ => rfl))
    F_whole_root := F_whole_root
    m_whole_root := PySem.W.mg_of X G a_whole_root
    b_whole_root := F_whole_root.binds (ps := ["number"]) (fun _ _ _ _ _ _ us hl => (match us, hl with | [_], _ => rfl))
    F_l_cell := F_l_cell
    m_l_cell := PySem.W.mg_of X G a_l_cell
    b_l_cell := F_l_cell.binds (ps := ["_law_script", "_law_k"]) (fun _ _ _ _ _ _ us hl => (match us, hl with | [_, _], _ => rfl))
    F_l_purse := F_l_purse
    m_l_purse := PySem.W.mg_of X G a_l_purse
    b_l_purse := F_l_purse.binds (ps := ["_law_cell_here"]) (fun _ _ _ _ _ _ us hl => (match us, hl with | [_], _ => rfl))
    F_l_pick := F_l_pick
    m_l_pick := PySem.W.mg_of X G a_l_pick
    b_l_pick := F_l_pick.binds (ps := ["_law_purse_here", "_law_many"]) (fun _ _ _ _ _ _ us hl => (match us, hl with | [_, _], _ => rfl))
    F_l_whole := F_l_whole
    m_l_whole := PySem.W.mg_of X G a_l_whole
    b_l_whole := F_l_whole.binds (ps := ["_law_thing"]) (fun _ _ _ _ _ _ us hl => (match us, hl with | [_], _ => rfl))
    F_l_low := F_l_low
    m_l_low := PySem.W.mg_of X G a_l_low
    b_l_low := F_l_low.binds (ps := ["_law_top", "_law_bottom"]) (fun _ _ _ _ _ _ us hl => (match us, hl with | [_, _], _ => rfl))
    F_l_sort := F_l_sort
    m_l_sort := PySem.W.mg_of X G a_l_sort
    b_l_sort := F_l_sort.binds (ps := ["_law_e"]) (fun _ _ _ _ _ _ us hl => (match us, hl with | [_], _ => rfl))
    F_l_square_of := F_l_square_of
    m_l_square_of := PySem.W.mg_of X G a_l_square_of
    b_l_square_of := F_l_square_of.binds (ps := ["_law_number_here"]) (fun _ _ _ _ _ _ us hl => (match us, hl with | [_], _ => rfl))
    F_is_fraction := F_is_fraction
    m_is_fraction := PySem.W.mg_of X G a_is_fraction
    b_is_fraction := F_is_fraction.binds (ps := ["x"]) (fun _ _ _ _ _ _ us hl => (match us, hl with | [_], _ => rfl))
    F_l_is_fraction := F_l_is_fraction
    m_l_is_fraction := PySem.W.mg_of X G a_l_is_fraction
    b_l_is_fraction := F_l_is_fraction.binds (ps := ["_law_thing"]) (fun _ _ _ _ _ _ us hl => (match us, hl with | [_], _ => rfl))
    F_l_number := F_l_number
    m_l_number := PySem.W.mg_of X G a_l_number
    b_l_number := F_l_number.binds (ps := ["_law_purse_here"]) (fun _ _ _ _ _ _ us hl => (match us, hl with | [_], _ => rfl))
    F_root := F_root
    m_root := PySem.W.mg_of X G a_root
    b_root := F_root.binds (ps := ["a"]) (fun _ _ _ _ _ _ us hl => (match us, hl with | [_], _ => rfl))
    F_l_told := F_l_told
    m_l_told := PySem.W.mg_of X G a_l_told
    b_l_told := F_l_told.binds (ps := ["_law_thing"]) (fun _ _ _ _ _ _ us hl => (match us, hl with | [_], _ => rfl))
    F_l_right := F_l_right
    m_l_right := PySem.W.mg_of X G a_l_right
    b_l_right := F_l_right.binds (ps := ["_law_a"]) (fun _ _ _ _ _ _ us hl => (match us, hl with | [_], _ => rfl))
    F_law := F_law
    m_law := PySem.W.mg_of X G a_law
    b_law := F_law.binds (ps := ["_law_script"]) (fun _ _ _ _ _ _ us hl => (match us, hl with | [_], _ => rfl))
    n_ValueError := PySem.W.mg_none_of X G z_ValueError
    n_abs := PySem.W.mg_none_of X G z_abs
    n_all := PySem.W.mg_none_of X G z_all
    n_bool := PySem.W.mg_none_of X G z_bool
    n_int := PySem.W.mg_none_of X G z_int
    n_isinstance := PySem.W.mg_none_of X G z_isinstance
    n_len := PySem.W.mg_none_of X G z_len
    n_max := PySem.W.mg_none_of X G z_max
    n_min := PySem.W.mg_none_of X G z_min
    n_range := PySem.W.mg_none_of X G z_range
    n_str := PySem.W.mg_none_of X G z_str
    n_tuple := PySem.W.mg_none_of X G z_tuple
    c_EarthError := PySem.W.mg_of X G cc_EarthError
    tv_EarthError := rfl
    c_NoNumber := PySem.W.mg_of X G cc_NoNumber
    tv_NoNumber := rfl
    c_NoCable := PySem.W.mg_of X G cc_NoCable
    tv_NoCable := rfl
    c_NoDrag := PySem.W.mg_of X G cc_NoDrag
    tv_NoDrag := rfl
    c_NoText := PySem.W.mg_of X G cc_NoText
    tv_NoText := rfl
    c_NoLeaks := PySem.W.mg_of X G cc_NoLeaks
    tv_NoLeaks := rfl
    c_NoStretch := PySem.W.mg_of X G cc_NoStretch
    tv_NoStretch := rfl
    c_NoWord := PySem.W.mg_of X G cc_NoWord
    tv_NoWord := rfl
    c_NoReading := PySem.W.mg_of X G cc_NoReading
    tv_NoReading := rfl
    c_NoPlace := PySem.W.mg_of X G cc_NoPlace
    tv_NoPlace := rfl
    c_NoDay := PySem.W.mg_of X G cc_NoDay
    tv_NoDay := rfl
    c_NoPair := PySem.W.mg_of X G cc_NoPair
    tv_NoPair := rfl
    c_NoSplice := PySem.W.mg_of X G cc_NoSplice
    tv_NoSplice := rfl
    c_NoDays := PySem.W.mg_of X G cc_NoDays
    tv_NoDays := rfl
    c_NoPlaces := PySem.W.mg_of X G cc_NoPlaces
    tv_NoPlaces := rfl
    c_NoLength := PySem.W.mg_of X G cc_NoLength
    tv_NoLength := rfl
    c_NoDeed := PySem.W.mg_of X G cc_NoDeed
    tv_NoDeed := rfl
    c_NoBack := PySem.W.mg_of X G cc_NoBack
    tv_NoBack := rfl
    c_NoRow := PySem.W.mg_of X G cc_NoRow
    tv_NoRow := rfl
    tv_ValueError := rfl
    x_EarthError := ⟨x1_EarthError, x2_EarthError, x3_EarthError, x4_EarthError⟩
    x_NoNumber := ⟨x1_NoNumber, x2_NoNumber, x3_NoNumber, x4_NoNumber⟩
    cl_NoNumber := rfl
    under := under_mk a su_NoNumber_EarthError
    gok := gok_of (List.forall_mem_cons.mpr ⟨⟨x1_NoNumber, x2_NoNumber, x3_NoNumber, x4_NoNumber⟩, List.forall_mem_nil _⟩) (List.forall_mem_cons.mpr ⟨fun l h => (Option.some.inj (show some [(("EarthError" : Str), true), (("NoNumber" : Str), true), (("NoCable" : Str), false), (("NoDrag" : Str), false), (("NoText" : Str), false), (("NoLeaks" : Str), false), (("NoStretch" : Str), false), (("NoWord" : Str), false), (("NoReading" : Str), false), (("NoPlace" : Str), false), (("NoDay" : Str), false), (("NoPair" : Str), false), (("NoSplice" : Str), false), (("NoDays" : Str), false), (("NoPlaces" : Str), false), (("NoLength" : Str), false), (("NoDeed" : Str), false), (("NoBack" : Str), false), (("NoRow" : Str), false), (("ValueError" : Str), true)] = some l from h)) ▸ (List.forall_mem_cons.mpr ⟨fun tv h => (Option.some.inj (show some (Value.ref c_EarthError) = some tv from h)) ▸ kk_NoNumber_EarthError, (List.forall_mem_cons.mpr ⟨fun tv h => (Option.some.inj (show some (Value.ref c_NoNumber) = some tv from h)) ▸ kk_NoNumber_NoNumber, (List.forall_mem_cons.mpr ⟨fun tv h => (Option.some.inj (show some (Value.ref c_NoCable) = some tv from h)) ▸ kk_NoNumber_NoCable, (List.forall_mem_cons.mpr ⟨fun tv h => (Option.some.inj (show some (Value.ref c_NoDrag) = some tv from h)) ▸ kk_NoNumber_NoDrag, (List.forall_mem_cons.mpr ⟨fun tv h => (Option.some.inj (show some (Value.ref c_NoText) = some tv from h)) ▸ kk_NoNumber_NoText, (List.forall_mem_cons.mpr ⟨fun tv h => (Option.some.inj (show some (Value.ref c_NoLeaks) = some tv from h)) ▸ kk_NoNumber_NoLeaks, (List.forall_mem_cons.mpr ⟨fun tv h => (Option.some.inj (show some (Value.ref c_NoStretch) = some tv from h)) ▸ kk_NoNumber_NoStretch, (List.forall_mem_cons.mpr ⟨fun tv h => (Option.some.inj (show some (Value.ref c_NoWord) = some tv from h)) ▸ kk_NoNumber_NoWord, (List.forall_mem_cons.mpr ⟨fun tv h => (Option.some.inj (show some (Value.ref c_NoReading) = some tv from h)) ▸ kk_NoNumber_NoReading, (List.forall_mem_cons.mpr ⟨fun tv h => (Option.some.inj (show some (Value.ref c_NoPlace) = some tv from h)) ▸ kk_NoNumber_NoPlace, (List.forall_mem_cons.mpr ⟨fun tv h => (Option.some.inj (show some (Value.ref c_NoDay) = some tv from h)) ▸ kk_NoNumber_NoDay, (List.forall_mem_cons.mpr ⟨fun tv h => (Option.some.inj (show some (Value.ref c_NoPair) = some tv from h)) ▸ kk_NoNumber_NoPair, (List.forall_mem_cons.mpr ⟨fun tv h => (Option.some.inj (show some (Value.ref c_NoSplice) = some tv from h)) ▸ kk_NoNumber_NoSplice, (List.forall_mem_cons.mpr ⟨fun tv h => (Option.some.inj (show some (Value.ref c_NoDays) = some tv from h)) ▸ kk_NoNumber_NoDays, (List.forall_mem_cons.mpr ⟨fun tv h => (Option.some.inj (show some (Value.ref c_NoPlaces) = some tv from h)) ▸ kk_NoNumber_NoPlaces, (List.forall_mem_cons.mpr ⟨fun tv h => (Option.some.inj (show some (Value.ref c_NoLength) = some tv from h)) ▸ kk_NoNumber_NoLength, (List.forall_mem_cons.mpr ⟨fun tv h => (Option.some.inj (show some (Value.ref c_NoDeed) = some tv from h)) ▸ kk_NoNumber_NoDeed, (List.forall_mem_cons.mpr ⟨fun tv h => (Option.some.inj (show some (Value.ref c_NoBack) = some tv from h)) ▸ kk_NoNumber_NoBack, (List.forall_mem_cons.mpr ⟨fun tv h => (Option.some.inj (show some (Value.ref c_NoRow) = some tv from h)) ▸ kk_NoNumber_NoRow, (List.forall_mem_cons.mpr ⟨fun tv h => (Option.some.inj (show some (Value.type "ValueError") = some tv from h)) ▸ kk_NoNumber_ValueError, List.forall_mem_nil _⟩)⟩)⟩)⟩)⟩)⟩)⟩)⟩)⟩)⟩)⟩)⟩)⟩)⟩)⟩)⟩)⟩)⟩)⟩)⟩), List.forall_mem_nil _⟩) }
  exact ⟨a, _, rfl, T, fun s v => .of_eq rfl, fun base => ok_law T⟩
end Law
set_option Elab.async false
set_option linter.all false
set_option maxRecDepth 100000
set_option maxHeartbeats 4000000
set_option exponentiation.threshold 100000
namespace Law
open PySem PySem.Spec PyProof.Rows L2 I2
theorem trimS_len {k : Nat} {d : D} {s : Sto} (h : s.length ≤ k) : trimS k d s = s := by
  unfold trimS; rw [List.take_of_length_le h]; split <;> rfl
theorem trimS_self {d : D} {s : Sto} : trimS s.length d s = s := trimS_len (Nat.le_refl _)
theorem small_lt {α : Type} {ds : List α} (h : ds.length < 64) : small ds = true := by
  unfold small; exact decide_eq_true (by have : 64 ≤ sizeLine := by decide
                                         omega)
section
variable {α β : Type} {env : DEnv} {st : Sto} {f h : Sm} {fs : Sma} {t t2 : Smt} {u w : Sms}
theorem bnd_ap {f : DEnv → Sto → Res α} {k : α → DEnv → Sto → Res β} : bnd f k env st = (match f env st with
  | none => none
  | some (.ok d, st') => k d env st'
  | some (.ex c, st') => some (.ex c, st')) := rfl
theorem bndS_ap {f : DEnv → Sto → Res α} {k : α → Sms} : bndS f k env st = (match f env st with
  | none => none
  | some (.ok d, st') => k d env st'
  | some (.ex c, st') => some (.ex c, env, st')) := rfl
theorem ret_ap {d : α} : I2.ret d env st = some (.ok d, st) := rfl
theorem lift_ap {o : Option α} : I2.lift o env st = o.map fun d => (.ok d, st) := rfl
theorem liftS_ap {o : Sto → Option α} : liftS o env st = (o st).map fun d => (.ok d, st) := rfl
theorem sVar_ap {i : Nat} : sVar i env st = (match env[i]? with
  | some (some d) => some (.ok d, st)
  | _ => none) := rfl
theorem sC_ap {d : D} : sC d env st = some (.ok d, st) := rfl
theorem s1_ap {op : D → Option D} : s1 op f env st = bnd f (fun x => I2.lift (op x)) env st := rfl
theorem s2_ap {op : D → D → Option D} : s2 op f h env st = bnd f (fun x => bnd h fun y => I2.lift (op x y)) env st := rfl
theorem sTest_ap : sTest f env st = bnd f (fun d => I2.lift (isB d)) env st := rfl
theorem sTru_ap : sTru f env st = bnd f (fun d => I2.lift (truth d)) env st := rfl
theorem tNotI_ap : tNotI t env st = bnd t (fun b => I2.ret (!b)) env st := rfl
theorem tOrI_ap : tOrI t t2 env st = bnd t (fun b => if b = true then I2.ret true else t2) env st := rfl
theorem tAndI_ap : tAndI t t2 env st = bnd t (fun b => if b = true then t2 else I2.ret false) env st := rfl
theorem sNotV_ap : sNotV f env st = bnd f (fun d => bnd (I2.lift (isB d)) fun b => I2.ret (.bl (!b))) env st := rfl
theorem sAndV_ap : sAndV f h env st = bnd f (fun d => bnd (I2.lift (isB d)) fun b => if b = true then h else I2.ret (.bl false)) env st := rfl
theorem sOrV_ap : sOrV f h env st = bnd f (fun d => bnd (I2.lift (isB d)) fun b => if b = true then I2.ret (.bl true) else h) env st := rfl
theorem sNil_ap : sNil env st = some (.ok [], st) := rfl
theorem sCons_ap : sCons f fs env st = bnd f (fun d => bnd fs fun ds => I2.ret (d :: ds)) env st := rfl
theorem sTup_ap : sTup fs env st = bnd fs (fun ds => I2.lift (if small ds then some (.tup ds) else none)) env st := rfl
theorem sLst_ap : sLst fs env st = bnd fs (fun ds => I2.lift (if small ds then some (.lst ds) else none)) env st := rfl
theorem sLstM_ap : sLstM fs env st = bnd fs (fun ds => fun _ st => if small ds then some (.ok (.ref st.length), st ++ [.lst ds]) else none) env st := rfl
theorem sCall_ap {n : Nat} {F : List D → Sto → Res D} : sCall n F fs env st = bnd fs (fun ds => fun _ st => if ds.length = n then F ds st else none) env st := rfl
theorem sIx_ap : I2.sIx f h env st = bnd f (fun x => bnd h fun y => liftS fun st => oIx st x y) env st := rfl
theorem sBs_ap {op : Sto → List D → Option D} : sBs op fs env st = bnd fs (fun ds => liftS fun st => op st ds) env st := rfl
theorem go_ap {fl : Fl} : go fl env st = some (fl, env, st) := rfl
theorem sNop_ap : sNop env st = some (.nx, env, st) := rfl
theorem sSeq_ap : sSeq u w env st = (match u env st with
  | some (.nx, env', st') => w env' st'
  | o => o) := rfl
theorem sRet_ap : sRet f env st = bndS f (fun d => go (.rt d)) env st := rfl
theorem sExp_ap : sExp f env st = bndS f (fun _ => go .nx) env st := rfl
theorem sIf_ap : sIf t u w env st = bndS t (fun b => if b = true then u else w) env st := rfl
theorem sSet_ap {i : Nat} : sSet i f env st = bndS f (fun d => fun env st => some (.nx, env.set i (some d), st)) env st := rfl
theorem sPar_ap {i j : Nat} : sPar i j fs env st = bndS fs (fun ds => fun env st => match ds with
  | [x, y] => some (.nx, (env.set i (some x)).set j (some y), st)
  | _ => none) env st := rfl
theorem sRaise_ap {c : Str} : sRaise c fs env st = bndS fs (fun ds => if small ds then go (.ex c) else fun _ _ => none) env st := rfl
theorem fnOf_ap {n nl : Nat} {ds : List D} : fnOf n nl u ds st = if ds.length = n then fnRes st.length (u (env0 n nl ds) st) else none := rfl
theorem isB_bl {b : Bool} : isB (.bl b) = some b := rfl
theorem truth_bl {b : Bool} : truth (.bl b) = some b := rfl
theorem ite_ap {c : Prop} [Decidable c] {f h : DEnv → Sto → α} : (if c then f else h) env st = if c then f env st else h env st := by split <;> rfl
end
def isInt : D → Bool
  | .int _ => true
  | _ => false
theorem whole_eq {x : D} {st : Sto} (h : (tyName x).isSome) : F_is_whole [x] st = some (.ok (.bl (isInt x)), st) := by
  unfold F_is_whole b_is_whole
  cases x <;> first | (simp [tyName] at h; done) | (simp [fnOf_ap, env0, fnRes, sSeq_ap, sIf_ap, sRet_ap, sSet_ap, sExp_ap, sPar_ap, sRaise_ap, bndS_ap, bnd_ap, ret_ap, lift_ap, liftS_ap, s1_ap, s2_ap, sVar_ap, sC_ap, sCons_ap, sNil_ap, sTup_ap, sLst_ap, sLstM_ap, sCall_ap, sIx_ap, sBs_ap, sTest_ap, sTru_ap, tNotI_ap, tOrI_ap, tAndI_ap, sNotV_ap, sAndV_ap, sOrV_ap, go_ap, sNop_ap, ite_ap, isB_bl, truth_bl, trimS_self, small_lt, oIsiB, tyName, tyOk, isiT, isInt])
theorem lwhole_eq {x : D} {st : Sto} (h : (tyName x).isSome) : F_l_whole [x] st = some (.ok (.bl (isInt x)), st) := whole_eq h
theorem toPy_str (i : Str) : toPy (.str i) = some (.str i) := rfl
theorem oEq_int (i j : Int) : oEq (.int i) (.int j) = some (.bl (decide (i = j))) := rfl
theorem oNe_int (i j : Int) : oNe (.int i) (.int j) = some (.bl (!decide (i = j))) := rfl
theorem oEq_pair (a b c d : Int) : oEq (.tup [.int a, .int b]) (.tup [.int c, .int d]) = some (.bl (decide (a = c ∧ b = d))) := by
  have e : oEq (.tup [.int a, .int b]) (.tup [.int c, .int d]) = some (.bl ((a == c) && ((b == d) && true))) := rfl
  rw [e]; simp only [Bool.and_true]; by_cases h1 : a = c <;> by_cases h2 : b = d <;> simp [h1, h2]
theorem tuple_eq {x : D} {st : Sto} (h : (tyName x).isSome) : F_is_tuple_of [x, .int 2] st = some (.ok (.bl (match x with | .tup ds => decide (ds.length = 2) | _ => false)), st) := by
  unfold F_is_tuple_of b_is_tuple_of
  cases x <;> first | (simp [tyName] at h; done) | (simp [fnOf_ap, env0, fnRes, sSeq_ap, sIf_ap, sRet_ap, sSet_ap, sExp_ap, sPar_ap, sRaise_ap, bndS_ap, bnd_ap, ret_ap, lift_ap, liftS_ap, s1_ap, s2_ap, sVar_ap, sC_ap, sCons_ap, sNil_ap, sTup_ap, sLst_ap, sLstM_ap, sCall_ap, sIx_ap, sBs_ap, sTest_ap, sTru_ap, tNotI_ap, tOrI_ap, tAndI_ap, sNotV_ap, sAndV_ap, sOrV_ap, go_ap, sNop_ap, ite_ap, isB_bl, truth_bl, trimS_self, small_lt, oLen, oIsiB, tyName, tyOk, isiT, oEq_int]; try omega)
theorem cd_iter : ∀ (n : Nat) (a b : Int) (st : Sto), b.natAbs < n → ∃ c : Int, c.natAbs = Int.gcd a b ∧
    iterW (sTest (s2 oNe (sVar 1) (sC (.int 0)))) (sPar 0 1 (sCons (sVar 1) (sCons (s2 oMod (sVar 0) (sVar 1)) sNil))) (n + 1) [some (.int a), some (.int b)] st = some (.nx, [some (.int c), some (.int 0)], st)
  | 0, _, _, _, h => by omega
  | n + 1, a, b, st, h => by
    by_cases hb : b = 0
    · subst hb
      refine ⟨a, by simp, ?_⟩
      unfold iterW
      simp [fnOf_ap, env0, fnRes, sSeq_ap, sIf_ap, sRet_ap, sSet_ap, sExp_ap, sPar_ap, sRaise_ap, bndS_ap, bnd_ap, ret_ap, lift_ap, liftS_ap, s1_ap, s2_ap, sVar_ap, sC_ap, sCons_ap, sNil_ap, sTup_ap, sLst_ap, sLstM_ap, sCall_ap, sIx_ap, sBs_ap, sTest_ap, sTru_ap, tNotI_ap, tOrI_ap, tAndI_ap, sNotV_ap, sAndV_ap, sOrV_ap, go_ap, sNop_ap, ite_ap, isB_bl, truth_bl, trimS_self, small_lt, oNe_int]
    · have hlt : (a.fmod b).natAbs < b.natAbs := by
        rcases Int.lt_or_gt_of_ne hb with h0 | h0
        · have h1 : a.fmod b = -((-a).fmod (-b)) := by rw [Int.neg_fmod_neg]; omega
          have h2 := Int.fmod_nonneg_of_pos (-a) (show 0 < -b by omega)
          have h3 := Int.fmod_lt_of_pos (-a) (show 0 < -b by omega)
          omega
        · have h2 := Int.fmod_nonneg_of_pos a h0
          have h3 := Int.fmod_lt_of_pos a h0
          omega
      obtain ⟨c, hc, ih⟩ := cd_iter n b (a.fmod b) st (by omega)
      refine ⟨c, ?_, ?_⟩
      · rw [hc]
        rw [Int.fmod_def, Int.gcd_comm a b]
        exact Int.gcd_sub_mul_left_right ..
      · unfold iterW
        simp [fnOf_ap, env0, fnRes, sSeq_ap, sIf_ap, sRet_ap, sSet_ap, sExp_ap, sPar_ap, sRaise_ap, bndS_ap, bnd_ap, ret_ap, lift_ap, liftS_ap, s1_ap, s2_ap, sVar_ap, sC_ap, sCons_ap, sNil_ap, sTup_ap, sLst_ap, sLstM_ap, sCall_ap, sIx_ap, sBs_ap, sTest_ap, sTru_ap, tNotI_ap, tOrI_ap, tAndI_ap, sNotV_ap, sAndV_ap, sOrV_ap, go_ap, sNop_ap, ite_ap, isB_bl, truth_bl, trimS_self, small_lt, oNe_int, hb, oMod]
        exact ih
theorem cd_eq (a b : Int) (st : Sto) : F_common_divisor [.int a, .int b] st = some (.ok (.int (Int.gcd a b)), st) := by
  obtain ⟨c, hc, e⟩ := cd_iter (b.natAbs + 1) a b st (by omega)
  unfold F_common_divisor b_common_divisor
  simp [fnOf_ap, env0, fnRes, sSeq_ap, sIf_ap, sRet_ap, sSet_ap, sExp_ap, sPar_ap, sRaise_ap, bndS_ap, bnd_ap, ret_ap, lift_ap, liftS_ap, s1_ap, s2_ap, sVar_ap, sC_ap, sCons_ap, sNil_ap, sTup_ap, sLst_ap, sLstM_ap, sCall_ap, sIx_ap, sBs_ap, sTest_ap, sTru_ap, tNotI_ap, tOrI_ap, tAndI_ap, sNotV_ap, sAndV_ap, sOrV_ap, go_ap, sNop_ap, ite_ap, isB_bl, truth_bl, trimS_self, small_lt, sWhile_of e, oAbs]
  rw [← hc]; omega
end Law
set_option Elab.async false
set_option linter.all false
set_option maxRecDepth 100000
set_option maxHeartbeats 4000000
set_option exponentiation.threshold 100000
namespace Law
open PySem PySem.Spec PyProof.Rows L2 I2
theorem at0 {x y : D} : L2.atI [x, y] 0 = some x := rfl
theorem at1 {x y : D} : L2.atI [x, y] 1 = some y := rfl
abbrev B9 (i : Int) : Prop := i.natAbs < 2 ^ 9000
theorem oDiv_int {i j : Int} (h : j ≠ 0) (hj : B9 j) : oDiv (.int i) (.int j) = some (.int (i.fdiv j)) := by
  show (if j = 0 then none else if decide (j.natAbs < 2 ^ 9000) then some (D.int (i.fdiv j)) else none) = _
  rw [if_neg h, if_pos (decide_eq_true hj)]
def sg (t b : Int) : Int := if b < 0 then -(Int.gcd t b : Int) else Int.gcd t b
def lowD (t b : Int) : D := .tup [.int (t.fdiv (sg t b)), .int (b.fdiv (sg t b))]
theorem sg_ne {t b : Int} (hb : b ≠ 0) : sg t b ≠ 0 := by
  have h := Int.gcd_pos_of_ne_zero_right t hb
  unfold sg; split <;> omega
theorem sg_b {t b : Int} (hb : b ≠ 0) (hB : B9 b) : B9 (sg t b) := by
  have h := Int.gcd_le_natAbs_right t hb
  have e : (sg t b).natAbs = Int.gcd t b := by unfold sg; split <;> omega
  show (sg t b).natAbs < _
  rw [e]; exact Nat.lt_of_le_of_lt h hB
theorem low_iter {x y : Option D} : ∀ (n : Nat) (a b : Int) (st : Sto), 0 ≤ a → 0 ≤ b → b.natAbs < n →
    iterW (sTest (s2 oGt (sVar 3) (sC (.int 0)))) (sPar 2 3 (sCons (sVar 3) (sCons (s2 oMod (sVar 2) (sVar 3)) sNil))) (n + 1) [x, y, some (.int a), some (.int b)] st = some (.nx, [x, y, some (.int (Int.gcd a b)), some (.int 0)], st)
  | 0, _, _, _, _, _, h => by omega
  | n + 1, a, b, st, ha, hb0, h => by
    by_cases hb : b = 0
    · subst hb
      unfold iterW
      simp [fnOf_ap, env0, fnRes, sSeq_ap, sIf_ap, sRet_ap, sSet_ap, sExp_ap, sPar_ap, sRaise_ap, bndS_ap, bnd_ap, ret_ap, lift_ap, liftS_ap, s1_ap, s2_ap, sVar_ap, sC_ap, sCons_ap, sNil_ap, sTup_ap, sLst_ap, sLstM_ap, sCall_ap, sIx_ap, sBs_ap, sTest_ap, sTru_ap, tNotI_ap, tOrI_ap, tAndI_ap, sNotV_ap, sAndV_ap, sOrV_ap, go_ap, sNop_ap, ite_ap, isB_bl, truth_bl, trimS_self, small_lt, oGt]
      omega
    · have h0 : 0 < b := by omega
      have h2 := Int.fmod_nonneg_of_pos a h0
      have h3 := Int.fmod_lt_of_pos a h0
      have ih := low_iter (x := x) (y := y) n b (a.fmod b) st hb0 h2 (by omega)
      have e : Int.gcd b (a.fmod b) = Int.gcd a b := by
        rw [Int.fmod_def, Int.gcd_comm a b]
        exact Int.gcd_sub_mul_left_right ..
      rw [e] at ih
      unfold iterW
      simp [fnOf_ap, env0, fnRes, sSeq_ap, sIf_ap, sRet_ap, sSet_ap, sExp_ap, sPar_ap, sRaise_ap, bndS_ap, bnd_ap, ret_ap, lift_ap, liftS_ap, s1_ap, s2_ap, sVar_ap, sC_ap, sCons_ap, sNil_ap, sTup_ap, sLst_ap, sLstM_ap, sCall_ap, sIx_ap, sBs_ap, sTest_ap, sTru_ap, tNotI_ap, tOrI_ap, tAndI_ap, sNotV_ap, sAndV_ap, sOrV_ap, go_ap, sNop_ap, ite_ap, isB_bl, truth_bl, trimS_self, small_lt, oGt, hb, h0, oMod]
      exact ih
theorem low_eq {t b : Int} {st : Sto} (hb : b ≠ 0) (hB : B9 b) : F_l_low [.int t, .int b] st = some (.ok (lowD t b), st) := by
  unfold F_l_low b_l_low lowD
  have h1 := sg_ne (t := t) hb
  have h2 := sg_b (t := t) hb hB
  by_cases hn : b < 0
  · have L := low_iter (x := some (.int (-t))) (y := some (.int (-b))) ((-b).natAbs + 1) (if 0 < t then t else -t) (-b) st (by split <;> omega) (by omega) (by omega)
    have eg : Int.gcd (if 0 < t then t else -t) (-b) = Int.gcd t b := by rw [Int.gcd_neg]; split <;> simp
    rw [eg] at L
    have es : sg t b = -(Int.gcd t b : Int) := by unfold sg; rw [if_pos hn]
    have d1 := oDiv_int (i := -t) (j := (Int.gcd t b : Int)) (by omega) (by rw [es] at h2; show _ < _; have : (-(Int.gcd t b : Int)).natAbs < 2 ^ 9000 := h2; rw [Int.natAbs_neg] at this; exact this)
    have d2 := oDiv_int (i := -b) (j := (Int.gcd t b : Int)) (by omega) (by rw [es] at h2; show _ < _; have : (-(Int.gcd t b : Int)).natAbs < 2 ^ 9000 := h2; rw [Int.natAbs_neg] at this; exact this)
    have e1 : t.fdiv (sg t b) = (-t).fdiv (Int.gcd t b : Int) := by rw [es, ← Int.neg_fdiv_neg, Int.neg_neg]
    have e2 : b.fdiv (sg t b) = (-b).fdiv (Int.gcd t b : Int) := by rw [es, ← Int.neg_fdiv_neg, Int.neg_neg]
    rw [e1, e2]
    simp [fnOf_ap, env0, fnRes, sSeq_ap, sIf_ap, sRet_ap, sSet_ap, sExp_ap, sPar_ap, sRaise_ap, bndS_ap, bnd_ap, ret_ap, lift_ap, liftS_ap, s1_ap, s2_ap, sVar_ap, sC_ap, sCons_ap, sNil_ap, sTup_ap, sLst_ap, sLstM_ap, sCall_ap, sIx_ap, sBs_ap, sTest_ap, sTru_ap, tNotI_ap, tOrI_ap, tAndI_ap, sNotV_ap, sAndV_ap, sOrV_ap, go_ap, sNop_ap, ite_ap, isB_bl, truth_bl, trimS_self, small_lt, oLt, hn, oSub, oAbs, sWhile_of L, d1, d2]
  · have ea : (if t < 0 then -t else t) = (t.natAbs : Int) := by split <;> omega
    have L := low_iter (x := some (.int t)) (y := some (.int b)) (b.natAbs + 1) (t.natAbs : Int) b st (by omega) (by omega) (by omega)
    have eg : Int.gcd (t.natAbs : Int) b = Int.gcd t b := by simp [Int.gcd]
    rw [eg] at L
    have es : sg t b = (Int.gcd t b : Int) := by unfold sg; rw [if_neg hn]
    rw [es] at h1 h2 ⊢
    have d1 := oDiv_int (i := t) h1 h2
    have d2 := oDiv_int (i := b) h1 h2
    simp [fnOf_ap, env0, fnRes, sSeq_ap, sIf_ap, sRet_ap, sSet_ap, sExp_ap, sPar_ap, sRaise_ap, bndS_ap, bnd_ap, ret_ap, lift_ap, liftS_ap, s1_ap, s2_ap, sVar_ap, sC_ap, sCons_ap, sNil_ap, sTup_ap, sLst_ap, sLstM_ap, sCall_ap, sIx_ap, sBs_ap, sTest_ap, sTru_ap, tNotI_ap, tOrI_ap, tAndI_ap, sNotV_ap, sAndV_ap, sOrV_ap, go_ap, sNop_ap, ite_ap, isB_bl, truth_bl, trimS_self, small_lt, oLt, hn, oSub, oAbs, ea, sWhile_of L, d1, d2]
def isFr : D → Bool
  | .tup [.int t, .int b] => decide (0 < b) && decide (Int.gcd t b = 1)
  | _ => false
structure Pl (d : D) : Prop where
  ty : (tyName d).isSome
  of : ∀ x y, d = .tup [x, y] → (tyName x).isSome ∧ (tyName y).isSome ∧ ∀ b, y = .int b → B9 b
theorem isfr_pair {t b : Int} {st : Sto} : F_is_fraction [.tup [.int t, .int b]] st = some (.ok (.bl (isFr (.tup [.int t, .int b]))), st) := by
  unfold F_is_fraction b_is_fraction isFr
  have T := tuple_eq (x := .tup [.int t, .int b]) (st := st) rfl
  have W1 := whole_eq (x := .int t) (st := st) rfl
  have W2 := whole_eq (x := .int b) (st := st) rfl
  by_cases hb : 0 < b
  · simp [fnOf_ap, env0, fnRes, sSeq_ap, sIf_ap, sRet_ap, sSet_ap, sExp_ap, sPar_ap, sRaise_ap, bndS_ap, bnd_ap, ret_ap, lift_ap, liftS_ap, s1_ap, s2_ap, sVar_ap, sC_ap, sCons_ap, sNil_ap, sTup_ap, sLst_ap, sLstM_ap, sCall_ap, sIx_ap, sBs_ap, sTest_ap, sTru_ap, tNotI_ap, tOrI_ap, tAndI_ap, sNotV_ap, sAndV_ap, sOrV_ap, go_ap, sNop_ap, ite_ap, isB_bl, truth_bl, trimS_self, small_lt, T, W1, W2, isInt, oIx, at0, at1, oGt, hb, cd_eq, oEq_int]
    try omega
  · simp [fnOf_ap, env0, fnRes, sSeq_ap, sIf_ap, sRet_ap, sSet_ap, sExp_ap, sPar_ap, sRaise_ap, bndS_ap, bnd_ap, ret_ap, lift_ap, liftS_ap, s1_ap, s2_ap, sVar_ap, sC_ap, sCons_ap, sNil_ap, sTup_ap, sLst_ap, sLstM_ap, sCall_ap, sIx_ap, sBs_ap, sTest_ap, sTru_ap, tNotI_ap, tOrI_ap, tAndI_ap, sNotV_ap, sAndV_ap, sOrV_ap, go_ap, sNop_ap, ite_ap, isB_bl, truth_bl, trimS_self, small_lt, T, W1, W2, isInt, oIx, at0, at1, oGt, hb, cd_eq, oEq_int]
theorem isfr_eq {d : D} {st : Sto} (h : Pl d) : F_is_fraction [d] st = some (.ok (.bl (isFr d)), st) := by
  have ht := h.ty
  cases d with
  | tup ds =>
    rcases ds with _ | ⟨x, _ | ⟨y, _ | ⟨z, r⟩⟩⟩
    · unfold F_is_fraction b_is_fraction isFr; simp [fnOf_ap, env0, fnRes, sSeq_ap, sIf_ap, sRet_ap, sSet_ap, sExp_ap, sPar_ap, sRaise_ap, bndS_ap, bnd_ap, ret_ap, lift_ap, liftS_ap, s1_ap, s2_ap, sVar_ap, sC_ap, sCons_ap, sNil_ap, sTup_ap, sLst_ap, sLstM_ap, sCall_ap, sIx_ap, sBs_ap, sTest_ap, sTru_ap, tNotI_ap, tOrI_ap, tAndI_ap, sNotV_ap, sAndV_ap, sOrV_ap, go_ap, sNop_ap, ite_ap, isB_bl, truth_bl, trimS_self, small_lt, tuple_eq ht]
    · unfold F_is_fraction b_is_fraction isFr; simp [fnOf_ap, env0, fnRes, sSeq_ap, sIf_ap, sRet_ap, sSet_ap, sExp_ap, sPar_ap, sRaise_ap, bndS_ap, bnd_ap, ret_ap, lift_ap, liftS_ap, s1_ap, s2_ap, sVar_ap, sC_ap, sCons_ap, sNil_ap, sTup_ap, sLst_ap, sLstM_ap, sCall_ap, sIx_ap, sBs_ap, sTest_ap, sTru_ap, tNotI_ap, tOrI_ap, tAndI_ap, sNotV_ap, sAndV_ap, sOrV_ap, go_ap, sNop_ap, ite_ap, isB_bl, truth_bl, trimS_self, small_lt, tuple_eq ht]
    · obtain ⟨hx, hy, _⟩ := h.of x y rfl
      by_cases h1 : isInt x = true
      · by_cases h2 : isInt y = true
        · cases x <;> simp [isInt] at h1
          cases y <;> simp [isInt] at h2
          exact isfr_pair
        · have e : isFr (.tup [x, y]) = false := by cases x <;> cases y <;> simp [isFr, isInt] at h2 ⊢
          rw [e]
          unfold F_is_fraction b_is_fraction; simp [fnOf_ap, env0, fnRes, sSeq_ap, sIf_ap, sRet_ap, sSet_ap, sExp_ap, sPar_ap, sRaise_ap, bndS_ap, bnd_ap, ret_ap, lift_ap, liftS_ap, s1_ap, s2_ap, sVar_ap, sC_ap, sCons_ap, sNil_ap, sTup_ap, sLst_ap, sLstM_ap, sCall_ap, sIx_ap, sBs_ap, sTest_ap, sTru_ap, tNotI_ap, tOrI_ap, tAndI_ap, sNotV_ap, sAndV_ap, sOrV_ap, go_ap, sNop_ap, ite_ap, isB_bl, truth_bl, trimS_self, small_lt, tuple_eq ht, whole_eq hx, whole_eq hy, oIx, at0, at1, h1, h2]
      · have e : isFr (.tup [x, y]) = false := by cases x <;> simp [isFr, isInt] at h1 ⊢
        rw [e]
        unfold F_is_fraction b_is_fraction; simp [fnOf_ap, env0, fnRes, sSeq_ap, sIf_ap, sRet_ap, sSet_ap, sExp_ap, sPar_ap, sRaise_ap, bndS_ap, bnd_ap, ret_ap, lift_ap, liftS_ap, s1_ap, s2_ap, sVar_ap, sC_ap, sCons_ap, sNil_ap, sTup_ap, sLst_ap, sLstM_ap, sCall_ap, sIx_ap, sBs_ap, sTest_ap, sTru_ap, tNotI_ap, tOrI_ap, tAndI_ap, sNotV_ap, sAndV_ap, sOrV_ap, go_ap, sNop_ap, ite_ap, isB_bl, truth_bl, trimS_self, small_lt, tuple_eq ht, whole_eq hx, whole_eq hy, oIx, at0, at1, h1]
    · unfold F_is_fraction b_is_fraction isFr; simp [fnOf_ap, env0, fnRes, sSeq_ap, sIf_ap, sRet_ap, sSet_ap, sExp_ap, sPar_ap, sRaise_ap, bndS_ap, bnd_ap, ret_ap, lift_ap, liftS_ap, s1_ap, s2_ap, sVar_ap, sC_ap, sCons_ap, sNil_ap, sTup_ap, sLst_ap, sLstM_ap, sCall_ap, sIx_ap, sBs_ap, sTest_ap, sTru_ap, tNotI_ap, tOrI_ap, tAndI_ap, sNotV_ap, sAndV_ap, sOrV_ap, go_ap, sNop_ap, ite_ap, isB_bl, truth_bl, trimS_self, small_lt, tuple_eq ht]
  | _ => first | (simp [tyName] at ht; done) | (unfold F_is_fraction b_is_fraction isFr; simp [fnOf_ap, env0, fnRes, sSeq_ap, sIf_ap, sRet_ap, sSet_ap, sExp_ap, sPar_ap, sRaise_ap, bndS_ap, bnd_ap, ret_ap, lift_ap, liftS_ap, s1_ap, s2_ap, sVar_ap, sC_ap, sCons_ap, sNil_ap, sTup_ap, sLst_ap, sLstM_ap, sCall_ap, sIx_ap, sBs_ap, sTest_ap, sTru_ap, tNotI_ap, tOrI_ap, tAndI_ap, sNotV_ap, sAndV_ap, sOrV_ap, go_ap, sNop_ap, ite_ap, isB_bl, truth_bl, trimS_self, small_lt, tuple_eq ht])
theorem lowD_one {t b : Int} (hb : 0 < b) : oEq (lowD t b) (.tup [.int t, .int b]) = some (.bl (decide (Int.gcd t b = 1))) := by
  unfold lowD
  rw [oEq_pair]
  have es : sg t b = (Int.gcd t b : Int) := by unfold sg; rw [if_neg (by omega)]
  rw [es]
  by_cases h : Int.gcd t b = 1
  · rw [h]; simp
  · have hp : 0 < Int.gcd t b := Int.gcd_pos_of_ne_zero_right t (by omega)
    have h2 : b.fdiv (Int.gcd t b : Int) ≠ b := by
      rw [Int.fdiv_eq_ediv_of_nonneg _ (by omega)]
      have := Int.ediv_lt_self_of_pos_of_ne_one hb (show (Int.gcd t b : Int) ≠ 1 by omega)
      omega
    simp [h, h2]
theorem lisfr_pair {t b : Int} {st : Sto} (hB : B9 b) : F_l_is_fraction [.tup [.int t, .int b]] st = some (.ok (.bl (isFr (.tup [.int t, .int b]))), st) := by
  unfold F_l_is_fraction b_l_is_fraction isFr
  have W1 := lwhole_eq (x := .int t) (st := st) rfl
  have W2 := lwhole_eq (x := .int b) (st := st) rfl
  by_cases hb : 0 < b
  · have L := low_eq (t := t) (b := b) (st := st) (by omega) hB
    have E := lowD_one (t := t) hb
    simp [fnOf_ap, env0, fnRes, sSeq_ap, sIf_ap, sRet_ap, sSet_ap, sExp_ap, sPar_ap, sRaise_ap, bndS_ap, bnd_ap, ret_ap, lift_ap, liftS_ap, s1_ap, s2_ap, sVar_ap, sC_ap, sCons_ap, sNil_ap, sTup_ap, sLst_ap, sLstM_ap, sCall_ap, sIx_ap, sBs_ap, sTest_ap, sTru_ap, tNotI_ap, tOrI_ap, tAndI_ap, sNotV_ap, sAndV_ap, sOrV_ap, go_ap, sNop_ap, ite_ap, isB_bl, truth_bl, trimS_self, small_lt, oIsiB, tyOk, isiT, oLen, oNe_int, W1, W2, tyName, isInt, oIx, at0, at1, oGt, hb, L, E]
  · simp [fnOf_ap, env0, fnRes, sSeq_ap, sIf_ap, sRet_ap, sSet_ap, sExp_ap, sPar_ap, sRaise_ap, bndS_ap, bnd_ap, ret_ap, lift_ap, liftS_ap, s1_ap, s2_ap, sVar_ap, sC_ap, sCons_ap, sNil_ap, sTup_ap, sLst_ap, sLstM_ap, sCall_ap, sIx_ap, sBs_ap, sTest_ap, sTru_ap, tNotI_ap, tOrI_ap, tAndI_ap, sNotV_ap, sAndV_ap, sOrV_ap, go_ap, sNop_ap, ite_ap, isB_bl, truth_bl, trimS_self, small_lt, oIsiB, tyOk, isiT, oLen, oNe_int, W1, W2, tyName, isInt, oIx, at0, at1, oGt, hb]
end Law
set_option Elab.async false
set_option linter.all false
set_option maxRecDepth 100000
set_option maxHeartbeats 4000000
set_option exponentiation.threshold 100000
namespace Law
open PySem PySem.Spec PyProof.Rows L2 I2
theorem oAdd_lst {xs ys : List D} (h : xs.length + ys.length < 64) : oAdd (.lst xs) (.lst ys) = some (.lst (xs ++ ys)) := by
  have e : xs.length + ys.length ≤ sizeLine := by have : 64 ≤ sizeLine := by decide
                                                  omega
  simp [oAdd, e]
theorem at_cons0 {x : D} {xs : List D} : L2.atI (x :: xs) 0 = some x := by
  have h : L2.ixN (x :: xs).length 0 = some 0 := by simp [L2.ixN]
  unfold L2.atI; rw [h]; rfl
theorem sM_ap {op : D → List D → Option D} {f : Sm} {fs : Sma} {env : DEnv} {st : Sto} : sM op f fs env st = bnd f (fun x => bnd (I2.lift (isL x)) fun _ => bnd fs fun ds => I2.lift (op x ds)) env st := rfl
theorem isL_lst {xs : List D} : isL (.lst xs) = some () := rfl
section
variable {a : Ad} {st : Sto}
structure Fr (t b : Int) : Prop where
  pos : 0 < b
  g1 : Int.gcd t b = 1
  bt : t.natAbs < 2 ^ 4000
  bb : b.natAbs < 2 ^ 4000
abbrev pr (t b : Int) : D := .tup [.int t, .int b]
theorem b9_of1 {i : Int} (h : i.natAbs < 2 ^ 4000) : B9 i := Nat.lt_of_lt_of_le h (Nat.pow_le_pow_right (by omega) (by omega))
theorem pl_pair {t b : Int} (h : B9 b) : Pl (pr t b) := ⟨rfl, fun x y e => by cases e; exact ⟨rfl, rfl, fun b e => by cases e; exact h⟩⟩
theorem Fr.pl {t b : Int} (h : Fr t b) : Pl (pr t b) := pl_pair (b9_of1 h.bb)
theorem Fr.fr {t b : Int} (h : Fr t b) : isFr (pr t b) = true := by simp [isFr, h.pos, h.g1]
theorem oMul_b {i j : Int} (hi : i.natAbs < 2 ^ 4000) (hj : j.natAbs < 2 ^ 4000) : oMul (.int i) (.int j) = some (.int (i * j)) := by
  have e : mulOk i j = true := by
    unfold mulOk
    have h1 : i.natAbs < 2 ^ 60000 := Nat.lt_of_lt_of_le hi (Nat.pow_le_pow_right (by omega) (by omega))
    have h2 : j.natAbs < 2 ^ 60000 := Nat.lt_of_lt_of_le hj (Nat.pow_le_pow_right (by omega) (by omega))
    rw [decide_eq_true h1, decide_eq_true h2]; simp
  show (if mulOk i j then some (D.int (i * j)) else none) = _
  rw [if_pos e]
theorem lowD_neg {t b : Int} (h : b < 0) : lowD t b = lowD (-t) (-b) := by
  have e1 : sg t b = -(Int.gcd t b : Int) := by unfold sg; rw [if_pos h]
  have e2 : sg (-t) (-b) = (Int.gcd t b : Int) := by unfold sg; rw [if_neg (by omega), Int.gcd_neg, Int.neg_gcd]
  unfold lowD
  rw [e1, e2, ← Int.neg_fdiv_neg t, ← Int.neg_fdiv_neg b, Int.neg_neg]
theorem lowD_pos {t b : Int} (h : 0 < b) : ∃ p q : Int, lowD t b = pr p q ∧ 0 < q ∧ Int.gcd p q = 1 ∧ p.natAbs ≤ t.natAbs ∧ q.natAbs ≤ b.natAbs := by
  have e1 : sg t b = (Int.gcd t b : Int) := by unfold sg; rw [if_neg (by omega)]
  have hp : 0 < Int.gcd t b := Int.gcd_pos_of_ne_zero_right t (by omega)
  refine ⟨t / (Int.gcd t b : Int), b / (Int.gcd t b : Int), ?_, ?_, Int.gcd_ediv_gcd_ediv_gcd hp, Int.natAbs_ediv_le_natAbs _ _, Int.natAbs_ediv_le_natAbs _ _⟩
  · unfold lowD; rw [e1, Int.fdiv_eq_ediv_of_nonneg _ (by omega), Int.fdiv_eq_ediv_of_nonneg _ (by omega)]
  · exact Int.ediv_pos_of_pos_of_dvd h (by omega) (Int.gcd_dvd_right t b)
section
variable {t b p q : Int} (hx : Fr t b) (hy : Fr p q)
include hx hy
end
abbrev q (x : Rat) : D := pr x.num (x.den : Int)
structure Sz (x : Rat) : Prop where
  n : x.num.natAbs < 2 ^ 4000
  d : x.den < 2 ^ 4000
theorem Sz.fr {x : Rat} (h : Sz x) : Fr x.num (x.den : Int) :=
  ⟨by have := x.den_pos; omega, by have := x.reduced; unfold Nat.Coprime at this; rw [Int.gcd]; simpa using this, h.n, by simpa using h.d⟩
theorem lowD_q {t b : Int} (hb : b ≠ 0) : lowD t b = q (Rat.divInt t b) := by
  have pos : ∀ t b : Int, 0 < b → lowD t b = q (Rat.divInt t b) := by
    intro t b hb
    have e1 : sg t b = (Int.gcd t b : Int) := by unfold sg; rw [if_neg (by omega)]
    unfold lowD q pr
    rw [e1, Rat.num_divInt, Rat.den_divInt, if_neg (by omega), Int.fdiv_eq_ediv_of_nonneg _ (by omega), Int.fdiv_eq_ediv_of_nonneg _ (by omega), Int.sign_eq_one_of_pos hb, Int.one_mul, Int.gcd_comm b t]
    have : ((b.natAbs / Int.gcd t b : Nat) : Int) = b / (Int.gcd t b : Int) := by
      rw [Int.natCast_ediv]; congr 1; omega
    rw [this]
  rcases Int.lt_or_gt_of_ne hb with h | h
  · rw [lowD_neg h, pos _ _ (by omega), Rat.neg_divInt_neg]
  · exact pos t b h
section
variable {x y : Rat} (hx : Sz x) (hy : Sz y)
include hx hy
theorem oEq_q : oEq (q x) (q y) = some (.bl (decide (x = y))) := by
  rw [oEq_pair]
  congr 2
  rw [decide_eq_decide]
  constructor
  · rintro ⟨h1, h2⟩; exact Rat.ext h1 (by omega)
  · rintro rfl; exact ⟨rfl, rfl⟩
theorem oNe_q : oNe (q x) (q y) = some (.bl (!decide (x = y))) := by
  have e := oEq_q hx hy
  have h : oNe (q x) (q y) = some (.bl (!((x.num == y.num) && (((x.den : Int) == y.den) && true)))) := rfl
  have h2 : oEq (q x) (q y) = some (.bl ((x.num == y.num) && (((x.den : Int) == y.den) && true))) := rfl
  rw [h2] at e
  rw [h, Option.some.inj (D.bl.inj (Option.some.inj e) ▸ rfl : some ((x.num == y.num) && (((x.den : Int) == y.den) && true)) = some (decide (x = y)))]
end
theorem isfr_q (x : Rat) : F_is_fraction [q x] st = some (.ok (.bl true), st) := by
  have h := isfr_pair (t := x.num) (b := (x.den : Int)) (st := st)
  have e : isFr (pr x.num (x.den : Int)) = true := by
    have h1 := x.den_pos
    have h2 := x.reduced
    unfold Nat.Coprime at h2
    simp [isFr, Int.gcd, h1, h2]
  rw [e] at h; exact h
theorem lisfr_q {x : Rat} (hx : Sz x) : F_l_is_fraction [q x] st = some (.ok (.bl true), st) := by
  have h := lisfr_pair (t := x.num) (b := (x.den : Int)) (st := st) (b9_of1 hx.fr.bb)
  have e : isFr (pr x.num (x.den : Int)) = true := hx.fr.fr
  rw [e] at h; exact h
theorem low_q {t b : Int} (hb : b ≠ 0) (hB : B9 b) : F_l_low [.int t, .int b] st = some (.ok (q (Rat.divInt t b)), st) := by rw [low_eq hb hB, lowD_q hb]
end
structure Nc (M B : Nat) (x : Rat) : Prop where
  i : ∃ z : Int, x * (M : Rat) = (z : Rat)
  nn : 0 ≤ x
  le : x ≤ (B : Rat)
theorem Nc.sz {M B : Nat} {x : Rat} (h : Nc M B x) (hM : 0 < M) (hb : B * M < 2 ^ 4000) (hm : M < 2 ^ 4000) : Sz x := by
  obtain ⟨z, hz⟩ := h.i
  have hM' : (0 : Rat) < (M : Rat) := Rat.natCast_pos.mpr hM
  have e : x = mkRat z M := by
    rw [Rat.mkRat_eq_div, ← hz, Rat.mul_div_cancel (Rat.ne_of_gt hM')]
  have z0 : 0 ≤ z := by
    have : (0 : Rat) ≤ x * M := Rat.mul_nonneg h.nn (Rat.le_of_lt hM')
    rw [hz] at this
    exact Rat.intCast_nonneg.mp this
  have z1 : z ≤ (B * M : Nat) := by
    have : x * (M : Rat) ≤ (B : Rat) * M := Rat.mul_le_mul_of_nonneg_right h.le (Rat.le_of_lt hM')
    rw [hz] at this
    have e2 : (B : Rat) * (M : Rat) = (((B * M : Nat) : Int) : Rat) := by push_cast; rfl
    rw [e2] at this
    exact Rat.intCast_le_intCast.mp this
  refine ⟨?_, ?_⟩
  · rw [e, Rat.num_mkRat, if_neg (by omega)]
    exact Nat.lt_of_le_of_lt (Int.natAbs_ediv_le_natAbs _ _) (by omega)
  · rw [e, Rat.den_mkRat, if_neg (by omega)]
    exact Nat.lt_of_le_of_lt (Nat.div_le_self _ _) hm
end Law
set_option Elab.async false
set_option linter.all false
set_option maxRecDepth 100000
set_option maxHeartbeats 4000000
set_option exponentiation.threshold 100000
namespace Law
open PySem PySem.Spec PyProof.Rows L2 I2
section
variable {st : Sto} {env : DEnv}
theorem sSlX_ap {f : Sm} {l u : Smo} : sSlX f l u env st = bnd f (fun x => bnd l fun lo => bnd u fun hi => liftS fun st => oSlX st lo hi x) env st := rfl
theorem sNoPart_ap : sNoPart env st = some (.ok none, st) := rfl
theorem sPart_ap {f : Sm} : sPart f env st = bnd f (fun d => bnd (I2.lift (isI d)) fun i => I2.ret (some i)) env st := rfl
theorem isI_int {i : Int} : isI (.int i) = some i := rfl
theorem sAsg_ap {b : Bd} {f : Sm} : sAsg b f env st = bndS f (fun d => fun env st => (b d env).map fun env' => (.nx, env', st)) env st := rfl
theorem sFor_ap {bd : Bd} {f : Sm} {u : Sms} : sFor bd f u env st = bndS f (fun d => bndS (I2.lift (seqOf d)) fun ds => forL bd u ds) env st := rfl
theorem sForR_ap {bd : Bd} {fs : Sma} {u : Sms} : sForR bd fs u env st = bndS fs (fun ds => bndS (I2.lift (rngOf ds)) fun ds => forL bd u ds) env st := rfl
theorem forL_cons {bd : Bd} {u : Sms} {env env1 env2 : DEnv} {st' : Sto} {d : D} {ds : List D} (h1 : bd d env = some env1) (h2 : u env1 st = some (.nx, env2, st')) : forL bd u (d :: ds) env st = forL bd u ds env2 st' := by
  show (match bd d env with
    | none => none
    | some env1 => match u env1 st with
      | some (.nx, env', st') => forL bd u ds env' st'
      | some (.ct, env', st') => forL bd u ds env' st'
      | some (.bk, env', st') => some (.nx, env', st')
      | o => o) = _
  rw [h1]; dsimp only; rw [h2]
theorem sComp_ap {T : Tgt} {f : Sm} {t : Smt} {h : Sm} {vs : List Nat} : sComp T f t h vs env st = bnd f (fun d => bnd (I2.lift (seqOf d)) fun ds => compR T t h vs ds) env st := rfl
theorem compR_ap {T : Tgt} {t : Smt} {h : Sm} {vs : List Nat} {ds : List D} : compR T t h vs ds env st = (match compL T.bd t h (wipeD env vs) ds st with
  | some (ys, st') => if small ys then some (.ok (.lst ys), st') else none
  | none => none) := rfl
theorem compL_map {α : Type} {bd : Bd} {t : Smt} {h : Sm} (dd : α → D) (ff : α → D) : ∀ (xs : List α), (∀ x ∈ xs, ∃ env1, bd (dd x) env = some env1 ∧ t env1 st = some (.ok true, st) ∧ h env1 st = some (.ok (ff x), st)) → compL bd t h env (xs.map dd) st = some (xs.map ff, st)
  | [], _ => rfl
  | x :: xs, H => by
    obtain ⟨env1, h1, h2, h3⟩ := H x (by simp)
    have ih := compL_map dd ff xs fun y hy => H y (List.mem_cons_of_mem _ hy)
    show (match bd (dd x) env with
      | none => none
      | some env1 => match t env1 st with
        | some (.ok true, st1) => match h env1 st1 with
          | some (.ok y, st2) => (compL bd t h env (xs.map dd) st2).map fun (r : List D × Sto) => (y :: r.1, r.2)
          | _ => none
        | some (.ok false, st1) => compL bd t h env (xs.map dd) st1
        | _ => none) = _
    rw [h1]; dsimp only; rw [h2]; dsimp only; rw [h3]; dsimp only; rw [ih]; rfl
theorem seqOf_lst {ds : List D} : seqOf (.lst ds) = some ds := rfl
theorem oGe_i {i j : Int} : oGe (.int i) (.int j) = some (.bl (decide (j ≤ i))) := rfl
theorem allB_rep : ∀ {α : Type} (xs : List α), I2.allB (xs.map fun _ => D.bl true) = some (xs.map fun _ => true)
  | _, [] => rfl
  | _, x :: xs => by rw [List.map_cons, I2.allB, allB_rep xs]; rfl
theorem small_map {α β : Type} {xs : List α} {f : α → β} (h : xs.length < 64) : small (xs.map f) = true := small_lt (by simpa using h)
theorem sCompR2_ap {T : Tgt} {fs : Sma} {t : Smt} {h : Sm} {vs : List Nat} : sCompR2 T fs t h vs env st = bnd fs (fun ds => bnd (I2.lift (rngOf2 ds)) fun ds => compR T t h vs ds) env st := rfl
inductive Hp : D → Prop
  | non : Hp .non
  | bl (b : Bool) : Hp (.bl b)
  | int {i : Int} : i.natAbs < 2 ^ 200 → Hp (.int i)
  | str (x : Str) : Hp (.str x)
  | lst (ds : List D) : Hp (.lst ds)
  | dic0 : Hp .dic0
  | tup {ds : List D} : (∀ d ∈ ds, Hp d) → Hp (.tup ds)
theorem Hp.ty {d : D} (h : Hp d) : (tyName d).isSome := by cases h <;> rfl
theorem b9_200 {i : Int} (h : i.natAbs < 2 ^ 200) : B9 i := Nat.lt_of_lt_of_le h (Nat.pow_le_pow_right (by omega) (by omega))
theorem Hp.items {ds : List D} (h : Hp (.tup ds)) : ∀ d ∈ ds, Hp d := by cases h; assumption
theorem Hp.pl {d : D} (h : Hp d) : Pl d := ⟨h.ty, fun x y e => by
  subst e
  have hx := h.items x (by simp)
  have hy := h.items y (by simp)
  refine ⟨hx.ty, hy.ty, fun b e => ?_⟩
  subst e
  cases hy with
  | int h => exact b9_200 h⟩
end
end Law
set_option Elab.async false
set_option linter.all false
set_option maxRecDepth 100000
set_option maxHeartbeats 4000000
set_option exponentiation.threshold 100000
namespace Law
open PySem PySem.Spec PyProof.Rows L2 I2
section
variable {a : Ad} {st : Sto}
theorem seq_of {u w : Sms} {env env1 : DEnv} {st1 : Sto} (h : u env st = some (.nx, env1, st1)) : sSeq u w env st = w env1 st1 := by rw [sSeq_ap, h]
def PuAt (st : Sto) (i : Nat) : Prop := ∃ p q r : Int, st[i]? = some (.lst [.int p, .int q, .int r])
theorem sPut_ap {f h k : Sm} {env : DEnv} : sPut f h k env st = bndS f (fun v => bndS h fun o => bndS k fun j => fun env st => match o, j with
  | .ref i, .int z => match st[i]? with
    | some (.lst ds) => match ixN ds.length z with
      | some n => some (.nx, env, st.set i (.lst (ds.set n v)))
      | none => none
    | _ => none
  | _, _ => none) env st := rfl
theorem a30 {x y z : D} : L2.atI [x, y, z] 0 = some x := rfl
theorem a31 {x y z : D} : L2.atI [x, y, z] 1 = some y := rfl
theorem a32 {x y z : D} : L2.atI [x, y, z] 2 = some z := rfl
theorem ix0 : L2.ixN 3 0 = some 0 := rfl
theorem ix1 : L2.ixN 3 1 = some 1 := rfl
theorem ix2 : L2.ixN 3 2 = some 2 := rfl
theorem oMul_l {i j : Int} (hi : i.natAbs < 2 ^ 64) : oMul (.int i) (.int j) = some (.int (i * j)) := by
  have e : mulOk i j = true := by
    unfold mulOk
    rw [decide_eq_true hi]; simp
  show (if mulOk i j then some (D.int (i * j)) else none) = _
  rw [if_pos e]
theorem oMul_r {i j : Int} (hi : j.natAbs < 2 ^ 64) : oMul (.int i) (.int j) = some (.int (i * j)) := by
  have e : mulOk i j = true := by
    unfold mulOk
    rw [decide_eq_true hi]; simp
  show (if mulOk i j then some (D.int (i * j)) else none) = _
  rw [if_pos e]
theorem trimS_set {i : Nat} {c : Cell} {d : D} : trimS st.length d (st.set i c) = st.set i c := trimS_len (by simp)
theorem b9_16 : B9 16 := Nat.lt_of_lt_of_le (show 16 < 2 ^ 5 by omega) (Nat.pow_le_pow_right (by omega) (by omega))
theorem b9_lit {n : Int} (h : n.natAbs < 2 ^ 64) : B9 n := Nat.lt_of_lt_of_le h (Nat.pow_le_pow_right (by omega) (by omega))
structure Up (i : Nat) (st st' : Sto) : Prop where
  pu : PuAt st' i
  le : st.length ≤ st'.length
  ne : ∀ j, j < st.length → j ≠ i → st'[j]? = st[j]?
theorem Up.trans {i : Nat} {s0 s1 s2 : Sto} (h : Up i s0 s1) (k : Up i s1 s2) : Up i s0 s2 := ⟨k.pu, Nat.le_trans h.le k.le, fun j hj hn => (k.ne j (Nat.lt_of_lt_of_le hj h.le) hn).trans (h.ne j hj hn)⟩
theorem PuAt.lt {i : Nat} (h : PuAt st i) : i < st.length := by obtain ⟨_, _, _, e⟩ := h; exact (List.getElem?_eq_some_iff.mp e).1
theorem Up.trim {i : Nat} {s0 s1 : Sto} {d : D} (h : Up i s0 s1) (hi : i < s0.length) : Up i s0 (trimS s0.length d s1) := by
  unfold trimS
  split
  · refine ⟨?_, by rw [List.length_take]; have := h.le; omega, fun j hj hn => ?_⟩
    · obtain ⟨p, q, r, e⟩ := h.pu
      exact ⟨p, q, r, by rw [List.getElem?_take_of_lt hi]; exact e⟩
    · rw [List.getElem?_take_of_lt hj]; exact h.ne j hj hn
  · exact h
theorem pick_eq {i : Nat} {n : Int} (h : PuAt st i) (hn : 0 < n) (hB : B9 n) : ∃ (k : Int) (st' : Sto), F_l_pick [.ref i, .int n] st = some (.ok (.int k), st') ∧ 0 ≤ k ∧ k < n ∧ Up i st st' := by
  obtain ⟨p, q, r, e⟩ := h
  obtain ⟨hi, e'⟩ := List.getElem?_eq_some_iff.mp e
  have hn0 : n ≠ 0 := by omega
  have s1 := Int.fmod_nonneg_of_pos p (show (0 : Int) < 999999893 by omega)
  have s2 := Int.fmod_lt_of_pos p (show (0 : Int) < 999999893 by omega)
  have M1 : ∀ j : Int, oMul (.int (p.fmod 999999893)) (.int j) = some (.int (p.fmod 999999893 * j)) := fun j => oMul_l (by omega)
  have M2 : ∀ j : Int, oMul (.int 80021) (.int j) = some (.int (80021 * j)) := fun j => oMul_l (by omega)
  have D1 : ∀ j : Int, oDiv (.int j) (.int n) = some (.int (j.fdiv n)) := fun j => oDiv_int hn0 hB
  have D2 : ∀ j : Int, oDiv (.int j) (.int 16) = some (.int (j.fdiv 16)) := fun j => oDiv_int (by omega) b9_16
  have U : ∀ x y z : Int, Up i st (st.set i (.lst [.int x, .int y, .int z])) := fun x y z => ⟨⟨x, y, z, List.getElem?_set_self hi⟩, by simp, fun j hj hne => List.getElem?_set_ne (Ne.symm hne)⟩
  by_cases hq : 0 < q
  · refine ⟨q.fmod n, st.set i (.lst [.int (p.fmod 999999893 * ((p.fmod 999999893).fmod 40009 + 10007) + 80021 * (r + 1)), .int (q.fdiv n), .int (r + 1)]), ?_, Int.fmod_nonneg_of_pos _ hn, Int.fmod_lt_of_pos _ hn, U _ _ _⟩
    unfold F_l_pick b_l_pick
    simp [fnOf_ap, env0, fnRes, sSeq_ap, sIf_ap, sRet_ap, sSet_ap, sExp_ap, sPar_ap, sRaise_ap, bndS_ap, bnd_ap, ret_ap, lift_ap, liftS_ap, s1_ap, s2_ap, sVar_ap, sC_ap, sCons_ap, sNil_ap, sTup_ap, sLst_ap, sLstM_ap, sCall_ap, sIx_ap, sBs_ap, sTest_ap, sTru_ap, tNotI_ap, tOrI_ap, tAndI_ap, sNotV_ap, sAndV_ap, sOrV_ap, go_ap, sNop_ap, ite_ap, isB_bl, truth_bl, trimS_self, small_lt, sPut_ap, e', hi, oIx, a30, a31, a32, ix0, ix1, ix2, oAdd, oMod, M1, M2, D1, oGt, hq, hn0, trimS_set]
  · refine ⟨(((p.fmod 999999893 * ((p.fmod 999999893).fmod 40009 + 10007) + 80021 * (r + 1)).fmod 999999893).fdiv 16).fmod n, st.set i (.lst [.int (p.fmod 999999893 * ((p.fmod 999999893).fmod 40009 + 10007) + 80021 * (r + 1)), .int q, .int (r + 1)]), ?_, Int.fmod_nonneg_of_pos _ hn, Int.fmod_lt_of_pos _ hn, U _ _ _⟩
    unfold F_l_pick b_l_pick
    simp [fnOf_ap, env0, fnRes, sSeq_ap, sIf_ap, sRet_ap, sSet_ap, sExp_ap, sPar_ap, sRaise_ap, bndS_ap, bnd_ap, ret_ap, lift_ap, liftS_ap, s1_ap, s2_ap, sVar_ap, sC_ap, sCons_ap, sNil_ap, sTup_ap, sLst_ap, sLstM_ap, sCall_ap, sIx_ap, sBs_ap, sTest_ap, sTru_ap, tNotI_ap, tOrI_ap, tAndI_ap, sNotV_ap, sAndV_ap, sOrV_ap, go_ap, sNop_ap, ite_ap, isB_bl, truth_bl, trimS_self, small_lt, sPut_ap, e', hi, oIx, a30, a31, a32, ix0, ix1, ix2, oAdd, oMod, M1, M2, D2, oGt, hq, hn0, trimS_set]
theorem pow18 : oPow (.int 10) (.int 18) = some (.int 1000000000000000000) := rfl
theorem purse_eq {c : Int} : ∃ p q r : Int, F_l_purse [.int c] st = some (.ok (.ref st.length), st ++ [.lst [.int p, .int q, .int r]]) := by
  have M : ∀ j : Int, oMul (.int j) (.int 6007) = some (.int (j * 6007)) := fun j => oMul_r (by omega)
  have hT : ∀ c : Cell, trimS st.length (.ref st.length) (st ++ [c]) = st ++ [c] := by intro c; simp [trimS, dlt]
  refine ⟨c.fmod 999999893 * 6007 + 2503, if 1000000000000000000 ≤ c then c else 0, 0, ?_⟩
  unfold F_l_purse b_l_purse
  by_cases h : (1000000000000000000 : Int) ≤ c
  · simp [fnOf_ap, env0, fnRes, sSeq_ap, sIf_ap, sRet_ap, sSet_ap, sExp_ap, sPar_ap, sRaise_ap, bndS_ap, bnd_ap, ret_ap, lift_ap, liftS_ap, s1_ap, s2_ap, sVar_ap, sC_ap, sCons_ap, sNil_ap, sTup_ap, sLst_ap, sLstM_ap, sCall_ap, sIx_ap, sBs_ap, sTest_ap, sTru_ap, tNotI_ap, tOrI_ap, tAndI_ap, sNotV_ap, sAndV_ap, sOrV_ap, go_ap, sNop_ap, ite_ap, isB_bl, truth_bl, trimS_self, small_lt, oMod, M, oAdd, pow18, oGe, oInt, h, oIx, at0, at1, hT]
  · simp [fnOf_ap, env0, fnRes, sSeq_ap, sIf_ap, sRet_ap, sSet_ap, sExp_ap, sPar_ap, sRaise_ap, bndS_ap, bnd_ap, ret_ap, lift_ap, liftS_ap, s1_ap, s2_ap, sVar_ap, sC_ap, sCons_ap, sNil_ap, sTup_ap, sLst_ap, sLstM_ap, sCall_ap, sIx_ap, sBs_ap, sTest_ap, sTru_ap, tNotI_ap, tOrI_ap, tAndI_ap, sNotV_ap, sAndV_ap, sOrV_ap, go_ap, sNop_ap, ite_ap, isB_bl, truth_bl, trimS_self, small_lt, oMod, M, oAdd, pow18, oGe, oInt, h, oIx, at0, at1, hT]
theorem cell_for {x y : Option D} : ∀ (ms : List Int) (s : Int) (z : Option D), ∃ (s' : Int) (z' : Option D), forL (bName 3) (sSet 2 (s2 oMod (s2 oAdd (s2 oMul (sVar 2) (sC (.int 20011))) (sVar 3)) (sC (.int 1000000021)))) (ms.map D.int) [x, y, some (.int s), z] st = some (.nx, [x, y, some (.int s'), z'], st)
  | [], s, z => ⟨s, z, rfl⟩
  | m :: ms, s, z => by
    obtain ⟨s', z', e⟩ := cell_for ms ((s * 20011 + m).fmod 1000000021) (some (.int m))
    refine ⟨s', z', ?_⟩
    have M : oMul (.int s) (.int 20011) = some (.int (s * 20011)) := oMul_r (by omega)
    rw [List.map_cons, forL_cons (env1 := [x, y, some (.int s), some (.int m)]) (env2 := [x, y, some (.int ((s * 20011 + m).fmod 1000000021)), some (.int m)]) (st' := st) rfl (by simp [fnOf_ap, env0, fnRes, sSeq_ap, sIf_ap, sRet_ap, sSet_ap, sExp_ap, sPar_ap, sRaise_ap, bndS_ap, bnd_ap, ret_ap, lift_ap, liftS_ap, s1_ap, s2_ap, sVar_ap, sC_ap, sCons_ap, sNil_ap, sTup_ap, sLst_ap, sLstM_ap, sCall_ap, sIx_ap, sBs_ap, sTest_ap, sTru_ap, tNotI_ap, tOrI_ap, tAndI_ap, sNotV_ap, sAndV_ap, sOrV_ap, go_ap, sNop_ap, ite_ap, isB_bl, truth_bl, trimS_self, small_lt, M, oAdd, oMod])]
    exact e
theorem cell_eq {ns : List Int} {k : Int} (h0 : 0 ≤ k) (h6 : k < 64) : ∃ c : Int, F_l_cell [.scr (ns.map D.int), .int k] st = some (.ok (.int c), st) := by
  unfold F_l_cell b_l_cell
  by_cases h : k < ns.length
  · have hk : k.toNat < ns.length := by omega
    have e : L2.atI (ns.map D.int) k = some (.int ns[k.toNat]) := by
      unfold L2.atI L2.ixN
      rw [if_pos h0, List.length_map, if_pos h]
      simp [hk]
    refine ⟨ns[k.toNat], ?_⟩
    simp [fnOf_ap, env0, fnRes, sSeq_ap, sIf_ap, sRet_ap, sSet_ap, sExp_ap, sPar_ap, sRaise_ap, bndS_ap, bnd_ap, ret_ap, lift_ap, liftS_ap, s1_ap, s2_ap, sVar_ap, sC_ap, sCons_ap, sNil_ap, sTup_ap, sLst_ap, sLstM_ap, sCall_ap, sIx_ap, sBs_ap, sTest_ap, sTru_ap, tNotI_ap, tOrI_ap, tAndI_ap, sNotV_ap, sAndV_ap, sOrV_ap, go_ap, sNop_ap, ite_ap, isB_bl, truth_bl, trimS_self, small_lt, oLen, oLt, h, oIx, e]
  · have M1 : oMul (.int k) (.int k) = some (.int (k * k)) := oMul_l (by omega)
    have M2 : ∀ j : Int, oMul (.int 11) (.int j) = some (.int (11 * j)) := fun j => oMul_l (by omega)
    have M3 : ∀ j : Int, oMul (.int 70001) (.int j) = some (.int (70001 * j)) := fun j => oMul_l (by omega)
    obtain ⟨ms, hm⟩ : ∃ ms : List Int, I2.cutD (ns.map D.int) none (some 4) = ms.map D.int := ⟨_, by unfold I2.cutD; rw [← List.map_drop, ← List.map_take]⟩
    obtain ⟨s', z', e⟩ := cell_for (st := st) (x := some (.scr (ns.map D.int))) (y := some (.int k)) ms ((70001 * (k * k + 11 * k + 5)).fmod 1000000021) none
    refine ⟨s', ?_⟩
    simp [fnOf_ap, env0, fnRes, sSeq_ap, sIf_ap, sRet_ap, sSet_ap, sExp_ap, sPar_ap, sRaise_ap, bndS_ap, bnd_ap, ret_ap, lift_ap, liftS_ap, s1_ap, s2_ap, sVar_ap, sC_ap, sCons_ap, sNil_ap, sTup_ap, sLst_ap, sLstM_ap, sCall_ap, sIx_ap, sBs_ap, sTest_ap, sTru_ap, tNotI_ap, tOrI_ap, tAndI_ap, sNotV_ap, sAndV_ap, sOrV_ap, go_ap, sNop_ap, ite_ap, isB_bl, truth_bl, trimS_self, small_lt, oLen, oLt, h, M1, M2, M3, oAdd, oMod, sFor_ap, sSlX_ap, sNoPart_ap, sPart_ap, isI_int, oSlX, oSl, hm, seqOf, e]
structure Up2 (i j : Nat) (st st' : Sto) (ds : List D) : Prop where
  pu : PuAt st' i
  at' : st'[j]? = some (.lst ds)
  le : st.length ≤ st'.length
  ne : ∀ m, m < st.length → m ≠ i → m ≠ j → st'[m]? = st[m]?
theorem Up2.up {i j : Nat} {s0 s1 s2 : Sto} {ds : List D} (h : Up2 i j s0 s1 ds) (hij : j ≠ i) (u : Up i s1 s2) : Up2 i j s0 s2 ds := by
  have hj := (List.getElem?_eq_some_iff.mp h.at').1
  exact ⟨u.pu, (u.ne j hj hij).trans h.at', Nat.le_trans h.le u.le, fun m hm h1 h2 => (u.ne m (Nat.lt_of_lt_of_le hm h.le) h1).trans (h.ne m hm h1 h2)⟩
theorem rng_of {n : Nat} (h : n < 2 ^ 30) : rngOf [.int (n : Int)] = some (rngL 0 n) := by
  have h1 : -(2 ^ 62 : Int) ≤ (n : Int) ∧ (n : Int) < 2 ^ 62 := by omega
  unfold rngOf; dsimp only
  rw [if_pos h1, Int.toNat_natCast]
theorem sForR_of {bd : Bd} {fs : Sma} {u : Sms} {env : DEnv} {ds rs : List D} {st1 : Sto} (h1 : fs env st = some (.ok ds, st1)) (h2 : rngOf ds = some rs) : sForR bd fs u env st = forL bd u rs env st1 := by
  rw [sForR_ap]
  simp only [bndS_ap, h1, lift_ap, h2, Option.map_some]
end
end Law
set_option Elab.async false
set_option linter.all false
set_option maxRecDepth 100000
set_option maxHeartbeats 4000000
set_option exponentiation.threshold 100000
namespace Law
open PySem PySem.Spec PyProof.Rows L2 I2
theorem four_mul_le (a b : Nat) : 4 * (a * b) ≤ (a + b) * (a + b) := by
  have key : ∀ a d : Nat, 4 * (a * (a + d)) ≤ (a + (a + d)) * (a + (a + d)) := fun a d => by
    have e : (a + (a + d)) * (a + (a + d)) = 4 * (a * (a + d)) + d * d := by grind
    rw [e]; exact Nat.le_add_right ..
  rcases Nat.le_total a b with h | h
  · obtain ⟨d, rfl⟩ := Nat.le.dest h
    exact key a d
  · obtain ⟨d, rfl⟩ := Nat.le.dest h
    have := key b d
    rw [Nat.mul_comm (b + d) b, Nat.add_comm (b + d) b]
    exact this
def nwt (n g : Nat) : Nat := (g + n / g) / 2
theorem nwt_sq {n g : Nat} (hg : 0 < g) : n < (nwt n g + 1) * (nwt n g + 1) := by
  unfold nwt
  have h1 : n < g * (n / g + 1) := Nat.lt_mul_div_succ n hg
  generalize n / g = k at *
  have h2 : g + (k + 1) ≤ 2 * ((g + k) / 2 + 1) := by omega
  have h3 := four_mul_le g (k + 1)
  have h4 := Nat.mul_le_mul h2 h2
  generalize (g + k) / 2 + 1 = b at *
  have e : 2 * b * (2 * b) = 4 * (b * b) := by grind
  generalize g * (k + 1) = u at *
  generalize (g + (k + 1)) * (g + (k + 1)) = v at *
  generalize b * b = w at *
  omega
theorem nwt_pos {n g : Nat} (hn : 0 < n) (hg : 0 < g) : 0 < nwt n g := by
  have h := nwt_sq (n := n) hg
  rcases Nat.eq_zero_or_pos (nwt n g) with e | e
  · rw [e] at h; omega
  · exact e
theorem nwt_end {n g : Nat} (h : g ≤ nwt n g) : g * g ≤ n := by
  unfold nwt at h
  have h1 : g ≤ n / g := by omega
  exact Nat.le_trans (Nat.mul_le_mul_left g h1) (Nat.mul_div_le n g)
theorem b9_nat {g : Nat} (h : g < 2 ^ 9000) : B9 (g : Int) := by
  show (g : Int).natAbs < _
  rw [Int.natAbs_natCast]; exact h
theorem oDiv_nat {n g : Nat} (hg : 0 < g) (h : g < 2 ^ 9000) : oDiv (.int (n : Int)) (.int (g : Int)) = some (.int ((n / g : Nat) : Int)) := by
  rw [oDiv_int (by omega) (b9_nat h), Int.fdiv_eq_ediv_of_nonneg _ (by omega)]
  rfl
theorem oDiv_two {n : Nat} : oDiv (.int (n : Int)) (.int 2) = some (.int ((n / 2 : Nat) : Int)) := by
  have := oDiv_nat (n := n) (g := 2) (by omega) (by decide)
  exact this
noncomputable abbrev wrT : Smt := (sTest (s2 oLt (sVar 2) (sVar 1)))
noncomputable abbrev wrS : Sms := (sSet 2 (s2 oDiv (s2 oAdd (sVar 1) (s2 oDiv (sVar 0) (sVar 1))) (sC (.int 2))))
noncomputable abbrev wrB : Sms := (sSeq (sSet 1 (sVar 2)) wrS)
section
variable {st : Sto}
theorem wrS_eq {n g : Nat} {z : Option D} (hg : 0 < g) (h : g < 2 ^ 9000) : wrS [some (.int (n : Int)), some (.int (g : Int)), z] st = some (.nx, [some (.int (n : Int)), some (.int (g : Int)), some (.int (nwt n g : Int))], st) := by
  have d1 := oDiv_nat (n := n) hg h
  have a1 : oAdd (.int (g : Int)) (.int ((n / g : Nat) : Int)) = some (.int ((g + n / g : Nat) : Int)) := by
    show some (D.int ((g : Int) + ((n / g : Nat) : Int))) = _
    rw [Int.natCast_add]
  have d2 := oDiv_two (n := g + n / g)
  have e : D.int (nwt n g : Int) = .int (((g + n / g) / 2 : Nat) : Int) := rfl
  rw [e]
  generalize D.int (((g + n / g) / 2 : Nat) : Int) = y1 at *
  generalize D.int ((g + n / g : Nat) : Int) = y2 at *
  generalize D.int ((n / g : Nat) : Int) = y3 at *
  generalize D.int (g : Int) = y4 at *
  generalize D.int (n : Int) = y5 at *
  simp [fnOf_ap, env0, fnRes, sSeq_ap, sIf_ap, sRet_ap, sSet_ap, sExp_ap, sPar_ap, sRaise_ap, bndS_ap, bnd_ap, ret_ap, lift_ap, liftS_ap, s1_ap, s2_ap, sVar_ap, sC_ap, sCons_ap, sNil_ap, sTup_ap, sLst_ap, sLstM_ap, sCall_ap, sIx_ap, sBs_ap, sTest_ap, sTru_ap, tNotI_ap, tOrI_ap, tAndI_ap, sNotV_ap, sAndV_ap, sOrV_ap, go_ap, sNop_ap, ite_ap, isB_bl, truth_bl, trimS_self, small_lt, d1, a1, d2]
theorem iter_t {t : Smt} {u : Sms} {n : Nat} {env env1 : DEnv} {st st1 st2 : Sto} (ht : t env st = some (.ok true, st1)) (hu : u env st1 = some (.nx, env1, st2)) : iterW t u (n + 1) env st = iterW t u n env1 st2 := by
  show bndS t _ env st = _
  rw [bndS_ap, ht]
  show (match u env st1 with
      | some (.nx, env', st') => iterW t u n env' st'
      | some (.ct, env', st') => iterW t u n env' st'
      | some (.bk, env', st') => some (.nx, env', st')
      | o => o) = _
  rw [hu]
theorem iter_f {t : Smt} {u : Sms} {n : Nat} {env : DEnv} {st st1 : Sto} (ht : t env st = some (.ok false, st1)) : iterW t u (n + 1) env st = some (.nx, env, st1) := by
  show bndS t _ env st = _
  rw [bndS_ap, ht]
  rfl
theorem wr_iter {n : Nat} (hn : 0 < n) : ∀ (k g : Nat), g < k → 0 < g → g < 2 ^ 9000 → n < (g + 1) * (g + 1) →
    ∃ r z : Nat, iterW wrT wrB (k + 1) [some (.int (n : Int)), some (.int (g : Int)), some (.int (nwt n g : Int))] st = some (.nx, [some (.int (n : Int)), some (.int (r : Int)), some (.int (z : Int))], st) ∧ r * r ≤ n ∧ n < (r + 1) * (r + 1)
  | 0, _, h, _, _, _ => by omega
  | k + 1, g, h, hg, hb, hi => by
    by_cases c : nwt n g < g
    · have p := nwt_pos hn hg
      obtain ⟨r, z, I, h1, h2⟩ := wr_iter hn k (nwt n g) (by omega) p (by omega) (nwt_sq hg)
      refine ⟨r, z, ?_, h1, h2⟩
      have S := wrS_eq (st := st) (n := n) (z := some (.int (nwt n g : Int))) p (by omega)
      have T : wrT [some (.int (n : Int)), some (.int (g : Int)), some (.int (nwt n g : Int))] st = some (.ok true, st) := by
        have : oLt (.int (nwt n g : Int)) (.int (g : Int)) = some (.bl true) := by
          show some (D.bl (decide _)) = _
          rw [decide_eq_true (by omega)]
        generalize D.int (nwt n g : Int) = y1 at *
        generalize D.int (g : Int) = y2 at *
        simp [fnOf_ap, env0, fnRes, sSeq_ap, sIf_ap, sRet_ap, sSet_ap, sExp_ap, sPar_ap, sRaise_ap, bndS_ap, bnd_ap, ret_ap, lift_ap, liftS_ap, s1_ap, s2_ap, sVar_ap, sC_ap, sCons_ap, sNil_ap, sTup_ap, sLst_ap, sLstM_ap, sCall_ap, sIx_ap, sBs_ap, sTest_ap, sTru_ap, tNotI_ap, tOrI_ap, tAndI_ap, sNotV_ap, sAndV_ap, sOrV_ap, go_ap, sNop_ap, ite_ap, isB_bl, truth_bl, trimS_self, small_lt, this]
      have B : wrB [some (.int (n : Int)), some (.int (g : Int)), some (.int (nwt n g : Int))] st = some (.nx, [some (.int (n : Int)), some (.int (nwt n g : Int)), some (.int (nwt n (nwt n g) : Int))], st) := by
        have E0 : sSet 1 (sVar 2) [some (.int (n : Int)), some (.int (g : Int)), some (.int (nwt n g : Int))] st = some (.nx, [some (.int (n : Int)), some (.int (nwt n g : Int)), some (.int (nwt n g : Int))], st) := by
          generalize D.int (nwt n g : Int) = y1 at *
          simp [fnOf_ap, env0, fnRes, sSeq_ap, sIf_ap, sRet_ap, sSet_ap, sExp_ap, sPar_ap, sRaise_ap, bndS_ap, bnd_ap, ret_ap, lift_ap, liftS_ap, s1_ap, s2_ap, sVar_ap, sC_ap, sCons_ap, sNil_ap, sTup_ap, sLst_ap, sLstM_ap, sCall_ap, sIx_ap, sBs_ap, sTest_ap, sTru_ap, tNotI_ap, tOrI_ap, tAndI_ap, sNotV_ap, sAndV_ap, sOrV_ap, go_ap, sNop_ap, ite_ap, isB_bl, truth_bl, trimS_self, small_lt]
        show sSeq (sSet 1 (sVar 2)) wrS _ _ = _
        rw [seq_of E0]
        exact S
      rw [iter_t T B]
      exact I
    · refine ⟨g, nwt n g, ?_, nwt_end (by omega), hi⟩
      have T : wrT [some (.int (n : Int)), some (.int (g : Int)), some (.int (nwt n g : Int))] st = some (.ok false, st) := by
        have : oLt (.int (nwt n g : Int)) (.int (g : Int)) = some (.bl false) := by
          show some (D.bl (decide _)) = _
          rw [decide_eq_false (by omega)]
        generalize D.int (nwt n g : Int) = y1 at *
        generalize D.int (g : Int) = y2 at *
        simp [fnOf_ap, env0, fnRes, sSeq_ap, sIf_ap, sRet_ap, sSet_ap, sExp_ap, sPar_ap, sRaise_ap, bndS_ap, bnd_ap, ret_ap, lift_ap, liftS_ap, s1_ap, s2_ap, sVar_ap, sC_ap, sCons_ap, sNil_ap, sTup_ap, sLst_ap, sLstM_ap, sCall_ap, sIx_ap, sBs_ap, sTest_ap, sTru_ap, tNotI_ap, tOrI_ap, tAndI_ap, sNotV_ap, sAndV_ap, sOrV_ap, go_ap, sNop_ap, ite_ap, isB_bl, truth_bl, trimS_self, small_lt, this]
      rw [iter_f T]
theorem wroot_eq {n : Nat} (hb : n < 2 ^ 8000) : ∃ r : Nat, F_whole_root [.int (n : Int)] st = some (.ok (.int (r : Int)), st) ∧ r * r ≤ n ∧ n < (r + 1) * (r + 1) := by
  by_cases hn : n = 0
  · subst hn
    refine ⟨0, ?_, by omega, by omega⟩
    unfold F_whole_root b_whole_root
    simp [fnOf_ap, env0, fnRes, sSeq_ap, sIf_ap, sRet_ap, sSet_ap, sExp_ap, sPar_ap, sRaise_ap, bndS_ap, bnd_ap, ret_ap, lift_ap, liftS_ap, s1_ap, s2_ap, sVar_ap, sC_ap, sCons_ap, sNil_ap, sTup_ap, sLst_ap, sLstM_ap, sCall_ap, sIx_ap, sBs_ap, sTest_ap, sTru_ap, tNotI_ap, tOrI_ap, tAndI_ap, sNotV_ap, sAndV_ap, sOrV_ap, go_ap, sNop_ap, ite_ap, isB_bl, truth_bl, trimS_self, small_lt, oEq_int]
  · have hn0 : 0 < n := by omega
    let bt := Builtin.Int.intBits (n : Int)
    have h1 : n < 2 ^ bt := by
      have := (PySem.intBits_le_iff (m := bt) (x := (n : Int))).mp (Nat.le_refl _)
      rwa [Int.natAbs_natCast] at this
    have h2 : bt ≤ 8000 := (PySem.intBits_le_iff (m := 8000) (x := (n : Int))).mpr (by rw [Int.natAbs_natCast]; exact hb)
    have g0 : 0 < 2 ^ ((bt + 1) / 2) := Nat.two_pow_pos _
    have gb : 2 ^ ((bt + 1) / 2) < 2 ^ 9000 := Nat.pow_lt_pow_right (by omega) (by omega)
    have gi : n < (2 ^ ((bt + 1) / 2) + 1) * (2 ^ ((bt + 1) / 2) + 1) := by
      refine Nat.lt_of_lt_of_le h1 (Nat.le_trans (m := 2 ^ ((bt + 1) / 2) * 2 ^ ((bt + 1) / 2)) ?_ (Nat.mul_le_mul (Nat.le_succ _) (Nat.le_succ _)))
      rw [← Nat.pow_add]
      exact Nat.pow_le_pow_right (by omega) (by omega)
    obtain ⟨r, z, I, e1, e2⟩ := wr_iter (st := st) hn0 (2 ^ ((bt + 1) / 2) + 1) (2 ^ ((bt + 1) / 2)) (by omega) g0 gb gi
    refine ⟨r, ?_, e1, e2⟩
    have W := sWhile_of I
    have ob : oBits (.int (n : Int)) = some (.int (bt : Int)) := rfl
    have oa : oAdd (.int (bt : Int)) (.int 1) = some (.int ((bt + 1 : Nat) : Int)) := by
      show some (D.int ((bt : Int) + 1)) = _
      rw [Int.natCast_add]; rfl
    have od := oDiv_two (n := bt + 1)
    have os : oShl (.int 1) (.int (((bt + 1) / 2 : Nat) : Int)) = some (.int ((2 ^ ((bt + 1) / 2) : Nat) : Int)) := by
      have c1 : (0 : Int) ≤ (((bt + 1) / 2 : Nat) : Int) := by omega
      have c2 : (((bt + 1) / 2 : Nat) : Int) ≤ 1000000 := by omega
      show (if decide _ && decide _ && decide _ then some (D.int (1 * 2 ^ _)) else none) = _
      rw [decide_eq_true c1, decide_eq_true c2, decide_eq_true (by decide)]
      show some (D.int (1 * 2 ^ _)) = _
      rw [Int.toNat_natCast, Int.one_mul, Int.natCast_pow]
      rfl
    have S := wrS_eq (st := st) (n := n) (z := none) g0 gb
    have q0 : oEq (.int (n : Int)) (.int 0) = some (.bl false) := by
      rw [oEq_int, decide_eq_false (by omega)]
    generalize 2 ^ ((bt + 1) / 2) = g at *
    generalize nwt n g = nw at *
    generalize (bt + 1) / 2 = hh at *
    generalize bt + 1 = b1 at *
    generalize bt = b0 at *
    unfold F_whole_root b_whole_root
    generalize D.int (nw : Int) = y1 at *
    generalize D.int (g : Int) = y2 at *
    generalize D.int (hh : Int) = y3 at *
    generalize D.int (b1 : Int) = y4 at *
    generalize D.int (b0 : Int) = y5 at *
    generalize D.int (n : Int) = y6 at *
    generalize D.int (r : Int) = y7 at *
    generalize D.int (z : Int) = y8 at *
    have E0 : sIf (sTest (s2 oEq (sVar 0) (sC (.int 0)))) (sRet (sC (.int 0))) sNop [some y6, none, none] st = some (.nx, [some y6, none, none], st) := by simp [fnOf_ap, env0, fnRes, sSeq_ap, sIf_ap, sRet_ap, sSet_ap, sExp_ap, sPar_ap, sRaise_ap, bndS_ap, bnd_ap, ret_ap, lift_ap, liftS_ap, s1_ap, s2_ap, sVar_ap, sC_ap, sCons_ap, sNil_ap, sTup_ap, sLst_ap, sLstM_ap, sCall_ap, sIx_ap, sBs_ap, sTest_ap, sTru_ap, tNotI_ap, tOrI_ap, tAndI_ap, sNotV_ap, sAndV_ap, sOrV_ap, go_ap, sNop_ap, ite_ap, isB_bl, truth_bl, trimS_self, small_lt, q0]
    have E1 : sSet 1 (s2 oShl (sC (.int 1)) (s2 oDiv (s2 oAdd (s1 oBits (sVar 0)) (sC (.int 1))) (sC (.int 2)))) [some y6, none, none] st = some (.nx, [some y6, some y2, none], st) := by simp [fnOf_ap, env0, fnRes, sSeq_ap, sIf_ap, sRet_ap, sSet_ap, sExp_ap, sPar_ap, sRaise_ap, bndS_ap, bnd_ap, ret_ap, lift_ap, liftS_ap, s1_ap, s2_ap, sVar_ap, sC_ap, sCons_ap, sNil_ap, sTup_ap, sLst_ap, sLstM_ap, sCall_ap, sIx_ap, sBs_ap, sTest_ap, sTru_ap, tNotI_ap, tOrI_ap, tAndI_ap, sNotV_ap, sAndV_ap, sOrV_ap, go_ap, sNop_ap, ite_ap, isB_bl, truth_bl, trimS_self, small_lt, ob, oa, od, os]
    show (if [y6].length = 1 then fnRes st.length (sSeq _ (sSeq _ (sSeq wrS (sSeq (sWhile wrT wrB) (sRet (sVar 1))))) [some y6, none, none] st) else none) = _
    rw [if_pos (by rfl), seq_of E0, seq_of E1, seq_of S, seq_of W]
    simp [fnOf_ap, env0, fnRes, sSeq_ap, sIf_ap, sRet_ap, sSet_ap, sExp_ap, sPar_ap, sRaise_ap, bndS_ap, bnd_ap, ret_ap, lift_ap, liftS_ap, s1_ap, s2_ap, sVar_ap, sC_ap, sCons_ap, sNil_ap, sTup_ap, sLst_ap, sLstM_ap, sCall_ap, sIx_ap, sBs_ap, sTest_ap, sTru_ap, tNotI_ap, tOrI_ap, tAndI_ap, sNotV_ap, sAndV_ap, sOrV_ap, go_ap, sNop_ap, ite_ap, isB_bl, truth_bl, trimS_self, small_lt]
open Classical in
noncomputable def rtD (x : Rat) : D := if h : ∃ r : Rat, 0 ≤ r ∧ r * r = x then q h.choose else .non
end
theorem sq_inj {r s : Rat} (hr : 0 ≤ r) (hs : 0 ≤ s) (h : r * r = s * s) : r = s := by
  have e : (r - s) * (r + s) = 0 := by grind
  rcases Rat.mul_eq_zero.mp e with e | e
  · grind
  · grind
theorem rtD_of {r x : Rat} (hr : 0 ≤ r) (h : r * r = x) : rtD x = q r := by
  have hx : ∃ r : Rat, 0 ≤ r ∧ r * r = x := ⟨r, hr, h⟩
  unfold rtD
  rw [dif_pos hx]
  have := hx.choose_spec
  rw [sq_inj this.1 hr (by rw [this.2, h])]
theorem rtD_no {x : Rat} (h : ∀ r : Rat, 0 ≤ r → r * r ≠ x) : rtD x = .non := by
  unfold rtD
  rw [dif_neg (fun ⟨r, h1, h2⟩ => h r h1 h2)]
theorem rtD_cases (x : Rat) : (∃ r : Rat, 0 ≤ r ∧ r * r = x ∧ rtD x = q r) ∨ rtD x = .non := by
  by_cases h : ∃ r : Rat, 0 ≤ r ∧ r * r = x
  · obtain ⟨r, h1, h2⟩ := h
    exact .inl ⟨r, h1, h2, rtD_of h1 h2⟩
  · exact .inr (rtD_no fun r h1 h2 => h ⟨r, h1, h2⟩)
theorem sq_parts (r : Rat) : (r * r).num = r.num * r.num ∧ (r * r).den = r.den * r.den := by
  have c : Nat.Coprime (r.num * r.num).natAbs (r.den * r.den) := by
    rw [Int.natAbs_mul]
    have := r.reduced
    exact Nat.Coprime.mul_left (Nat.Coprime.mul_right this this) (Nat.Coprime.mul_right this this)
  have e : r * r = ⟨r.num * r.num, r.den * r.den, Nat.mul_ne_zero r.den_nz r.den_nz, c⟩ := by
    rw [Rat.mul_def', ← Rat.mkRat_self ⟨r.num * r.num, r.den * r.den, Nat.mul_ne_zero r.den_nz r.den_nz, c⟩]
  rw [e]
  exact ⟨rfl, rfl⟩
section
variable {st : Sto}
theorem root_q {x : Rat} (hx : Sz x) : F_root [q x] st = some (.ok (rtD x), st) := by
  have IF := isfr_q (st := st) x
  have i0 : oIx st (q x) (.int 0) = some (.int x.num) := rfl
  have i1 : oIx st (q x) (.int 1) = some (.int (x.den : Int)) := rfl
  by_cases hn : x.num < 0
  · have hno : rtD x = .non := rtD_no fun r h0 h => by
      have hp := sq_parts r
      rw [h] at hp
      have : 0 ≤ r.num * r.num := by
        have := Rat.num_nonneg.mpr h0
        exact Int.mul_nonneg this this
      omega
    rw [hno]
    have lt : oLt (.int x.num) (.int 0) = some (.bl true) := by
      show some (D.bl (decide _)) = _
      rw [decide_eq_true hn]
    generalize q x = y at *
    generalize D.int x.num = y1 at *
    unfold F_root b_root
    simp [fnOf_ap, env0, fnRes, sSeq_ap, sIf_ap, sRet_ap, sSet_ap, sExp_ap, sPar_ap, sRaise_ap, bndS_ap, bnd_ap, ret_ap, lift_ap, liftS_ap, s1_ap, s2_ap, sVar_ap, sC_ap, sCons_ap, sNil_ap, sTup_ap, sLst_ap, sLstM_ap, sCall_ap, sIx_ap, sBs_ap, sTest_ap, sTru_ap, tNotI_ap, tOrI_ap, tAndI_ap, sNotV_ap, sAndV_ap, sOrV_ap, go_ap, sNop_ap, ite_ap, isB_bl, truth_bl, trimS_self, small_lt, IF, i0, lt]
  · have lt : oLt (.int x.num) (.int 0) = some (.bl false) := by
      show some (D.bl (decide _)) = _
      rw [decide_eq_false hn]
    have en : x.num = ((x.num.natAbs : Nat) : Int) := by omega
    have b1 : x.num.natAbs < 2 ^ 8000 := Nat.lt_of_lt_of_le hx.n (Nat.pow_le_pow_right (by omega) (by omega))
    have b2 : x.den < 2 ^ 8000 := Nat.lt_of_lt_of_le hx.d (Nat.pow_le_pow_right (by omega) (by omega))
    obtain ⟨t, T, t1, t2⟩ := wroot_eq (st := st) b1
    obtain ⟨b, B, c1, c2⟩ := wroot_eq (st := st) b2
    rw [← en] at T
    have lim : ∀ {r n : Nat}, r * r ≤ n → n < 2 ^ 8000 → (r : Int).natAbs < 2 ^ 4000 := fun {r n} h1 h2 => by
      rw [Int.natAbs_natCast]
      rcases Nat.lt_or_ge r (2 ^ 4000) with h | h
      · exact h
      · have := Nat.mul_le_mul h h
        rw [← Nat.pow_add] at this
        omega
    have M1 := oMul_b (lim t1 b1) (lim t1 b1)
    have M2 := oMul_b (lim c1 b2) (lim c1 b2)
    have n1 : oNe (.int ((t : Int) * (t : Int))) (.int x.num) = some (.bl (!decide (t * t = x.num.natAbs))) := by
      rw [oNe_int]
      congr 3
      rw [decide_eq_decide]
      rw [← Int.natCast_mul]
      omega
    have n2 : oNe (.int ((b : Int) * (b : Int))) (.int (x.den : Int)) = some (.bl (!decide (b * b = x.den))) := by
      rw [oNe_int]
      congr 3
      rw [decide_eq_decide]
      rw [← Int.natCast_mul]
      omega
    by_cases d1 : t * t = x.num.natAbs
    · by_cases d2 : b * b = x.den
      · have bp : b ≠ 0 := fun e => by rw [e] at d2; exact x.den_nz (by omega)
        have cop : Nat.Coprime (t : Int).natAbs b := by
          rw [Int.natAbs_natCast]
          have hr := x.reduced
          rw [← d1, ← d2] at hr
          exact Nat.Coprime.coprime_mul_right (Nat.Coprime.coprime_mul_right_right hr)
        have hR : rtD x = q ⟨(t : Int), b, bp, cop⟩ := by
          refine rtD_of (Rat.num_nonneg.mp (by show (0 : Int) ≤ (t : Int); omega)) (Rat.ext ?_ ?_)
          · rw [(sq_parts _).1]
            show (t : Int) * (t : Int) = _
            rw [← Int.natCast_mul, d1]; omega
          · rw [(sq_parts _).2]
            exact d2
        rw [hR]
        show _ = some (Out.ok (D.tup [.int (t : Int), .int (b : Int)]), st)
        rw [decide_eq_true d1] at n1
        rw [decide_eq_true d2] at n2
        generalize D.int ((t : Int) * (t : Int)) = y1 at *
        generalize D.int ((b : Int) * (b : Int)) = y2 at *
        generalize D.int (t : Int) = y3 at *
        generalize D.int (b : Int) = y4 at *
        generalize q x = y at *
        generalize D.int x.num = y5 at *
        generalize D.int (x.den : Int) = y6 at *
        unfold F_root b_root
        simp [fnOf_ap, env0, fnRes, sSeq_ap, sIf_ap, sRet_ap, sSet_ap, sExp_ap, sPar_ap, sRaise_ap, bndS_ap, bnd_ap, ret_ap, lift_ap, liftS_ap, s1_ap, s2_ap, sVar_ap, sC_ap, sCons_ap, sNil_ap, sTup_ap, sLst_ap, sLstM_ap, sCall_ap, sIx_ap, sBs_ap, sTest_ap, sTru_ap, tNotI_ap, tOrI_ap, tAndI_ap, sNotV_ap, sAndV_ap, sOrV_ap, go_ap, sNop_ap, ite_ap, isB_bl, truth_bl, trimS_self, small_lt, IF, i0, i1, lt, T, B, M1, M2, n1, n2]
      · have hno : rtD x = .non := rtD_no fun r h0 h => by
          have hp := (sq_parts r).2
          rw [h] at hp
          rw [hp] at c1 c2 d2
          have l1 : b ≤ r.den := by
            rcases Nat.lt_or_ge r.den b with h | h
            · have := Nat.mul_lt_mul'' h h; omega
            · exact h
          have l2 : r.den ≤ b := by
            rcases Nat.lt_or_ge b r.den with h | h
            · have := Nat.mul_le_mul (Nat.succ_le_of_lt h) (Nat.succ_le_of_lt h)
              simp only [Nat.succ_eq_add_one] at this
              omega
            · exact h
          exact d2 (by rw [Nat.le_antisymm l1 l2])
        rw [hno]
        rw [decide_eq_true d1] at n1
        rw [decide_eq_false d2] at n2
        generalize D.int ((t : Int) * (t : Int)) = y1 at *
        generalize D.int ((b : Int) * (b : Int)) = y2 at *
        generalize D.int (t : Int) = y3 at *
        generalize D.int (b : Int) = y4 at *
        generalize q x = y at *
        generalize D.int x.num = y5 at *
        generalize D.int (x.den : Int) = y6 at *
        unfold F_root b_root
        simp [fnOf_ap, env0, fnRes, sSeq_ap, sIf_ap, sRet_ap, sSet_ap, sExp_ap, sPar_ap, sRaise_ap, bndS_ap, bnd_ap, ret_ap, lift_ap, liftS_ap, s1_ap, s2_ap, sVar_ap, sC_ap, sCons_ap, sNil_ap, sTup_ap, sLst_ap, sLstM_ap, sCall_ap, sIx_ap, sBs_ap, sTest_ap, sTru_ap, tNotI_ap, tOrI_ap, tAndI_ap, sNotV_ap, sAndV_ap, sOrV_ap, go_ap, sNop_ap, ite_ap, isB_bl, truth_bl, trimS_self, small_lt, IF, i0, i1, lt, T, B, M1, M2, n1, n2]
    · have hno : rtD x = .non := rtD_no fun r h0 h => by
        have hp := (sq_parts r).1
        rw [h] at hp
        have hp2 : x.num.natAbs = r.num.natAbs * r.num.natAbs := by rw [hp, Int.natAbs_mul]
        rw [hp2] at t1 t2 d1
        have l1 : t ≤ r.num.natAbs := by
          rcases Nat.lt_or_ge r.num.natAbs t with h | h
          · have := Nat.mul_lt_mul'' h h; omega
          · exact h
        have l2 : r.num.natAbs ≤ t := by
          rcases Nat.lt_or_ge t r.num.natAbs with h | h
          · have := Nat.mul_le_mul (Nat.succ_le_of_lt h) (Nat.succ_le_of_lt h)
            simp only [Nat.succ_eq_add_one] at this
            omega
          · exact h
        exact d1 (by rw [Nat.le_antisymm l1 l2])
      rw [hno]
      rw [decide_eq_false d1] at n1
      generalize D.int ((t : Int) * (t : Int)) = y1 at *
      generalize D.int ((b : Int) * (b : Int)) = y2 at *
      generalize D.int (t : Int) = y3 at *
      generalize D.int (b : Int) = y4 at *
      generalize q x = y at *
      generalize D.int x.num = y5 at *
      generalize D.int (x.den : Int) = y6 at *
      unfold F_root b_root
      simp [fnOf_ap, env0, fnRes, sSeq_ap, sIf_ap, sRet_ap, sSet_ap, sExp_ap, sPar_ap, sRaise_ap, bndS_ap, bnd_ap, ret_ap, lift_ap, liftS_ap, s1_ap, s2_ap, sVar_ap, sC_ap, sCons_ap, sNil_ap, sTup_ap, sLst_ap, sLstM_ap, sCall_ap, sIx_ap, sBs_ap, sTest_ap, sTru_ap, tNotI_ap, tOrI_ap, tAndI_ap, sNotV_ap, sAndV_ap, sOrV_ap, go_ap, sNop_ap, ite_ap, isB_bl, truth_bl, trimS_self, small_lt, IF, i0, i1, lt, T, B, M1, M2, n1]
end
end Law
set_option Elab.async false
set_option linter.all false
set_option maxRecDepth 100000
set_option maxHeartbeats 4000000
set_option exponentiation.threshold 100000
namespace Law
open PySem PySem.Spec PyProof.Rows L2 I2 PySem.NumText
noncomputable abbrev sq0 : Sms := (sSet 1 (sBs (fun _ => oStr) (sCons (sVar 0) sNil)))
noncomputable abbrev sq1 : Sms := (sSet 1 (s2 oAdd (s2 oMulT (sC (.str "0")) (s2 oMod (sBs oLen (sCons (sVar 1) sNil)) (sC (.int 2)))) (sVar 1)))
noncomputable abbrev sq2 : Sms := (sAsg (bTup [3, 4]) (sTup (sCons (sC (.int 0)) (sCons (sC (.int 0)) sNil))))
noncomputable abbrev sqb0 : Sms := (sSet 4 (s2 oAdd (s2 oMul (sC (.int 100)) (sVar 4)) (sBs (fun _ => oIntT) (sCons (sSlS (sVar 1) (sPart (sVar 2)) (sPart (s2 oAdd (sVar 2) (sC (.int 2))))) sNil))))
noncomputable abbrev sqT : Smt := (sTest (s2 oLe (s2 oMul (s2 oAdd (s2 oMul (sC (.int 20)) (sVar 3)) (sVar 6)) (sVar 6)) (sVar 4)))
noncomputable abbrev sqC : Sm := (sCompR2 (Tgt.name 6) (sCons (sC (.int 1)) (sCons (sC (.int 10)) sNil)) sqT (sVar 6) [6])
noncomputable abbrev sqb1 : Sms := (sSet 5 (sBs oLen (sCons sqC sNil)))
noncomputable abbrev sqb2 : Sms := (sSet 4 (s2 oSub (sVar 4) (s2 oMul (s2 oAdd (s2 oMul (sC (.int 20)) (sVar 3)) (sVar 5)) (sVar 5))))
noncomputable abbrev sqb3 : Sms := (sSet 3 (s2 oAdd (s2 oMul (sC (.int 10)) (sVar 3)) (sVar 5)))
noncomputable abbrev sqB : Sms := (sSeq sqb0 (sSeq sqb1 (sSeq sqb2 sqb3)))
noncomputable abbrev sq3 : Sms := (sForR3 (bName 2) (sCons (sC (.int 0)) (sCons (sBs oLen (sCons (sVar 1) sNil)) (sCons (sC (.int 2)) sNil))) sqB)
noncomputable abbrev sq4 : Sms := (sRet (I2.sIx (sLst (sCons (sC .non) (sCons (sVar 3) sNil))) (sBs (fun _ => oIntT) (sCons (s2 oEq (sVar 4) (sC (.int 0))) sNil))))
theorem b_l_square_of_is : b_l_square_of = (sSeq sq0 (sSeq sq1 (sSeq sq2 (sSeq sq3 sq4)))) := rfl
theorem fig_ex (P : Nat → Bool) (mono : ∀ d e, 1 ≤ d → d ≤ e → P e = true → P d = true) : ∃ m, m ≤ 9 ∧ (([1, 2, 3, 4, 5, 6, 7, 8, 9] : List Nat).filter P).length = m ∧ (1 ≤ m → P m = true) ∧ (m < 9 → P (m + 1) = false) := by
  have key : ∀ m, m ≤ 9 → (1 ≤ m → P m = true) → (m < 9 → P (m + 1) = false) → (([1, 2, 3, 4, 5, 6, 7, 8, 9] : List Nat).filter P).length = m := fun m hm h1 h2 => by
    have e : ([1, 2, 3, 4, 5, 6, 7, 8, 9] : List Nat).filter P = ([1, 2, 3, 4, 5, 6, 7, 8, 9] : List Nat).filter (fun d => decide (d ≤ m)) := by
      refine List.filter_congr fun d hd => ?_
      have d9 : 1 ≤ d ∧ d ≤ 9 := by simp at hd; omega
      by_cases c : d ≤ m
      · rw [decide_eq_true c]; exact mono d m d9.1 c (h1 (by omega))
      · rw [decide_eq_false c]
        cases hp : P d with
        | false => rfl
        | true =>
          have := mono (m + 1) d (by omega) (by omega) hp
          rw [h2 (by omega)] at this
          cases this
    rw [e]
    have : m = 0 ∨ m = 1 ∨ m = 2 ∨ m = 3 ∨ m = 4 ∨ m = 5 ∨ m = 6 ∨ m = 7 ∨ m = 8 ∨ m = 9 := by omega
    rcases this with rfl | rfl | rfl | rfl | rfl | rfl | rfl | rfl | rfl | rfl <;> decide
  have down : ∀ k, k ≤ 9 → (k < 9 → P (k + 1) = false) → ∃ m, m ≤ 9 ∧ (1 ≤ m → P m = true) ∧ (m < 9 → P (m + 1) = false) := fun k => by
    induction k with
    | zero => exact fun _ h => ⟨0, by omega, fun h => by omega, h⟩
    | succ k ih =>
      intro hk h
      cases hp : P (k + 1) with
      | true => exact ⟨k + 1, hk, fun _ => hp, h⟩
      | false => exact ih (by omega) fun _ => hp
  obtain ⟨m, h0, h1, h2⟩ := down 9 (by omega) (fun h => by omega)
  exact ⟨m, h0, key m h0 h1 h2, h1, h2⟩
theorem compL_fil {α : Type} {env : DEnv} {st : Sto} {bd : Bd} {t : Smt} {h : Sm} (dd : α → D) (ff : α → D) (P : α → Bool) : ∀ (xs : List α), (∀ x ∈ xs, ∃ env1, bd (dd x) env = some env1 ∧ t env1 st = some (.ok (P x), st) ∧ h env1 st = some (.ok (ff x), st)) → compL bd t h env (xs.map dd) st = some ((xs.filter P).map ff, st)
  | [], _ => rfl
  | x :: xs, H => by
    obtain ⟨env1, h1, h2, h3⟩ := H x (by simp)
    have ih := compL_fil (bd := bd) (t := t) (h := h) dd ff P xs fun y hy => H y (by simp [hy])
    rw [List.map_cons]
    cases hP : P x with
    | true =>
      rw [hP] at h2
      rw [List.filter_cons_of_pos hP, List.map_cons]
      simp only [compL, h1, h2, h3, ih, Option.map_some]
    | false =>
      rw [hP] at h2
      rw [List.filter_cons_of_neg (by simp [hP])]
      simp only [compL, h1, h2, ih]
abbrev nD (n : Nat) : D := .int (n : Int)
theorem oMul_n {a b : Nat} (h : a < 2 ^ 64 ∨ b < 2 ^ 64) : oMul (nD a) (nD b) = some (nD (a * b)) := by
  rcases h with h | h
  · rw [oMul_l (by rw [Int.natAbs_natCast]; exact h), ← Int.natCast_mul]
  · rw [oMul_r (by rw [Int.natAbs_natCast]; exact h), ← Int.natCast_mul]
theorem oAdd_n {a b : Nat} : oAdd (nD a) (nD b) = some (nD (a + b)) := by
  show some (D.int ((a : Int) + (b : Int))) = _
  rw [← Int.natCast_add]
theorem oSub_n {a b : Nat} (h : b ≤ a) : oSub (nD a) (nD b) = some (nD (a - b)) := by
  show some (D.int ((a : Int) - (b : Int))) = _
  rw [← Int.ofNat_sub h]
theorem oLe_n {a b : Nat} : oLe (nD a) (nD b) = some (.bl (decide (a ≤ b))) := by
  show some (D.bl (decide ((a : Int) ≤ (b : Int)))) = _
  congr 2
  rw [decide_eq_decide]
  omega
theorem oEq_n0 {a : Nat} : oEq (nD a) (.int 0) = some (.bl (decide (a = 0))) := by
  rw [oEq_int]
  congr 2
  rw [decide_eq_decide]
  omega
theorem rng9 : rngOf2 [.int 1, .int 10] = some (([1, 2, 3, 4, 5, 6, 7, 8, 9] : List Nat).map nD) := rfl
theorem dig2_of {a b : Nat} : digitsVal [a, b] = 10 * (a - 48) + (b - 48) := by
  show (0 * 10 + (a - 48)) * 10 + (b - 48) = _
  omega
section
variable {st : Sto}
theorem fig_comp {x0 x1 x2 z5 z6 : Option D} {r l : Nat} : ∃ ys : List D, sqC [x0, x1, x2, some (nD r), some (nD l), z5, z6] st = some (.ok (.lst ys), st) ∧ ys.length = (([1, 2, 3, 4, 5, 6, 7, 8, 9] : List Nat).filter fun d => decide ((20 * r + d) * d ≤ l)).length := by
  have C := compL_fil (env := [x0, x1, x2, some (nD r), some (nD l), z5, none]) (st := st) (bd := (Tgt.name 6).bd) (t := sqT) (h := sVar 6) nD nD (fun d => decide ((20 * r + d) * d ≤ l)) [1, 2, 3, 4, 5, 6, 7, 8, 9] (fun d hd => by
    have d9 : d < 2 ^ 64 := by simp at hd; omega
    refine ⟨[x0, x1, x2, some (nD r), some (nD l), z5, some (nD d)], rfl, ?_, rfl⟩
    have e1 : oMul (.int 20) (nD r) = some (nD (20 * r)) := oMul_n (a := 20) (.inl (by decide))
    have e2 := oAdd_n (a := 20 * r) (b := d)
    have e3 := oMul_n (a := 20 * r + d) (b := d) (.inr d9)
    have e4 := oLe_n (a := (20 * r + d) * d) (b := l)
    generalize (20 * r + d) * d = y1 at *
    generalize 20 * r + d = y2 at *
    generalize 20 * r = y3 at *
    generalize decide (y1 ≤ l) = bb at *
    unfold nD at *
    generalize D.int (y1 : Int) = w1 at *
    generalize D.int (y2 : Int) = w2 at *
    generalize D.int (y3 : Int) = w3 at *
    generalize D.int (d : Int) = w4 at *
    generalize D.int (l : Int) = w5 at *
    generalize D.int (r : Int) = w6 at *
    simp [fnOf_ap, env0, fnRes, sSeq_ap, sIf_ap, sRet_ap, sSet_ap, sExp_ap, sPar_ap, sRaise_ap, bndS_ap, bnd_ap, ret_ap, lift_ap, liftS_ap, s1_ap, s2_ap, sVar_ap, sC_ap, sCons_ap, sNil_ap, sTup_ap, sLst_ap, sLstM_ap, sCall_ap, sIx_ap, sBs_ap, sTest_ap, sTru_ap, tNotI_ap, tOrI_ap, tAndI_ap, sNotV_ap, sAndV_ap, sOrV_ap, go_ap, sNop_ap, ite_ap, isB_bl, truth_bl, trimS_self, small_lt, e1, e2, e3, e4])
  generalize hys : (([1, 2, 3, 4, 5, 6, 7, 8, 9] : List Nat).filter fun d => decide ((20 * r + d) * d ≤ l)) = fs at *
  refine ⟨fs.map nD, ?_, by simp⟩
  have S : small (fs.map nD) = true := small_lt (by
    have h2 : fs.length ≤ 9 := by rw [← hys]; exact List.length_filter_le ..
    rw [List.length_map]
    omega)
  show sCompR2 _ _ _ _ _ _ _ = _
  rw [sCompR2_ap]
  have A : sCons (sC (.int 1)) (sCons (sC (.int 10)) sNil) [x0, x1, x2, some (nD r), some (nD l), z5, z6] st = some (.ok [.int 1, .int 10], st) := rfl
  simp only [bnd_ap, A, lift_ap, rng9, Option.map_some]
  rw [compR_ap]
  have W : wipeD [x0, x1, x2, some (nD r), some (nD l), z5, z6] [6] = [x0, x1, x2, some (nD r), some (nD l), z5, none] := rfl
  rw [W, C]
  simp only [S, if_true]
theorem cut2 {z : Str} {A R : List Nat} {x y : Nat} (h : z.cps.toList = A ++ x :: y :: R) : (cutS z (some ((A.length : Nat) : Int)) (some ((A.length + 2 : Nat) : Int))).cps.toList = [x, y] := by
  have hl : z.length = A.length + (R.length + 2) := by
    have : z.cps.toList.length = z.length := Array.length_toList
    rw [← this, h, List.length_append]
    rfl
  show (((z.cps.toList.drop (HT.sIx z.length 0 (some ((A.length : Nat) : Int)))).take (HT.sIx z.length z.length (some ((A.length + 2 : Nat) : Int)) - HT.sIx z.length 0 (some ((A.length : Nat) : Int)))).toArray).toList = _
  rw [HT.sIx_nat, HT.sIx_nat, Nat.min_eq_left (by omega), Nat.min_eq_left (by omega), h]
  have e : A.length + 2 - A.length = 2 := by omega
  rw [e, List.drop_left]
  rfl
theorem sq_step {z : Str} {A R : List Nat} {x y r : Nat} {x0 z5 z6 : Option D} (hz : z.cps.toList = A ++ x :: y :: R) (hl : z.length ≤ 640) (hd : AllDigits (A ++ x :: y :: R)) (h1 : r * r ≤ digitsVal A) (h2 : digitsVal A < (r + 1) * (r + 1)) :
    ∃ (f r' : Nat), sqB [x0, some (.str z), some (nD A.length), some (nD r), some (nD (digitsVal A - r * r)), z5, z6] st = some (.nx, [x0, some (.str z), some (nD A.length), some (nD r'), some (nD (digitsVal (A ++ [x, y]) - r' * r')), some (nD f), z6], st) ∧ r' * r' ≤ digitsVal (A ++ [x, y]) ∧ digitsVal (A ++ [x, y]) < (r' + 1) * (r' + 1) := by
  have hx := hd x (by simp)
  have hy := hd y (by simp)
  have ev2 : digitsVal (A ++ [x, y]) = 100 * digitsVal A + (10 * (x - 48) + (y - 48)) := by
    have : A ++ [x, y] = (A ++ [x]) ++ [y] := by simp
    rw [this, digitsVal_snoc, digitsVal_snoc]
    omega
  have c := cut2 hz
  generalize hcc : cutS z (some ((A.length : Nat) : Int)) (some ((A.length + 2 : Nat) : Int)) = cc at *
  have cl : cc.length = 2 := by
    have : cc.cps.toList.length = cc.length := Array.length_toList
    rw [← this, c]; rfl
  have T := intText_digits (x := cc) (by rw [c]; intro k hk; simp at hk; rcases hk with rfl | rfl <;> assumption) (by rw [c]; simp) (by omega)
  rw [c, dig2_of] at T
  have I : oIntT [.str cc] = some (nD (10 * (x - 48) + (y - 48))) := by
    show (if cc.length ≤ 640 then (intText? cc).map D.int else none) = _
    rw [if_pos (by omega), T]
    rfl
  have Sl : oSlS (some ((A.length : Nat) : Int)) (some ((A.length : Nat) + 2 : Int)) (.str z) = some (.str cc) := by
    have e : ((A.length : Nat) : Int) + 2 = ((A.length + 2 : Nat) : Int) := by omega
    rw [e]
    show (if decide (z.length ≤ sizeLine) then some (D.str (cutS z (some ((A.length : Nat) : Int)) (some ((A.length + 2 : Nat) : Int)))) else none) = _
    rw [decide_eq_true (by have : 640 ≤ sizeLine := by decide
                           omega), hcc]
    rfl
  have pp : 10 * (x - 48) + (y - 48) < 100 := by omega
  generalize 10 * (x - 48) + (y - 48) = p at *
  generalize digitsVal (A ++ [x, y]) = v' at *
  generalize digitsVal A = v at *
  subst ev2
  obtain ⟨ys, C, Cl⟩ := fig_comp (st := st) (x0 := x0) (x1 := some (.str z)) (x2 := some (nD A.length)) (z5 := z5) (z6 := z6) (r := r) (l := 100 * (v - r * r) + p)
  obtain ⟨m, m9, fm, mp, mn⟩ := fig_ex (fun d => decide ((20 * r + d) * d ≤ 100 * (v - r * r) + p)) (fun d e _ hde h => by
    have h := of_decide_eq_true h
    exact decide_eq_true (Nat.le_trans (Nat.mul_le_mul (by omega) hde) h))
  rw [fm] at Cl
  have sq : ∀ d : Nat, (10 * r + d) * (10 * r + d) = 100 * (r * r) + (20 * r + d) * d := fun d => by grind
  have q1 : (r + 1) * (r + 1) = r * r + (2 * r + 1) := by grind
  have fit : (20 * r + m) * m ≤ 100 * (v - r * r) + p := by
    rcases Nat.eq_zero_or_pos m with e | e
    · rw [e]; omega
    · exact of_decide_eq_true (mp e)
  have lo : (10 * r + m) * (10 * r + m) ≤ 100 * v + p := by rw [sq]; omega
  have hi : 100 * v + p < (10 * r + m + 1) * (10 * r + m + 1) := by
    rcases Nat.lt_or_ge m 9 with c9 | c9
    · have := of_decide_eq_false (mn c9)
      have e := sq (m + 1)
      have e2 : 10 * r + (m + 1) = 10 * r + m + 1 := by omega
      rw [e2] at e
      rw [e]
      omega
    · have em : m = 9 := by omega
      subst em
      have e : (10 * r + 9 + 1) * (10 * r + 9 + 1) = 100 * ((r + 1) * (r + 1)) := by grind
      rw [e]
      omega
  refine ⟨m, 10 * r + m, ?_, lo, hi⟩
  have el : 100 * (v - r * r) + p - (20 * r + m) * m = 100 * v + p - (10 * r + m) * (10 * r + m) := by
    rw [sq]; omega
  have e1 : oMul (.int 100) (nD (v - r * r)) = some (nD (100 * (v - r * r))) := oMul_n (a := 100) (.inl (by decide))
  have e2 := oAdd_n (a := 100 * (v - r * r)) (b := p)
  have e3 : oMul (.int 20) (nD r) = some (nD (20 * r)) := oMul_n (a := 20) (.inl (by decide))
  have e4 := oAdd_n (a := 20 * r) (b := m)
  have m64 : m < 2 ^ 64 := by omega
  have e5 := oMul_n (a := 20 * r + m) (b := m) (.inr m64)
  have e6 := oSub_n fit
  rw [el] at e6
  have e7 : oMul (.int 10) (nD r) = some (nD (10 * r)) := oMul_n (a := 10) (.inl (by decide))
  have e8 := oAdd_n (a := 10 * r) (b := m)
  have e9 : oLen st [.lst ys] = some (nD m) := by
    show some (D.int ((ys.length : Nat) : Int)) = _
    rw [Cl]
  have ia : oAdd (nD A.length) (.int 2) = some (.int ((A.length : Nat) + 2 : Int)) := rfl
  have E0 : sqb0 [x0, some (.str z), some (nD A.length), some (nD r), some (nD (v - r * r)), z5, z6] st = some (.nx, [x0, some (.str z), some (nD A.length), some (nD r), some (nD (100 * (v - r * r) + p)), z5, z6], st) := by
    have S1 : sSlS (sVar 1) (sPart (sVar 2)) (sPart (s2 oAdd (sVar 2) (sC (.int 2)))) [x0, some (.str z), some (nD A.length), some (nD r), some (nD (v - r * r)), z5, z6] st = some (.ok (.str cc), st) := by
      unfold sSlS
      have p1 : sPart (sVar 2) [x0, some (.str z), some (nD A.length), some (nD r), some (nD (v - r * r)), z5, z6] st = some (.ok (some ((A.length : Nat) : Int)), st) := rfl
      have p2 : sPart (s2 oAdd (sVar 2) (sC (.int 2))) [x0, some (.str z), some (nD A.length), some (nD r), some (nD (v - r * r)), z5, z6] st = some (.ok (some ((A.length : Nat) + 2 : Int)), st) := rfl
      have p0 : sVar 1 [x0, some (.str z), some (nD A.length), some (nD r), some (nD (v - r * r)), z5, z6] st = some (.ok (.str z), st) := rfl
      simp only [bnd_ap, p0, p1, p2, lift_ap, Sl, Option.map_some]
    generalize nD (100 * (v - r * r) + p) = w1 at *
    generalize nD (100 * (v - r * r)) = w2 at *
    generalize nD p = w3 at *
    generalize nD (v - r * r) = w4 at *
    generalize nD r = w5 at *
    generalize nD A.length = w6 at *
    simp [fnOf_ap, env0, fnRes, sSeq_ap, sIf_ap, sRet_ap, sSet_ap, sExp_ap, sPar_ap, sRaise_ap, bndS_ap, bnd_ap, ret_ap, lift_ap, liftS_ap, s1_ap, s2_ap, sVar_ap, sC_ap, sCons_ap, sNil_ap, sTup_ap, sLst_ap, sLstM_ap, sCall_ap, sIx_ap, sBs_ap, sTest_ap, sTru_ap, tNotI_ap, tOrI_ap, tAndI_ap, sNotV_ap, sAndV_ap, sOrV_ap, go_ap, sNop_ap, ite_ap, isB_bl, truth_bl, trimS_self, small_lt, S1, e1, e2, I]
  have E1 : sqb1 [x0, some (.str z), some (nD A.length), some (nD r), some (nD (100 * (v - r * r) + p)), z5, z6] st = some (.nx, [x0, some (.str z), some (nD A.length), some (nD r), some (nD (100 * (v - r * r) + p)), some (nD m), z6], st) := by
    generalize nD (100 * (v - r * r) + p) = w1 at *
    generalize nD m = w2 at *
    generalize nD r = w5 at *
    generalize nD A.length = w6 at *
    simp [fnOf_ap, env0, fnRes, sSeq_ap, sIf_ap, sRet_ap, sSet_ap, sExp_ap, sPar_ap, sRaise_ap, bndS_ap, bnd_ap, ret_ap, lift_ap, liftS_ap, s1_ap, s2_ap, sVar_ap, sC_ap, sCons_ap, sNil_ap, sTup_ap, sLst_ap, sLstM_ap, sCall_ap, sIx_ap, sBs_ap, sTest_ap, sTru_ap, tNotI_ap, tOrI_ap, tAndI_ap, sNotV_ap, sAndV_ap, sOrV_ap, go_ap, sNop_ap, ite_ap, isB_bl, truth_bl, trimS_self, small_lt, C, e9]
  have E2 : sqb2 [x0, some (.str z), some (nD A.length), some (nD r), some (nD (100 * (v - r * r) + p)), some (nD m), z6] st = some (.nx, [x0, some (.str z), some (nD A.length), some (nD r), some (nD (100 * v + p - (10 * r + m) * (10 * r + m))), some (nD m), z6], st) := by
    generalize nD (100 * v + p - (10 * r + m) * (10 * r + m)) = w0 at *
    generalize nD (100 * (v - r * r) + p) = w1 at *
    generalize nD ((20 * r + m) * m) = w2 at *
    generalize nD (20 * r + m) = w3 at *
    generalize nD (20 * r) = w4 at *
    generalize nD r = w5 at *
    generalize nD A.length = w6 at *
    generalize nD m = w7 at *
    simp [fnOf_ap, env0, fnRes, sSeq_ap, sIf_ap, sRet_ap, sSet_ap, sExp_ap, sPar_ap, sRaise_ap, bndS_ap, bnd_ap, ret_ap, lift_ap, liftS_ap, s1_ap, s2_ap, sVar_ap, sC_ap, sCons_ap, sNil_ap, sTup_ap, sLst_ap, sLstM_ap, sCall_ap, sIx_ap, sBs_ap, sTest_ap, sTru_ap, tNotI_ap, tOrI_ap, tAndI_ap, sNotV_ap, sAndV_ap, sOrV_ap, go_ap, sNop_ap, ite_ap, isB_bl, truth_bl, trimS_self, small_lt, e3, e4, e5, e6]
  have E3 : sqb3 [x0, some (.str z), some (nD A.length), some (nD r), some (nD (100 * v + p - (10 * r + m) * (10 * r + m))), some (nD m), z6] st = some (.nx, [x0, some (.str z), some (nD A.length), some (nD (10 * r + m)), some (nD (100 * v + p - (10 * r + m) * (10 * r + m))), some (nD m), z6], st) := by
    generalize nD (100 * v + p - (10 * r + m) * (10 * r + m)) = w0 at *
    generalize nD (10 * r + m) = w1 at *
    generalize nD (10 * r) = w4 at *
    generalize nD r = w5 at *
    generalize nD A.length = w6 at *
    generalize nD m = w7 at *
    simp [fnOf_ap, env0, fnRes, sSeq_ap, sIf_ap, sRet_ap, sSet_ap, sExp_ap, sPar_ap, sRaise_ap, bndS_ap, bnd_ap, ret_ap, lift_ap, liftS_ap, s1_ap, s2_ap, sVar_ap, sC_ap, sCons_ap, sNil_ap, sTup_ap, sLst_ap, sLstM_ap, sCall_ap, sIx_ap, sBs_ap, sTest_ap, sTru_ap, tNotI_ap, tOrI_ap, tAndI_ap, sNotV_ap, sAndV_ap, sOrV_ap, go_ap, sNop_ap, ite_ap, isB_bl, truth_bl, trimS_self, small_lt, e7, e8]
  show sSeq sqb0 (sSeq sqb1 (sSeq sqb2 sqb3)) _ _ = _
  rw [seq_of E0, seq_of E1, seq_of E2, E3]
theorem sq_loop {z : Str} {x0 z6 : Option D} (hl : z.length ≤ 640) : ∀ (m : Nat) (R A : List Nat) (r : Nat) (z2 z5 : Option D), z.cps.toList = A ++ R → AllDigits (A ++ R) → R.length = 2 * m → r * r ≤ digitsVal A → digitsVal A < (r + 1) * (r + 1) →
    ∃ (r' : Nat) (y2 y5 : Option D), forL (bName 2) sqB (rngC (A.length : Nat) 2 m) [x0, some (.str z), z2, some (nD r), some (nD (digitsVal A - r * r)), z5, z6] st = some (.nx, [x0, some (.str z), y2, some (nD r'), some (nD (digitsVal (A ++ R) - r' * r')), y5, z6], st) ∧ r' * r' ≤ digitsVal (A ++ R) ∧ digitsVal (A ++ R) < (r' + 1) * (r' + 1)
  | 0, R, A, r, z2, z5, hz, hd, hR, h1, h2 => by
    have : R = [] := List.eq_nil_of_length_eq_zero (by omega)
    subst this
    rw [List.append_nil]
    exact ⟨r, z2, z5, rfl, h1, h2⟩
  | m + 1, R, A, r, z2, z5, hz, hd, hR, h1, h2 => by
    match R, hR with
    | x :: y :: R, hR =>
      have e : A ++ x :: y :: R = (A ++ [x, y]) ++ R := by simp
      obtain ⟨f, r1, S, l1, l2⟩ := sq_step (st := st) (x0 := x0) (z5 := z5) (z6 := z6) hz hl hd h1 h2
      simp only [List.length_cons] at hR
      rw [e] at hz hd
      obtain ⟨r', y2, y5, F, k1, k2⟩ := sq_loop hl m R (A ++ [x, y]) r1 (some (nD A.length)) (some (nD f)) hz hd (by omega) l1 l2
      rw [e]
      refine ⟨r', y2, y5, ?_, k1, k2⟩
      show forL (bName 2) sqB (nD A.length :: rngC ((A.length : Nat) + 2 : Int) 2 m) _ _ = _
      rw [forL_cons (env1 := [x0, some (.str z), some (nD A.length), some (nD r), some (nD (digitsVal A - r * r)), z5, z6]) rfl S]
      have el : ((A ++ [x, y]).length : Int) = (A.length : Int) + 2 := by simp
      rw [el] at F
      exact F
def dgs (n : Nat) : List Nat := (Nat.toDigits 10 n).map Char.toNat
theorem dgs_all (n : Nat) : AllDigits (dgs n) := fun c hc => by
  obtain ⟨ch, hch, e⟩ := List.mem_map.mp hc
  have r := digit_range (Nat.isDigit_of_mem_toDigits (by decide) (by decide) hch)
  rw [← e]
  exact r
theorem dgs_len {n : Nat} (h : n < 2 ^ 600) : (dgs n).length ≤ 600 := by
  have := nat_repr_length_le (k := 600) (by decide) h
  have e : (Nat.repr n).length = (dgs n).length := by
    rw [← String.length_toList, Nat.toList_repr]
    unfold dgs
    rw [List.length_map]
  omega
theorem range_two {L : Nat} (h : L ≤ 1000) (m : Nat) (e : L = 2 * m) : rngOf3 [.int 0, nD L, .int 2] = some (rngC 0 2 m) := by
  have sz : Builtin.Range.rangeSize 0 (L : Int) 2 = (m : Int) := by
    unfold Builtin.Range.rangeSize
    simp only [show (2 : Int) > 0 by decide, if_true]
    split <;> omega
  have sm : Builtin.Range.small 0 (L : Int) 2 = true := by
    have fl : ∀ i : Int, 0 ≤ i → i ≤ 2000 → Builtin.Range.rangeFitsLong i = true := fun i h0 h1 => by
      unfold Builtin.Range.rangeFitsLong
      rw [Bool.and_eq_true]
      exact ⟨decide_eq_true (by omega), decide_eq_true (by omega)⟩
    unfold Builtin.Range.small
    rw [sz, fl 0 (by omega) (by omega), fl L (by omega) (by omega), fl 2 (by omega) (by omega), fl m (by omega) (by omega), if_pos (by decide), fl _ (by omega) (by omega)]
    simp
  show (if ((2 : Int) ≠ 0 ∧ (2 : Int).natAbs < 1073741824) ∧ (Builtin.Range.small 0 (L : Int) 2 = true ∧ 0 ≤ Builtin.Range.rangeSize 0 (L : Int) 2) then some (rngC 0 2 (Builtin.Range.rangeSize 0 (L : Int) 2).toNat) else none) = _
  rw [if_pos ⟨⟨by decide, by decide⟩, sm, by rw [sz]; omega⟩, sz, Int.toNat_natCast]
theorem square_eq {n : Nat} (h : n < 2 ^ 600) : ∃ r : Nat, F_l_square_of [nD n] st = some (.ok (if r * r = n then nD r else .non), st) ∧ r * r ≤ n ∧ n < (r + 1) * (r + 1) := by
  have hlog : (n : Int).natAbs.log2 < 1920 := by
    rw [Int.natAbs_natCast]
    rcases Nat.eq_zero_or_pos n with e | e
    · subst e; decide
    · exact (Nat.log2_lt (by omega)).mpr (Nat.lt_of_lt_of_le h (Nat.pow_le_pow_right (by omega) (by omega)))
  have W : ∃ w : Str, oStr [nD n] = some (.str w) ∧ w.cps.toList = dgs n := by
    refine ⟨Str.ofString (toString (n : Int)), ?_, PySem.W.KIN.signs_num n⟩
    show (if (n : Int).natAbs.log2 < 1920 then some (D.str (toString (n : Int))) else none) = _
    rw [if_pos hlog]
  obtain ⟨w, Hw, wl⟩ := W
  have wlen : w.length = (dgs n).length := by
    have : w.cps.toList.length = w.length := Array.length_toList
    rw [← this, wl]
  have l6 := dgs_len h
  have P : ∃ (u z : Str) (k m : Nat), oMod (nD w.length) (.int 2) = some (nD k) ∧ oMulT (.str "0") (nD k) = some (.str u) ∧ oAdd (.str u) (.str w) = some (.str z) ∧ AllDigits z.cps.toList ∧ digitsVal z.cps.toList = n ∧ z.length = 2 * m ∧ z.length ≤ 640 := by
    have md : oMod (nD w.length) (.int 2) = some (nD (w.length % 2)) := by
      show (if (2 : Int) = 0 then none else some (D.int (Int.fmod (w.length : Int) 2))) = _
      rw [if_neg (by decide), Int.fmod_eq_emod_of_nonneg _ (by decide)]
      rfl
    have sl : 640 ≤ sizeLine := by decide
    have va : digitsVal (dgs n) = n := PySem.W.KIN.val_back n
    rcases Nat.mod_two_eq_zero_or_one w.length with e | e
    · rw [e] at md
      refine ⟨Str.empty, w, 0, w.length / 2, md, rfl, ?_, ?_, ?_, by omega, by omega⟩
      · show (if Str.empty.length + w.length ≤ sizeLine then some (D.str (Str.empty ++ w)) else none) = _
        have e0 : Str.empty.length = 0 := rfl
        rw [if_pos (by omega)]
        have : Str.empty ++ w = w := by
          show (⟨#[] ++ w.cps⟩ : Str) = w
          rw [Array.empty_append]
        rw [this]
      · rw [wl]; exact dgs_all n
      · rw [wl]; exact va
    · rw [e] at md
      have e1 : ("0" : Str).length = 1 := by decide +kernel
      have e2 : (("0" : Str) ++ w).cps.toList = 48 :: dgs n := by
        show (("0" : Str).cps ++ w.cps).toList = _
        rw [Array.toList_append, wl]
        have : ("0" : Str).cps.toList = [48] := by decide +kernel
        rw [this]
        rfl
      have e3 : (("0" : Str) ++ w).length = w.length + 1 := by
        have : (("0" : Str) ++ w).cps.toList.length = (("0" : Str) ++ w).length := Array.length_toList
        rw [← this, e2, List.length_cons, wlen]
      refine ⟨"0", ("0" : Str) ++ w, 1, (w.length + 1) / 2, md, rfl, ?_, ?_, ?_, by omega, by omega⟩
      · show (if ("0" : Str).length + w.length ≤ sizeLine then some (D.str (("0" : Str) ++ w)) else none) = _
        rw [if_pos (by omega)]
      · rw [e2]
        intro c hc
        rcases List.mem_cons.mp hc with rfl | hc
        · omega
        · exact dgs_all n c hc
      · rw [e2, digitsVal_zero, va]
  obtain ⟨u, z, k, m, M1, M2, M3, hd, hv, hm, hz⟩ := P
  obtain ⟨r, y2, y5, F, k1, k2⟩ := sq_loop (st := st) (x0 := some (nD n)) (z6 := none) hz m z.cps.toList [] 0 none none rfl hd (by
    have : z.cps.toList.length = z.length := Array.length_toList
    omega) (by decide) (by decide)
  rw [List.nil_append, hv] at F k1 k2
  refine ⟨r, ?_, k1, k2⟩
  have R3 := range_two (L := z.length) (by omega) m hm
  have sl6 : 640 ≤ sizeLine := by decide
  have L1 : oLen st [.str w] = some (nD w.length) := if_pos (by omega)
  have L2' : oLen st [.str z] = some (nD z.length) := if_pos (by omega)
  have Q0 := oEq_n0 (a := n - r * r)
  have F : forL (bName 2) sqB (rngC 0 2 m) [some (nD n), some (.str z), none, some (.int 0), some (.int 0), none, none] st = some (.nx, [some (nD n), some (.str z), y2, some (nD r), some (nD (n - r * r)), y5, none], st) := F
  unfold F_l_square_of
  rw [b_l_square_of_is]
  have E0 : sq0 [some (nD n), none, none, none, none, none, none] st = some (.nx, [some (nD n), some (.str w), none, none, none, none, none], st) := by
    generalize nD n = w1 at *
    simp [fnOf_ap, env0, fnRes, sSeq_ap, sIf_ap, sRet_ap, sSet_ap, sExp_ap, sPar_ap, sRaise_ap, bndS_ap, bnd_ap, ret_ap, lift_ap, liftS_ap, s1_ap, s2_ap, sVar_ap, sC_ap, sCons_ap, sNil_ap, sTup_ap, sLst_ap, sLstM_ap, sCall_ap, sIx_ap, sBs_ap, sTest_ap, sTru_ap, tNotI_ap, tOrI_ap, tAndI_ap, sNotV_ap, sAndV_ap, sOrV_ap, go_ap, sNop_ap, ite_ap, isB_bl, truth_bl, trimS_self, small_lt, Hw]
  have E1 : sq1 [some (nD n), some (.str w), none, none, none, none, none] st = some (.nx, [some (nD n), some (.str z), none, none, none, none, none], st) := by
    generalize nD n = w1 at *
    generalize nD w.length = w2 at *
    generalize nD k = w3 at *
    simp [fnOf_ap, env0, fnRes, sSeq_ap, sIf_ap, sRet_ap, sSet_ap, sExp_ap, sPar_ap, sRaise_ap, bndS_ap, bnd_ap, ret_ap, lift_ap, liftS_ap, s1_ap, s2_ap, sVar_ap, sC_ap, sCons_ap, sNil_ap, sTup_ap, sLst_ap, sLstM_ap, sCall_ap, sIx_ap, sBs_ap, sTest_ap, sTru_ap, tNotI_ap, tOrI_ap, tAndI_ap, sNotV_ap, sAndV_ap, sOrV_ap, go_ap, sNop_ap, ite_ap, isB_bl, truth_bl, trimS_self, small_lt, L1, M1, M2, M3]
  have E2 : sq2 [some (nD n), some (.str z), none, none, none, none, none] st = some (.nx, [some (nD n), some (.str z), none, some (.int 0), some (.int 0), none, none], st) := rfl
  have E3 : sq3 [some (nD n), some (.str z), none, some (.int 0), some (.int 0), none, none] st = some (.nx, [some (nD n), some (.str z), y2, some (nD r), some (nD (n - r * r)), y5, none], st) := by
    show sForR3 _ _ _ _ _ = _
    rw [sForR3_ap]
    have A : (sCons (sC (.int 0)) (sCons (sBs oLen (sCons (sVar 1) sNil)) (sCons (sC (.int 2)) sNil))) [some (nD n), some (.str z), none, some (.int 0), some (.int 0), none, none] st = some (.ok [.int 0, nD z.length, .int 2], st) := by
      generalize nD z.length = w1 at *
      generalize nD n = w2 at *
      simp [fnOf_ap, env0, fnRes, sSeq_ap, sIf_ap, sRet_ap, sSet_ap, sExp_ap, sPar_ap, sRaise_ap, bndS_ap, bnd_ap, ret_ap, lift_ap, liftS_ap, s1_ap, s2_ap, sVar_ap, sC_ap, sCons_ap, sNil_ap, sTup_ap, sLst_ap, sLstM_ap, sCall_ap, sIx_ap, sBs_ap, sTest_ap, sTru_ap, tNotI_ap, tOrI_ap, tAndI_ap, sNotV_ap, sAndV_ap, sOrV_ap, go_ap, sNop_ap, ite_ap, isB_bl, truth_bl, trimS_self, small_lt, L2']
    simp only [bndS_ap, A, lift_ap, R3, Option.map_some]
    exact F
  have E4 : sq4 [some (nD n), some (.str z), y2, some (nD r), some (nD (n - r * r)), y5, none] st = some (.rt (if r * r = n then nD r else .non), [some (nD n), some (.str z), y2, some (nD r), some (nD (n - r * r)), y5, none], st) := by
    by_cases c : r * r = n
    · rw [if_pos c]
      have e0 : n - r * r = 0 := by omega
      rw [e0] at Q0 ⊢
      have i1 : oIntT [.bl true] = some (.int 1) := rfl
      have i2 : oIx st (.lst [.non, nD r]) (.int 1) = some (nD r) := rfl
      rw [decide_eq_true rfl] at Q0
      generalize nD r = w1 at *
      generalize nD n = w2 at *
      generalize nD 0 = w3 at *
      simp [fnOf_ap, env0, fnRes, sSeq_ap, sIf_ap, sRet_ap, sSet_ap, sExp_ap, sPar_ap, sRaise_ap, bndS_ap, bnd_ap, ret_ap, lift_ap, liftS_ap, s1_ap, s2_ap, sVar_ap, sC_ap, sCons_ap, sNil_ap, sTup_ap, sLst_ap, sLstM_ap, sCall_ap, sIx_ap, sBs_ap, sTest_ap, sTru_ap, tNotI_ap, tOrI_ap, tAndI_ap, sNotV_ap, sAndV_ap, sOrV_ap, go_ap, sNop_ap, ite_ap, isB_bl, truth_bl, trimS_self, small_lt, Q0, i1, i2]
    · rw [if_neg c]
      have e0 : n - r * r ≠ 0 := by omega
      have i1 : oIntT [.bl false] = some (.int 0) := rfl
      have i2 : oIx st (.lst [.non, nD r]) (.int 0) = some .non := rfl
      rw [decide_eq_false e0] at Q0
      generalize nD r = w1 at *
      generalize nD (n - r * r) = w3 at *
      generalize nD n = w2 at *
      simp [fnOf_ap, env0, fnRes, sSeq_ap, sIf_ap, sRet_ap, sSet_ap, sExp_ap, sPar_ap, sRaise_ap, bndS_ap, bnd_ap, ret_ap, lift_ap, liftS_ap, s1_ap, s2_ap, sVar_ap, sC_ap, sCons_ap, sNil_ap, sTup_ap, sLst_ap, sLstM_ap, sCall_ap, sIx_ap, sBs_ap, sTest_ap, sTru_ap, tNotI_ap, tOrI_ap, tAndI_ap, sNotV_ap, sAndV_ap, sOrV_ap, go_ap, sNop_ap, ite_ap, isB_bl, truth_bl, trimS_self, small_lt, Q0, i1, i2]
  show (if [nD n].length = 1 then fnRes st.length (sSeq sq0 (sSeq sq1 (sSeq sq2 (sSeq sq3 sq4))) [some (nD n), none, none, none, none, none, none] st) else none) = _
  rw [if_pos (by rfl), seq_of E0, seq_of E1, seq_of E2, seq_of E3, E4]
  simp [fnOf_ap, env0, fnRes, sSeq_ap, sIf_ap, sRet_ap, sSet_ap, sExp_ap, sPar_ap, sRaise_ap, bndS_ap, bnd_ap, ret_ap, lift_ap, liftS_ap, s1_ap, s2_ap, sVar_ap, sC_ap, sCons_ap, sNil_ap, sTup_ap, sLst_ap, sLstM_ap, sCall_ap, sIx_ap, sBs_ap, sTest_ap, sTru_ap, tNotI_ap, tOrI_ap, tAndI_ap, sNotV_ap, sAndV_ap, sOrV_ap, go_ap, sNop_ap, ite_ap, isB_bl, truth_bl, trimS_self, small_lt]
end
end Law
set_option Elab.async false
set_option linter.all false
set_option maxRecDepth 100000
set_option maxHeartbeats 4000000
set_option exponentiation.threshold 100000
namespace Law
open PySem PySem.Spec PyProof.Rows L2 I2
noncomputable abbrev rr0 (g : GX) : Sms := (sSet 1 (sC .non))
noncomputable abbrev rr1 (g : GX) : Sms := (sIf (sTest (s2 oGe (I2.sIx (sVar 0) (sC (.int 0))) (sC (.int 0)))) (sSeq (sSet 1 (sTup (sCons (sCall 1 F_l_square_of (sCons (I2.sIx (sVar 0) (sC (.int 0))) sNil)) (sCons (sCall 1 F_l_square_of (sCons (I2.sIx (sVar 0) (sC (.int 1))) sNil)) sNil)))) (sIf (sTest (s2 (oInD false) (sC .non) (sVar 1))) (sSet 1 (sC .non)) sNop)) sNop)
noncomputable abbrev rr2b0 (g : GX) : Sms := (sAsg (bTup [3, 4]) (sCall 1 (F_l_told g) (sCons (sVar 0) sNil)))
noncomputable abbrev rr2b1 (g : GX) : Sms := (sIf (tOrI (sTest (s2 oNe (sVar 3) (sC (.str "told")))) (tOrI (sTest (s2 oNe (sVar 4) (sVar 1))) (tAndI (sTest (s2 oIsNot (sVar 1) (sC .non))) (tNotI (sTru (sCall 1 F_l_is_fraction (sCons (sVar 4) sNil))))))) (sRet (sC (.bl false))) sNop)
noncomputable abbrev rr2B (g : GX) : Sms := (sSeq (rr2b0 g) (rr2b1 g))
noncomputable abbrev rr2 (g : GX) : Sms := (sForR (bName 2) (sCons (sC (.int 2)) sNil) (rr2B g))
noncomputable abbrev rr3 (g : GX) : Sms := (sRet (sOrV (s2 oIs (sVar 1) (sC .non)) (s2 oEq (sCall 2 F_l_low (sCons (s2 oMul (I2.sIx (sVar 1) (sC (.int 0))) (I2.sIx (sVar 1) (sC (.int 0)))) (sCons (s2 oMul (I2.sIx (sVar 1) (sC (.int 1))) (I2.sIx (sVar 1) (sC (.int 1)))) sNil))) (sVar 0))))
theorem b_l_right_is (g : GX) : b_l_right g = (sSeq (rr0 g) (sSeq (rr1 g) (sSeq (rr2 g) (rr3 g)))) := rfl
section
variable {a : Ad} {st : Sto} {env : DEnv}
theorem x_NoNumber_NoNumber : oIsx (gx a) "NoNumber" (.exc "NoNumber") = some (.bl true) := rfl
theorem x_NoNumber_NoCable : oIsx (gx a) "NoCable" (.exc "NoNumber") = some (.bl false) := rfl
theorem x_NoNumber_NoDrag : oIsx (gx a) "NoDrag" (.exc "NoNumber") = some (.bl false) := rfl
theorem x_NoNumber_NoLeaks : oIsx (gx a) "NoLeaks" (.exc "NoNumber") = some (.bl false) := rfl
theorem x_NoNumber_NoStretch : oIsx (gx a) "NoStretch" (.exc "NoNumber") = some (.bl false) := rfl
theorem x_NoNumber_NoWord : oIsx (gx a) "NoWord" (.exc "NoNumber") = some (.bl false) := rfl
theorem x_NoNumber_NoReading : oIsx (gx a) "NoReading" (.exc "NoNumber") = some (.bl false) := rfl
theorem x_NoNumber_NoPlace : oIsx (gx a) "NoPlace" (.exc "NoNumber") = some (.bl false) := rfl
theorem x_NoNumber_NoDay : oIsx (gx a) "NoDay" (.exc "NoNumber") = some (.bl false) := rfl
theorem x_NoNumber_NoPair : oIsx (gx a) "NoPair" (.exc "NoNumber") = some (.bl false) := rfl
theorem x_NoNumber_NoSplice : oIsx (gx a) "NoSplice" (.exc "NoNumber") = some (.bl false) := rfl
theorem x_NoNumber_NoDays : oIsx (gx a) "NoDays" (.exc "NoNumber") = some (.bl false) := rfl
theorem x_NoNumber_NoPlaces : oIsx (gx a) "NoPlaces" (.exc "NoNumber") = some (.bl false) := rfl
theorem x_NoNumber_NoLength : oIsx (gx a) "NoLength" (.exc "NoNumber") = some (.bl false) := rfl
theorem x_NoNumber_NoDeed : oIsx (gx a) "NoDeed" (.exc "NoNumber") = some (.bl false) := rfl
theorem x_NoNumber_NoBack : oIsx (gx a) "NoBack" (.exc "NoNumber") = some (.bl false) := rfl
theorem x_NoNumber_NoRow : oIsx (gx a) "NoRow" (.exc "NoNumber") = some (.bl false) := rfl
theorem x_NoNumber_NoText : oIsx (gx a) "NoText" (.exc "NoNumber") = some (.bl false) := rfl
theorem x_NoNumber_ValueError : oIsx (gx a) "ValueError" (.exc "NoNumber") = some (.bl true) := rfl
theorem at18_0 {x0 x1 x2 x3 x4 x5 x6 x7 x8 x9 x10 x11 x12 x13 x14 x15 x16 x17 : D} : L2.atI [x0, x1, x2, x3, x4, x5, x6, x7, x8, x9, x10, x11, x12, x13, x14, x15, x16, x17] 0 = some x0 := rfl
theorem sort_NoNumber : F_l_sort (gx a) [.exc "NoNumber"] st = some (.ok (.str "number"), st) := by
  unfold F_l_sort b_l_sort
  simp [fnOf_ap, env0, fnRes, sSeq_ap, sIf_ap, sRet_ap, sSet_ap, sExp_ap, sPar_ap, sRaise_ap, bndS_ap, bnd_ap, ret_ap, lift_ap, liftS_ap, s1_ap, s2_ap, sVar_ap, sC_ap, sCons_ap, sNil_ap, sTup_ap, sLst_ap, sLstM_ap, sCall_ap, sIx_ap, sBs_ap, sTest_ap, sTru_ap, tNotI_ap, tOrI_ap, tAndI_ap, sNotV_ap, sAndV_ap, sOrV_ap, go_ap, sNop_ap, ite_ap, isB_bl, truth_bl, trimS_self, small_lt, x_NoNumber_NoNumber, x_NoNumber_NoCable, x_NoNumber_NoDrag, x_NoNumber_NoLeaks, x_NoNumber_NoStretch, x_NoNumber_NoWord, x_NoNumber_NoReading, x_NoNumber_NoPlace, x_NoNumber_NoDay, x_NoNumber_NoPair, x_NoNumber_NoSplice, x_NoNumber_NoDays, x_NoNumber_NoPlaces, x_NoNumber_NoLength, x_NoNumber_NoDeed, x_NoNumber_NoBack, x_NoNumber_NoRow, x_NoNumber_NoText, x_NoNumber_ValueError, sM_ap, isL_lst, oAdd_lst, oCount, oIndex, I2.allB, oNe_int, oIx, List.findIdx?_cons, at_cons0, at18_0]
theorem sTry_ap {nl i : Nat} {u wd : Sms} {env : DEnv} : sTry nl i u wd env st = (match u env st with
  | some (.ex c, _, st') => hnd nl i wd c st'
  | r => r) := rfl
theorem hnd_NoNumber : hnd 2 1 (sRet (sTup (sCons (sCall 1 (F_l_sort (gx a)) (sCons (sVar 1) sNil)) (sCons (sC .non) sNil)))) "NoNumber" st = some (.rt (.tup [.str "number", .non]), [none, none], st) := by
  unfold hnd hndEnv
  simp [fnOf_ap, env0, fnRes, sSeq_ap, sIf_ap, sRet_ap, sSet_ap, sExp_ap, sPar_ap, sRaise_ap, bndS_ap, bnd_ap, ret_ap, lift_ap, liftS_ap, s1_ap, s2_ap, sVar_ap, sC_ap, sCons_ap, sNil_ap, sTup_ap, sLst_ap, sLstM_ap, sCall_ap, sIx_ap, sBs_ap, sTest_ap, sTru_ap, tNotI_ap, tOrI_ap, tAndI_ap, sNotV_ap, sAndV_ap, sOrV_ap, go_ap, sNop_ap, ite_ap, isB_bl, truth_bl, trimS_self, small_lt, sort_NoNumber]
theorem told_ok {d r : D} (h : F_root [d] st = some (.ok r, st)) : F_l_told (gx a) [d] st = some (.ok (.tup [.str "told", r]), st) := by
  unfold F_l_told b_l_told
  simp [fnOf_ap, env0, fnRes, sSeq_ap, sIf_ap, sRet_ap, sSet_ap, sExp_ap, sPar_ap, sRaise_ap, bndS_ap, bnd_ap, ret_ap, lift_ap, liftS_ap, s1_ap, s2_ap, sVar_ap, sC_ap, sCons_ap, sNil_ap, sTup_ap, sLst_ap, sLstM_ap, sCall_ap, sIx_ap, sBs_ap, sTest_ap, sTru_ap, tNotI_ap, tOrI_ap, tAndI_ap, sNotV_ap, sAndV_ap, sOrV_ap, go_ap, sNop_ap, ite_ap, isB_bl, truth_bl, trimS_self, small_lt, sTry_ap, h]
theorem told_no {d : D} (h : F_root [d] st = some (.ex "NoNumber", st)) : F_l_told (gx a) [d] st = some (.ok (.tup [.str "number", .non]), st) := by
  unfold F_l_told b_l_told
  simp [fnOf_ap, env0, fnRes, sSeq_ap, sIf_ap, sRet_ap, sSet_ap, sExp_ap, sPar_ap, sRaise_ap, bndS_ap, bnd_ap, ret_ap, lift_ap, liftS_ap, s1_ap, s2_ap, sVar_ap, sC_ap, sCons_ap, sNil_ap, sTup_ap, sLst_ap, sLstM_ap, sCall_ap, sIx_ap, sBs_ap, sTest_ap, sTru_ap, tNotI_ap, tOrI_ap, tAndI_ap, sNotV_ap, sAndV_ap, sOrV_ap, go_ap, sNop_ap, ite_ap, isB_bl, truth_bl, trimS_self, small_lt, sTry_ap, h, hnd_NoNumber]
theorem root_no {d : D} (hd : Pl d) (hf : isFr d = false) : F_root [d] st = some (.ex "NoNumber", st) := by
  have I := isfr_eq (st := st) hd
  rw [hf] at I
  unfold F_root b_root
  simp [fnOf_ap, env0, fnRes, sSeq_ap, sIf_ap, sRet_ap, sSet_ap, sExp_ap, sPar_ap, sRaise_ap, bndS_ap, bnd_ap, ret_ap, lift_ap, liftS_ap, s1_ap, s2_ap, sVar_ap, sC_ap, sCons_ap, sNil_ap, sTup_ap, sLst_ap, sLstM_ap, sCall_ap, sIx_ap, sBs_ap, sTest_ap, sTru_ap, tNotI_ap, tOrI_ap, tAndI_ap, sNotV_ap, sAndV_ap, sOrV_ap, go_ap, sNop_ap, ite_ap, isB_bl, truth_bl, trimS_self, small_lt, I]
theorem isq_le {r n : Nat} (h : r * r ≤ n) : r ≤ n := by
  rcases Nat.eq_zero_or_pos r with e | e
  · omega
  · exact Nat.le_trans (Nat.le_mul_of_pos_left r e) h
theorem isq_un {t r n : Nat} (h : r * r = n) (h1 : t * t ≤ n) (h2 : n < (t + 1) * (t + 1)) : t = r := by
  subst h
  rcases Nat.lt_trichotomy t r with c | c | c
  · have := Nat.mul_le_mul (Nat.succ_le_of_lt c) (Nat.succ_le_of_lt c)
    simp only [Nat.succ_eq_add_one] at this
    omega
  · exact c
  · have := Nat.mul_lt_mul'' c c; omega
theorem rt_parts {x : Rat} {t b : Nat} (h0 : 0 ≤ x.num) (t1 : t * t ≤ x.num.natAbs) (t2 : x.num.natAbs < (t + 1) * (t + 1)) (b1 : b * b ≤ x.den) (b2 : x.den < (b + 1) * (b + 1)) : rtD x = if t * t = x.num.natAbs ∧ b * b = x.den then .tup [nD t, nD b] else .non := by
  by_cases c : t * t = x.num.natAbs ∧ b * b = x.den
  · rw [if_pos c]
    obtain ⟨d1, d2⟩ := c
    have bp : b ≠ 0 := fun e => by rw [e] at d2; exact x.den_nz (by omega)
    have cop : Nat.Coprime (t : Int).natAbs b := by
      rw [Int.natAbs_natCast]
      have hr := x.reduced
      rw [← d1, ← d2] at hr
      exact Nat.Coprime.coprime_mul_right (Nat.Coprime.coprime_mul_right_right hr)
    have hR : rtD x = q ⟨(t : Int), b, bp, cop⟩ := by
      refine rtD_of (Rat.num_nonneg.mp (by show (0 : Int) ≤ (t : Int); omega)) (Rat.ext ?_ ?_)
      · rw [(sq_parts _).1]
        show (t : Int) * (t : Int) = _
        rw [← Int.natCast_mul, d1]; omega
      · rw [(sq_parts _).2]
        exact d2
    rw [hR]
  · rw [if_neg c]
    refine rtD_no fun r hr h => c ?_
    obtain ⟨p1, p2⟩ := sq_parts r
    rw [h] at p1 p2
    have hp2 : r.num.natAbs * r.num.natAbs = x.num.natAbs := by rw [p1, Int.natAbs_mul]
    have e1 := isq_un hp2 t1 t2
    have e2 := isq_un p2.symm b1 b2
    subst e1 e2
    exact ⟨hp2, p2.symm⟩
theorem in_nn {x y : Nat} : oInD false .non (.tup [nD x, nD y]) = some (.bl false) := rfl
theorem in_1 {y : D} (h : y = .non ∨ ∃ n : Nat, y = nD n) : oInD false .non (.tup [.non, y]) = some (.bl true) := by
  rcases h with rfl | ⟨n, rfl⟩ <;> rfl
theorem in_2 {x : Nat} : oInD false .non (.tup [nD x, .non]) = some (.bl true) := rfl
theorem dueV {d0 d1 : D} {t b n1 n2 : Nat} (e0 : d0 = if t * t = n1 then nD t else .non) (e1 : d1 = if b * b = n2 then nD b else .non) : (t * t = n1 ∧ b * b = n2 ∧ d0 = nD t ∧ d1 = nD b ∧ oInD false .non (.tup [d0, d1]) = some (.bl false)) ∨ (¬ (t * t = n1 ∧ b * b = n2) ∧ oInD false .non (.tup [d0, d1]) = some (.bl true)) := by
  subst e0 e1
  by_cases c1 : t * t = n1
  · rw [if_pos c1]
    by_cases c2 : b * b = n2
    · rw [if_pos c2]
      exact .inl ⟨c1, c2, rfl, rfl, in_nn⟩
    · rw [if_neg c2]
      exact .inr ⟨fun h => c2 h.2, in_2⟩
  · rw [if_neg c1]
    refine .inr ⟨fun h => c1 h.1, in_1 ?_⟩
    by_cases c2 : b * b = n2
    · rw [if_pos c2]; exact .inr ⟨b, rfl⟩
    · rw [if_neg c2]; exact .inl rfl
theorem oNe_told : oNe (.str "told") (.str "told") = some (.bl false) := by
  have h1 : SeqAt.shaped (.str "told") = true := by decide +kernel
  simp [oNe, toPy_str, h1, PyData.eqv]
structure S6 (x : Rat) : Prop where
  n : x.num.natAbs < 2 ^ 600
  d : x.den < 2 ^ 600
theorem up600 {n : Nat} (h : n < 2 ^ 600) : n < 2 ^ 4000 := Nat.lt_of_lt_of_le h (Nat.pow_le_pow_right (by omega) (by omega))
theorem S6.sz {x : Rat} (h : S6 x) : Sz x := ⟨up600 h.n, up600 h.d⟩
theorem due_step {x : Rat} (hx : S6 x) : rr1 (gx a) [some (q x), some .non, none, none, none] st = some (.nx, [some (q x), some (rtD x), none, none, none], st) := by
  have i0 : ∀ s, oIx s (q x) (.int 0) = some (.int x.num) := fun _ => rfl
  have i1 : ∀ s, oIx s (q x) (.int 1) = some (nD x.den) := fun _ => rfl
  by_cases h0 : 0 ≤ x.num
  · have ge : oGe (.int x.num) (.int 0) = some (.bl true) := by rw [oGe_i, decide_eq_true h0]
    obtain ⟨t, T, t1, t2⟩ := square_eq (st := st) hx.n
    obtain ⟨b, B, b1, b2⟩ := square_eq (st := st) hx.d
    have en : nD x.num.natAbs = .int x.num := by
      show D.int _ = _
      congr 1
      omega
    rw [en] at T
    have P := rt_parts h0 t1 t2 b1 b2
    generalize hd0 : (if t * t = x.num.natAbs then nD t else D.non) = d0 at *
    generalize hd1 : (if b * b = x.den then nD b else D.non) = d1 at *
    rcases dueV hd0.symm hd1.symm with ⟨c1, c2, e0, e1, I⟩ | ⟨c, I⟩
    · rw [if_pos ⟨c1, c2⟩] at P
      rw [P, ← e0, ← e1]
      clear P e0 e1 hd0 hd1
      generalize q x = y at *
      generalize D.int x.num = y1 at *
      generalize nD x.den = y2 at *
      simp [fnOf_ap, env0, fnRes, sSeq_ap, sIf_ap, sRet_ap, sSet_ap, sExp_ap, sPar_ap, sRaise_ap, bndS_ap, bnd_ap, ret_ap, lift_ap, liftS_ap, s1_ap, s2_ap, sVar_ap, sC_ap, sCons_ap, sNil_ap, sTup_ap, sLst_ap, sLstM_ap, sCall_ap, sIx_ap, sBs_ap, sTest_ap, sTru_ap, tNotI_ap, tOrI_ap, tAndI_ap, sNotV_ap, sAndV_ap, sOrV_ap, go_ap, sNop_ap, ite_ap, isB_bl, truth_bl, trimS_self, small_lt, i0, i1, ge, T, B, I]
    · rw [if_neg c] at P
      rw [P]
      clear P hd0 hd1
      generalize q x = y at *
      generalize D.int x.num = y1 at *
      generalize nD x.den = y2 at *
      simp [fnOf_ap, env0, fnRes, sSeq_ap, sIf_ap, sRet_ap, sSet_ap, sExp_ap, sPar_ap, sRaise_ap, bndS_ap, bnd_ap, ret_ap, lift_ap, liftS_ap, s1_ap, s2_ap, sVar_ap, sC_ap, sCons_ap, sNil_ap, sTup_ap, sLst_ap, sLstM_ap, sCall_ap, sIx_ap, sBs_ap, sTest_ap, sTru_ap, tNotI_ap, tOrI_ap, tAndI_ap, sNotV_ap, sAndV_ap, sOrV_ap, go_ap, sNop_ap, ite_ap, isB_bl, truth_bl, trimS_self, small_lt, i0, i1, ge, T, B, I]
  · have ge : oGe (.int x.num) (.int 0) = some (.bl false) := by rw [oGe_i, decide_eq_false h0]
    have hno : rtD x = .non := rtD_no fun r h0' h => by
      have hp := sq_parts r
      rw [h] at hp
      have : 0 ≤ r.num * r.num := by
        have := Rat.num_nonneg.mpr h0'
        exact Int.mul_nonneg this this
      omega
    rw [hno]
    generalize q x = y at *
    generalize D.int x.num = y1 at *
    simp [fnOf_ap, env0, fnRes, sSeq_ap, sIf_ap, sRet_ap, sSet_ap, sExp_ap, sPar_ap, sRaise_ap, bndS_ap, bnd_ap, ret_ap, lift_ap, liftS_ap, s1_ap, s2_ap, sVar_ap, sC_ap, sCons_ap, sNil_ap, sTup_ap, sLst_ap, sLstM_ap, sCall_ap, sIx_ap, sBs_ap, sTest_ap, sTru_ap, tNotI_ap, tOrI_ap, tAndI_ap, sNotV_ap, sAndV_ap, sOrV_ap, go_ap, sNop_ap, ite_ap, isB_bl, truth_bl, trimS_self, small_lt, i0, ge]
theorem isnot_q {x : Rat} : oIsNot (q x) .non = some (.bl true) := rfl
theorem isnot_nn : oIsNot .non .non = some (.bl false) := rfl
theorem is_q {x : Rat} : oIs (q x) .non = some (.bl false) := rfl
theorem is_nn : oIs .non .non = some (.bl true) := rfl
theorem ne_nn : oNe .non .non = some (.bl false) := rfl
theorem rr_turn {x : Rat} {z2 z3 z4 : Option D} (hx : S6 x) : rr2B (gx a) [some (q x), some (rtD x), z2, z3, z4] st = some (.nx, [some (q x), some (rtD x), z2, some (.str "told"), some (rtD x)], st) := by
  have R := told_ok (a := a) (root_q (st := st) hx.sz)
  have E0 : rr2b0 (gx a) [some (q x), some (rtD x), z2, z3, z4] st = some (.nx, [some (q x), some (rtD x), z2, some (.str "told"), some (rtD x)], st) := by
    generalize rtD x = d at *
    generalize q x = y at *
    show sAsg _ _ _ _ = _
    rw [sAsg_ap]
    have C : (sCall 1 (F_l_told (gx a)) (sCons (sVar 0) sNil)) [some y, some d, z2, z3, z4] st = some (.ok (.tup [.str "told", d]), st) := by simp [fnOf_ap, env0, fnRes, sSeq_ap, sIf_ap, sRet_ap, sSet_ap, sExp_ap, sPar_ap, sRaise_ap, bndS_ap, bnd_ap, ret_ap, lift_ap, liftS_ap, s1_ap, s2_ap, sVar_ap, sC_ap, sCons_ap, sNil_ap, sTup_ap, sLst_ap, sLstM_ap, sCall_ap, sIx_ap, sBs_ap, sTest_ap, sTru_ap, tNotI_ap, tOrI_ap, tAndI_ap, sNotV_ap, sAndV_ap, sOrV_ap, go_ap, sNop_ap, ite_ap, isB_bl, truth_bl, trimS_self, small_lt, R]
    simp only [bndS_ap, C]
    rfl
  have E1 : rr2b1 (gx a) [some (q x), some (rtD x), z2, some (.str "told"), some (rtD x)] st = some (.nx, [some (q x), some (rtD x), z2, some (.str "told"), some (rtD x)], st) := by
    clear E0 R
    rcases rtD_cases x with ⟨r, r0, rx, e⟩ | e
    · rw [e]
      have Z : Sz r := by
        obtain ⟨p1, p2⟩ := sq_parts r
        rw [rx] at p1 p2
        have hp2 : r.num.natAbs * r.num.natAbs = x.num.natAbs := by rw [p1, Int.natAbs_mul]
        have a1 := isq_le (Nat.le_of_eq hp2)
        have a2 := isq_le (Nat.le_of_eq p2.symm)
        have := hx.n
        have := hx.d
        exact ⟨up600 (by omega), up600 (by omega)⟩
      have N : oNe (q r) (q r) = some (.bl false) := by rw [oNe_q Z Z, decide_eq_true rfl]; rfl
      have F := lisfr_q (st := st) Z
      have I := isnot_q (x := r)
      generalize q r = d at *
      generalize q x = y at *
      simp [fnOf_ap, env0, fnRes, sSeq_ap, sIf_ap, sRet_ap, sSet_ap, sExp_ap, sPar_ap, sRaise_ap, bndS_ap, bnd_ap, ret_ap, lift_ap, liftS_ap, s1_ap, s2_ap, sVar_ap, sC_ap, sCons_ap, sNil_ap, sTup_ap, sLst_ap, sLstM_ap, sCall_ap, sIx_ap, sBs_ap, sTest_ap, sTru_ap, tNotI_ap, tOrI_ap, tAndI_ap, sNotV_ap, sAndV_ap, sOrV_ap, go_ap, sNop_ap, ite_ap, isB_bl, truth_bl, trimS_self, small_lt, oNe_told, N, I, F]
    · rw [e]
      generalize q x = y at *
      simp [fnOf_ap, env0, fnRes, sSeq_ap, sIf_ap, sRet_ap, sSet_ap, sExp_ap, sPar_ap, sRaise_ap, bndS_ap, bnd_ap, ret_ap, lift_ap, liftS_ap, s1_ap, s2_ap, sVar_ap, sC_ap, sCons_ap, sNil_ap, sTup_ap, sLst_ap, sLstM_ap, sCall_ap, sIx_ap, sBs_ap, sTest_ap, sTru_ap, tNotI_ap, tOrI_ap, tAndI_ap, sNotV_ap, sAndV_ap, sOrV_ap, go_ap, sNop_ap, ite_ap, isB_bl, truth_bl, trimS_self, small_lt, oNe_told, ne_nn, isnot_nn]
  show sSeq (rr2b0 (gx a)) (rr2b1 (gx a)) _ _ = _
  rw [seq_of E0, E1]
theorem b9_600 {n : Nat} (h : n < 2 ^ 4000) : B9 (n : Int) := Nat.lt_of_lt_of_le (by rw [Int.natAbs_natCast]; exact h) (Nat.pow_le_pow_right (by omega) (by omega))
theorem right_q {x : Rat} (hx : S6 x) : F_l_right (gx a) [q x] st = some (.ok (.bl true), st) := by
  have E0 : rr0 (gx a) [some (q x), none, none, none, none] st = some (.nx, [some (q x), some .non, none, none, none], st) := rfl
  have E1 := due_step (a := a) (st := st) hx
  have E2 : rr2 (gx a) [some (q x), some (rtD x), none, none, none] st = some (.nx, [some (q x), some (rtD x), some (.int 1), some (.str "told"), some (rtD x)], st) := by
    refine (sForR_of (ds := [.int 2]) (rs := [.int 0, .int 1]) rfl rfl).trans ?_
    rw [forL_cons (env1 := [some (q x), some (rtD x), some (.int 0), none, none]) rfl (rr_turn hx), forL_cons (env1 := [some (q x), some (rtD x), some (.int 1), some (.str "told"), some (rtD x)]) rfl (rr_turn hx)]
    rfl
  have E3 : rr3 (gx a) [some (q x), some (rtD x), some (.int 1), some (.str "told"), some (rtD x)] st = some (.rt (.bl true), [some (q x), some (rtD x), some (.int 1), some (.str "told"), some (rtD x)], st) := by
    clear E0 E1 E2
    rcases rtD_cases x with ⟨r, r0, rx, e⟩ | e
    · rw [e]
      obtain ⟨p1, p2⟩ := sq_parts r
      have hn : (r * r).num.natAbs < 2 ^ 600 := by rw [rx]; exact hx.n
      have hd : (r * r).den < 2 ^ 600 := by rw [rx]; exact hx.d
      have i0 : ∀ s, oIx s (q r) (.int 0) = some (.int r.num) := fun _ => rfl
      have i1 : ∀ s, oIx s (q r) (.int 1) = some (.int (r.den : Int)) := fun _ => rfl
      have a1 : r.num.natAbs < 2 ^ 4000 := by
        rw [p1, Int.natAbs_mul] at hn
        have := isq_le (Nat.le_refl (r.num.natAbs * r.num.natAbs))
        exact up600 (by omega)
      have a2 : (r.den : Int).natAbs < 2 ^ 4000 := by
        rw [p2] at hd
        rw [Int.natAbs_natCast]
        have := isq_le (Nat.le_refl (r.den * r.den))
        exact up600 (by omega)
      have m1 := oMul_b a1 a1
      have m2 := oMul_b a2 a2
      have ed : (r.den : Int) * (r.den : Int) = (((r * r).den : Nat) : Int) := by rw [p2, Int.natCast_mul]
      have ex : Rat.divInt (r * r).num ((r * r).den : Int) = r * r := Rat.num_divInt_den _
      have L := low_q (st := st) (t := (r * r).num) (b := ((r * r).den : Int)) (by have := (r * r).den_pos; omega) (b9_600 (up600 hd))
      rw [ex, rx] at L
      rw [ed] at m2
      rw [← p1] at m1
      rw [rx] at m1 m2
      have E : oEq (q x) (q x) = some (.bl true) := by rw [oEq_q hx.sz hx.sz, decide_eq_true rfl]
      have I := is_q (x := r)
      generalize D.int x.num = w1 at *
      generalize D.int (x.den : Int) = w2 at *
      generalize D.int r.num = w3 at *
      generalize D.int (r.den : Int) = w4 at *
      generalize q r = d at *
      generalize q x = y at *
      simp [fnOf_ap, env0, fnRes, sSeq_ap, sIf_ap, sRet_ap, sSet_ap, sExp_ap, sPar_ap, sRaise_ap, bndS_ap, bnd_ap, ret_ap, lift_ap, liftS_ap, s1_ap, s2_ap, sVar_ap, sC_ap, sCons_ap, sNil_ap, sTup_ap, sLst_ap, sLstM_ap, sCall_ap, sIx_ap, sBs_ap, sTest_ap, sTru_ap, tNotI_ap, tOrI_ap, tAndI_ap, sNotV_ap, sAndV_ap, sOrV_ap, go_ap, sNop_ap, ite_ap, isB_bl, truth_bl, trimS_self, small_lt, I, i0, i1, m1, m2, L, E]
    · rw [e]
      generalize q x = y at *
      simp [fnOf_ap, env0, fnRes, sSeq_ap, sIf_ap, sRet_ap, sSet_ap, sExp_ap, sPar_ap, sRaise_ap, bndS_ap, bnd_ap, ret_ap, lift_ap, liftS_ap, s1_ap, s2_ap, sVar_ap, sC_ap, sCons_ap, sNil_ap, sTup_ap, sLst_ap, sLstM_ap, sCall_ap, sIx_ap, sBs_ap, sTest_ap, sTru_ap, tNotI_ap, tOrI_ap, tAndI_ap, sNotV_ap, sAndV_ap, sOrV_ap, go_ap, sNop_ap, ite_ap, isB_bl, truth_bl, trimS_self, small_lt, is_nn]
  unfold F_l_right
  rw [b_l_right_is]
  show (if [q x].length = 1 then fnRes st.length (sSeq (rr0 (gx a)) (sSeq (rr1 (gx a)) (sSeq (rr2 (gx a)) (rr3 (gx a)))) [some (q x), none, none, none, none] st) else none) = _
  rw [if_pos (by rfl), seq_of E0, seq_of E1, seq_of E2, E3]
  simp [fnOf_ap, env0, fnRes, sSeq_ap, sIf_ap, sRet_ap, sSet_ap, sExp_ap, sPar_ap, sRaise_ap, bndS_ap, bnd_ap, ret_ap, lift_ap, liftS_ap, s1_ap, s2_ap, sVar_ap, sC_ap, sCons_ap, sNil_ap, sTup_ap, sLst_ap, sLstM_ap, sCall_ap, sIx_ap, sBs_ap, sTest_ap, sTru_ap, tNotI_ap, tOrI_ap, tAndI_ap, sNotV_ap, sAndV_ap, sOrV_ap, go_ap, sNop_ap, ite_ap, isB_bl, truth_bl, trimS_self, small_lt]
end
end Law
set_option Elab.async false
set_option linter.all false
set_option maxRecDepth 100000
set_option maxHeartbeats 4000000
set_option exponentiation.threshold 100000
namespace Law
open PySem PySem.Spec PyProof.Rows L2 I2
noncomputable abbrev v0b0 (g : GX) : Sms := (sSet 2 (sCall 1 F_l_purse (sCons (sCall 2 F_l_cell (sCons (sVar 0) (sCons (sVar 1) sNil))) sNil)))
noncomputable abbrev v0b1 (g : GX) : Sms := (sAsg (bTup [7, 8]) (sCall 2 F_l_low (sCons (sCall 1 F_l_number (sCons (sVar 2) sNil)) (sCons (s2 oAddX (sCall 1 F_l_number (sCons (sVar 2) sNil)) (sC (.int 1))) sNil))))
noncomputable abbrev v0b2 (g : GX) : Sms := (sSet 3 (sLst (sCons (sTup (sCons (sVar 7) (sCons (sVar 8) sNil))) (sCons (sTup (sCons (s2 oMul (sVar 7) (sVar 7)) (sCons (s2 oMul (sVar 8) (sVar 8)) sNil))) (sCons (sCall 2 F_l_low (sCons (s2 oMul (sVar 7) (sVar 7)) (sCons (sVar 8) sNil))) sNil)))))
noncomputable abbrev v0b3 (g : GX) : Sms := (sSet 3 (s2 oAddX (sVar 3) (sLst (sCons (sCall 2 F_l_low (sCons (sVar 7) (sCons (s2 oMul (sVar 8) (sVar 8)) sNil))) sNil))))
noncomputable abbrev v0b4 (g : GX) : Sms := (sSet 4 (s2 oAddX (sC (.int 1)) (sCall 2 F_l_pick (sCons (sVar 2) (sCons (sC (.int 9)) sNil)))))
noncomputable abbrev v0b5 (g : GX) : Sms := (sSet 3 (s2 oAddX (sVar 3) (sLst (sCons (sCall 2 F_l_low (sCons (s2 oAddX (s2 oMul (sVar 7) (sVar 7)) (sVar 4)) (sCons (s2 oMul (sVar 8) (sVar 8)) sNil))) (sCons (sCall 2 F_l_low (sCons (s2 oSub (s2 oMul (sVar 7) (sVar 7)) (sVar 4)) (sCons (s2 oMul (sVar 8) (sVar 8)) sNil))) sNil)))))
noncomputable abbrev v0b6 (g : GX) : Sms := (sSet 3 (s2 oAddX (sVar 3) (sLst (sCons (sCall 2 F_l_low (sCons (s2 oMul (s2 oMul (sC (.int 2)) (sVar 7)) (sVar 7)) (sCons (s2 oMul (sVar 8) (sVar 8)) sNil))) (sCons (sCall 2 F_l_low (sCons (s2 oMul (sVar 7) (sVar 7)) (sCons (s2 oAddX (s2 oMul (sVar 8) (sVar 8)) (sVar 4)) sNil))) sNil)))))
noncomputable abbrev v0b7 (g : GX) : Sms := (sSet 3 (s2 oAddX (sVar 3) (sLst (sCons (sTup (sCons (s2 oSub (sC (.int 0)) (s2 oMul (sVar 7) (sVar 7))) (sCons (s2 oMul (sVar 8) (sVar 8)) sNil))) (sCons (sCall 2 F_l_low (sCons (sCall 2 F_l_pick (sCons (sVar 2) (sCons (sC (.int 201)) sNil))) (sCons (s2 oAddX (sC (.int 1)) (sCall 2 F_l_pick (sCons (sVar 2) (sCons (sC (.int 30)) sNil)))) sNil))) sNil)))))
noncomputable abbrev v0b8 (g : GX) : Sms := (sIf (tNotI (sTru (sBs oAll (sCons (sComp (Tgt.name 9) (sVar 3) sYes (sCall 1 (F_l_right g) (sCons (sVar 9) sNil)) [9]) sNil)))) (sRet (sC (.bl false))) sNop)
noncomputable abbrev v0b9 (g : GX) : Sms := (sSet 5 (sLst (sCons (sC .non) (sCons (sC (.bl true)) (sCons (sC (.int 4)) (sCons (sC (.int 0)) (sCons (sC (.str "4")) (sCons (sC (.str "")) (sCons (sTup sNil) (sCons (sLst sNil) (sCons sDic0 (sCons (sLst (sCons (sC (.int 4)) (sCons (sC (.int 1)) sNil))) (sCons (sTup (sCons (sC (.int 4)) sNil)) (sCons (sTup (sCons (sC (.int 4)) (sCons (sC (.int 1)) (sCons (sC (.int 1)) sNil)))) (sCons (sTup (sCons (sC (.int 8)) (sCons (sC (.int 2)) sNil))) (sCons (sTup (sCons (sC (.int 4)) (sCons (sC (.int 0)) sNil))) sNil))))))))))))))))
noncomputable abbrev v0b10 (g : GX) : Sms := (sSet 5 (s2 oAddX (sVar 5) (sLst (sCons (sTup (sCons (sC (.int 4)) (sCons (s1 oNeg (sC (.int 1))) sNil))) (sCons (sTup (sCons (sC (.bl true)) (sCons (sC (.int 1)) sNil))) (sCons (sTup (sCons (sC (.int 4)) (sCons (sC (.bl true)) sNil))) sNil))))))
noncomputable abbrev v0b11 (g : GX) : Sms := (sSet 5 (s2 oAddX (sVar 5) (sLst (sCons (sTup (sCons (sLst (sCons (sC (.int 4)) sNil)) (sCons (sC (.int 1)) sNil))) (sCons (sTup (sCons (sC (.int 4)) (sCons (sLst (sCons (sC (.int 1)) sNil)) sNil))) (sCons (sTup (sCons (sC (.str "4")) (sCons (sC (.int 1)) sNil))) (sCons (sTup (sCons sDic0 (sCons (sC (.int 1)) sNil))) (sCons (sTup (sCons (sTup (sCons (sC (.int 4)) (sCons (sC (.int 1)) sNil))) sNil)) (sCons (sTup (sCons (sC (.int 0)) (sCons (sC (.int 4)) sNil))) (sCons (sTup (sCons (s1 oNeg (sC (.int 4))) (sCons (s1 oNeg (sC (.int 1))) sNil))) (sCons (sC (.bl false)) sNil)))))))))))
noncomputable abbrev v0b12 (g : GX) : Sms := (sSet 6 (I2.sIx (sVar 5) (sCall 2 F_l_pick (sCons (sVar 2) (sCons (sBs oLen (sCons (sVar 5) sNil)) sNil)))))
noncomputable abbrev v0b13 (g : GX) : Sms := (sIf (tOrI (sTest (s2 oNeX (sCall 1 (F_l_told g) (sCons (sVar 6) sNil)) (sTup (sCons (sC (.str "number")) (sCons (sC .non) sNil))))) (sTest (s2 oNeX (sCall 1 (F_l_told g) (sCons (sLst (sCons (sTup (sCons (sVar 7) (sCons (sVar 8) sNil))) sNil)) sNil)) (sTup (sCons (sC (.str "number")) (sCons (sC .non) sNil)))))) (sRet (sC (.bl false))) sNop)
noncomputable abbrev v0B (g : GX) : Sms := (sSeq (v0b0 g) (sSeq (v0b1 g) (sSeq (v0b2 g) (sSeq (v0b3 g) (sSeq (v0b4 g) (sSeq (v0b5 g) (sSeq (v0b6 g) (sSeq (v0b7 g) (sSeq (v0b8 g) (sSeq (v0b9 g) (sSeq (v0b10 g) (sSeq (v0b11 g) (sSeq (v0b12 g) (v0b13 g))))))))))))))
noncomputable abbrev v0 (g : GX) : Sms := (sForR (bName 1) (sCons (sBs (fun _ => oMax) (sCons (sC (.int 2)) (sCons (sBs (fun _ => oMin) (sCons (sC (.int 6)) (sCons (sBs oLen (sCons (sVar 0) sNil)) sNil))) sNil))) sNil) (v0B g))
noncomputable abbrev v1 (g : GX) : Sms := (sRet (sAndV (sCall 1 (F_l_right g) (sCons (sTup (sCons (sC (.int 0)) (sCons (sC (.int 1)) sNil))) sNil)) (sAndV (sCall 1 (F_l_right g) (sCons (sTup (sCons (sC (.int 1)) (sCons (sC (.int 1)) sNil))) sNil)) (sAndV (sCall 1 (F_l_right g) (sCons (sTup (sCons (s1 oNeg (sC (.int 1))) (sCons (sC (.int 1)) sNil))) sNil)) (sCall 1 (F_l_right g) (sCons (sTup (sCons (s1 oNeg (sC (.int 4))) (sCons (sC (.int 9)) sNil))) sNil))))))
theorem b_law_is (g : GX) : b_law g = (sSeq (v0 g) (v1 g)) := rfl
section
variable {a : Ad} {st : Sto} {env : DEnv}
structure Odd (d : D) : Prop where
  pl : Pl d
  no : isFr d = false
def odd1 : List D := [.non, .bl true, .int 4, .int 0, .str "4", .str "", .tup [], .lst [], .dic0, .lst [.int 4, .int 1], .tup [.int 4], .tup [.int 4, .int 1, .int 1], pr 8 2, pr 4 0]
def odd2 : List D := [pr 4 (-1), .tup [.bl true, .int 1], .tup [.int 4, .bl true]]
def odd3 : List D := [.tup [.lst [.int 4], .int 1], .tup [.int 4, .lst [.int 1]], .tup [.str "4", .int 1], .tup [.dic0, .int 1], .tup [pr 4 1], pr 0 4, pr (-4) (-1), .bl false]
def oddL : List D := odd1 ++ odd2 ++ odd3
theorem odd_good : ∀ d ∈ oddL, Odd d := by
  unfold oddL odd1 odd2 odd3
  simp only [List.cons_append, List.nil_append, List.forall_mem_cons]
  refine ⟨?_, ?_, ?_, ?_, ?_, ?_, ?_, ?_, ?_, ?_, ?_, ?_, ?_, ?_, ?_, ?_, ?_, ?_, ?_, ?_, ?_, ?_, ?_, ?_, ?_, fun _ h => by cases h⟩
  all_goals
    refine ⟨⟨rfl, ?_⟩, ?_⟩
    · intro x y e
      first
        | (cases e; done)
        | (cases e; refine ⟨rfl, rfl, ?_⟩; intro b e; first | (cases e; done) | (cases e; apply b9_lit; decide))
    · first | rfl | decide
theorem atI_mem {xs : List D} {k : Int} (h0 : 0 ≤ k) (h1 : k < xs.length) : ∃ d ∈ xs, L2.atI xs k = some d := by
  have hk : k.toNat < xs.length := by omega
  refine ⟨xs[k.toNat], List.getElem_mem hk, ?_⟩
  unfold L2.atI L2.ixN
  rw [if_pos h0, if_pos h1]
  simp [hk]
theorem sDic0_ap : sDic0 env st = some (.ok .dic0, st) := rfl
theorem oAddX_l {xs ys : List D} (h : xs.length + ys.length < 64) : oAddX (.lst xs) (.lst ys) = some (.lst (xs ++ ys)) := by
  have : oAddX (.lst xs) (.lst ys) = oAdd (.lst xs) (.lst ys) := rfl
  rw [this, oAdd_lst h]
theorem pow9 : oPow (.int 10) (.int 9) = some (.int 1000000000) := rfl
theorem pow20 : oPow (.int 10) (.int 20) = some (.int 100000000000000000000) := rfl
theorem number_eq {i : Nat} (h : PuAt st i) : ∃ (n : Nat) (st' : Sto), F_l_number [.ref i] st = some (.ok (nD n), st') ∧ n < 2 ^ 120 ∧ Up i st st' := by
  obtain ⟨k, st1, e1, p1, r1, u1⟩ := pick_eq h (n := 4) (by omega) (b9_lit (by decide))
  obtain ⟨j, st2, e2, p2, r2, u2⟩ := pick_eq u1.pu (n := 2) (by omega) (b9_lit (by decide))
  have F : ∃ f : Int, L2.atI [D.int 1, D.int 1, D.int 1000000000, D.int 100000000000000000000] k = some (.int f) ∧ 0 ≤ f ∧ f ≤ 100000000000000000000 := by
    have : k = 0 ∨ k = 1 ∨ k = 2 ∨ k = 3 := by omega
    rcases this with rfl | rfl | rfl | rfl
    · exact ⟨1, rfl, by decide, by decide⟩
    · exact ⟨1, rfl, by decide, by decide⟩
    · exact ⟨1000000000, rfl, by decide, by decide⟩
    · exact ⟨100000000000000000000, rfl, by decide, by decide⟩
  obtain ⟨f, ef, f0, f1⟩ := F
  have M : ∃ w : Int, L2.atI [D.int 10, D.int 1000000000] j = some (.int w) ∧ 0 < w ∧ w ≤ 1000000000 := by
    have : j = 0 ∨ j = 1 := by omega
    rcases this with rfl | rfl
    · exact ⟨10, rfl, by decide, by decide⟩
    · exact ⟨1000000000, rfl, by decide, by decide⟩
  obtain ⟨w, ew, w0, w1⟩ := M
  obtain ⟨c, st3, e3, p3, r3, u3⟩ := pick_eq u2.pu (n := w) w0 (b9_lit (by omega))
  obtain ⟨g, st4, e4, p4, r4, u4⟩ := pick_eq u3.pu (n := 3) (by omega) (b9_lit (by decide))
  have hcf : c * f ≤ 1000000000 * 100000000000000000000 := Int.mul_le_mul (by omega) f1 f0 (by decide)
  have hcf0 : 0 ≤ c * f := Int.mul_nonneg p3 f0
  have m1 := oMul_l (i := c) (j := f) (by omega)
  have lim : (1000000000 * 100000000000000000000 + 3 : Int) < 2 ^ 120 := by decide
  refine ⟨(c * f + g).toNat, trimS st.length (nD (c * f + g).toNat) st4, ?_, by omega, (((u1.trans u2).trans u3).trans u4).trim h.lt⟩
  have en : nD (c * f + g).toNat = .int (c * f + g) := by
    show D.int _ = _
    congr 1
    omega
  rw [en]
  have a1 : oAdd (.int (c * f)) (.int g) = some (.int (c * f + g)) := rfl
  have i1 : ∀ s, oIx s (.lst [.int 1, .int 1, .int 1000000000, .int 100000000000000000000]) (.int k) = some (.int f) := fun _ => ef
  have i2 : ∀ s, oIx s (.lst [.int 10, .int 1000000000]) (.int j) = some (.int w) := fun _ => ew
  generalize c * f + g = r at *
  generalize c * f = r2 at *
  unfold F_l_number b_l_number
  simp [fnOf_ap, env0, fnRes, sSeq_ap, sIf_ap, sRet_ap, sSet_ap, sExp_ap, sPar_ap, sRaise_ap, bndS_ap, bnd_ap, ret_ap, lift_ap, liftS_ap, s1_ap, s2_ap, sVar_ap, sC_ap, sCons_ap, sNil_ap, sTup_ap, sLst_ap, sLstM_ap, sCall_ap, sIx_ap, sBs_ap, sTest_ap, sTru_ap, tNotI_ap, tOrI_ap, tAndI_ap, sNotV_ap, sAndV_ap, sOrV_ap, go_ap, sNop_ap, ite_ap, isB_bl, truth_bl, trimS_self, small_lt, e1, e2, e3, e4, pow9, pow20, i1, i2, m1, a1]
theorem dv_sz {t b : Int} (hb : 0 < b) : (Rat.divInt t b).num.natAbs ≤ t.natAbs ∧ (Rat.divInt t b).den ≤ b.natAbs := by
  obtain ⟨p, r, e, r0, g, h1, h2⟩ := lowD_pos (t := t) hb
  rw [lowD_q (by omega)] at e
  injection e with e
  injection e with e1 e2
  injection e2 with e2 _
  injection e1 with e1
  injection e2 with e2
  rw [e1]
  exact ⟨h1, by omega⟩
theorem dv_s6 {t b : Int} (hb : 0 < b) (h1 : t.natAbs < 2 ^ 600) (h2 : b.natAbs < 2 ^ 600) : S6 (Rat.divInt t b) := by
  obtain ⟨a1, a2⟩ := dv_sz (t := t) hb
  exact ⟨by omega, by omega⟩
theorem low_s {t b : Int} (hb : 0 < b) (h2 : b.natAbs < 2 ^ 600) : F_l_low [.int t, .int b] st = some (.ok (q (Rat.divInt t b)), st) := low_q (by omega) (b9_of1 (Nat.lt_of_lt_of_le h2 (Nat.pow_le_pow_right (by omega) (by omega))))
theorem all_right {ys : List Rat} (h : ∀ y ∈ ys, S6 y) (hl : ys.length < 64) {x0 x1 x2 x4 x5 x6 x7 x8 x9 : Option D} : v0b8 (gx a) [x0, x1, x2, some (.lst (ys.map q)), x4, x5, x6, x7, x8, x9] st = some (.nx, [x0, x1, x2, some (.lst (ys.map q)), x4, x5, x6, x7, x8, x9], st) := by
  have C := compL_map (env := [x0, x1, x2, some (.lst (ys.map q)), x4, x5, x6, x7, x8, none]) (st := st) (bd := (Tgt.name 9).bd) (t := sYes) (h := sCall 1 (F_l_right (gx a)) (sCons (sVar 9) sNil)) q (fun _ => .bl true) ys (fun y hy => by
    have R := right_q (a := a) (st := st) (h y hy)
    refine ⟨[x0, x1, x2, some (.lst (ys.map q)), x4, x5, x6, x7, x8, some (q y)], rfl, rfl, ?_⟩
    generalize q y = d at *
    simp [fnOf_ap, env0, fnRes, sSeq_ap, sIf_ap, sRet_ap, sSet_ap, sExp_ap, sPar_ap, sRaise_ap, bndS_ap, bnd_ap, ret_ap, lift_ap, liftS_ap, s1_ap, s2_ap, sVar_ap, sC_ap, sCons_ap, sNil_ap, sTup_ap, sLst_ap, sLstM_ap, sCall_ap, sIx_ap, sBs_ap, sTest_ap, sTru_ap, tNotI_ap, tOrI_ap, tAndI_ap, sNotV_ap, sAndV_ap, sOrV_ap, go_ap, sNop_ap, ite_ap, isB_bl, truth_bl, trimS_self, small_lt, R])
  have O : oAll st [.lst (ys.map fun _ => D.bl true)] = some (.bl true) := by
    rw [oAll, allB_rep]; simp
  have S : small (ys.map fun _ => D.bl true) = true := small_map hl
  generalize (ys.map fun _ => D.bl true) = os at *
  have C2 : sComp (Tgt.name 9) (sVar 3) sYes (sCall 1 (F_l_right (gx a)) (sCons (sVar 9) sNil)) [9] [x0, x1, x2, some (.lst (ys.map q)), x4, x5, x6, x7, x8, x9] st = some (.ok (.lst os), st) := by
    rw [sComp_ap]
    have V : sVar 3 [x0, x1, x2, some (.lst (ys.map q)), x4, x5, x6, x7, x8, x9] st = some (.ok (.lst (ys.map q)), st) := rfl
    simp only [bnd_ap, V, lift_ap, seqOf_lst, Option.map_some]
    rw [compR_ap]
    have W : wipeD [x0, x1, x2, some (.lst (ys.map q)), x4, x5, x6, x7, x8, x9] [9] = [x0, x1, x2, some (.lst (ys.map q)), x4, x5, x6, x7, x8, none] := rfl
    rw [W, C]
    simp only [S, if_true]
  generalize ys.map q = yy at *
  simp [fnOf_ap, env0, fnRes, sSeq_ap, sIf_ap, sRet_ap, sSet_ap, sExp_ap, sPar_ap, sRaise_ap, bndS_ap, bnd_ap, ret_ap, lift_ap, liftS_ap, s1_ap, s2_ap, sVar_ap, sC_ap, sCons_ap, sNil_ap, sTup_ap, sLst_ap, sLstM_ap, sCall_ap, sIx_ap, sBs_ap, sTest_ap, sTru_ap, tNotI_ap, tOrI_ap, tAndI_ap, sNotV_ap, sAndV_ap, sOrV_ap, go_ap, sNop_ap, ite_ap, isB_bl, truth_bl, trimS_self, small_lt, C2, O]
theorem nu_refl : oNeX (.tup [.str "number", .non]) (.tup [.str "number", .non]) = some (.bl false) := by
  have : oNeX (.tup [.str "number", .non]) (.tup [.str "number", .non]) = oNe (.tup [.str "number", .non]) (.tup [.str "number", .non]) := rfl
  rw [this]
  have h1 : SeqAt.shaped (.tuple [.str "number", .none]) = true := by decide +kernel
  have h2 : toPy (.tup [.str "number", .non]) = some (.tuple [.str "number", .none]) := rfl
  unfold oNe
  rw [h2]
  simp only [h1, Bool.and_self, if_true]
  rfl
theorem told_odd {d : D} (h : Odd d) : F_l_told (gx a) [d] st = some (.ok (.tup [.str "number", .non]), st) := told_no (root_no h.pl h.no)
theorem s6_lit {x : Rat} (h1 : x.num.natAbs < 2 ^ 64) (h2 : x.den < 2 ^ 64) : S6 x := ⟨Nat.lt_of_lt_of_le h1 (Nat.pow_le_pow_right (by omega) (by omega)), Nat.lt_of_lt_of_le h2 (Nat.pow_le_pow_right (by omega) (by omega))⟩
theorem last_eq : v1 (gx a) env st = some (.rt (.bl true), env, st) := by
  have R0 := right_q (a := a) (st := st) (x := 0) (s6_lit (by decide) (by decide))
  have R1 := right_q (a := a) (st := st) (x := 1) (s6_lit (by decide) (by decide))
  have R2 := right_q (a := a) (st := st) (x := -1) (s6_lit (by decide) (by decide))
  have R3 := right_q (a := a) (st := st) (x := Rat.divInt (-4) 9) (dv_s6 (by decide) (by decide) (by decide))
  have q0 : q 0 = .tup [.int 0, .int 1] := rfl
  have q1 : q 1 = .tup [.int 1, .int 1] := rfl
  have q2 : q (-1) = .tup [.int (-1), .int 1] := rfl
  have q3 : q (Rat.divInt (-4) 9) = .tup [.int (-4), .int 9] := by
    have e : (Rat.divInt (-4) 9) = (⟨-4, 9, by decide, by decide⟩ : Rat) := by rfl
    rw [e]
    rfl
  rw [q0] at R0
  rw [q1] at R1
  rw [q2] at R2
  rw [q3] at R3
  have n1 : oNeg (.int 1) = some (.int (-1)) := rfl
  have n4 : oNeg (.int 4) = some (.int (-4)) := rfl
  simp [fnOf_ap, env0, fnRes, sSeq_ap, sIf_ap, sRet_ap, sSet_ap, sExp_ap, sPar_ap, sRaise_ap, bndS_ap, bnd_ap, ret_ap, lift_ap, liftS_ap, s1_ap, s2_ap, sVar_ap, sC_ap, sCons_ap, sNil_ap, sTup_ap, sLst_ap, sLstM_ap, sCall_ap, sIx_ap, sBs_ap, sTest_ap, sTru_ap, tNotI_ap, tOrI_ap, tAndI_ap, sNotV_ap, sAndV_ap, sOrV_ap, go_ap, sNop_ap, ite_ap, isB_bl, truth_bl, trimS_self, small_lt, R0, R1, R2, R3, n1, n4]
theorem mul_lt {x y : Int} {n m : Nat} (h1 : x.natAbs < 2 ^ n) (h2 : y.natAbs < 2 ^ m) : (x * y).natAbs < 2 ^ (n + m) := by
  rw [Int.natAbs_mul, Nat.pow_add]
  exact Nat.mul_lt_mul'' h1 h2
theorem some_step {i : Nat} {x : Rat} {x0 x1 z3 z4 z5 z6 z9 : Option D} (h : PuAt st i) (x0' : 0 ≤ x) (hn : x.num.natAbs < 2 ^ 121) (hd : x.den < 2 ^ 121) (R : Sms) :
    ∃ (ys : List Rat) (y4 : Option D) (st' : Sto), sSeq (v0b2 (gx a)) (sSeq (v0b3 (gx a)) (sSeq (v0b4 (gx a)) (sSeq (v0b5 (gx a)) (sSeq (v0b6 (gx a)) (sSeq (v0b7 (gx a)) R))))) [x0, x1, some (.ref i), z3, z4, z5, z6, some (.int x.num), some (.int (x.den : Int)), z9] st = R [x0, x1, some (.ref i), some (.lst (ys.map q)), y4, z5, z6, some (.int x.num), some (.int (x.den : Int)), z9] st' ∧ (∀ y ∈ ys, S6 y) ∧ ys.length < 64 ∧ Up i st st' := by
  obtain ⟨s, st1, e1, p1, r1, u1⟩ := pick_eq h (n := 9) (by omega) (b9_lit (by decide))
  obtain ⟨c, st2, e2, p2, r2, u2⟩ := pick_eq u1.pu (n := 201) (by omega) (b9_lit (by decide))
  obtain ⟨d, st3, e3, p3, r3, u3⟩ := pick_eq u2.pu (n := 30) (by omega) (b9_lit (by decide))
  obtain ⟨sq1, sq2⟩ := sq_parts x
  have hb := x.den_pos
  have t0 := Rat.num_nonneg.mpr x0'
  have eq0 : q x = .tup [.int x.num, .int (x.den : Int)] := rfl
  have eq1 : q (x * x) = .tup [.int (x.num * x.num), .int ((x.den : Int) * (x.den : Int))] := by
    show D.tup [.int (x * x).num, .int (((x * x).den : Nat) : Int)] = _
    rw [sq1, sq2, Int.natCast_mul]
  have nn : -(x * x) = ⟨-(x * x).num, (x * x).den, (x * x).den_nz, by rw [Int.natAbs_neg]; exact (x * x).reduced⟩ := rfl
  have eq8 : q (-(x * x)) = .tup [.int (0 - x.num * x.num), .int ((x.den : Int) * (x.den : Int))] := by
    show D.tup [.int (-(x * x)).num, .int (((-(x * x)).den : Nat) : Int)] = _
    have h1 : (-(x * x)).num = 0 - x.num * x.num := by rw [Rat.neg_num, sq1]; omega
    have h2 : (-(x * x)).den = x.den * x.den := by rw [Rat.neg_den, sq2]
    rw [h1, h2, Int.natCast_mul]
  have s11 : S6 (x * x) := ⟨by rw [sq1]; exact Nat.lt_of_lt_of_le (mul_lt hn hn) (Nat.pow_le_pow_right (by omega) (by omega)), by rw [sq2]; exact Nat.lt_of_lt_of_le (Nat.mul_lt_mul'' hd hd) (by rw [← Nat.pow_add]; exact Nat.pow_le_pow_right (by omega) (by omega))⟩
  have s8 : S6 (-(x * x)) := ⟨by rw [Rat.neg_num, Int.natAbs_neg]; exact s11.n, by rw [Rat.neg_den]; exact s11.d⟩
  have s0 : S6 x := ⟨Nat.lt_of_lt_of_le hn (Nat.pow_le_pow_right (by omega) (by omega)), Nat.lt_of_lt_of_le hd (Nat.pow_le_pow_right (by omega) (by omega))⟩
  have hd' : (x.den : Int).natAbs < 2 ^ 121 := by rw [Int.natAbs_natCast]; exact hd
  have l2 : (2 : Nat) ^ 242 * 4 < 2 ^ 600 := by decide
  have b4 : ∀ {n : Nat}, n < 2 ^ 121 → n < 2 ^ 4000 := fun h => Nat.lt_of_lt_of_le h (Nat.pow_le_pow_right (by omega) (by omega))
  have mT := oMul_b (b4 hn) (b4 hn)
  have mB := oMul_b (b4 hd') (b4 hd')
  have kT := mul_lt hn hn
  have kB := mul_lt hd' hd'
  have m2 := oMul_l (i := 2) (j := x.num) (by decide)
  have h2T : (2 * x.num).natAbs < 2 ^ 122 := by omega
  have m2T := oMul_b (i := 2 * x.num) (j := x.num) (Nat.lt_of_lt_of_le h2T (Nat.pow_le_pow_right (by omega) (by omega))) (b4 hn)
  have k2T : (2 * x.num * x.num).natAbs < 2 ^ 243 := mul_lt h2T hn
  have l3 : (2 : Nat) ^ 243 < 2 ^ 600 := by decide
  have l1 : (2 : Nat) ^ 121 < 2 ^ 600 := by decide
  have Bp : (0 : Int) < (x.den : Int) := by omega
  have BBp : (0 : Int) < (x.den : Int) * (x.den : Int) := Int.mul_pos Bp Bp
  generalize x.num * x.num = TT at *
  generalize hBB : (x.den : Int) * (x.den : Int) = BB at *
  generalize 2 * x.num * x.num = TT2 at *
  have kT : TT.natAbs < 2 ^ 242 := kT
  have kB : BB.natAbs < 2 ^ 242 := kB
  generalize hB : (x.den : Int) = B at *
  generalize hT : x.num = T at *
  have L2' := fun s => low_s (st := s) (t := TT) (b := B) Bp (by omega)
  have L3 := fun s => low_s (st := s) (t := T) (b := BB) BBp (by omega)
  have L4 := fun st' => low_s (st := st') (t := TT + (1 + s)) (b := BB) BBp (by omega)
  have L5 := fun st' => low_s (st := st') (t := TT - (1 + s)) (b := BB) BBp (by omega)
  have L6 := fun st' => low_s (st := st') (t := TT2) (b := BB) BBp (by omega)
  have L7 := fun st' => low_s (st := st') (t := TT) (b := BB + (1 + s)) (by omega) (by omega)
  have L9 := fun st' => low_s (st := st') (t := c) (b := 1 + d) (by omega) (by omega)
  have S2 := dv_s6 (t := TT) (b := B) Bp (by omega) (by omega)
  have S3 := dv_s6 (t := T) (b := BB) BBp (by omega) (by omega)
  have S4 := dv_s6 (t := TT + (1 + s)) (b := BB) BBp (by omega) (by omega)
  have S5 := dv_s6 (t := TT - (1 + s)) (b := BB) BBp (by omega) (by omega)
  have S6' := dv_s6 (t := TT2) (b := BB) BBp (by omega) (by omega)
  have S7 := dv_s6 (t := TT) (b := BB + (1 + s)) (by omega) (by omega) (by omega)
  have S9 := dv_s6 (t := c) (b := 1 + d) (by omega) (by omega) (by omega)
  refine ⟨[x, x * x, Rat.divInt TT B, Rat.divInt T BB, Rat.divInt (TT + (1 + s)) BB, Rat.divInt (TT - (1 + s)) BB, Rat.divInt TT2 BB, Rat.divInt TT (BB + (1 + s)), -(x * x), Rat.divInt c (1 + d)], some (.int (1 + s)), st3, ?_, ?_, by simp, (u1.trans u2).trans u3⟩
  · simp only [List.map_cons, List.map_nil]
    rw [eq0, eq1, eq8]
    have o1 : oSub (.int TT) (.int (1 + s)) = some (.int (TT - (1 + s))) := rfl
    have o2 : oSub (.int 0) (.int TT) = some (.int (0 - TT)) := rfl
    have o3 : oAddX (.int TT) (.int (1 + s)) = some (.int (TT + (1 + s))) := rfl
    have o4 : oAddX (.int BB) (.int (1 + s)) = some (.int (BB + (1 + s))) := rfl
    have o5 : oAddX (.int 1) (.int s) = some (.int (1 + s)) := rfl
    have o6 : oAddX (.int 1) (.int d) = some (.int (1 + d)) := rfl
    clear S2 S3 S4 S5 S6' S7 S9 s0 s8 s11 eq0 eq1 eq8 nn sq1 sq2
    generalize q (Rat.divInt TT B) = w2 at *
    generalize q (Rat.divInt T BB) = w3 at *
    generalize q (Rat.divInt (TT + (1 + s)) BB) = w4 at *
    generalize q (Rat.divInt (TT - (1 + s)) BB) = w5 at *
    generalize q (Rat.divInt TT2 BB) = w6 at *
    generalize q (Rat.divInt TT (BB + (1 + s))) = w7 at *
    generalize q (Rat.divInt c (1 + d)) = w9 at *
    generalize D.int (0 - TT) = y0 at *
    generalize D.int (TT - (1 + s)) = y1 at *
    generalize D.int (TT + (1 + s)) = y2 at *
    generalize D.int (BB + (1 + s)) = y3 at *
    generalize D.int (1 + s) = y4 at *
    generalize D.int (1 + d) = y5 at *
    generalize D.int (2 * T) = y6 at *
    generalize D.int TT = y7 at *
    generalize D.int TT2 = y8 at *
    generalize D.int BB = y9 at *
    generalize D.int B = ya at *
    generalize D.int T = yb at *
    have E0 : v0b2 (gx a) [x0, x1, some (.ref i), z3, z4, z5, z6, some yb, some ya, z9] st = some (.nx, [x0, x1, some (.ref i), some (.lst [.tup [yb, ya], .tup [y7, y9], w2]), z4, z5, z6, some yb, some ya, z9], st) := by simp [fnOf_ap, env0, fnRes, sSeq_ap, sIf_ap, sRet_ap, sSet_ap, sExp_ap, sPar_ap, sRaise_ap, bndS_ap, bnd_ap, ret_ap, lift_ap, liftS_ap, s1_ap, s2_ap, sVar_ap, sC_ap, sCons_ap, sNil_ap, sTup_ap, sLst_ap, sLstM_ap, sCall_ap, sIx_ap, sBs_ap, sTest_ap, sTru_ap, tNotI_ap, tOrI_ap, tAndI_ap, sNotV_ap, sAndV_ap, sOrV_ap, go_ap, sNop_ap, ite_ap, isB_bl, truth_bl, trimS_self, small_lt, mT, mB, L2']
    have E1 : v0b3 (gx a) [x0, x1, some (.ref i), some (.lst [.tup [yb, ya], .tup [y7, y9], w2]), z4, z5, z6, some yb, some ya, z9] st = some (.nx, [x0, x1, some (.ref i), some (.lst [.tup [yb, ya], .tup [y7, y9], w2, w3]), z4, z5, z6, some yb, some ya, z9], st) := by simp [fnOf_ap, env0, fnRes, sSeq_ap, sIf_ap, sRet_ap, sSet_ap, sExp_ap, sPar_ap, sRaise_ap, bndS_ap, bnd_ap, ret_ap, lift_ap, liftS_ap, s1_ap, s2_ap, sVar_ap, sC_ap, sCons_ap, sNil_ap, sTup_ap, sLst_ap, sLstM_ap, sCall_ap, sIx_ap, sBs_ap, sTest_ap, sTru_ap, tNotI_ap, tOrI_ap, tAndI_ap, sNotV_ap, sAndV_ap, sOrV_ap, go_ap, sNop_ap, ite_ap, isB_bl, truth_bl, trimS_self, small_lt, mB, L3, oAddX_l]
    have E2 : v0b4 (gx a) [x0, x1, some (.ref i), some (.lst [.tup [yb, ya], .tup [y7, y9], w2, w3]), z4, z5, z6, some yb, some ya, z9] st = some (.nx, [x0, x1, some (.ref i), some (.lst [.tup [yb, ya], .tup [y7, y9], w2, w3]), some y4, z5, z6, some yb, some ya, z9], st1) := by simp [fnOf_ap, env0, fnRes, sSeq_ap, sIf_ap, sRet_ap, sSet_ap, sExp_ap, sPar_ap, sRaise_ap, bndS_ap, bnd_ap, ret_ap, lift_ap, liftS_ap, s1_ap, s2_ap, sVar_ap, sC_ap, sCons_ap, sNil_ap, sTup_ap, sLst_ap, sLstM_ap, sCall_ap, sIx_ap, sBs_ap, sTest_ap, sTru_ap, tNotI_ap, tOrI_ap, tAndI_ap, sNotV_ap, sAndV_ap, sOrV_ap, go_ap, sNop_ap, ite_ap, isB_bl, truth_bl, trimS_self, small_lt, e1, o5]
    have E3 : v0b5 (gx a) [x0, x1, some (.ref i), some (.lst [.tup [yb, ya], .tup [y7, y9], w2, w3]), some y4, z5, z6, some yb, some ya, z9] st1 = some (.nx, [x0, x1, some (.ref i), some (.lst [.tup [yb, ya], .tup [y7, y9], w2, w3, w4, w5]), some y4, z5, z6, some yb, some ya, z9], st1) := by simp [fnOf_ap, env0, fnRes, sSeq_ap, sIf_ap, sRet_ap, sSet_ap, sExp_ap, sPar_ap, sRaise_ap, bndS_ap, bnd_ap, ret_ap, lift_ap, liftS_ap, s1_ap, s2_ap, sVar_ap, sC_ap, sCons_ap, sNil_ap, sTup_ap, sLst_ap, sLstM_ap, sCall_ap, sIx_ap, sBs_ap, sTest_ap, sTru_ap, tNotI_ap, tOrI_ap, tAndI_ap, sNotV_ap, sAndV_ap, sOrV_ap, go_ap, sNop_ap, ite_ap, isB_bl, truth_bl, trimS_self, small_lt, mT, mB, o1, o3, L4, L5, oAddX_l]
    have E4 : v0b6 (gx a) [x0, x1, some (.ref i), some (.lst [.tup [yb, ya], .tup [y7, y9], w2, w3, w4, w5]), some y4, z5, z6, some yb, some ya, z9] st1 = some (.nx, [x0, x1, some (.ref i), some (.lst [.tup [yb, ya], .tup [y7, y9], w2, w3, w4, w5, w6, w7]), some y4, z5, z6, some yb, some ya, z9], st1) := by simp [fnOf_ap, env0, fnRes, sSeq_ap, sIf_ap, sRet_ap, sSet_ap, sExp_ap, sPar_ap, sRaise_ap, bndS_ap, bnd_ap, ret_ap, lift_ap, liftS_ap, s1_ap, s2_ap, sVar_ap, sC_ap, sCons_ap, sNil_ap, sTup_ap, sLst_ap, sLstM_ap, sCall_ap, sIx_ap, sBs_ap, sTest_ap, sTru_ap, tNotI_ap, tOrI_ap, tAndI_ap, sNotV_ap, sAndV_ap, sOrV_ap, go_ap, sNop_ap, ite_ap, isB_bl, truth_bl, trimS_self, small_lt, mT, mB, m2, m2T, o4, L6, L7, oAddX_l]
    have E5 : v0b7 (gx a) [x0, x1, some (.ref i), some (.lst [.tup [yb, ya], .tup [y7, y9], w2, w3, w4, w5, w6, w7]), some y4, z5, z6, some yb, some ya, z9] st1 = some (.nx, [x0, x1, some (.ref i), some (.lst [.tup [yb, ya], .tup [y7, y9], w2, w3, w4, w5, w6, w7, .tup [y0, y9], w9]), some y4, z5, z6, some yb, some ya, z9], st3) := by simp [fnOf_ap, env0, fnRes, sSeq_ap, sIf_ap, sRet_ap, sSet_ap, sExp_ap, sPar_ap, sRaise_ap, bndS_ap, bnd_ap, ret_ap, lift_ap, liftS_ap, s1_ap, s2_ap, sVar_ap, sC_ap, sCons_ap, sNil_ap, sTup_ap, sLst_ap, sLstM_ap, sCall_ap, sIx_ap, sBs_ap, sTest_ap, sTru_ap, tNotI_ap, tOrI_ap, tAndI_ap, sNotV_ap, sAndV_ap, sOrV_ap, go_ap, sNop_ap, ite_ap, isB_bl, truth_bl, trimS_self, small_lt, mT, mB, o2, o6, e2, e3, L9, oAddX_l]
    rw [seq_of E0, seq_of E1, seq_of E2, seq_of E3, seq_of E4, seq_of E5]
  · simp only [List.forall_mem_cons]
    exact ⟨s0, s11, S2, S3, S4, S5, S6', S7, s8, S9, fun _ h => by cases h⟩
theorem oAddX_o1 : oAddX (.lst odd1) (.lst odd2) = some (.lst (odd1 ++ odd2)) := oAddX_l (by decide)
theorem oAddX_o2 : oAddX (.lst (odd1 ++ odd2)) (.lst odd3) = some (.lst oddL) := oAddX_l (by decide)
theorem odd_step {i : Nat} {x : Rat} {x0 x1 x3 z4 z5 z6 z9 : Option D} (h : PuAt st i) : ∃ (y5 y6 : Option D) (st' : Sto), sSeq (v0b9 (gx a)) (sSeq (v0b10 (gx a)) (sSeq (v0b11 (gx a)) (sSeq (v0b12 (gx a)) (v0b13 (gx a))))) [x0, x1, some (.ref i), x3, z4, z5, z6, some (.int x.num), some (.int (x.den : Int)), z9] st = some (.nx, [x0, x1, some (.ref i), x3, z4, y5, y6, some (.int x.num), some (.int (x.den : Int)), z9], st') := by
  obtain ⟨k, st1, e1, p1, r1, u1⟩ := pick_eq h (n := 25) (by omega) (b9_lit (by decide))
  obtain ⟨d, hd, ed⟩ := atI_mem (xs := oddL) p1 r1
  have G := odd_good d hd
  have T1 := told_odd (a := a) (st := st1) G
  have T2 := told_odd (a := a) (st := st1) (d := .lst [.tup [.int x.num, .int (x.den : Int)]]) ⟨⟨rfl, fun x y e => by cases e⟩, rfl⟩
  refine ⟨some (.lst oddL), some d, st1, ?_⟩
  have E0 : v0b9 (gx a) [x0, x1, some (.ref i), x3, z4, z5, z6, some (.int x.num), some (.int (x.den : Int)), z9] st = some (.nx, [x0, x1, some (.ref i), x3, z4, some (.lst odd1), z6, some (.int x.num), some (.int (x.den : Int)), z9], st) := by rfl
  have E1 : v0b10 (gx a) [x0, x1, some (.ref i), x3, z4, some (.lst odd1), z6, some (.int x.num), some (.int (x.den : Int)), z9] st = some (.nx, [x0, x1, some (.ref i), x3, z4, some (.lst (odd1 ++ odd2)), z6, some (.int x.num), some (.int (x.den : Int)), z9], st) := by
    have n1 : oNeg (.int 1) = some (.int (-1)) := rfl
    have o := oAddX_o1
    unfold odd2 at *
    generalize odd1 = oo at *
    generalize D.int x.num = yb at *
    generalize D.int (x.den : Int) = ya at *
    simp [fnOf_ap, env0, fnRes, sSeq_ap, sIf_ap, sRet_ap, sSet_ap, sExp_ap, sPar_ap, sRaise_ap, bndS_ap, bnd_ap, ret_ap, lift_ap, liftS_ap, s1_ap, s2_ap, sVar_ap, sC_ap, sCons_ap, sNil_ap, sTup_ap, sLst_ap, sLstM_ap, sCall_ap, sIx_ap, sBs_ap, sTest_ap, sTru_ap, tNotI_ap, tOrI_ap, tAndI_ap, sNotV_ap, sAndV_ap, sOrV_ap, go_ap, sNop_ap, ite_ap, isB_bl, truth_bl, trimS_self, small_lt, n1, o]
  have E2 : v0b11 (gx a) [x0, x1, some (.ref i), x3, z4, some (.lst (odd1 ++ odd2)), z6, some (.int x.num), some (.int (x.den : Int)), z9] st = some (.nx, [x0, x1, some (.ref i), x3, z4, some (.lst oddL), z6, some (.int x.num), some (.int (x.den : Int)), z9], st) := by
    have n1 : oNeg (.int 1) = some (.int (-1)) := rfl
    have n4 : oNeg (.int 4) = some (.int (-4)) := rfl
    have o := oAddX_o2
    clear E1 ed hd
    unfold odd3 at o
    generalize oddL = ol at *
    generalize odd1 ++ odd2 = oo at *
    generalize D.int x.num = yb at *
    generalize D.int (x.den : Int) = ya at *
    simp [fnOf_ap, env0, fnRes, sSeq_ap, sIf_ap, sRet_ap, sSet_ap, sExp_ap, sPar_ap, sRaise_ap, bndS_ap, bnd_ap, ret_ap, lift_ap, liftS_ap, s1_ap, s2_ap, sVar_ap, sC_ap, sCons_ap, sNil_ap, sTup_ap, sLst_ap, sLstM_ap, sCall_ap, sIx_ap, sBs_ap, sTest_ap, sTru_ap, tNotI_ap, tOrI_ap, tAndI_ap, sNotV_ap, sAndV_ap, sOrV_ap, go_ap, sNop_ap, ite_ap, isB_bl, truth_bl, trimS_self, small_lt, sDic0_ap, n1, n4, o]
  have E3 : v0b12 (gx a) [x0, x1, some (.ref i), x3, z4, some (.lst oddL), z6, some (.int x.num), some (.int (x.den : Int)), z9] st = some (.nx, [x0, x1, some (.ref i), x3, z4, some (.lst oddL), some d, some (.int x.num), some (.int (x.den : Int)), z9], st1) := by
    have l1 : ∀ s, oLen s [.lst oddL] = some (.int 25) := fun _ => rfl
    have i1 : ∀ s, oIx s (.lst oddL) (.int k) = some d := fun _ => ed
    clear E1 E2 ed hd
    generalize oddL = ol at *
    generalize D.int x.num = yb at *
    generalize D.int (x.den : Int) = ya at *
    simp [fnOf_ap, env0, fnRes, sSeq_ap, sIf_ap, sRet_ap, sSet_ap, sExp_ap, sPar_ap, sRaise_ap, bndS_ap, bnd_ap, ret_ap, lift_ap, liftS_ap, s1_ap, s2_ap, sVar_ap, sC_ap, sCons_ap, sNil_ap, sTup_ap, sLst_ap, sLstM_ap, sCall_ap, sIx_ap, sBs_ap, sTest_ap, sTru_ap, tNotI_ap, tOrI_ap, tAndI_ap, sNotV_ap, sAndV_ap, sOrV_ap, go_ap, sNop_ap, ite_ap, isB_bl, truth_bl, trimS_self, small_lt, l1, e1, i1]
  have E4 : v0b13 (gx a) [x0, x1, some (.ref i), x3, z4, some (.lst oddL), some d, some (.int x.num), some (.int (x.den : Int)), z9] st1 = some (.nx, [x0, x1, some (.ref i), x3, z4, some (.lst oddL), some d, some (.int x.num), some (.int (x.den : Int)), z9], st1) := by
    clear E1 E2 E3 ed hd
    generalize oddL = ol at *
    generalize D.int x.num = yb at *
    generalize D.int (x.den : Int) = ya at *
    simp [fnOf_ap, env0, fnRes, sSeq_ap, sIf_ap, sRet_ap, sSet_ap, sExp_ap, sPar_ap, sRaise_ap, bndS_ap, bnd_ap, ret_ap, lift_ap, liftS_ap, s1_ap, s2_ap, sVar_ap, sC_ap, sCons_ap, sNil_ap, sTup_ap, sLst_ap, sLstM_ap, sCall_ap, sIx_ap, sBs_ap, sTest_ap, sTru_ap, tNotI_ap, tOrI_ap, tAndI_ap, sNotV_ap, sAndV_ap, sOrV_ap, go_ap, sNop_ap, ite_ap, isB_bl, truth_bl, trimS_self, small_lt, T1, T2, nu_refl]
  rw [seq_of E0, seq_of E1, seq_of E2, seq_of E3, E4]
def Sh (sc : D) (env : DEnv) : Prop := ∃ z1 z2 z3 z4 z5 z6 z7 z8 z9, env = [some sc, z1, z2, z3, z4, z5, z6, z7, z8, z9]
theorem body_step {ns : List Int} {k : Int} (h0 : 0 ≤ k) (h6 : k < 64) {z2 z3 z4 z5 z6 z7 z8 z9 : Option D} : ∃ env' st', v0B (gx a) [some (.scr (ns.map D.int)), some (.int k), z2, z3, z4, z5, z6, z7, z8, z9] st = some (.nx, env', st') ∧ Sh (.scr (ns.map D.int)) env' := by
  obtain ⟨c, hc⟩ := cell_eq (st := st) (ns := ns) h0 h6
  obtain ⟨p0, q0', r0', hp⟩ := purse_eq (st := st) (c := c)
  have u1 : PuAt (st ++ [.lst [.int p0, .int q0', .int r0']]) st.length := ⟨p0, q0', r0', by simp⟩
  generalize st ++ [.lst [.int p0, .int q0', .int r0']] = st1 at hp u1
  generalize st.length = i at hp u1
  obtain ⟨n1, st2, e2, b2, u2⟩ := number_eq u1
  obtain ⟨n2, st3, e3, b3, u3⟩ := number_eq u2.pu
  have pw0 : (2 : Nat) ^ 121 = 2 ^ 120 * 2 := by rw [Nat.pow_succ]
  have B8' : ((n2 : Int) + 1).natAbs < 2 ^ 121 := by omega
  have B9' : ((n2 : Int) + 1).natAbs < 2 ^ 600 := Nat.lt_of_lt_of_le B8' (Nat.pow_le_pow_right (by omega) (by omega))
  have LW := low_s (st := st3) (t := (n1 : Int)) (b := (n2 : Int) + 1) (by omega) B9'
  obtain ⟨sz1, sz2⟩ := dv_sz (t := (n1 : Int)) (b := (n2 : Int) + 1) (by omega)
  have x0 : 0 ≤ Rat.divInt (n1 : Int) ((n2 : Int) + 1) := by
    rw [Rat.divInt_eq_div]
    have h1 : (0 : Rat) ≤ ((n1 : Int) : Rat) := Rat.intCast_nonneg.mpr (by omega)
    have h2 : (0 : Rat) < (((n2 : Int) + 1 : Int) : Rat) := Rat.intCast_pos.mpr (by omega)
    rw [Rat.div_def]
    exact Rat.mul_nonneg h1 (Rat.le_of_lt (Rat.inv_pos.mpr h2))
  have pw : (2 : Nat) ^ 121 = 2 ^ 120 * 2 := by rw [Nat.pow_succ]
  have hn : (Rat.divInt (n1 : Int) ((n2 : Int) + 1)).num.natAbs < 2 ^ 121 := by omega
  have hd : (Rat.divInt (n1 : Int) ((n2 : Int) + 1)).den < 2 ^ 121 := by omega
  generalize Rat.divInt (n1 : Int) ((n2 : Int) + 1) = x at *
  obtain ⟨ys, y4, st4, e4, sy, ly, u4⟩ := some_step (a := a) (x0 := some (.scr (ns.map D.int))) (x1 := some (.int k)) (z3 := z3) (z4 := z4) (z5 := z5) (z6 := z6) (z9 := z9) u3.pu x0 hn hd (sSeq (v0b8 (gx a)) (sSeq (v0b9 (gx a)) (sSeq (v0b10 (gx a)) (sSeq (v0b11 (gx a)) (sSeq (v0b12 (gx a)) (v0b13 (gx a)))))))
  have e5 := all_right (a := a) (st := st4) sy ly (x0 := some (.scr (ns.map D.int))) (x1 := some (.int k)) (x2 := some (.ref i)) (x4 := y4) (x5 := z5) (x6 := z6) (x7 := some (.int x.num)) (x8 := some (.int (x.den : Int))) (x9 := z9)
  obtain ⟨y5, y6, st5, e6⟩ := odd_step (a := a) (x := x) (x0 := some (.scr (ns.map D.int))) (x1 := some (.int k)) (x3 := some (.lst (ys.map q))) (z4 := y4) (z5 := z5) (z6 := z6) (z9 := z9) u4.pu
  refine ⟨[some (.scr (ns.map D.int)), some (.int k), some (.ref i), some (.lst (ys.map q)), y4, y5, y6, some (.int x.num), some (.int (x.den : Int)), z9], st5, ?_, _, _, _, _, _, _, _, _, _, rfl⟩
  have V0 : v0b0 (gx a) [some (.scr (ns.map D.int)), some (.int k), z2, z3, z4, z5, z6, z7, z8, z9] st = some (.nx, [some (.scr (ns.map D.int)), some (.int k), some (.ref i), z3, z4, z5, z6, z7, z8, z9], st1) := by
    clear e4 e5 e6
    simp [fnOf_ap, env0, fnRes, sSeq_ap, sIf_ap, sRet_ap, sSet_ap, sExp_ap, sPar_ap, sRaise_ap, bndS_ap, bnd_ap, ret_ap, lift_ap, liftS_ap, s1_ap, s2_ap, sVar_ap, sC_ap, sCons_ap, sNil_ap, sTup_ap, sLst_ap, sLstM_ap, sCall_ap, sIx_ap, sBs_ap, sTest_ap, sTru_ap, tNotI_ap, tOrI_ap, tAndI_ap, sNotV_ap, sAndV_ap, sOrV_ap, go_ap, sNop_ap, ite_ap, isB_bl, truth_bl, trimS_self, small_lt, hc, hp]
  have V1 : v0b1 (gx a) [some (.scr (ns.map D.int)), some (.int k), some (.ref i), z3, z4, z5, z6, z7, z8, z9] st1 = some (.nx, [some (.scr (ns.map D.int)), some (.int k), some (.ref i), z3, z4, z5, z6, some (.int x.num), some (.int (x.den : Int)), z9], st3) := by
    clear e4 e5 e6
    show sAsg _ _ _ _ = _
    rw [sAsg_ap]
    have o1 : oAddX (nD n2) (.int 1) = some (.int ((n2 : Int) + 1)) := rfl
    have C : (sCall 2 F_l_low (sCons (sCall 1 F_l_number (sCons (sVar 2) sNil)) (sCons (s2 oAddX (sCall 1 F_l_number (sCons (sVar 2) sNil)) (sC (.int 1))) sNil))) [some (.scr (ns.map D.int)), some (.int k), some (.ref i), z3, z4, z5, z6, z7, z8, z9] st1 = some (.ok (q x), st3) := by
      generalize q x = qq at *
      generalize D.int ((n2 : Int) + 1) = w1 at *
      unfold nD at *
      simp [fnOf_ap, env0, fnRes, sSeq_ap, sIf_ap, sRet_ap, sSet_ap, sExp_ap, sPar_ap, sRaise_ap, bndS_ap, bnd_ap, ret_ap, lift_ap, liftS_ap, s1_ap, s2_ap, sVar_ap, sC_ap, sCons_ap, sNil_ap, sTup_ap, sLst_ap, sLstM_ap, sCall_ap, sIx_ap, sBs_ap, sTest_ap, sTru_ap, tNotI_ap, tOrI_ap, tAndI_ap, sNotV_ap, sAndV_ap, sOrV_ap, go_ap, sNop_ap, ite_ap, isB_bl, truth_bl, trimS_self, small_lt, e2, e3, o1, LW]
    simp only [bndS_ap, C]
    rfl
  show sSeq (v0b0 (gx a)) (sSeq (v0b1 (gx a)) (sSeq (v0b2 (gx a)) (sSeq (v0b3 (gx a)) (sSeq (v0b4 (gx a)) (sSeq (v0b5 (gx a)) (sSeq (v0b6 (gx a)) (sSeq (v0b7 (gx a)) (sSeq (v0b8 (gx a)) (sSeq (v0b9 (gx a)) (sSeq (v0b10 (gx a)) (sSeq (v0b11 (gx a)) (sSeq (v0b12 (gx a)) (v0b13 (gx a)))))))))))))) _ _ = _
  rw [seq_of V0, seq_of V1, e4, seq_of e5, e6]
end
noncomputable abbrev vArgs : Sma := (sCons (sBs (fun _ => oMax) (sCons (sC (.int 2)) (sCons (sBs (fun _ => oMin) (sCons (sC (.int 6)) (sCons (sBs oLen (sCons (sVar 0) sNil)) sNil))) sNil))) sNil)
section
variable {a : Ad} {st : Sto} {env : DEnv}
theorem loop_all {ns : List Int} : ∀ (n : Nat) (lo : Int), 0 ≤ lo → lo + n ≤ 64 → ∀ (env : DEnv) (st : Sto), Sh (.scr (ns.map D.int)) env → ∃ env' st', forL (bName 1) (v0B (gx a)) (rngL lo n) env st = some (.nx, env', st')
  | 0, lo, _, _, env, st, _ => ⟨env, st, rfl⟩
  | n + 1, lo, h0, h6, env, st, ⟨z1, z2, z3, z4, z5, z6, z7, z8, z9, e⟩ => by
    subst e
    obtain ⟨env1, st1, e1, s1⟩ := body_step (a := a) (st := st) (ns := ns) (k := lo) h0 (by omega) (z2 := z2) (z3 := z3) (z4 := z4) (z5 := z5) (z6 := z6) (z7 := z7) (z8 := z8) (z9 := z9)
    obtain ⟨env2, st2, e2⟩ := loop_all (ns := ns) n (lo + 1) (by omega) (by omega) env1 st1 s1
    refine ⟨env2, st2, ?_⟩
    show forL (bName 1) (v0B (gx a)) (.int lo :: rngL (lo + 1) n) _ _ = _
    rw [forL_cons rfl e1]
    exact e2
theorem law_eq {ns : List Int} (hl : ns.length ≤ 63) : ∃ st', F_law (gx a) [.scr (ns.map D.int)] st = some (.ok (.bl true), st') := by
  obtain ⟨m, hm6, em⟩ : ∃ m : Nat, m ≤ 64 ∧ (if (if (ns.length : Int) < 6 then (ns.length : Int) else 6) > 2 then (if (ns.length : Int) < 6 then (ns.length : Int) else 6) else 2) = (m : Int) := by
    refine ⟨max 2 (min 6 ns.length), by omega, ?_⟩
    split <;> split <;> omega
  obtain ⟨env', st', e⟩ := loop_all (a := a) (ns := ns) m 0 (by omega) (by omega) [some (.scr (ns.map D.int)), none, none, none, none, none, none, none, none, none] st ⟨_, _, _, _, _, _, _, _, _, rfl⟩
  have Q : (v0 (gx a)) [some (.scr (ns.map D.int)), none, none, none, none, none, none, none, none, none] st = some (.nx, env', st') := by
    have A : vArgs [some (.scr (ns.map D.int)), none, none, none, none, none, none, none, none, none] st = some (.ok [.int (m : Int)], st) := by
      rw [← em]
      clear e
      simp [fnOf_ap, env0, fnRes, sSeq_ap, sIf_ap, sRet_ap, sSet_ap, sExp_ap, sPar_ap, sRaise_ap, bndS_ap, bnd_ap, ret_ap, lift_ap, liftS_ap, s1_ap, s2_ap, sVar_ap, sC_ap, sCons_ap, sNil_ap, sTup_ap, sLst_ap, sLstM_ap, sCall_ap, sIx_ap, sBs_ap, sTest_ap, sTru_ap, tNotI_ap, tOrI_ap, tAndI_ap, sNotV_ap, sAndV_ap, sOrV_ap, go_ap, sNop_ap, ite_ap, isB_bl, truth_bl, trimS_self, small_lt, oLen, oMin, oMax]
    exact (sForR_of A (rng_of (n := m) (by omega))).trans e
  refine ⟨trimS st.length (.bl true) st', ?_⟩
  unfold F_law
  rw [b_law_is]
  show (if [D.scr (ns.map D.int)].length = 1 then fnRes st.length (sSeq (v0 (gx a)) (v1 (gx a)) [some (.scr (ns.map D.int)), none, none, none, none, none, none, none, none, none] st) else none) = _
  rw [if_pos (by rfl), seq_of Q, last_eq]
  rfl
end
end Law
namespace Law
open PySem PySem.Spec PyProof.Rows L2 I2
def spLaw (K : PySem.W.Frag) : L2.Sp := fun vs H Q _ => ∃ (a : Addr) (ns : List Int), vs = [.ref a] ∧ Only H ∧ SqL K H a (ns.map V.int) ∧ ns.length ≤ 63 ∧ ∀ H', Q (.bl true) H'
theorem rds_ints {g : GX} {m : MM} {H : L2.Hp} : ∀ ns : List Int, RDs g m H (ns.map D.int) (ns.map V.int)
  | [] => .nil
  | n :: ns => .cons (.int n) (rds_ints ns)
theorem spLaw_of {K : PySem.W.Frag} {a : Ad} (hK : a.K = K) (vs : List V) (H : L2.Hp) (Q : VK) (E : XK) (h : spLaw K vs H Q E) : spF (gx a) 1 (F_law (gx a)) vs H Q E := by
  obtain ⟨p, ns, rfl, hO, hS, hl, hQ⟩ := h
  have sf : SF (gx a).K H p (ns.map V.int) := by
    show SF a.K H p _
    rw [hK]
    rcases hS with (h | ⟨o, h⟩) | h
    · rcases hO p with e | ⟨o, xs, e⟩
      · rw [e] at h; cases h
      · rw [e] at h; cases h
    · exact .inl ⟨o, h⟩
    · exact .inr h
  obtain ⟨st', e⟩ := law_eq (a := a) (st := []) hl
  refine ⟨[.scr (ns.map D.int)], ⟨[], [], []⟩, [], rfl, .cons (.scr sf (rds_ints ns)) .nil, ⟨rfl, List.nodup_nil, fun i c a h => by simp at h, fun a h => by simp at h, fun a h => by simp at h, fun i c a h => by simp at h, fun a h => by simp at h⟩, ?_⟩
  rw [e]
  intro m' H' _ _ v r
  cases r
  exact hQ H'
theorem walk {l : PySem.W.OpenLaw} {q : Program} {loose : List Str} {XP : (Str → Option Value) → Heap → Prop} {YP : World → Heap → Prop} {d : DefRec} {K : Params → PySem.W.Frag} (hn : l.most = some 63) (hdf : d.params.defaults = [])
    (hY : ∀ (w : World) (h : Heap), YP w h → (K w.params).In h)
    (F : ∀ (w : World) (mg : Str → Option Value) (fa : Addr) (h : Heap), (K w.params).In h → h.Ns mainGlobals mg → mg d.name = some (.ref fa) →
      ∃ (a : Ad) (fd : FuncData), a.K = K w.params ∧ Tx mg a ∧ (∀ (s : Shared) (u : Value), BindsTo s fd ⟨[u], []⟩ [("_law_script", u)]) ∧ ∀ base : Heap, FnOk l.prog w (K w.params) mg base (CXe l.prog w) 6 fa fd ["_law_script"] (spF (gx a) 1 (F_law (gx a)))) :
    PySem.W.WalkO q loose XP YP l.row.toRowW d [] (fun f vs => PySem.call f vs) := by
  refine L2.walk_of (n := 63) (k := 6) (x := "_law_script") (CX := fun w => CXe l.prog w) (sp := fun w => spLaw (K w.params)) hn (by decide) hdf ⟨rfl, by decide, by decide⟩ hY (fun w mg fa h KX G hm => ?_) (fun w H a ns hl hO hS => ⟨a, ns, rfl, hO, hS, hl, fun _ => rfl⟩) fun _ _ _ _ _ ⟨_, _, _, _, _, _, _, _, _, z⟩ => z
  obtain ⟨a, fd, hK, T, hb, hF⟩ := F w mg fa h KX G hm
  exact ⟨fd, hb, fun base _ _ => (hF base).imp (spLaw_of hK)⟩
end Law
open PySem PySem.W PyProof.Rows
set_option maxRecDepth 100000 in
set_option maxHeartbeats 0 in
theorem PySem.Challenge.cw_earthends_k02_roots_told_holds : PySem.Challenge.rw_earthends_k02_roots_told.Holds := by
  w_on; o_law; k_head; (case hw => w_witness2)
  k_fill
  refine Law.walk (l := PySem.Challenge.rw_earthends_k02_roots_told) rfl rfl (fun w h Y => PySem.W.kIn_of Y) ?F
  case F =>
    intro w mg fa h KX G hmg
    refine' Law.all_mk KX G hmg ?a_is_whole ?l_is_whole ?e_is_whole ?k_is_whole ?a_is_tuple_of ?l_is_tuple_of ?e_is_tuple_of ?k_is_tuple_of ?a_common_divisor ?l_common_divisor ?e_common_divisor ?k_common_divisor ?a_whole_root ?l_whole_root ?e_whole_root ?k_whole_root ?a_l_cell ?l_l_cell ?e_l_cell ?k_l_cell ?a_l_purse ?l_l_purse ?e_l_purse ?k_l_purse ?a_l_pick ?l_l_pick ?e_l_pick ?k_l_pick ?a_l_whole ?l_l_whole ?e_l_whole ?k_l_whole ?a_l_low ?l_l_low ?e_l_low ?k_l_low ?a_l_sort ?l_l_sort ?e_l_sort ?k_l_sort ?a_l_square_of ?l_l_square_of ?e_l_square_of ?k_l_square_of ?a_is_fraction ?l_is_fraction ?e_is_fraction ?k_is_fraction ?a_l_is_fraction ?l_l_is_fraction ?e_l_is_fraction ?k_l_is_fraction ?a_l_number ?l_l_number ?e_l_number ?k_l_number ?a_root ?l_root ?e_root ?k_root ?a_l_told ?l_l_told ?e_l_told ?k_l_told ?a_l_right ?l_l_right ?e_l_right ?k_l_right ?a_law ?l_law ?e_law ?k_law ?cc_EarthError ?cc_NoNumber ?cc_NoCable ?cc_NoDrag ?cc_NoText ?cc_NoLeaks ?cc_NoStretch ?cc_NoWord ?cc_NoReading ?cc_NoPlace ?cc_NoDay ?cc_NoPair ?cc_NoSplice ?cc_NoDays ?cc_NoPlaces ?cc_NoLength ?cc_NoDeed ?cc_NoBack ?cc_NoRow ?x1_EarthError ?x2_EarthError ?x3_EarthError ?x4_EarthError ?x1_NoNumber ?x2_NoNumber ?x3_NoNumber ?x4_NoNumber ?kk_NoNumber_EarthError ?kk_NoNumber_NoNumber ?kk_NoNumber_NoCable ?kk_NoNumber_NoDrag ?kk_NoNumber_NoText ?kk_NoNumber_NoLeaks ?kk_NoNumber_NoStretch ?kk_NoNumber_NoWord ?kk_NoNumber_NoReading ?kk_NoNumber_NoPlace ?kk_NoNumber_NoDay ?kk_NoNumber_NoPair ?kk_NoNumber_NoSplice ?kk_NoNumber_NoDays ?kk_NoNumber_NoPlaces ?kk_NoNumber_NoLength ?kk_NoNumber_NoDeed ?kk_NoNumber_NoBack ?kk_NoNumber_NoRow ?kk_NoNumber_ValueError ?su_NoNumber_EarthError ?z_ValueError ?z_abs ?z_all ?z_bool ?z_int ?z_isinstance ?z_len ?z_max ?z_min ?z_range ?z_str ?z_tuple
    (case a_is_whole => k_is); (case l_is_whole => k_is); (case e_is_whole => k_is); (case k_is_whole => k_is); (case a_is_tuple_of => k_is); (case l_is_tuple_of => k_is)
    (case e_is_tuple_of => k_is); (case k_is_tuple_of => k_is); (case a_common_divisor => k_is); (case l_common_divisor => k_is); (case e_common_divisor => k_is); (case k_common_divisor => k_is)
    (case a_whole_root => k_is); (case l_whole_root => k_is); (case e_whole_root => k_is); (case k_whole_root => k_is); (case a_l_cell => k_is); (case l_l_cell => k_is)
    (case e_l_cell => k_is); (case k_l_cell => k_is); (case a_l_purse => k_is); (case l_l_purse => k_is); (case e_l_purse => k_is); (case k_l_purse => k_is)
    (case a_l_pick => k_is); (case l_l_pick => k_is); (case e_l_pick => k_is); (case k_l_pick => k_is); (case a_l_whole => k_is); (case l_l_whole => k_is)
    (case e_l_whole => k_is); (case k_l_whole => k_is); (case a_l_low => k_is); (case l_l_low => k_is); (case e_l_low => k_is); (case k_l_low => k_is)
    (case a_l_sort => k_is); (case l_l_sort => k_is); (case e_l_sort => k_is); (case k_l_sort => k_is); (case a_l_square_of => k_is); (case l_l_square_of => k_is)
    (case e_l_square_of => k_is); (case k_l_square_of => k_is); (case a_is_fraction => k_is); (case l_is_fraction => k_is); (case e_is_fraction => k_is); (case k_is_fraction => k_is)
    (case a_l_is_fraction => k_is); (case l_l_is_fraction => k_is); (case e_l_is_fraction => k_is); (case k_l_is_fraction => k_is); (case a_l_number => k_is); (case l_l_number => k_is)
    (case e_l_number => k_is); (case k_l_number => k_is); (case a_root => k_is); (case l_root => k_is); (case e_root => k_is); (case k_root => k_is)
    (case a_l_told => k_is); (case l_l_told => k_is); (case e_l_told => k_is); (case k_l_told => k_is); (case a_l_right => k_is); (case l_l_right => k_is)
    (case e_l_right => k_is); (case k_l_right => k_is); (case a_law => k_is); (case l_law => k_is); (case e_law => k_is); (case k_law => k_is)
    (case cc_EarthError => k_is); (case cc_NoNumber => k_is); (case cc_NoCable => k_is); (case cc_NoDrag => k_is); (case cc_NoText => k_is); (case cc_NoLeaks => k_is)
    (case cc_NoStretch => k_is); (case cc_NoWord => k_is); (case cc_NoReading => k_is); (case cc_NoPlace => k_is); (case cc_NoDay => k_is); (case cc_NoPair => k_is)
    (case cc_NoSplice => k_is); (case cc_NoDays => k_is); (case cc_NoPlaces => k_is); (case cc_NoLength => k_is); (case cc_NoDeed => k_is); (case cc_NoBack => k_is)
    (case cc_NoRow => k_is); (case x1_EarthError => k_exc); (case x2_EarthError => k_is); (case x3_EarthError => k_is); (case x4_EarthError => k_is); (case x1_NoNumber => k_exc)
    (case x2_NoNumber => k_is); (case x3_NoNumber => k_is); (case x4_NoNumber => k_is); (case kk_NoNumber_EarthError => kit_is); (case kk_NoNumber_NoNumber => kit_is); (case kk_NoNumber_NoCable => kit_is)
    (case kk_NoNumber_NoDrag => kit_is); (case kk_NoNumber_NoText => kit_is); (case kk_NoNumber_NoLeaks => kit_is); (case kk_NoNumber_NoStretch => kit_is); (case kk_NoNumber_NoWord => kit_is); (case kk_NoNumber_NoReading => kit_is)
    (case kk_NoNumber_NoPlace => kit_is); (case kk_NoNumber_NoDay => kit_is); (case kk_NoNumber_NoPair => kit_is); (case kk_NoNumber_NoSplice => kit_is); (case kk_NoNumber_NoDays => kit_is); (case kk_NoNumber_NoPlaces => kit_is)
    (case kk_NoNumber_NoLength => kit_is); (case kk_NoNumber_NoDeed => kit_is); (case kk_NoNumber_NoBack => kit_is); (case kk_NoNumber_NoRow => kit_is); (case kk_NoNumber_ValueError => kit_is); (case su_NoNumber_EarthError => k_is)
    (case z_ValueError => k_is); (case z_abs => k_is); (case z_all => k_is); (case z_bool => k_is); (case z_int => k_is); (case z_isinstance => k_is)
    (case z_len => k_is); (case z_max => k_is); (case z_min => k_is); (case z_range => k_is); (case z_str => k_is); (case z_tuple => k_is)
