import PyProof.Rows.All
import Wide.All
import OpenK.AllK
import Wide.FinOn
import PyProof.EqAt
import PyProof.EqKinds
import PyProof.TupleCall
import KE.BitLaws
import PySem.Challenge.RW_earthends_k05_cables_as_texts
set_option Elab.async false
set_option linter.all false
set_option maxRecDepth 100000
namespace L2
open PySem PySem.Spec PyProof.Rows
abbrev Key := Sum Int Str
def keyIs : Key → Value → Bool
  | .inl k, v => Value.isInt k v
  | .inr x, v => Value.isStrOf x v
def keyH (w : World) : Key → Int
  | .inl k => hashInt k
  | .inr x => hashStr w x
theorem keyIs_shape : ∀ {k : Key} {v : Value}, keyIs k v = true → (∃ i t, k = Sum.inl i ∧ v = Value.int i t) ∨ (∃ x t, k = Sum.inr x ∧ v = Value.str x t)
  | .inl i, v, h => by
    obtain ⟨t, e⟩ := Value.isInt_shape (k := i) (v := v) h
    exact .inl ⟨i, t, rfl, e⟩
  | .inr x, v, h => by
    obtain ⟨t, e⟩ := Value.isStrOf_shape (x := x) (v := v) h
    exact .inr ⟨x, t, rfl, e⟩
theorem key_ll (a b : Int) : decide ((Sum.inl a : Key) = Sum.inl b) = (a == b) := by
  by_cases e : a = b
  · subst e; simp
  · have h : ¬ (Sum.inl a : Key) = Sum.inl b := fun q => e (Sum.inl.inj q)
    rw [decide_eq_false h]
    exact (beq_eq_false_iff_ne.mpr e).symm
theorem key_rr (a b : Str) : decide ((Sum.inr a : Key) = Sum.inr b) = decide (a = b) := by
  by_cases e : a = b
  · subst e; simp
  · have h : ¬ (Sum.inr a : Key) = Sum.inr b := fun q => e (Sum.inr.inj q)
    rw [decide_eq_false h, decide_eq_false e]
theorem key_lr (a : Int) (b : Str) : decide ((Sum.inl a : Key) = Sum.inr b) = false := decide_eq_false (fun q => nomatch q)
theorem key_rl (a : Str) (b : Int) : decide ((Sum.inr a : Key) = Sum.inl b) = false := decide_eq_false (fun q => nomatch q)
def mixKind (prog : Program) (w : World) : PySem.KeyKind prog w Key where
  is := keyIs
  hash := keyH w
  inj := fun v a b ha hb => by
    rcases keyIs_shape ha with ⟨i, t, rfl, rfl⟩ | ⟨x, t, rfl, rfl⟩
    · rcases keyIs_shape hb with ⟨j, u, rfl, e⟩ | ⟨y, u, rfl, e⟩
      · injection e with e1 _; rw [e1]
      · exact nomatch e
    · rcases keyIs_shape hb with ⟨j, u, rfl, e⟩ | ⟨y, u, rfl, e⟩
      · exact nomatch e
      · injection e with e1 _; rw [e1]
  byValue := fun k v h => by
    rcases keyIs_shape h with ⟨i, t, rfl, rfl⟩ | ⟨x, t, rfl, rfl⟩ <;> rfl
  pyHash := fun hv h => by
    rcases keyIs_shape hv with ⟨i, t, rfl, rfl⟩ | ⟨x, t, rfl, rfl⟩
    · exact wpAny_pyHash_int h
    · exact wpAny_pyHash_str h
  eqBool := fun hu hv h => by
    rcases keyIs_shape hu with ⟨i, t, rfl, rfl⟩ | ⟨x, t, rfl, rfl⟩
    · rcases keyIs_shape hv with ⟨j, u, rfl, rfl⟩ | ⟨y, u, rfl, rfl⟩
      · rw [key_ll] at h; exact wpAny_eqBool_int h
      · rw [key_lr] at h; exact SeqAt.EqAt.int_str i t y u _ _ _ _ h
    · rcases keyIs_shape hv with ⟨j, u, rfl, rfl⟩ | ⟨y, u, rfl, rfl⟩
      · rw [key_rl] at h; exact SeqAt.EqAt.str_int x t j u _ _ _ _ h
      · rw [key_rr] at h; exact wpAny_eqBool_str h
  «strs» := fun k x t v h => by
    rcases keyIs_shape h with ⟨i, u, rfl, e⟩ | ⟨y, u, rfl, e⟩
    · exact nomatch e
    · injection e with e1 _
      subst e1
      cases v <;> rfl
end L2
namespace L2
open PySem PySem.Spec PyProof.Rows
inductive V where
  | non | bl (b : Bool) | int (i : Int) | str (x : Str) | byt (b : Array UInt8) | flt (b : UInt64) | ref (a : Addr) | ty (n : String)
  deriving DecidableEq
def RelV : V → Value → Prop
  | .non, u => u = Value.none
  | .bl b, u => u = Value.bool b
  | .int i, u => ∃ t, u = Value.int i t
  | .str x, u => ∃ t, u = Value.str x t
  | .byt b, u => ∃ t, u = Value.bytes b t
  | .flt b, u => ∃ t, u = Value.float b t
  | .ref a, u => u = Value.ref a
  | .ty n, u => u = Value.type n
abbrev Vals : List V → List Value → Prop := Paired RelV
theorem Vals.length {xs : List V} {us : List Value} (r : Vals xs us) : xs.length = us.length := Paired.length r
theorem Vals.get : ∀ {xs : List V} {us : List Value} {i : Nat} {x : V}, Vals xs us → xs[i]? = some x → ∃ u, us[i]? = some u ∧ RelV x u
  | _, _, _, _, .nil, e => by simp at e
  | _, _, 0, _, .cons r _, e => by simp at e; subst e; exact ⟨_, rfl, r⟩
  | _, _, i + 1, x, .cons _ t, e => by
    obtain ⟨u, h1, h2⟩ := Vals.get (i := i) (x := x) t (by simpa using e)
    exact ⟨u, by simpa using h1, h2⟩
theorem Vals.set {x : V} {u : Value} (r : RelV x u) : ∀ {xs : List V} {us : List Value} (i : Nat), Vals xs us → Vals (xs.set i x) (us.set i u)
  | _, _, _, .nil => .nil
  | _, _, 0, .cons _ t => .cons r t
  | _, _, i + 1, .cons q t => .cons q (Vals.set r i t)
theorem Vals.append : ∀ {xs ys : List V} {us ws : List Value}, Vals xs us → Vals ys ws → Vals (xs ++ ys) (us ++ ws)
  | _, _, _, _, .nil, s => s
  | _, _, _, _, .cons r t, s => .cons r (Vals.append t s)
theorem Vals.take : ∀ {xs : List V} {us : List Value} (n : Nat), Vals xs us → Vals (xs.take n) (us.take n)
  | _, _, 0, _ => .nil
  | _, _, _ + 1, .nil => .nil
  | _, _, n + 1, .cons r t => .cons r (Vals.take n t)
theorem Vals.drop : ∀ {xs : List V} {us : List Value} (n : Nat), Vals xs us → Vals (xs.drop n) (us.drop n)
  | _, _, 0, r => r
  | _, _, _ + 1, .nil => .nil
  | _, _, n + 1, .cons _ t => Vals.drop n t
def RelO : Option V → Option Value → Prop
  | some v, some u => RelV v u
  | none, none => True
  | _, _ => False
def KV {κ : Type} : List (κ × V) → List (κ × Value) → Prop := Paired fun (p : κ × V) (q : κ × Value) => p.1 = q.1 ∧ RelV p.2 q.2
def kV : Key → V
  | .inl i => .int i
  | .inr x => .str x
inductive HO where
  /-- a list -/
  | lst (xs : List V)
  /-- a tuple (never changes) -/
  | tup (xs : List V)
  /-- a dict whose keys are ints and texts; one whose keys are tuples of ints and texts (the empty one is both) -/
  | dK (kvs : List (Key × V)) | dT (kvs : List (List Key × V))
  /-- a set of ints: its members, its size -/
  | set (S : Int → Bool) (n : Nat)
  /-- an instance of the class at C, its dict at dx, its attributes -/
  | ins (C dx : Addr) (fs : List (Str × V))
  /-- the dict of the instance at x -/
  | own (x : Addr)
  /-- the dict of an exception -/
  | xd (fs : List (Str × V))
  /-- a bound method, f of x -/
  | met (f x : Addr)
  /-- a range object lo, lo + 1, .. below hi -/
  | rng (lo hi : Int)
  /-- a thing that is known to the object (the script; a dict while a loop walks it): read, never written while it is so -/
  | frz (o : Obj) (u : HO)
  /-- a code object's table -/
  | tbl (ps : Array Value)
  /-- any other thing, by what is true of its one object (a def of one's own: SetO a S n := HO.ext fun h => ..) -/
  | ext (φ : Heap → Prop)
abbrev Hp := Addr → Option HO
def upd (H : Hp) (a : Addr) (o : HO) : Hp := fun b => if b = a then some o else H b
theorem upd_same {H : Hp} {a : Addr} {o : HO} : upd H a o a = some o := by unfold upd; rw [if_pos rfl]
theorem upd_ne {H : Hp} {a b : Addr} {o : HO} (h : b ≠ a) : upd H a o b = H b := by unfold upd; rw [if_neg h]
theorem ne_of_none {H : Hp} {a b : Addr} {o : HO} (h : H a = some o) (h' : H b = none) : a ≠ b := by
  intro e; subst e; rw [h] at h'; cases h'
section
variable (P : Program) (w : World)
def ObjOk (H : Hp) (h : Heap) (a : Addr) : HO → Prop
  | .lst xs => xs.length ≤ sizeLine ∧ ∃ (its : List Value) (n : Nat), Vals xs its ∧ h.get? a = some { cls := .type "list", data := .seq its.toArray n }
  | .tup xs => xs.length ≤ sizeLine ∧ ∃ its : List Value, Vals xs its ∧ IsTup h a its.toArray
  | .dK kvs => kvs.length ≤ sizeLine ∧ (a == sysModules) = false ∧ ∃ vs, KV kvs vs ∧ h.DictOf (mixKind P w) a vs
  | .dT kvs => kvs.length ≤ sizeLine ∧ (a == sysModules) = false ∧ ∃ xs : List (List Key × Addr × Value),
      Paired (fun (p : List Key × V) (q : List Key × Addr × Value) => p.1 = q.1 ∧ H q.2.1 = some (.tup (p.1.map kV)) ∧ RelV p.2 q.2.2) kvs xs ∧
      ∃ o es ep, h.get? a = some o ∧ o.ExactDict ∧ o.data = .dict es ep ∧ es.toList = xs.map (entryOfKey (tupleKind (mixKind P w))) ∧ (xs.map (·.1)).Nodup
  | .set S n => h.SetOf (intKind P w) a S n
  | .ins C dx fs => H dx = some (.own a) ∧ fs.length ≤ 1000 ∧ dx ≠ a ∧ h.get? a = some (PySem.W.instObj C dx) ∧
      ∃ mA, h.Ns1 dx mA ∧ (∀ f, RelO (fs.lookup f) (mA f)) ∧ PySem.Within mA (fs.map (·.1))
  | .own _ => ∃ o, h.get? a = some o
  | .xd fs => ∃ mA, h.Ns1 a mA ∧ ∀ f, RelO (fs.lookup f) (mA f)
  | .rng lo hi => ∃ t u v, h.get? a = some { cls := .type "range", data := .fields #[.int lo t, .int hi u, .int 1 v] }
  | .frz o u => h.get? a = some o ∧ ObjOk H h a u
  | .tbl ps => h.get? a = some { cls := .none, data := .fields ps }
  | .met f x => h.get? a = some (PySem.W.methodObj (.ref f) (.ref x))
  | .ext φ => φ h ∧ (∃ o, h.get? a = some o) ∧ ∀ h1 h2 : Heap, φ h1 → (∀ o, h1.get? a = some o → h2.get? a = some o) → φ h2
def HOk (H : Hp) (h : Heap) : Prop := ∀ a o, H a = some o → ObjOk P w H h a o
end
section
variable {P : Program} {w : World} {H H' : Hp} {h h' : Heap} {a : Addr} {o : HO}
theorem ObjOk.lt (x : ObjOk P w H h a o) : a < h.objs.size := by
  cases o with
  | lst xs => obtain ⟨_, _, _, _, e⟩ := x; exact Heap.lt_size e
  | tup xs => obtain ⟨_, _, _, p⟩ := x; exact p.lt
  | dK kvs => obtain ⟨_, _, _, _, o, _, _, e, _⟩ := x; exact Heap.lt_size e
  | dT kvs => obtain ⟨_, _, _, _, o, _, _, e, _⟩ := x; exact Heap.lt_size e
  | set S n => obtain ⟨o, _, _, _, e, _⟩ := x; exact Heap.lt_size e
  | ins C dx fs => obtain ⟨_, _, _, e, _⟩ := x; exact Heap.lt_size e
  | own y => obtain ⟨_, e⟩ := x; exact Heap.lt_size e
  | xd fs => obtain ⟨_, ⟨_, _, _, e, _⟩, _⟩ := x; exact Heap.lt_size e
  | rng lo hi => obtain ⟨_, _, _, e⟩ := x; exact Heap.lt_size e
  | frz ob u => obtain ⟨e, _⟩ := x; exact Heap.lt_size e
  | tbl ps => exact Heap.lt_size (show h.get? a = some _ from x)
  | met f y => exact Heap.lt_size (show h.get? a = some _ from x)
  | ext φ => obtain ⟨_, ⟨_, e⟩, _⟩ := x; exact Heap.lt_size e
theorem Paired.mapP {α β : Type} {F G : α → β → Prop} : ∀ {l₁ : List α} {l₂ : List β}, Paired F l₁ l₂ → (∀ a b, F a b → G a b) → Paired G l₁ l₂
  | _, _, .nil, _ => .nil
  | _, _, .cons r t, f => .cons (f _ _ r) (Paired.mapP t f)
theorem ObjOk.stay (x : ObjOk P w H h a o) (k : ∀ b u, (b = a ∨ H b = some (.own a)) → h.get? b = some u → h'.get? b = some u)
    (ho : ∀ b, H b = some (.own a) → H' b = some (.own a)) (ht : ∀ b xs, H b = some (.tup xs) → H' b = some (.tup xs)) : ObjOk P w H' h' a o := by
  induction o with
  | lst xs => obtain ⟨z, its, n, r, e⟩ := x; exact ⟨z, its, n, r, k _ _ (.inl rfl) e⟩
  | tup xs => obtain ⟨z, its, r, ob, e, c⟩ := x; exact ⟨z, its, r, ob, k _ _ (.inl rfl) e, c⟩
  | dK kvs => obtain ⟨z, y, vs, r, ob, es, ep, e, c⟩ := x; exact ⟨z, y, vs, r, ob, es, ep, k _ _ (.inl rfl) e, c⟩
  | dT kvs =>
    obtain ⟨z, y, xs, r, ob, es, ep, e, c⟩ := x
    exact ⟨z, y, xs, Paired.mapP r fun p q z => ⟨z.1, ht _ _ z.2.1, z.2.2⟩, ob, es, ep, k _ _ (.inl rfl) e, c⟩
  | set S n => obtain ⟨ob, es, ep, t, e, c⟩ := x; exact ⟨ob, es, ep, t, k _ _ (.inl rfl) e, c⟩
  | ins C dx fs =>
    obtain ⟨d, z, ne, e, mA, ⟨od, es, ep, e2, c⟩, r⟩ := x
    exact ⟨ho _ d, z, ne, k _ _ (.inl rfl) e, mA, ⟨od, es, ep, k _ _ (.inr d) e2, c⟩, r⟩
  | own y => obtain ⟨ob, e⟩ := x; exact ⟨ob, k _ _ (.inl rfl) e⟩
  | xd fs => obtain ⟨mA, ⟨od, es, ep, e, c⟩, r⟩ := x; exact ⟨mA, ⟨od, es, ep, k _ _ (.inl rfl) e, c⟩, r⟩
  | rng lo hi => obtain ⟨t, u, v, e⟩ := x; exact ⟨t, u, v, k _ _ (.inl rfl) e⟩
  | frz ob u ih => obtain ⟨e, q⟩ := x; exact ⟨k _ _ (.inl rfl) e, ih q⟩
  | tbl ps =>
    have e : h.get? a = some { cls := .none, data := .fields ps } := x
    show h'.get? a = some { cls := .none, data := .fields ps }
    exact k a _ (.inl rfl) e
  | met f y =>
    have e : h.get? a = some (PySem.W.methodObj (.ref f) (.ref y)) := x
    show h'.get? a = some (PySem.W.methodObj (.ref f) (.ref y))
    exact k a _ (.inl rfl) e
  | ext φ => obtain ⟨p, ⟨o, e⟩, st⟩ := x; exact ⟨st _ _ p fun o q => k _ _ (.inl rfl) q, ⟨o, k _ _ (.inl rfl) e⟩, st⟩
theorem HOk.lt (x : HOk P w H h) (e : H a = some o) : a < h.objs.size := (x a o e).lt
theorem HOk.fresh (x : HOk P w H h) (e : h.objs.size ≤ a) : H a = none := by
  cases q : H a with
  | none => rfl
  | some u => exact absurd (Nat.lt_of_lt_of_le (x.lt q) e) (Nat.lt_irrefl _)
theorem HOk.kept (x : HOk P w H h) (k : ∀ b u, h.get? b = some u → h'.get? b = some u) : HOk P w H h' := fun a o e =>
  (x a o e).stay (fun b u _ q => k b u q) (fun _ q => q) fun _ _ q => q
theorem HOk.laid (x : HOk P w H h) (k : ∀ b u, h.get? b = some u → h'.get? b = some u) (hp : h.objs.size ≤ a) (new : ObjOk P w (upd H a o) h' a o) : HOk P w (upd H a o) h' := fun b u e => by
  have hn := x.fresh hp
  by_cases hb : b = a
  · subst hb; rw [upd_same] at e; cases e; exact new
  · rw [upd_ne hb] at e
    exact (x b u e).stay (fun c v _ q => k c v q) (fun c q => by rw [upd_ne (ne_of_none q hn)]; exact q) fun c xs q => by rw [upd_ne (ne_of_none q hn)]; exact q
end
def Rd (H : Hp) (a : Addr) (u : HO) : Prop := H a = some u ∨ ∃ o, H a = some (.frz o u)
theorem Rd.of {H : Hp} {a : Addr} {u : HO} (h : H a = some u) : Rd H a u := .inl h
theorem Rd.ok {P : Program} {w : World} {H : Hp} {h : Heap} {a : Addr} {u : HO} (r : Rd H a u) (x : HOk P w H h) : ObjOk P w H h a u := by
  rcases r with r | ⟨o, r⟩
  · exact x a u r
  · obtain ⟨_, q⟩ := x a _ r
    exact q
def Mut : Option HO → Prop
  | some (.lst _) => True
  | some (.dK _) => True
  | some (.dT _) => True
  | some (.set _ _) => True
  | some (.ins _ _ _) => True
  | some (.ext _) => True
  | _ => False
section
variable {P : Program} {w : World} {H : Hp} {h h' : Heap} {x e : Addr} {o' : HO}
theorem HOk.write (ok : HOk P w H h) (mu : Mut (H x)) (he : e = x ∨ H e = some (.own x)) (k : ∀ b u, b ≠ e → h.get? b = some u → h'.get? b = some u) (heo : ∃ u, h'.get? e = some u)
    (new : ObjOk P w (upd H x o') h' x o') : HOk P w (upd H x o') h' := fun b u q => by
  have nown : ∀ c y, H c = some (.own y) → c ≠ x := fun c y r z => by subst z; rw [r] at mu; exact mu
  have ntup : ∀ c xs, H c = some (.tup xs) → c ≠ x := fun c xs r z => by subst z; rw [r] at mu; exact mu
  by_cases hb : b = x
  · subst hb; rw [upd_same] at q; cases q; exact new
  · rw [upd_ne hb] at q
    by_cases hbe : b = e
    · have q' : H b = some (.own x) := by
        rcases he with z | z
        · exact absurd (hbe.trans z) hb
        · rw [hbe]; exact z
      rw [q] at q'; cases q'
      obtain ⟨v, hv⟩ := heo
      exact ⟨v, by rw [hbe]; exact hv⟩
    · refine (ok b u q).stay (fun c v hc r => k c v ?_ r) (fun c r => by rw [upd_ne (nown c b r)]; exact r) fun c xs r => by rw [upd_ne (ntup c xs r)]; exact r
      rcases hc with rfl | hc
      · exact hbe
      · rintro rfl
        rcases he with z | z
        · exact nown c b hc z
        · rw [hc] at z; cases z; exact hb rfl
end
structure Un (fs ex : List Addr) (H H' : Hp) (h h' : Heap) : Prop where
  keep : ∀ b o, h.get? b = some o → H b = none → b ∉ fs → b ∉ ex → h'.get? b = some o
  slot : ∀ b o, h.get? b = some o → H b = none → b ∈ fs → b ∉ ex → ∃ sl, h'.get? b = some { o with slots := sl }
  free : ∀ b o, h.get? b = some o → H b = none → b ∉ ex → H' b = none
  there : ∀ b o, h.get? b = some o → b ∉ ex → ∃ o', h'.get? b = some o'
  tups : ∀ b xs, H b = some (.tup xs) → H' b = some (.tup xs)
  frzs : ∀ b o u, H b = some (.frz o u) → H' b = some (.frz o u)
  tbls : ∀ b ps, H b = some (.tbl ps) → ∃ more, H' b = some (.tbl (ps ++ more))
section
variable {fs fs' ex ex' : List Addr} {H H1 H2 : Hp} {h h1 h2 h' : Heap} {a x e : Addr} {o : HO}
theorem Un.any (u : Un fs ex H H1 h h1) {b : Addr} {ob : Obj} (q : h.get? b = some ob) (n : H b = none) (hx : b ∉ ex) : ∃ sl, h1.get? b = some { ob with slots := sl } := by
  by_cases hb : b ∈ fs
  · exact u.slot b ob q n hb hx
  · exact ⟨ob.slots, u.keep b ob q n hb hx⟩
theorem Un.trans (a : Un fs ex H H1 h h1) (b : Un fs ex H1 H2 h1 h2) : Un fs ex H H2 h h2 where
  keep := fun c ob q n hc hx => b.keep c ob (a.keep c ob q n hc hx) (a.free c ob q n hx) hc hx
  slot := fun c ob q n hc hx => by
    obtain ⟨sl, e1⟩ := a.slot c ob q n hc hx
    obtain ⟨sl', e2⟩ := b.slot c _ e1 (a.free c ob q n hx) hc hx
    exact ⟨sl', e2⟩
  free := fun c ob q n hx => by
    obtain ⟨o', e1⟩ := a.there c ob q hx
    exact b.free c o' e1 (a.free c ob q n hx) hx
  there := fun c ob q hx => by
    obtain ⟨o', e1⟩ := a.there c ob q hx
    exact b.there c o' e1 hx
  tups := fun c xs q => b.tups c xs (a.tups c xs q)
  frzs := fun c ob xs q => b.frzs c ob xs (a.frzs c ob xs q)
  tbls := fun c ps q => by
    obtain ⟨m1, e1⟩ := a.tbls c ps q
    obtain ⟨m2, e2⟩ := b.tbls c _ e1
    exact ⟨m1 ++ m2, by rw [e2, Array.append_assoc]⟩
theorem Un.kept (k : ∀ b u, h.get? b = some u → h'.get? b = some u) : Un fs ex H H h h' :=
  ⟨fun b ob q _ _ _ => k b ob q, fun b ob q _ _ _ => ⟨ob.slots, k b ob q⟩, fun _ _ _ n _ => n, fun b ob q _ => ⟨ob, k b ob q⟩, fun _ _ q => q, fun _ _ _ q => q, fun _ ps q => ⟨#[], by rw [q]; simp⟩⟩
theorem Un.refl : Un fs ex H H h h := Un.kept fun _ _ q => q
theorem Un.laid (k : ∀ b u, h.get? b = some u → h'.get? b = some u) (hp : h.objs.size ≤ a) (hn : H a = none) : Un fs ex H (upd H a o) h h' where
  keep := fun b u q _ _ _ => k b u q
  slot := fun b u q _ _ _ => ⟨u.slots, k b u q⟩
  free := fun b u q n _ => by rw [upd_ne (Nat.ne_of_lt (Nat.lt_of_lt_of_le (Heap.lt_size q) hp))]; exact n
  there := fun b u q _ => ⟨u, k b u q⟩
  tups := fun b xs q => by rw [upd_ne (ne_of_none q hn)]; exact q
  frzs := fun b u xs q => by rw [upd_ne (ne_of_none q hn)]; exact q
  tbls := fun b ps q => ⟨#[], by rw [upd_ne (ne_of_none q hn), q]; simp⟩
theorem Un.write (mu : Mut (H x)) (he : e = x ∨ H e = some (.own x)) (k : ∀ b u, b ≠ e → h.get? b = some u → h'.get? b = some u) (heo : ∃ u, h'.get? e = some u) : Un fs ex H (upd H x o) h h' := by
  have hx : ∀ b, H b = none → b ≠ x := fun b n z => by subst z; rw [n] at mu; exact mu
  have hb : ∀ b, H b = none → b ≠ e := fun b n z => by
    subst z
    rcases he with r | r
    · exact hx b n r
    · rw [n] at r; cases r
  have hm : ∀ b u, H b = some u → ¬ Mut (some u) → b ≠ x := fun b u q nm z => by subst z; rw [q] at mu; exact nm mu
  refine ⟨fun b u q n _ _ => k b u (hb b n) q, fun b u q n _ _ => ⟨u.slots, k b u (hb b n) q⟩, fun b u q n _ => by rw [upd_ne (hx b n)]; exact n, fun b u q _ => ?_,
    fun b xs q => by rw [upd_ne (hm b _ q fun z => z)]; exact q, fun b u xs q => by rw [upd_ne (hm b _ q fun z => z)]; exact q, fun b ps q => ⟨#[], by rw [upd_ne (hm b _ q fun z => z), q]; simp⟩⟩
  by_cases hbe : b = e
  · subst hbe; exact heo
  · exact ⟨u, k b u hbe q⟩
theorem Un.mono (u : Un fs ex H H1 h h1) (hs : ∀ b ∈ fs, b ∈ fs') (hx : ∀ b ∈ ex, b ∈ ex') : Un fs' ex' H H1 h h1 :=
  ⟨fun b ob q n hb he => u.keep b ob q n (fun z => hb (hs b z)) fun z => he (hx b z), fun _ _ q n _ he => u.any q n fun z => he (hx _ z), fun b ob q n he => u.free b ob q n fun z => he (hx b z), fun b ob q he => u.there b ob q fun z => he (hx b z), u.tups, u.frzs, u.tbls⟩
end
def trk (h : Heap) (H : Hp) : List Addr := (List.range h.objs.size).filter fun a => (H a).isSome
def hidT (h : Heap) (H : Hp) : Heap := PySem.W.hideAll h (trk h H)
theorem hidT_size (h : Heap) (H : Hp) : (hidT h H).objs.size = h.objs.size := PySem.W.hideAll_size _ _
theorem hidT_get {h : Heap} {H : Hp} {b : Addr} {o : Obj} (e : h.get? b = some o) (n : H b = none) : (hidT h H).get? b = some o :=
  PySem.W.hideAll_get _ e fun hm => by
    have q : (H b).isSome = true := (List.mem_filter.mp hm).2
    rw [n] at q; simp at q
theorem of_hidT {h : Heap} {H : Hp} {b : Addr} {o : Obj} (e : (hidT h H).get? b = some o) : h.get? b = some o ∧ H b = none := by
  have e' : h.get? b = some o := PySem.W.of_hideAll (trk h H) e
  refine ⟨e', ?_⟩
  cases q : H b with
  | none => rfl
  | some x =>
    have hm : b ∈ trk h H := List.mem_filter.mpr ⟨List.mem_range.mpr (Heap.lt_size e'), by simp [q]⟩
    have z : (hidT h H).get? b = none := PySem.W.hideAll_none (trk h H) hm
    rw [z] at e; cases e
def allNews (g h : Heap) (L : Addr) : List (Addr × Obj) := (List.range h.objs.size).filterMap fun a => if a = L ∨ (g.get? a).isSome = true then none else (h.get? a).map fun o => (a, o)
def rest (g h : Heap) (L d : Addr) : List (Addr × Obj) := (allNews g h L).filter fun p => decide (p.1 ≠ d)
end L2
namespace L2
open PySem PySem.Spec PyProof.Rows
structure Mod (K : PySem.W.Frag) (mg : Str → Option Value) (base : Heap) : Prop where
  kin : K.In base
  glob : base.Ns mainGlobals mg
  blt : ∃ mb, base.Ns builtinsNs mb ∧ ∀ x : Str, x ≠ "__name__" → mb x = bootBuiltins x
  nolimit : base.NoLimit
structure Cx where
  prog : Program
  w : World
  K : PySem.W.Frag
  mg : Str → Option Value
  base : Heap
  A : Around
  N : List Str
  s_0 : Shared
  H_0 : Hp
  env : Env
  outer : List Env
  stack : List Env
  ex : List Addr
  fn : Str → Bool
  calm : Bool
  pn : List (Addr × Obj)
  xe : Value → Shared → Prop
def frs (l : List Env) : List Addr := l.filterMap (·.frame)
abbrev Cx.fs (X : Cx) : List Addr := frs X.outer
def Vis (sc : Scope) (x : Str) : Prop := sc.names.lookup x = some .local ∨ sc.names.lookup x = some .cell ∨ sc.names.lookup x = some .free
def Loc (sc : Scope) (x : Str) : Prop := sc.names.lookup x = some .local ∨ sc.names.lookup x = some .cell
def Look (env : Env) (h : Heap) (m : Str → Option Value) (x : Str) (u : Value) : Prop :=
  (env.kindOf x = some .local ∧ m x = some u) ∨ ((env.kindOf x = some .cell ∨ env.kindOf x = some .free) ∧ ∃ c, env.cells.lookup x = some c ∧ h.IsCell c (some u))
structure Cx.Ok (X : Cx) : Prop where
  mod : Mod X.K X.mg X.base
  kind : X.env.scope.kind = .function
  glob : X.env.globals = mainGlobals
  blt : X.env.builtins = builtinsNs
  above : X.s_0.heap.objs.size ≤ X.env.locals
  inj : ∀ x y c, X.env.cells.lookup x = some c → X.env.cells.lookup y = some c → x = y
  has : ∀ x, (X.env.kindOf x = some .cell ∨ X.env.kindOf x = some .free) → ∃ c, X.env.cells.lookup x = some c
  cab : ∀ x c, X.fn x = true → X.env.cells.lookup x = some c → X.s_0.heap.objs.size ≤ c
  hd : X.calm = true → X.A.handled = none
  frames : X.A.frames = some X.stack
  stk : X.stack = X.outer ∨ (X.stack = X.env :: X.outer ∧ X.env.frame = some X.env.locals)
  exf : ∀ b ∈ X.ex, b ≠ X.env.locals ∧ ∀ x c, X.env.cells.lookup x = some c → c ≠ b
  bs : ∀ b o, X.base.get? b = some o → X.s_0.heap.get? b = some o ∧ X.H_0 b = none
  bsz : X.base.objs.size ≤ X.s_0.heap.objs.size
  noex : ∀ b o, X.base.get? b = some o → b ∉ X.ex
  exfs : ∀ b ∈ X.ex, b ∉ X.fs
  funs : X.s_0.heap.FunFrames X.base X.outer
  frf : ∀ b ∈ X.fs, X.H_0 b = none
structure Inv (X : Cx) (pins : List (Addr × Obj)) (σ : List (Option V)) (H : Hp) (s : Shared) : Prop where
  ok : X.Ok
  os : s.os = X.s_0.os
  bare : AllBare s.gens
  base : Un X.fs X.ex X.H_0 H X.s_0.heap s.heap
  loc : ∃ m, s.heap.Ns X.env.locals m ∧ ∀ (i : Nat) (x : Str) (v : V), X.N[i]? = some x → σ[i]? = some (some v) → Vis X.env.scope x → ∃ u, RelV v u ∧ Look X.env s.heap m x u
  cell : ∀ x c, X.env.cells.lookup x = some c → ∃ v, s.heap.IsCell c v
  free : H X.env.locals = none
  freeC : ∀ x c, X.env.cells.lookup x = some c → H c = none
  pin : ∀ p ∈ X.pn ++ pins, s.heap.get? p.1 = some p.2 ∧ H p.1 = none ∧ p.1 ≠ X.env.locals ∧ p.1 ∉ X.fs ∧ ∀ v, p.2.data ≠ .cell v
  hok : HOk X.prog X.w H s.heap
  len : σ.length = X.N.length
section
variable {X : Cx} {pins : List (Addr × Obj)} {σ : List (Option V)} {H H' : Hp} {s : Shared} {h' : Heap}
theorem Cx.Ok.nofr (ok : X.Ok) {b : Addr} {o : Obj} (e : X.base.get? b = some o) : b ∉ X.fs := fun hb => by
  have := (ok.funs.mem hb).1
  rw [e] at this; cases this
theorem Inv.bs (I : Inv X pins σ H s) : ∀ b o, X.base.get? b = some o → s.heap.get? b = some o ∧ H b = none := fun b o e =>
  ⟨I.base.keep b o (I.ok.bs b o e).1 (I.ok.bs b o e).2 (I.ok.nofr e) (I.ok.noex b o e), I.base.free b o (I.ok.bs b o e).1 (I.ok.bs b o e).2 (I.ok.noex b o e)⟩
theorem Inv.bk (I : Inv X pins σ H s) : ∀ b o, X.base.get? b = some o → s.heap.get? b = some o := fun b o e => (I.bs b o e).1
theorem Inv.mod (I : Inv X pins σ H s) : Mod X.K X.mg X.base := I.ok.mod
theorem Inv.kIn (I : Inv X pins σ H s) : X.K.In s.heap := I.ok.mod.kin.keeps I.bk
theorem Inv.nolimit (I : Inv X pins σ H s) : s.heap.NoLimit := I.ok.mod.nolimit.keeps I.bk
theorem Inv.fr (I : Inv X pins σ H s) : ∃ m, Fr X.base X.env.locals s.heap m :=
  let ⟨m, hn, _⟩ := I.loc
  ⟨m, hn, I.bk, Nat.le_trans I.ok.bsz I.ok.above⟩
theorem Inv.lt (I : Inv X pins σ H s) : X.env.locals < s.heap.objs.size := let ⟨_, hn, _⟩ := I.loc; hn.lt
theorem Inv.sz (I : Inv X pins σ H s) : X.s_0.heap.objs.size ≤ s.heap.objs.size := Nat.le_trans I.ok.above (Nat.le_of_lt I.lt)
theorem Inv.nofs (I : Inv X pins σ H s) {a : Addr} (h : s.heap.objs.size ≤ a) : a ∉ X.fs := fun hb => by
  obtain ⟨_, o, ho, _⟩ := I.ok.funs.mem hb
  exact absurd (Nat.lt_of_lt_of_le (Heap.lt_size ho) (Nat.le_trans I.sz h)) (Nat.lt_irrefl _)
theorem Inv.cne (I : Inv X pins σ H s) : ∀ x c, X.env.cells.lookup x = some c → c ≠ X.env.locals := fun x c e z => by
  obtain ⟨v, o, ho, hd⟩ := I.cell x c e
  obtain ⟨m, ⟨o', es, ep, ho', hd', _⟩, _⟩ := I.loc
  rw [z, ho'] at ho; cases ho; rw [hd'] at hd; cases hd
theorem Inv.funs (I : Inv X pins σ H s) : s.heap.FunFrames X.base X.outer := by
  have all : ∀ (l : List Env), (∀ b ∈ frs l, b ∈ X.fs) → X.s_0.heap.FunFrames X.base l → s.heap.FunFrames X.base l := by
    intro l
    induction l with
    | nil => intro _ _; trivial
    | cons env r ih =>
      intro hs hl
      obtain ⟨hk, ⟨L, o, hf, hn, ho, hd⟩, hr⟩ := hl
      have hL : L ∈ X.fs := hs L (by unfold frs; rw [List.filterMap_cons, hf]; exact List.mem_cons_self)
      obtain ⟨sl, e⟩ := I.base.slot L o ho (I.ok.frf L hL) hL fun z => I.ok.exfs L z hL
      exact ⟨hk, ⟨L, _, hf, hn, e, hd⟩, ih (fun b hb => hs b (by unfold frs; rw [List.filterMap_cons, hf]; exact List.mem_cons_of_mem _ hb)) hr⟩
  exact all X.outer (fun _ hb => hb) I.ok.funs
theorem Inv.stack (I : Inv X pins σ H s) : s.heap.FunFrames X.base X.stack := by
  rcases I.ok.stk with e | ⟨e, hf⟩
  · rw [e]; exact I.funs
  · rw [e]
    obtain ⟨m, hn, _⟩ := I.loc
    refine .cons (by rw [I.ok.kind]; decide) hf hn ?_ I.funs
    exact Heap.get?_none_of_le (Nat.le_trans I.ok.bsz I.ok.above)
theorem Inv.stkSub (I : Inv X pins σ H s) : ∀ b ∈ frs X.stack, b ∈ X.env.locals :: X.fs := fun b hb => by
  rcases I.ok.stk with e | ⟨e, hf⟩
  · rw [e] at hb; exact List.mem_cons_of_mem _ hb
  · rw [e] at hb
    unfold frs at hb
    rw [List.filterMap_cons, hf] at hb
    exact hb
theorem Inv.stkFree (I : Inv X pins σ H s) : ∀ b ∈ frs X.stack, H b = none := fun b hb => by
  rcases List.mem_cons.mp (I.stkSub b hb) with e | hb
  · rw [e]; exact I.free
  · obtain ⟨_, o, ho, _⟩ := I.ok.funs.mem hb
    exact I.base.free b o ho (I.ok.frf b hb) fun z => I.ok.exfs b z hb
theorem Inv.step {g' : Array GenState} {t' : Nat} {d' : Drawn} {ch : List Addr} (I : Inv X pins σ H s)
    (hch : ∀ b ∈ ch, (b ∈ X.ex ∨ X.s_0.heap.objs.size ≤ b) ∧ b ≠ X.env.locals ∧ (∀ x c, X.env.cells.lookup x = some c → c ≠ b) ∧ ∀ p ∈ X.pn ++ pins, p.1 ≠ b)
    (keep : ∀ b o, b ≠ X.env.locals → b ∉ X.fs → b ∉ ch → s.heap.get? b = some o → H b = none → h'.get? b = some o)
    (slot : ∀ b o, b ≠ X.env.locals → b ∈ X.fs → b ∉ ch → s.heap.get? b = some o → H b = none → ∃ sl, h'.get? b = some { o with slots := sl }) (free : ∀ b o, b ∉ ch → s.heap.get? b = some o → H b = none → H' b = none)
    (there : ∀ b o, b ∉ ch → s.heap.get? b = some o → ∃ o', h'.get? b = some o')
    (tups : ∀ b xs, H b = some (.tup xs) → H' b = some (.tup xs)) (frzs : ∀ b o u, H b = some (.frz o u) → H' b = some (.frz o u)) (tbls : ∀ b ps, H b = some (.tbl ps) → ∃ more, H' b = some (.tbl (ps ++ more)))
    (ns : ∀ m, s.heap.Ns X.env.locals m → h'.Ns X.env.locals m) (hok : HOk X.prog X.w H' h') (hg : AllBare g') :
    Inv X pins σ H' { s with heap := h', gens := g', drawn := d', toks := t' } := by
  have neL : ∀ b o, X.s_0.heap.get? b = some o → b ≠ X.env.locals := fun b o e => Nat.ne_of_lt (Nat.lt_of_lt_of_le (Heap.lt_size e) I.ok.above)
  have neC : ∀ b o, X.s_0.heap.get? b = some o → b ∉ X.ex → b ∉ ch := fun b o e hx hb => by
    rcases (hch b hb).1 with z | z
    · exact hx z
    · exact absurd (Nat.lt_of_lt_of_le (Heap.lt_size e) z) (Nat.lt_irrefl _)
  have cellK : ∀ x c, X.env.cells.lookup x = some c → ∀ v, s.heap.IsCell c v → h'.IsCell c v := fun x c e v ⟨o, ho, hd⟩ => by
    have nch : c ∉ ch := fun z => (hch c z).2.2.1 x c e rfl
    by_cases hc : c ∈ X.fs
    · obtain ⟨sl, q⟩ := slot c o (I.cne x c e) hc nch ho (I.freeC x c e)
      exact ⟨_, q, hd⟩
    · exact ⟨o, keep c o (I.cne x c e) hc nch ho (I.freeC x c e), hd⟩
  refine ⟨I.ok, I.os, hg, ⟨fun b o e n hb hx => ?_, fun b o e n hb hx => ?_, fun b o e n hx => ?_, fun b o e hx => ?_, fun b xs e => tups b xs (I.base.tups b xs e), fun b o xs e => frzs b o xs (I.base.frzs b o xs e), fun b ps e => ?_⟩, ?_, fun x c e => ?_, ?_, fun x c e => ?_, fun p hp => ?_, hok, I.len⟩
  · exact keep b o (neL b o e) hb (neC b o e hx) (I.base.keep b o e n hb hx) (I.base.free b o e n hx)
  · obtain ⟨sl, e1⟩ := I.base.slot b o e n hb hx
    obtain ⟨sl', e2⟩ := slot b _ (neL b o e) hb (neC b o e hx) e1 (I.base.free b o e n hx)
    exact ⟨sl', e2⟩
  · obtain ⟨o', e1⟩ := I.base.there b o e hx
    exact free b o' (neC b o e hx) e1 (I.base.free b o e n hx)
  · obtain ⟨o', e1⟩ := I.base.there b o e hx
    exact there b o' (neC b o e hx) e1
  · obtain ⟨m1, e1⟩ := I.base.tbls b ps e
    obtain ⟨m2, e2⟩ := tbls b _ e1
    exact ⟨m1 ++ m2, by rw [e2, Array.append_assoc]⟩
  · obtain ⟨m, hn, hl⟩ := I.loc
    refine ⟨m, ns m hn, fun i x v e1 e2 e3 => ?_⟩
    obtain ⟨u, r, l⟩ := hl i x v e1 e2 e3
    refine ⟨u, r, ?_⟩
    rcases l with l | ⟨k, c, e, z⟩
    · exact .inl l
    · exact .inr ⟨k, c, e, cellK x c e _ z⟩
  · obtain ⟨v, z⟩ := I.cell x c e
    exact ⟨v, cellK x c e v z⟩
  · obtain ⟨m, ⟨o, _, _, ho, _⟩, _⟩ := I.loc
    exact free _ o (fun z => (hch _ z).2.1 rfl) ho I.free
  · obtain ⟨v, o, ho, hd⟩ := I.cell x c e
    exact free c o (fun z => (hch c z).2.2.1 x c e rfl) ho (I.freeC x c e)
  · obtain ⟨e, n, ne, nf, d⟩ := I.pin p hp
    have nch : p.1 ∉ ch := fun z => (hch p.1 z).2.2.2 p hp rfl
    exact ⟨keep p.1 p.2 ne nf nch e n, free p.1 p.2 nch e n, ne, nf, d⟩
theorem Inv.un {t' : Nat} (I : Inv X pins σ H s) (u : Un X.fs [] H H' s.heap h') (hok : HOk X.prog X.w H' h') : Inv X pins σ H' { s with heap := h', toks := t' } := by
  obtain ⟨m, ⟨o, es, ep, ho, r⟩, _⟩ := id I.loc
  obtain ⟨sl, hL⟩ := u.any ho I.free (by simp)
  exact I.step (g' := s.gens) (d' := s.drawn) (ch := []) (fun _ z => nomatch z) (fun b o _ hb _ e n => u.keep b o e n hb (by simp)) (fun b o _ hb _ e n => u.slot b o e n hb (by simp)) (fun b o _ e n => u.free b o e n (by simp)) (fun b o _ e => u.there b o e (by simp)) u.tups u.frzs u.tbls (fun m' hm => by
    obtain ⟨o', es', ep', ho', r'⟩ := hm
    rw [ho] at ho'; cases ho'
    exact ⟨_, es', ep', hL, r'⟩) hok I.bare
theorem Inv.call {g' : Array GenState} {t' : Nat} {d' : Drawn} {ch : List Addr} (I : Inv X pins σ H s) (u : Un (frs X.stack) ch H H' s.heap h') (hok : HOk X.prog X.w H' h') (hg : AllBare g')
    (hch : ∀ b ∈ ch, (b ∈ X.ex ∨ X.s_0.heap.objs.size ≤ b) ∧ b ≠ X.env.locals ∧ (∀ x c, X.env.cells.lookup x = some c → c ≠ b) ∧ ∀ p ∈ X.pn ++ pins, p.1 ≠ b) :
    Inv X pins σ H' { s with heap := h', gens := g', drawn := d', toks := t' } := by
  obtain ⟨m, ⟨o, es, ep, ho, r⟩, _⟩ := id I.loc
  obtain ⟨sl, hL⟩ := u.any ho I.free fun z => (hch _ z).2.1 rfl
  exact I.step (ch := ch) hch (fun b o hL hb hc e n => u.keep b o e n (fun z => (List.mem_cons.mp (I.stkSub b z)).elim hL hb) hc) (fun b o _ _ hc e n => u.any e n hc) (fun b o hc e n => u.free b o e n hc) (fun b o hc e => u.there b o e hc) u.tups u.frzs u.tbls (fun m' hm => by
    obtain ⟨o', es', ep', ho', r'⟩ := hm
    rw [ho] at ho'; cases ho'
    exact ⟨_, es', ep', hL, r'⟩) hok hg
theorem Inv.turned {t' : Nat} {it : Addr} (I : Inv X pins σ H s) (k : ∀ b o, b ≠ it → s.heap.get? b = some o → h'.get? b = some o) (hn : H it = none) (hL : it ≠ X.env.locals)
    (h1 : it ∈ X.ex ∨ X.s_0.heap.objs.size ≤ it) (h2 : ∀ x c, X.env.cells.lookup x = some c → c ≠ it) (h3 : ∀ p ∈ X.pn ++ pins, p.1 ≠ it) : Inv X pins σ H { s with heap := h', toks := t' } := by
  have nit : ∀ b u, H b = some u → b ≠ it := fun b u e z => by rw [z, hn] at e; cases e
  refine I.step (g' := s.gens) (d' := s.drawn) (ch := [it]) (fun b hb => ?_) (fun b o _ _ hc e _ => k b o (fun z => hc (by simp [z])) e) (fun b o _ _ hc e _ => ⟨o.slots, k b o (fun z => hc (by simp [z])) e⟩) (fun _ _ _ _ n => n)
    (fun b o hc e => ⟨o, k b o (fun z => hc (by simp [z])) e⟩) (fun _ _ e => e) (fun _ _ _ e => e) (fun b ps e => ⟨#[], by rw [e]; simp⟩) (fun m hm => ?_) (fun b u e => ?_) I.bare
  · have e : b = it := by simpa using hb
    subst e
    exact ⟨h1, hL, h2, h3⟩
  · obtain ⟨o, es, ep, ho, r⟩ := hm
    exact ⟨o, es, ep, k _ o (Ne.symm hL) ho, r⟩
  · refine (I.hok b u e).stay (fun c v hc q => k c v ?_ q) (fun _ q => q) fun _ _ q => q
    rcases hc with z | z
    · rw [z]; exact nit b u e
    · exact nit c _ z
theorem Inv.tok (I : Inv X pins σ H s) (t : Nat) : Inv X pins σ H { s with toks := t } := I.un (h' := s.heap) (t' := t) Un.refl I.hok
theorem Inv.kept {t' : Nat} (I : Inv X pins σ H s) (k : ∀ b u, s.heap.get? b = some u → h'.get? b = some u) : Inv X pins σ H { s with heap := h', toks := t' } := I.un (Un.kept k) (I.hok.kept k)
theorem Inv.laid {a : Addr} {o : HO} {t' : Nat} (I : Inv X pins σ H s) (k : ∀ b u, s.heap.get? b = some u → h'.get? b = some u) (hp : s.heap.objs.size ≤ a) (new : ObjOk X.prog X.w (upd H a o) h' a o) :
    Inv X pins σ (upd H a o) { s with heap := h', toks := t' } := I.un (Un.laid k hp (I.hok.fresh hp)) (I.hok.laid k hp new)
theorem Inv.write {x e : Addr} {o : HO} {t' : Nat} (I : Inv X pins σ H s) (mu : Mut (H x)) (he : e = x ∨ H e = some (.own x)) (k : ∀ b u, b ≠ e → s.heap.get? b = some u → h'.get? b = some u) (heo : ∃ u, h'.get? e = some u)
    (new : ObjOk X.prog X.w (upd H x o) h' x o) : Inv X pins σ (upd H x o) { s with heap := h', toks := t' } := I.un (Un.write mu he k heo) (I.hok.write mu he k heo new)
theorem Inv.weak {σ' : List (Option V)} (I : Inv X pins σ H s) (hl : σ'.length = σ.length) (w : ∀ (i : Nat) v, σ'[i]? = some (some v) → σ[i]? = some (some v)) : Inv X pins σ' H s :=
  ⟨I.ok, I.os, I.bare, I.base, let ⟨m, hn, hl'⟩ := I.loc; ⟨m, hn, fun i x v e1 e2 e3 => hl' i x v e1 (w i v e2) e3⟩, I.cell, I.free, I.freeC, I.pin, I.hok, hl.trans I.len⟩
theorem Inv.pins_of {pins' : List (Addr × Obj)} (I : Inv X pins σ H s) (h : ∀ p ∈ pins', s.heap.get? p.1 = some p.2 ∧ H p.1 = none ∧ p.1 ≠ X.env.locals ∧ p.1 ∉ X.fs ∧ ∀ v, p.2.data ≠ .cell v) : Inv X pins' σ H s :=
  ⟨I.ok, I.os, I.bare, I.base, I.loc, I.cell, I.free, I.freeC, fun p hp => (List.mem_append.mp hp).elim (fun z => I.pin p (List.mem_append_left _ z)) (h p), I.hok, I.len⟩
theorem nodup_ix {N : List Str} (hN : N.Nodup) {i j : Nat} {x : Str} (a : N[i]? = some x) (b : N[j]? = some x) : i = j := by
  obtain ⟨h1, e1⟩ := List.getElem?_eq_some_iff.mp a
  obtain ⟨h2, e2⟩ := List.getElem?_eq_some_iff.mp b
  exact (List.getElem_inj hN).mp (e1.trans e2.symm)
theorem store_ok2 {M : Model} {A : Around} {E : Value → Shared → Prop} {i : Nat} {x : Str} {v : V} {u : Value} {Q : Unit → Shared → Prop} (I : Inv X pins σ H s) (hN : X.N.Nodup) (hi : X.N[i]? = some x) (hx : Loc X.env.scope x) (r : RelV v u)
    (h : ∀ s', Inv X pins (σ.set i (some v)) H s' → (∃ a, Heap.SameBut a s.heap s'.heap ∧ (a = X.env.locals ∨ X.env.cells.lookup x = some a)) → Q () s') (hf : X.fn x = true ∨ X.env.scope.names.lookup x = some .local := by first | exact .inl rfl | exact .inr rfl | assumption) : wpAny M A (storeName X.env x u) Q E s := by
  obtain ⟨m, hn, hl⟩ := id I.loc
  have hcls : (X.env.scope.kind == .class || (X.env.scope.kind == .module && X.env.locals != X.env.globals)) = false := by rw [I.ok.kind]; rfl
  have hiσ : i < σ.length := by rw [I.len]; exact (List.getElem?_eq_some_iff.mp hi).1
  have cne := I.cne
  have tracked : ∀ {a : Addr} {h' : Heap}, (∃ o, s.heap.get? a = some o ∧ H a = none) → Heap.SameBut a s.heap h' → HOk X.prog X.w H h' := fun {a h'} ha hs b ob e => by
    obtain ⟨_, _, hfree⟩ := ha
    refine (I.hok b ob e).stay (fun c w' hc q => (hs.2 c ?_).trans q) (fun _ q => q) fun _ _ q => q
    rintro rfl
    rcases hc with rfl | hc
    · rw [hfree] at e; cases e
    · rw [hfree] at hc; cases hc
  rcases hx with hk | hk
  · refine wpAny_storeName_local hk hn (fun h' hn' hs => ?_) hcls
    obtain ⟨oL, _, _, hoL, _⟩ := id hn
    refine h _ ⟨I.ok, I.os, I.bare, ⟨fun b o e n hb hx => ?_, fun b o e n hb hx => ?_, I.base.free, fun b o e hx => ?_, I.base.tups, I.base.frzs, I.base.tbls⟩, ⟨_, hn', fun j y v' e1 e2 e3 => ?_⟩, fun y c e => ?_, I.free, I.freeC, fun p hp => ?_, tracked ⟨oL, hoL, I.free⟩ hs, by simpa using I.len⟩ ⟨_, hs, .inl rfl⟩
    · exact (hs.2 b (Nat.ne_of_lt (Nat.lt_of_lt_of_le (Heap.lt_size e) I.ok.above))).trans (I.base.keep b o e n hb hx)
    · obtain ⟨sl, e1⟩ := I.base.slot b o e n hb hx
      exact ⟨sl, (hs.2 b (Nat.ne_of_lt (Nat.lt_of_lt_of_le (Heap.lt_size e) I.ok.above))).trans e1⟩
    · obtain ⟨o', e1⟩ := I.base.there b o e hx
      exact ⟨o', (hs.2 b (Nat.ne_of_lt (Nat.lt_of_lt_of_le (Heap.lt_size e) I.ok.above))).trans e1⟩
    · by_cases hj : j = i
      · subst hj
        rw [hi] at e1; cases e1
        rw [List.getElem?_set_self hiσ] at e2
        cases e2
        exact ⟨u, r, .inl ⟨hk, by simp⟩⟩
      · rw [List.getElem?_set_ne (Ne.symm hj)] at e2
        obtain ⟨u', r', q⟩ := hl j y v' e1 e2 e3
        refine ⟨u', r', ?_⟩
        rcases q with ⟨k, e⟩ | ⟨k, c, e, z⟩
        · refine .inl ⟨k, ?_⟩
          have : y ≠ x := fun e => hj (nodup_ix hN e1 (e ▸ hi))
          simp [this, e]
        · exact .inr ⟨k, c, e, z.sameBut hs (cne y c e)⟩
    · obtain ⟨w', z⟩ := I.cell y c e
      exact ⟨w', z.sameBut hs (cne y c e)⟩
    · obtain ⟨e, n, ne, nf, d⟩ := I.pin p hp
      exact ⟨(hs.2 p.1 ne).trans e, n, ne, nf, d⟩
  · have hfn : X.fn x = true := by
      rcases hf with z | z
      · exact z
      · rw [z] at hk; cases hk
    obtain ⟨c, hc⟩ := I.ok.has x (.inl hk)
    obtain ⟨w', z⟩ := I.cell x c hc
    refine wpAny_storeName_cell I.ok.kind hk hc z (fun h' hc' hs => ?_)
    obtain ⟨oc, hoc, hocd⟩ := id z
    refine h { s with heap := h' } ⟨I.ok, I.os, I.bare, ⟨fun b o e n hb hx => ?_, fun b o e n hb hx => ?_, I.base.free, fun b o e hx => ?_, I.base.tups, I.base.frzs, I.base.tbls⟩, ⟨m, hn.sameBut hs (Ne.symm (cne x c hc)), fun j y v' e1 e2 e3 => ?_⟩, fun y c' e => ?_, I.free, I.freeC, fun p hp => ?_, tracked ⟨oc, hoc, I.freeC x c hc⟩ hs, by simpa using I.len⟩ ⟨c, hs, .inr hc⟩
    · exact (hs.2 b (Nat.ne_of_lt (Nat.lt_of_lt_of_le (Heap.lt_size e) (I.ok.cab x c hfn hc)))).trans (I.base.keep b o e n hb hx)
    · obtain ⟨sl, e1⟩ := I.base.slot b o e n hb hx
      exact ⟨sl, (hs.2 b (Nat.ne_of_lt (Nat.lt_of_lt_of_le (Heap.lt_size e) (I.ok.cab x c hfn hc)))).trans e1⟩
    · obtain ⟨o', e1⟩ := I.base.there b o e hx
      exact ⟨o', (hs.2 b (Nat.ne_of_lt (Nat.lt_of_lt_of_le (Heap.lt_size e) (I.ok.cab x c hfn hc)))).trans e1⟩
    · by_cases hj : j = i
      · subst hj
        rw [hi] at e1; cases e1
        rw [List.getElem?_set_self hiσ] at e2
        cases e2
        exact ⟨u, r, .inr ⟨.inl hk, c, hc, hc'⟩⟩
      · rw [List.getElem?_set_ne (Ne.symm hj)] at e2
        obtain ⟨u', r', q⟩ := hl j y v' e1 e2 e3
        refine ⟨u', r', ?_⟩
        rcases q with q | ⟨k, c', e, z'⟩
        · exact .inl q
        · refine .inr ⟨k, c', e, z'.sameBut hs ?_⟩
          rintro rfl
          exact hj (nodup_ix hN e1 (I.ok.inj _ _ _ e hc ▸ hi))
    · by_cases hcc : c' = c
      · subst hcc; exact ⟨_, hc'⟩
      · obtain ⟨w2, z2⟩ := I.cell y c' e
        exact ⟨w2, z2.sameBut hs hcc⟩
    · obtain ⟨e, n, ne, nf, d⟩ := I.pin p hp
      refine ⟨(hs.2 p.1 ?_).trans e, n, ne, nf, d⟩
      intro q
      rw [q, hoc] at e
      have q' : oc = p.2 := Option.some.inj e
      exact d w' (by rw [← q']; exact hocd)
theorem store_ok {M : Model} {A : Around} {E : Value → Shared → Prop} {i : Nat} {x : Str} {v : V} {u : Value} {Q : Unit → Shared → Prop} (I : Inv X pins σ H s) (hN : X.N.Nodup) (hi : X.N[i]? = some x) (hx : Loc X.env.scope x) (r : RelV v u)
    (h : ∀ s', Inv X pins (σ.set i (some v)) H s' → Q () s') (hf : X.fn x = true ∨ X.env.scope.names.lookup x = some .local := by first | exact .inl rfl | exact .inr rfl | assumption) : wpAny M A (storeName X.env x u) Q E s :=
  store_ok2 I hN hi hx r (fun s' I' _ => h s' I') hf
theorem Inv.call' {s' : Shared} {ch : List Addr} (I : Inv X pins σ H s) (ho : s'.os = s.os) (u : Un (frs X.stack) ch H H' s.heap s'.heap) (hok : HOk X.prog X.w H' s'.heap) (hg : AllBare s'.gens)
    (hch : ∀ b ∈ ch, (b ∈ X.ex ∨ X.s_0.heap.objs.size ≤ b) ∧ b ≠ X.env.locals ∧ (∀ x c, X.env.cells.lookup x = some c → c ≠ b) ∧ ∀ p ∈ X.pn ++ pins, p.1 ≠ b) : Inv X pins σ H' s' := by
  obtain ⟨h', g', d', t', o'⟩ := s'
  have e : o' = s.os := ho
  subst e
  exact I.call (g' := g') (t' := t') (d' := d') u hok hg hch
end
abbrev XK := Value → Option Addr → Hp → Prop
abbrev St := List (Option V)
abbrev VK := V → Hp → Prop
abbrev TE := St → Hp → VK → Prop
abbrev TT := St → Hp → (Bool → Hp → Prop) → Prop
abbrev TA := St → Hp → (List V → Hp → Prop) → Prop
structure Ends where
  nx : St → Hp → Prop
  rt : VK
  bk : St → Hp → Prop := fun _ _ => False
  ct : St → Hp → Prop := fun _ _ => False
abbrev TS := Ends → St → Hp → Prop
def EP (X : Cx) (pins : List (Addr × Obj)) (σ : St) (Q : VK) (u : Value) (s' : Shared) : Prop := ∃ v H', Inv X pins σ H' s' ∧ RelV v u ∧ Q v H'
def TP (X : Cx) (pins : List (Addr × Obj)) (σ : St) (Q : Bool → Hp → Prop) (b : Bool) (s' : Shared) : Prop := ∃ H', Inv X pins σ H' s' ∧ Q b H'
def AP (X : Cx) (pins : List (Addr × Obj)) (σ : St) (Q : List V → Hp → Prop) (us : List Value) (s' : Shared) : Prop := ∃ vs H', Inv X pins σ H' s' ∧ Vals vs us ∧ Q vs H'
def SP (X : Cx) (pins : List (Addr × Obj)) (D : Ends) (f : Flow) (s' : Shared) : Prop :=
  match f with
  | .next => ∃ σ' H', Inv X pins σ' H' s' ∧ D.nx σ' H'
  | .brk => ∃ σ' H', Inv X pins σ' H' s' ∧ D.bk σ' H'
  | .cont => ∃ σ' H', Inv X pins σ' H' s' ∧ D.ct σ' H'
  | .ret u => ∃ v σ' H', Inv X pins σ' H' s' ∧ RelV v u ∧ D.rt v H'
def PE (X : Cx) (e : Expr) (t : TE) : Prop :=
  ∀ (pins : List (Addr × Obj)) (s : Shared) (σ : St) (H : Hp) (Q : VK), Inv X pins σ H s → t σ H Q → wpAny (model X.prog X.w) X.A (eval e X.env) (EP X pins σ Q) X.xe s
def PT (X : Cx) (e : Expr) (t : TT) : Prop :=
  ∀ (pins : List (Addr × Obj)) (s : Shared) (σ : St) (H : Hp) (Q : Bool → Hp → Prop), Inv X pins σ H s → t σ H Q → wpAny (model X.prog X.w) X.A (isTrue e X.env (eval e X.env)) (TP X pins σ Q) X.xe s
def PW (X : Cx) (e : Expr) (t : TT) : Prop :=
  ∀ (whole : Sem Value) (pins : List (Addr × Obj)) (s : Shared) (σ : St) (H : Hp) (Q : Bool → Hp → Prop), Inv X pins σ H s → t σ H Q → wpAny (model X.prog X.w) X.A (isTrue e X.env whole) (TP X pins σ Q) X.xe s
theorem PW.pt {X : Cx} {e : Expr} {t : TT} (h : PW X e t) : PT X e t := h _
def PA (X : Cx) (es : List Expr) (t : TA) : Prop :=
  ∀ (pos : Pos) (pins : List (Addr × Obj)) (s : Shared) (σ : St) (H : Hp) (Q : List V → Hp → Prop), Inv X pins σ H s → t σ H Q → wpAny (model X.prog X.w) X.A (spliced (backTo pos (starEach es X.env))) (AP X pins σ Q) X.xe s
def PS (X : Cx) (st : Stmt) (t : TS) : Prop :=
  ∀ (pins : List (Addr × Obj)) (s : Shared) (σ : St) (H : Hp) (D : Ends), Inv X pins σ H s → t D σ H → wpAny (model X.prog X.w) X.A (exec st X.env) (SP X pins D) X.xe s
def PSs (X : Cx) (st : List Stmt) (t : TS) : Prop :=
  ∀ (pins : List (Addr × Obj)) (s : Shared) (σ : St) (H : Hp) (D : Ends), Inv X pins σ H s → t D σ H → wpAny (model X.prog X.w) X.A (execs st X.env) (SP X pins D) X.xe s
theorem thn {α : Type} {t : Sem α} {Q Q' : α → Shared → Prop} {M : Model} {A : Around} {E : Value → Shared → Prop} {s : Shared} (h : wpAny M A t Q E s) (hQ : ∀ a s, Q a s → Q' a s) : wpAny M A t Q' E s := wpAny_mono h hQ fun _ _ x => x
end L2
namespace L2
open PySem PySem.Spec PyProof.Rows
section
variable {X : Cx}
def tVar (i : Nat) : TE := fun σ H Q => ∃ v, σ[i]? = some (some v) ∧ Q v H
def tC (v : V) : TE := fun _ H Q => Q v H
theorem pe_var {i : Nat} {x : Str} {pos : Pos} (hN : X.N[i]? = some x) (hv : Vis X.env.scope x) (hd : (x == ("__debug__" : Str)) = false := by decide) (hcd : (x == ("__classdict__" : Str)) = false := by decide) : PE X (.Name x pos) (tVar i) := by
  intro pins s σ H Q I h
  obtain ⟨v, e, h⟩ := h
  obtain ⟨m, hn, hl⟩ := I.loc
  obtain ⟨u, r, l⟩ := hl i x v hN e hv
  have fin : EP X pins σ Q u s := ⟨v, H, I, r, h⟩
  rcases l with ⟨hk, hm⟩ | ⟨hk, c, hc, hcell⟩
  · exact wpAny_Name (wpAny_loadName_local I.ok.kind hk hn hm fin) hd
  · rcases hk with hk | hk
    · exact wpAny_Name (wpAny_loadName_cell I.ok.kind hk hc hcell fin) hd
    · exact wpAny_Name (wpAny_loadName_free I.ok.kind hk hc hcell fin hcd) hd
theorem pe_int {i j pos} : PE X (.Constant (.int i) j pos) (tC (.int i)) := fun _ _ _ H _ I h => wpAny_Constant_int ⟨.int i, H, I.tok _, ⟨_, rfl⟩, h⟩
theorem pe_bl {b j pos} : PE X (.Constant (.bool b) j pos) (tC (.bl b)) := fun _ _ _ H _ I h => Constant_bool ⟨.bl b, H, I, rfl, h⟩
theorem pe_non {j pos} : PE X (.Constant .none j pos) (tC .non) := fun _ _ _ H _ I h => Constant_none ⟨.non, H, I, rfl, h⟩
theorem pe_str {x j pos} : PE X (.Constant (.str x) j pos) (tC (.str x)) := fun _ _ _ H _ I h => Calls.Constant_str ⟨.str x, H, I.tok _, ⟨_, rfl⟩, h⟩
def Gl (X : Cx) (x : Str) : Prop := X.env.kindOf x = some .globalImplicit
theorem ld_glob {E : Value → Shared → Prop} {pins : List (Addr × Obj)} {s : Shared} {σ : St} {H : Hp} {x : Str} {u : Value} {pos : Pos} {Q : Value → Shared → Prop} (I : Inv X pins σ H s) (hg : Gl X x) (hm : X.mg x = some u) (h : Q u s)
    (hd : (x == ("__debug__" : Str)) = false := by decide) : wpAny (model X.prog X.w) X.A (eval (.Name x pos) X.env) Q E s :=
  Calls.Name_function_global I.ok.kind hg (Calls.loadGlobal_global (by rw [I.ok.glob]; exact I.mod.glob.keeps I.bk) hm h) hd
theorem ld_blt {E : Value → Shared → Prop} {pins : List (Addr × Obj)} {s : Shared} {σ : St} {H : Hp} {x : Str} {u : Value} {pos : Pos} {Q : Value → Shared → Prop} (I : Inv X pins σ H s) (hg : Gl X x) (hm : X.mg x = none) (hv : bootBuiltins x = some u) (h : Q u s)
    (hn : x ≠ "__name__" := by decide) (hd : (x == ("__debug__" : Str)) = false := by decide) : wpAny (model X.prog X.w) X.A (eval (.Name x pos) X.env) Q E s := by
  obtain ⟨mb, h1, h2⟩ := I.mod.blt
  exact Calls.Name_function_global I.ok.kind hg (Calls.loadGlobal_builtin (by rw [I.ok.glob]; exact I.mod.glob.keeps I.bk) hm (by rw [I.ok.blt]; exact h1.keeps I.bk) ((h2 x hn).trans hv) h) hd
theorem pe_glob {x : Str} {v : V} {u : Value} {pos : Pos} (hg : Gl X x) (hm : X.mg x = some u) (r : RelV v u) (hd : (x == ("__debug__" : Str)) = false := by decide) : PE X (.Name x pos) (tC v) :=
  fun _ _ _ H _ I h => ld_glob I hg hm ⟨v, H, I, r, h⟩ hd
theorem pe_bltn {x : Str} {v : V} {u : Value} {pos : Pos} (hg : Gl X x) (hm : X.mg x = none) (hv : bootBuiltins x = some u) (r : RelV v u) (hn : x ≠ "__name__" := by decide) (hd : (x == ("__debug__" : Str)) = false := by decide) : PE X (.Name x pos) (tC v) :=
  fun _ _ _ H _ I h => ld_blt I hg hm hv ⟨v, H, I, r, h⟩ hn hd
variable {a b : Expr} {ta tb : TE} {pos : Pos}
variable {tA tB' : TT} {rest : List Expr}
def tAnd (t u : TT) : TT := fun σ H Q => t σ H fun c H1 => if c = true then u σ H1 Q else Q false H1
def tOr (t u : TT) : TT := fun σ H Q => t σ H fun c H1 => if c = true then Q true H1 else u σ H1 Q
def tNot (t : TT) : TT := fun σ H Q => t σ H fun c H1 => Q (!c) H1
theorem pw_and1 (ha : PT X a tA) : PW X (.BoolOp .And [a] pos) tA := by
  intro wh pins s σ H Q I h
  refine isTrue_and (thn (ha pins s σ H Q I h) fun c s1 e => ?_)
  cases c with
  | true => exact isTrue_and_nil e
  | false => exact e
theorem pw_or1 (ha : PT X a tA) : PW X (.BoolOp .Or [a] pos) tA := by
  intro wh pins s σ H Q I h
  refine isTrue_or (thn (ha pins s σ H Q I h) fun c s1 e => ?_)
  cases c with
  | false => exact isTrue_or_nil e
  | true => exact e
theorem pw_and (ha : PT X a tA) (hb : PW X (.BoolOp .And (b :: rest) pos) tB') : PW X (.BoolOp .And (a :: b :: rest) pos) (tAnd tA tB') := by
  intro wh pins s σ H Q I h
  refine isTrue_and (thn (ha pins s σ H _ I h) fun c s1 ⟨H1, I1, q1⟩ => ?_)
  cases c with
  | true => exact hb wh pins s1 σ H1 Q I1 q1
  | false => exact ⟨H1, I1, q1⟩
theorem pw_or (ha : PT X a tA) (hb : PW X (.BoolOp .Or (b :: rest) pos) tB') : PW X (.BoolOp .Or (a :: b :: rest) pos) (tOr tA tB') := by
  intro wh pins s σ H Q I h
  refine isTrue_or (thn (ha pins s σ H _ I h) fun c s1 ⟨H1, I1, q1⟩ => ?_)
  cases c with
  | true => exact ⟨H1, I1, q1⟩
  | false => exact hb wh pins s1 σ H1 Q I1 q1
theorem pt_not (ha : PT X a tA) : PT X (.UnaryOp .Not a pos) (tNot tA) := by
  intro pins s σ H Q I h
  exact isTrue_not (ha pins s σ H (fun c H1 => Q (!c) H1) I h)
def tAndV (ta tb : TE) : TE := fun σ H Q => ta σ H fun x H1 => ∃ c, x = .bl c ∧ if c = true then tb σ H1 Q else Q (.bl false) H1
def tNotV (ta : TE) : TE := fun σ H Q => ta σ H fun x H1 => ∃ c, x = .bl c ∧ Q (.bl (!c)) H1
theorem pe_one {op} {t : TE} (h : PE X a t) : PE X (.BoolOp op [a] pos) t := fun pins s σ H Q I hw => BoolOp_one (h pins s σ H Q I hw)
theorem pe_and (ha : PE X a ta) (hb : PE X (.BoolOp .And (b :: rest) pos) tb) : PE X (.BoolOp .And (a :: b :: rest) pos) (tAndV ta tb) := by
  intro pins s σ H Q I h
  refine BoolOp_and (thn (ha pins s σ H _ I h) fun v s1 ⟨x, H1, I1, r1, q1⟩ => ?_)
  obtain ⟨c, rfl, q1⟩ := q1
  cases r1
  refine wpAny_truthy_bool ?_
  cases c with
  | true => exact hb pins s1 σ H1 Q I1 q1
  | false => exact ⟨.bl false, H1, I1, rfl, q1⟩
theorem pe_not (ha : PE X a ta) : PE X (.UnaryOp .Not a pos) (tNotV ta) := by
  intro pins s σ H Q I h
  refine UnaryOp_ (thn (ha pins s σ H _ I h) fun v s1 ⟨x, H1, I1, r1, q1⟩ => ?_)
  obtain ⟨c, rfl, q1⟩ := q1
  cases r1
  exact not_of (wpAny_truthy_bool ⟨.bl (!c), H1, I1, rfl, q1⟩)
def tIf (t : TT) (ta tb : TE) : TE := fun σ H Q => t σ H fun c H1 => if c = true then ta σ H1 Q else tb σ H1 Q
theorem pe_ifExp {c : Expr} (hc : PT X c tA) (ha : PE X a ta) (hb : PE X b tb) : PE X (.IfExp c a b pos) (tIf tA ta tb) := by
  intro pins s σ H Q I h
  refine wpAny_IfExp (thn (hc pins s σ H _ I h) fun d s1 ⟨H1, I1, q1⟩ => ?_)
  cases d with
  | true => exact ha pins s1 σ H1 Q I1 q1
  | false => exact hb pins s1 σ H1 Q I1 q1
end
end L2
namespace L2
open PySem PySem.Spec PyProof.Rows
def SqL (K : PySem.W.Frag) (H : Hp) (a : Addr) (xs : List V) : Prop :=
  Rd H a (.lst xs) ∨
    ∃ (o : Obj) (its : Array Value) (n : Nat), K.lookup a = some o ∧ o.cls = .type "list" ∧ o.dict = none ∧ o.data = .seq its n ∧ its.size ≤ sizeLine ∧ Vals xs its.toList
def SqT (K : PySem.W.Frag) (H : Hp) (a : Addr) (xs : List V) : Prop :=
  Rd H a (.tup xs) ∨
    ∃ (o : Obj) (its : Array Value) (n : Nat), K.lookup a = some o ∧ o.cls = .type "tuple" ∧ o.data = .seq its n ∧ its.size ≤ sizeLine ∧ Vals xs its.toList
def absV : Value → Option V
  | .none => some .non
  | .bool b => some (.bl b)
  | .int i _ => some (.int i)
  | .str x _ => some (.str x)
  | .bytes b _ => some (.byt b)
  | .float b _ => some (.flt b)
  | .ref a => some (.ref a)
  | .type n => some (.ty n)
  | _ => none
theorem RelV.abs {x : V} {u : Value} (r : RelV x u) : absV u = some x := by
  cases x with
  | non => cases r; rfl
  | bl _ => cases r; rfl
  | int _ => obtain ⟨t, rfl⟩ := r; rfl
  | str _ => obtain ⟨t, rfl⟩ := r; rfl
  | byt _ => obtain ⟨t, rfl⟩ := r; rfl
  | flt _ => obtain ⟨t, rfl⟩ := r; rfl
  | ref _ => cases r; rfl
  | ty _ => cases r; rfl
theorem RelV.inj {x y : V} {u : Value} (r : RelV x u) (q : RelV y u) : x = y := Option.some.inj (r.abs.symm.trans q.abs)
theorem Vals.inj : ∀ {xs ys : List V} {us : List Value}, Vals xs us → Vals ys us → xs = ys
  | _, _, _, .nil, .nil => rfl
  | _, _, _, .cons r t, .cons r' t' => by rw [r.inj r', Vals.inj t t']
section
variable {X : Cx} {pins : List (Addr × Obj)} {σ : St} {H : Hp} {s : Shared} {a : Addr} {xs ys : List V}
theorem SqL.of {K : PySem.W.Frag} (h : H a = some (.lst xs)) : SqL K H a xs := .inl (.inl h)
theorem SqT.of {K : PySem.W.Frag} (h : H a = some (.tup xs)) : SqT K H a xs := .inl (.inl h)
theorem Inv.list (I : Inv X pins σ H s) (h : SqL X.K H a xs) : ∃ its : List Value, Vals xs its ∧ PlainL s.heap a its.toArray ∧ xs.length ≤ sizeLine := by
  rcases h with h | ⟨o, its, n, hk, hc, hd, hs, hz, r⟩
  · obtain ⟨z, its, n, r, e⟩ := h.ok I.hok
    exact ⟨its, r, ⟨_, n, e, rfl, rfl, rfl⟩, z⟩
  · refine ⟨its.toList, r, ⟨o, n, I.kIn a o hk, hc, hd, by simpa using hs⟩, ?_⟩
    have e := r.length
    simp only [Array.length_toList] at e
    omega
theorem Inv.tuple (I : Inv X pins σ H s) (h : SqT X.K H a xs) : ∃ its : List Value, Vals xs its ∧ IsTup s.heap a its.toArray ∧ xs.length ≤ sizeLine := by
  rcases h with h | ⟨o, its, n, hk, hc, hs, hz, r⟩
  · obtain ⟨z, its, r, p⟩ := h.ok I.hok
    exact ⟨its, r, p, z⟩
  · refine ⟨its.toList, r, ⟨o, I.kIn a o hk, hc, n, by simpa using hs⟩, ?_⟩
    have e := r.length
    simp only [Array.length_toList] at e
    omega
theorem Inv.list_inj (I : Inv X pins σ H s) (h : SqL X.K H a xs) (h' : SqL X.K H a ys) : xs = ys := by
  obtain ⟨its, r, ⟨o, n, e, _, _, d⟩, _⟩ := I.list h
  obtain ⟨its', r', ⟨o', n', e', _, _, d'⟩, _⟩ := I.list h'
  rw [e] at e'; cases e'
  rw [d] at d'
  injection d' with d1 _
  have : its = its' := by simpa using congrArg Array.toList d1
  subst this
  exact r.inj r'
theorem Inv.tuple_inj (I : Inv X pins σ H s) (h : SqT X.K H a xs) (h' : SqT X.K H a ys) : xs = ys := by
  obtain ⟨its, r, ⟨o, e, _, n, d⟩, _⟩ := I.tuple h
  obtain ⟨its', r', ⟨o', e', _, n', d'⟩, _⟩ := I.tuple h'
  rw [e] at e'; cases e'
  rw [d] at d'
  injection d' with d1 _
  have : its = its' := by simpa using congrArg Array.toList d1
  subst this
  exact r.inj r'
end
abbrev Cx.wish (X : Cx) (E : Value → Shared → Prop) : Cx := { X with xe := E }
abbrev Cx.nox (X : Cx) : Cx := X.wish fun _ _ => False
theorem Cx.Ok.wish {X : Cx} (ok : X.Ok) (E : Value → Shared → Prop) : (X.wish E).Ok :=
  ⟨ok.mod, ok.kind, ok.glob, ok.blt, ok.above, ok.inj, ok.has, ok.cab, ok.hd, ok.frames, ok.stk, ok.exf, ok.bs, ok.bsz, ok.noex, ok.exfs, ok.funs, ok.frf⟩
theorem Cx.Ok.unwish {X : Cx} {E : Value → Shared → Prop} (ok : (X.wish E).Ok) : X.Ok :=
  ⟨ok.mod, ok.kind, ok.glob, ok.blt, ok.above, ok.inj, ok.has, ok.cab, ok.hd, ok.frames, ok.stk, ok.exf, ok.bs, ok.bsz, ok.noex, ok.exfs, ok.funs, ok.frf⟩
section
variable {X : Cx} {pins : List (Addr × Obj)} {σ : St} {H : Hp} {s : Shared} {E : Value → Shared → Prop}
theorem Inv.wish (I : Inv X pins σ H s) (E : Value → Shared → Prop) : Inv (X.wish E) pins σ H s := ⟨I.ok.wish E, I.os, I.bare, I.base, I.loc, I.cell, I.free, I.freeC, I.pin, I.hok, I.len⟩
theorem Inv.unwish (I : Inv (X.wish E) pins σ H s) : Inv X pins σ H s := ⟨I.ok.unwish, I.os, I.bare, I.base, I.loc, I.cell, I.free, I.freeC, I.pin, I.hok, I.len⟩
theorem SP.unwish {D : Ends} {f : Flow} {s' : Shared} (h : SP (X.wish E) pins D f s') : SP X pins D f s' := by
  cases f with
  | next => obtain ⟨σ', H', I, q⟩ := h; exact ⟨σ', H', I.unwish, q⟩
  | brk => obtain ⟨σ', H', I, q⟩ := h; exact ⟨σ', H', I.unwish, q⟩
  | cont => obtain ⟨σ', H', I, q⟩ := h; exact ⟨σ', H', I.unwish, q⟩
  | ret u => obtain ⟨v, σ', H', I, r, q⟩ := h; exact ⟨v, σ', H', I.unwish, r, q⟩
theorem PE.nox {e : Expr} {t : TE} (h : PE X.nox e t) : PE X e t := fun pins s σ H Q I hw =>
  wpAny_mono (h pins s σ H Q (I.wish _) hw) (fun _ _ ⟨v, H', I', r, q⟩ => ⟨v, H', I'.unwish, r, q⟩) fun _ _ z => False.elim z
theorem PT.nox {e : Expr} {t : TT} (h : PT X.nox e t) : PT X e t := fun pins s σ H Q I hw =>
  wpAny_mono (h pins s σ H Q (I.wish _) hw) (fun _ _ ⟨H', I', q⟩ => ⟨H', I'.unwish, q⟩) fun _ _ z => False.elim z
theorem PSs.nox {st : List Stmt} {t : TS} (h : PSs X.nox st t) : PSs X st t := fun pins s σ H D I hw =>
  wpAny_mono (h pins s σ H D (I.wish _) hw) (fun _ _ q => q.unwish) fun _ _ z => False.elim z
end
section
variable {X : Cx} {st : Stmt} {rest : List Stmt} {t u : TS} {e : Expr} {te : TE} {pos : Pos}
def tNext : TS := fun D σ H => D.nx σ H
def tSeq (t u : TS) : TS := fun D σ H => t { D with nx := u D } σ H
theorem pss_nil : PSs X [] tNext := fun _ _ σ H _ I h => wpAny_execs_nil ⟨σ, H, I, h⟩
theorem pss_cons (h1 : PS X st t) (h2 : PSs X rest u) : PSs X (st :: rest) (tSeq t u) := by
  intro pins s σ H D I h
  refine wpAny_execs_cons (thn (h1 pins s σ H { D with nx := u D } I h) fun f s1 q => ?_)
  cases f with
  | next =>
    obtain ⟨σ', H', I', q⟩ := q
    exact h2 pins s1 σ' H' D I' q
  | ret v => exact q
  | brk => exact q
  | cont => exact q
theorem pss_one (h1 : PS X st t) : PSs X [st] t := by
  intro pins s σ H D I h
  refine wpAny_execs_cons (thn (h1 pins s σ H D I h) fun f s1 q => ?_)
  cases f with
  | next => exact wpAny_execs_nil q
  | ret v => exact q
  | brk => exact q
  | cont => exact q
theorem Inv.quiet {pins : List (Addr × Obj)} {σ : St} {H : Hp} {s : Shared} (I : Inv X pins σ H s) : interactive X.env = false := by simp [interactive, I.ok.kind]
def tDrop (te : TE) : TS := fun D σ H => te σ H fun _ H1 => D.nx σ H1
theorem ps_expr (he : PE X e te) (hs : swapsWith e none pos.line X.env = pure false := by rfl) : PS X (.Expr e pos) (tDrop te) := by
  intro pins s σ H D I h
  exact wpAny_Expr_any (thn (he pins s σ H _ I h) fun v s1 ⟨x, H1, I1, r1, q1⟩ => ⟨σ, H1, I1, q1⟩) I.quiet hs
def tRet (te : TE) : TS := fun D σ H => te σ H D.rt
theorem ps_ret (he : PE X e te) : PS X (.Return (some e) pos) (tRet te) := by
  intro pins s σ H D I h
  exact wpAny_Return_some (thn (he pins s σ H _ I h) fun v s1 ⟨x, H1, I1, r1, q1⟩ => ⟨x, σ, H1, I1, r1, q1⟩)
def tIfS (c : TT) (t u : TS) : TS := fun D σ H => c σ H fun b H1 => if b = true then t D σ H1 else u D σ H1
theorem ps_if {c : Expr} {a b : List Stmt} {tc : TT} (hc : PT X c tc) (ha : PSs X a t) (hb : PSs X b u) : PS X (.If c a b pos) (tIfS tc t u) := by
  intro pins s σ H D I h
  refine wpAny_If (thn (hc pins s σ H _ I h) fun d s1 ⟨H1, I1, q1⟩ => ?_)
  cases d with
  | true => exact ha pins s1 σ H1 D I1 q1
  | false => exact hb pins s1 σ H1 D I1 q1
end
abbrev TG := V → St → Hp → (St → Hp → Prop) → Prop
abbrev TGs := List V → St → Hp → (St → Hp → Prop) → Prop
def PG (X : Cx) (target : Expr) (t : TG) : Prop :=
  ∀ (pins : List (Addr × Obj)) (s : Shared) (σ : St) (H : Hp) (v : V) (u : Value) (Q : St → Hp → Prop), Inv X pins σ H s → RelV v u → t v σ H Q →
    wpAny (model X.prog X.w) X.A (assign target X.env u) (fun _ s' => ∃ σ' H', Inv X pins σ' H' s' ∧ Q σ' H') X.xe s
def PGs (X : Cx) (ts : List Expr) (t : TGs) : Prop :=
  ∀ (pins : List (Addr × Obj)) (s : Shared) (σ : St) (H : Hp) (vs : List V) (us : List Value) (Q : St → Hp → Prop), Inv X pins σ H s → Vals vs us → t vs σ H Q →
    wpAny (model X.prog X.w) X.A (assignInOrder ((assignEach ts X.env).map (·.2)) us) (fun _ s' => ∃ σ' H', Inv X pins σ' H' s' ∧ Q σ' H') X.xe s
abbrev TSet := V → V → V → Hp → (Hp → Prop) → Prop
def PSet (X : Cx) (t : TSet) : Prop :=
  ∀ (pins : List (Addr × Obj)) (s : Shared) (σ : St) (H : Hp) (o i v : V) (ov iv u : Value) (Q : Hp → Prop), Inv X pins σ H s → RelV o ov → RelV i iv → RelV v u → t o i v H Q →
    wpAny (model X.prog X.w) X.A (setItem ov iv u) (fun _ s' => ∃ H', Inv X pins σ H' s' ∧ Q H') X.xe s
section
variable {X : Cx} {pos : Pos}
def gName (i : Nat) : TG := fun v σ H Q => Q (σ.set i (some v)) H
theorem pg_name {i : Nat} {x : Str} (hN : X.N.Nodup) (hi : X.N[i]? = some x) (hx : Loc X.env.scope x) (hf : X.fn x = true ∨ X.env.scope.names.lookup x = some .local := by first | exact .inl rfl | exact .inr rfl | assumption) : PG X (.Name x pos) (gName i) := by
  intro pins s σ H v u Q I r h
  exact wpAny_assign_Name (store_ok I hN hi hx r (fun s' I' => ⟨_, H, I', h⟩) hf)
def gNil : TGs := fun vs σ H Q => vs = [] ∧ Q σ H
def gCons (t : TG) (u : TGs) : TGs := fun vs σ H Q => ∃ v r, vs = v :: r ∧ t v σ H fun σ' H' => u r σ' H' Q
theorem pgs_nil : PGs X [] gNil := by
  intro pins s σ H vs us Q I r h
  obtain ⟨e, h⟩ := h
  subst e
  cases r
  exact assignInOrder_nil ⟨σ, H, I, h⟩
theorem pgs_cons {e : Expr} {es : List Expr} {t : TG} {u : TGs} (h1 : PG X e t) (h2 : PGs X es u)
    (hs : (assignEach (e :: es) X.env).map (·.2) = assign e X.env :: (assignEach es X.env).map (·.2) := by rfl) : PGs X (e :: es) (gCons t u) := by
  intro pins s σ H vs us Q I r h
  obtain ⟨v, vr, e1, h⟩ := h
  subst e1
  cases r with
  | cons r rr =>
    rw [hs]
    refine assignInOrder_cons (thn (h1 pins s σ H _ _ _ I r h) fun _ s1 ⟨σ1, H1, I1, q1⟩ => ?_)
    exact h2 pins s1 σ1 H1 _ _ Q I1 rr q1
def gTup (K : PySem.W.Frag) (n : Nat) (t : TGs) : TG := fun v σ H Q => ∃ a xs, v = .ref a ∧ SqT K H a xs ∧ xs.length = n ∧ t xs σ H Q
theorem pg_tup {es : List Expr} {k : Nat} {t : TGs} {n : Nat} (hc : X.calm = true) (h : PGs X es t)
    (hn : (assignEach es X.env).length = n := by rfl) (hst : (assignEach es X.env).findIdx? (·.1) = none := by rfl) : PG X (.Tuple es k pos) (gTup X.K n t) := by
  intro pins s σ H v u Q I r hw
  obtain ⟨a, xs, e1, hq, hl, hw⟩ := hw
  subst e1
  cases r
  obtain ⟨its, rv, ht, hz⟩ := I.tuple hq
  refine assign_Tuple_tuple (I.ok.hd hc) ht (by simp [hn, ← hl, rv.length]) hst fun h' hx => ?_
  have I1 : Inv X pins σ H { s with heap := h' } := I.kept (t' := s.toks) fun b o e => hx b o (Nat.ne_of_lt (Heap.lt_size e)) e
  exact h pins _ σ H xs _ Q I1 (by simpa using rv) hw
def gSub (to ti : TE) (t : TSet) : TG := fun v σ H Q => to σ H fun o H1 => ti σ H1 fun i H2 => t o i v H2 fun H3 => Q σ H3
theorem pg_sub {o i : Expr} {to ti : TE} {t : TSet} (ho : PE X o to) (hi : PE X i ti) (hs : PSet X t)
    (ha : ∀ v, assign (.Subscript o i pos) X.env v = (do
      let ov ← holding [v] (eval o X.env)
      let iv ← holding [v, ov] (eval i X.env)
      standAt pos
      holding [v, ov, iv] (setItem ov iv v)
      release [v, ov, iv] []) := by intro _; rfl) : PG X (.Subscript o i pos) (gSub to ti t) := by
  intro pins s σ H v u Q I r h
  rw [ha]
  refine wpAny_bind (wpAny_holding (thn (ho pins s σ H _ I h) fun ov s1 ⟨x, H1, I1, r1, q1⟩ => ?_))
  refine wpAny_bind (wpAny_holding (thn (hi pins s1 σ H1 _ I1 q1) fun iv s2 ⟨y, H2, I2, r2, q2⟩ => ?_))
  refine wpAny_bind (wpAny_standAt (wpAny_bind (wpAny_holding (thn (hs pins s2 σ H2 x y v ov iv u _ I2 r1 r2 r q2) fun _ s3 ⟨H3, I3, q3⟩ => ?_))))
  exact wpAny_release ⟨σ, H3, I3, q3⟩
def tAsg (te : TE) (g : TG) : TS := fun D σ H => te σ H fun x H1 => g x σ H1 D.nx
theorem ps_asg {tg e : Expr} {te : TE} {g : TG} (he : PE X e te) (hg : PG X tg g) (hs : swapsWithSole [tg] e pos.line X.env = pure false := by rfl) (hw : swappedStores [tg] e X.env = pure none := by rfl)
    (h1 : (assignEach [tg] X.env).map (·.2) = [assign tg X.env] := by rfl) : PS X (.Assign [tg] e pos) (tAsg te g) := by
  intro pins s σ H D I h
  refine wpAny_Assign_stores (thn (he pins s σ H _ I h) fun v s1 ⟨x, H1, I1, r1, q1⟩ => ?_) hs hw
  rw [h1]
  exact thn (hg pins s1 σ H1 x v _ I1 r1 q1) fun _ s2 q => q
theorem ps_set {i : Nat} {x : Str} {e : Expr} {te : TE} {pos' : Pos} (hN : X.N.Nodup) (hi : X.N[i]? = some x) (hx : Loc X.env.scope x) (he : PE X e te) (hs : swapsWith e (some (.Name x pos')) pos.line X.env = pure false := by rfl) (hf : X.fn x = true ∨ X.env.scope.names.lookup x = some .local := by first | exact .inl rfl | exact .inr rfl | assumption) :
    PS X (.Assign [.Name x pos'] e pos) (tAsg te (gName i)) := by
  intro pins s σ H D I h
  refine wpAny_Assign_Name (thn (he pins s σ H _ I h) fun v s1 ⟨y, H1, I1, r1, q1⟩ => ?_) hs
  exact store_ok I1 hN hi hx r1 (fun s2 I2 => ⟨_, H1, I2, q1⟩) hf
def tPar (i j : Nat) (ta : TA) : TS := fun D σ H => ta σ H fun vs H1 => ∃ v w, vs = [v, w] ∧ D.nx ((σ.set i (some v)).set j (some w)) H1
theorem ps_par {i j : Nat} {x y : Str} {a b : Expr} {ta : TA} {px py pt : Pos} {kt k2 pt2} (hc : X.calm = true) (hN : X.N.Nodup) (hi : X.N[i]? = some x) (hj : X.N[j]? = some y) (hij : i ≠ j)
    (hx : X.env.scope.names.lookup x = some .local) (hy : X.env.scope.names.lookup y = some .local) (ha : PA X [a, b] ta)
    (hw : swappedStores [.Tuple [.Name x px, .Name y py] kt pt] (.Tuple [a, b] k2 pt2) X.env = pure (some [x, y]))
    (hs : swapsWithSole [.Tuple [.Name x px, .Name y py] kt pt] (.Tuple [a, b] k2 pt2) pos.line X.env = pure false := by rfl) :
    PS X (.Assign [.Tuple [.Name x px, .Name y py] kt pt] (.Tuple [a, b] k2 pt2) pos) (tPar i j ta) := by
  intro pins s σ H D I h
  rw [exec_Assign_arm]
  refine wpAny_bind (wpAny_standAt ?_)
  rw [hs]
  refine wpAny_bind (wpAny_pure ?_)
  rw [if_neg (by decide)]
  refine wpAny_bind (Tuple_ (thn (ha _ pins s σ H _ I h) fun us s1 ⟨vs, H1, I1, r1, q1⟩ => ?_))
  obtain ⟨v, w, e1, q1⟩ := q1
  subst e1
  obtain ⟨u1, u2, rfl, rv, rw'⟩ : ∃ u1 u2, us = [u1, u2] ∧ RelV v u1 ∧ RelV w u2 := by
    cases r1 with
    | cons p q =>
      cases q with
      | cons p' q' =>
        cases q'
        exact ⟨_, _, rfl, p, p'⟩
  refine wpAny_newObj_type ?_ (by show 2 ≤ sizeLine; decide)
  have I2 : Inv X pins σ H1 { s1 with heap := s1.heap.push { cls := .type "tuple", data := .seq [u1, u2].toArray } } := I1.kept (t' := s1.toks) fun b o e => Heap.get?_push_of_some _ e
  rw [hw]
  refine wpAny_bind (wpAny_pure ?_)
  show wpAny (model X.prog X.w) X.A (do rule "assign.swapped-stores"; let items ← unpackItems (.ref s1.heap.objs.size) 2 none; assignInOrder [fun v => bindName X.env y v, fun v => bindName X.env x v] items.reverse; pure Flow.next) _ _ _
  refine wpAny_bind (wpAny_rule (wpAny_bind (unpackItems_tuple (items := #[u1, u2]) (I.ok.hd hc) (IsTup.new s1.heap _) fun h' hx' => ?_)))
  have I3 := I2.kept (h' := h') (t' := s1.toks) fun b o e => hx' b o (Nat.ne_of_lt (Heap.lt_size e)) e
  show wpAny _ _ (assignInOrder [fun v => bindName X.env y v, fun v => bindName X.env x v] [u2, u1] >>= fun _ => pure Flow.next) _ _ _
  refine wpAny_bind (assignInOrder_cons (wpAny_bindName (store_ok I3 hN hj (.inl hy) rw' (fun s2 I4 => ?_) (.inr hy))))
  refine assignInOrder_cons (wpAny_bindName (store_ok I4 hN hi (.inl hx) rv (fun s3 I5 => assignInOrder_nil (wpAny_pure ?_)) (.inr hx)))
  rw [List.set_comm _ _ (Ne.symm hij)] at I5
  exact ⟨_, H1, I5, q1⟩
end
section
variable {X : Cx} {pos : Pos}
def tWhile (c : TT) (tb : TS) : TS := fun D σ H => ∃ W : Nat → St → Hp → Prop, (∃ m, W m σ H) ∧ ∀ m σ H, W m σ H →
  c σ H fun b H1 => if b = true then ∃ N : St → Hp → Prop, (∀ σ' H', N σ' H' → ∃ m', m' < m ∧ W m' σ' H') ∧ tb { D with nx := N, ct := N, bk := D.nx } σ H1 else D.nx σ H1
theorem ps_while {c : Expr} {body : List Stmt} {tc : TT} {tb : TS} (hp : PassesOwn (model X.prog X.w) X.A X.env X.xe) (hc : PT X c tc) (hb : PSs X body tb) : PS X (.While c body [] pos) (tWhile tc tb) := by
  intro pins s σ H D I h
  obtain ⟨W, ⟨m0, w0⟩, turn⟩ := h
  refine wpAny_While (codeAny_whileLoop (fun n s' => ∃ σ' H', Inv X pins σ' H' s' ∧ W n σ' H') ?_ m0 ⟨σ, H, I, w0⟩)
  rintro n s1 ⟨σ1, H1, I1, w1⟩
  refine wpAny_passesOwn hp (thn (hc pins s1 σ1 H1 _ I1 (turn n σ1 H1 w1)) fun b s2 ⟨H2, I2, q2⟩ => ?_)
  cases b with
  | true =>
    obtain ⟨N, hN, q2⟩ := q2
    rw [if_pos rfl]
    refine wpAny_passesOwn hp (thn (hb pins s2 σ1 H2 _ I2 q2) fun f s3 q3 => ?_)
    cases f with
    | next =>
      obtain ⟨σ3, H3, I3, n3⟩ := q3
      obtain ⟨m', hm, w3⟩ := hN σ3 H3 n3
      exact ⟨m', hm, σ3, H3, I3, w3⟩
    | cont =>
      obtain ⟨σ3, H3, I3, n3⟩ := q3
      obtain ⟨m', hm, w3⟩ := hN σ3 H3 n3
      exact ⟨m', hm, σ3, H3, I3, w3⟩
    | brk => exact q3
    | ret v => exact q3
  | false =>
    rw [if_neg Bool.false_ne_true]
    exact wpAny_execs_nil ⟨σ1, H2, I2, q2⟩
end
structure It where
  go : Nat → Hp → Prop
  yld : Nat → Hp → V → Hp → Prop
  stop : Nat → Hp → Prop
def FpOk (X : Cx) (pins : List (Addr × Obj)) (H : Hp) (b : Addr) : Prop :=
  H b = none ∧ b ≠ X.env.locals ∧ b ∉ X.fs ∧ (b ∈ X.ex ∨ X.s_0.heap.objs.size ≤ b) ∧ (∀ x c, X.env.cells.lookup x = some c → c ≠ b) ∧ ∀ p ∈ X.pn ++ pins, p.1 ≠ b
theorem Inv.fpOk {X : Cx} {pins : List (Addr × Obj)} {σ : St} {H H' : Hp} {s : Shared} {b : Addr} (I : Inv X pins σ H s) (hb : s.heap.objs.size ≤ b) (hn : H' b = none) : FpOk X pins H' b := by
  refine ⟨hn, Nat.ne_of_gt (Nat.lt_of_lt_of_le I.lt hb), I.nofs hb, .inr (Nat.le_trans I.sz hb), fun x c e z => ?_, fun p hp z => ?_⟩
  · obtain ⟨v, q⟩ := I.cell x c e
    exact absurd (Nat.lt_of_lt_of_le q.lt (by rw [z]; exact hb)) (Nat.lt_irrefl _)
  · exact absurd (Nat.lt_of_lt_of_le (Heap.lt_size (I.pin p hp).1) (by rw [z]; exact hb)) (Nat.lt_irrefl _)
structure Turn (P : Program) (w : World) (K : PySem.W.Frag) (tg : Expr) (J : It) (fp : List Addr) (it : Addr) (tn : Nat → Heap → Prop) : Prop where
  mem : it ∈ fp
  obj : ∀ i h, tn i h → ∀ b ∈ fp, ∃ o, h.get? b = some o ∧ ∀ v, o.data ≠ .cell v
  keep : ∀ i h h', tn i h → (∀ b ∈ fp, ∀ o, h.get? b = some o → h'.get? b = some o) → tn i h'
  item : ∀ (X : Cx), X.prog = P → X.w = w → X.K = K → X.calm = true → ∀ (i : Nat) (pins : List (Addr × Obj)) (s : Shared) (σ : St) (H : Hp) (E : Value → Shared → Prop), Inv X pins σ H s → (∀ b ∈ fp, FpOk X pins H b) → tn i s.heap → J.go i H →
    wpAny (model P w) X.A (pyNext (.ref it)) (fun r s1 => ∃ u, r = some u ∧
      wpAny (model P w) X.A (letOwnedTupleGo tg (.ref it) u) (fun _ s2 => ∃ x H', Inv X pins σ H' s2 ∧ RelV x u ∧ J.yld i H x H' ∧ tn (i + 1) s2.heap ∧ ∀ b ∈ fp, H' b = none) E s1) E s
  done : ∀ (X : Cx), X.prog = P → X.w = w → X.K = K → X.calm = true → ∀ (i : Nat) (pins : List (Addr × Obj)) (s : Shared) (σ : St) (H : Hp) (E : Value → Shared → Prop), Inv X pins σ H s → (∀ b ∈ fp, FpOk X pins H b) → tn i s.heap → J.stop i H →
    wpAny (model P w) X.A (pyNext (.ref it)) (fun r s1 => r = none ∧ Inv X pins σ H s1) E s
  self : ∀ (A : Around) (i : Nat) (s : Shared) (Q : Value → Shared → Prop) (E : Value → Shared → Prop), tn i s.heap → Q (.ref it) s → wpAny (model P w) A (pyIter (.ref it)) Q E s
abbrev TI := St → Hp → (It → Hp → Prop) → Prop
def PIE (X : Cx) (pins : List (Addr × Obj)) (σ : St) (tg : Expr) (R : It → Hp → Prop) (itv : Value) (s2 : Shared) : Prop :=
  ∃ (it : Addr) (fp : List Addr) (tn : Nat → Heap → Prop) (J : It) (H' : Hp), itv = .ref it ∧ Inv X pins σ H' s2 ∧ Turn X.prog X.w X.K tg J fp it tn ∧ tn 0 s2.heap ∧ (∀ b ∈ fp, FpOk X pins H' b) ∧ R J H'
def PI (X : Cx) (tg iter : Expr) (wi : TI) : Prop :=
  ∀ (pins : List (Addr × Obj)) (s : Shared) (σ : St) (H : Hp) (R : It → Hp → Prop), Inv X pins σ H s → wi σ H R →
    wpAny (model X.prog X.w) X.A (eval iter X.env) (fun v s1 => wpAny (model X.prog X.w) X.A (pyIter v) (PIE X pins σ tg R) X.xe s1) X.xe s
theorem go_of {M : Model} {A : Around} {E : Value → Shared → Prop} {s : Shared} {tg : Expr} {it : Addr} {u : Value} {o : Obj} {n : String} {vs : Array Value} {Q : Unit → Shared → Prop} (ho : s.heap.get? it = some o) (hc : o.cls = .type n) (hd : o.data = .fields vs)
    (hn : ["enumerate", "zip", "dict_itemiterator", "dict_reverseitemiterator", "odict_iterator", "itertools.zip_longest", "itertools.pairwise"].contains n = false) (hQ : Q () s) : wpAny M A (letOwnedTupleGo tg (.ref it) u) Q E s := by
  unfold letOwnedTupleGo
  cases tg <;> first
    | exact wpAny_pure hQ
    | (cases u <;> first
        | exact wpAny_pure hQ
        | (refine wpAny_bind (wpAny_load ho ?_)
           rw [hc, hd]
           show wpAny M A (if (["enumerate", "zip", "dict_itemiterator", "dict_reverseitemiterator", "odict_iterator", "itertools.zip_longest", "itertools.pairwise"].contains n && vs[0]? == some (rawInt _)) = true then _ else _) Q E s
           rw [if_neg (by intro h; rw [hn, Bool.false_and] at h; cases h)]
           exact wpAny_pure hQ))
def Itl (K : PySem.W.Frag) (a : Addr) : It :=
  ⟨fun i H => ∃ xs x, SqL K H a xs ∧ xs[i]? = some x, fun i H x H' => H' = H ∧ ∀ xs, SqL K H a xs → xs[i]? = some x, fun i H => ∃ xs, SqL K H a xs ∧ xs.length ≤ i⟩
def Itt (K : PySem.W.Frag) (a : Addr) : It :=
  ⟨fun i H => ∃ xs x, SqT K H a xs ∧ xs[i]? = some x, fun i H x H' => H' = H ∧ ∀ xs, SqT K H a xs → xs[i]? = some x, fun i H => ∃ xs, SqT K H a xs ∧ xs.length ≤ i⟩
def Itr (lo : Int) (n : Nat) : It := ⟨fun i _ => i < n, fun i H x H' => H' = H ∧ x = .int (lo + i), fun i _ => n ≤ i⟩
theorem turn_list {P : Program} {w : World} {K : PySem.W.Frag} {tg : Expr} (a it : Addr) : Turn P w K tg (Itl K a) [it] it (fun i h => h.IsListIter it a i) where
  mem := by simp
  obj := fun i h st b hb => by
    have e : b = it := by simpa using hb
    subst e
    obtain ⟨o, e, c, d⟩ := st
    exact ⟨o, e, fun v z => by rw [d] at z; cases z⟩
  keep := fun i h h' st k => st.at fun o e => k it (by simp) o e
  item := by
    intro X hP hw hK hc i pins s σ H E I hf st hg
    subst hP hw hK
    obtain ⟨xs, x, hq, hx⟩ := hg
    obtain ⟨its, rv, p, hz⟩ := I.list hq
    obtain ⟨u, hu, ru⟩ := rv.get hx
    obtain ⟨f0, f1, f2, f3, f4, f5⟩ := hf it (by simp)
    refine wpAny_pyNext_list_item st p.isList (x := u) (by simpa using hu) fun h' st' sb => ?_
    have I1 : Inv X pins σ H { s with heap := h' } := I.turned (t' := s.toks) (fun b o hb e => (sb.2 b hb).trans e) f0 f1 f3 f4 f5
    obtain ⟨o, e, c, d⟩ := id st'
    exact ⟨u, rfl, go_of (s := { s with heap := h' }) e c d (by decide) ⟨x, H, I1, ru, ⟨rfl, fun ys hy => by rw [I.list_inj hy hq]; exact hx⟩, st', fun b hb => (hf b hb).1⟩⟩
  done := by
    intro X hP hw hK hc i pins s σ H E I hf st hg
    subst hP hw hK
    obtain ⟨xs, hq, hx⟩ := hg
    obtain ⟨its, rv, p, hz⟩ := I.list hq
    obtain ⟨f0, f1, f2, f3, f4, f5⟩ := hf it (by simp)
    have hl := rv.length
    exact wpAny_pyNext_list_end (I.ok.hd hc) st p.isList (by simp; omega) fun h' eb => ⟨rfl, I.turned (t' := s.toks) (fun b o hb e => eb b o hb e) f0 f1 f3 f4 f5⟩
  self := fun _ _ _ _ _ st h => wpAny_pyIter_listiter st h
theorem turn_tuple {P : Program} {w : World} {K : PySem.W.Frag} {tg : Expr} (a it : Addr) : Turn P w K tg (Itt K a) [it] it (fun i h => h.IsTupleIter it a i) where
  mem := by simp
  obj := fun i h st b hb => by
    have e : b = it := by simpa using hb
    subst e
    obtain ⟨o, e, c, d⟩ := st
    exact ⟨o, e, fun v z => by rw [d] at z; cases z⟩
  keep := fun i h h' st k => st.at fun o e => k it (by simp) o e
  item := by
    intro X hP hw hK hc i pins s σ H E I hf st hg
    subst hP hw hK
    obtain ⟨xs, x, hq, hx⟩ := hg
    obtain ⟨its, rv, p, hz⟩ := I.tuple hq
    obtain ⟨u, hu, ru⟩ := rv.get hx
    obtain ⟨f0, f1, f2, f3, f4, f5⟩ := hf it (by simp)
    refine wpAny_pyNext_tuple_item st (show s.heap.IsTuple a its.toArray from p) (x := u) (by simpa using hu) fun h' st' sb => ?_
    have I1 : Inv X pins σ H { s with heap := h' } := I.turned (t' := s.toks) (fun b o hb e => (sb.2 b hb).trans e) f0 f1 f3 f4 f5
    obtain ⟨o, e, c, d⟩ := id st'
    exact ⟨u, rfl, go_of (s := { s with heap := h' }) e c d (by decide) ⟨x, H, I1, ru, ⟨rfl, fun ys hy => by rw [I.tuple_inj hy hq]; exact hx⟩, st', fun b hb => (hf b hb).1⟩⟩
  done := by
    intro X hP hw hK hc i pins s σ H E I hf st hg
    subst hP hw hK
    obtain ⟨xs, hq, hx⟩ := hg
    obtain ⟨its, rv, p, hz⟩ := I.tuple hq
    obtain ⟨f0, f1, f2, f3, f4, f5⟩ := hf it (by simp)
    have hl := rv.length
    exact wpAny_pyNext_tuple_end (I.ok.hd hc) st (show s.heap.IsTuple a its.toArray from p) (by simp; omega) fun h' eb => ⟨rfl, I.turned (t' := s.toks) (fun b o hb e => eb b o hb e) f0 f1 f3 f4 f5⟩
  self := fun _ _ _ _ _ st h => wpAny_pyIter_tupleiter st h
theorem turn_range {P : Program} {w : World} {K : PySem.W.Frag} {tg : Expr} (it : Addr) (lo : Int) (n : Nat) : Turn P w K tg (Itr lo n) [it] it (fun i h => IsRangeIter h it (lo + (i : Nat) * 1) ((n : Int) - (i : Nat)) 1) where
  mem := by simp
  obj := fun i h st b hb => by
    have e : b = it := by simpa using hb
    subst e
    exact ⟨_, st, fun v z => by
      have z' : Data.fields _ = Data.cell v := z
      cases z'⟩
  keep := fun i h h' st k => k it (by simp) _ st
  item := by
    intro X hP hw hK hc i pins s σ H E I hf st hg
    subst hP hw hK
    obtain ⟨f0, f1, f2, f3, f4, f5⟩ := hf it (by simp)
    have W := Walks.range (prog := X.prog) (w := X.w) (I.ok.hd hc) it lo 1 n
    refine W.item i s _ _ hg st fun v h' tk hv st' kk => ?_
    obtain ⟨t, rfl⟩ := hv
    have I1 : Inv X pins σ H { s with heap := h', toks := tk } := I.turned (fun b o hb e => kk b o (by simpa using hb) e) f0 f1 f3 f4 f5
    refine ⟨_, rfl, go_of (s := { s with heap := h', toks := tk }) (n := "range_iterator") st' rfl rfl (by decide) ⟨.int (lo + i), H, I1, ⟨t, ?_⟩, ⟨rfl, rfl⟩, st', fun b hb => (hf b hb).1⟩⟩
    rw [Int.mul_one]
  done := by
    intro X hP hw hK hc i pins s σ H E I hf st hg
    subst hP hw hK
    obtain ⟨f0, f1, f2, f3, f4, f5⟩ := hf it (by simp)
    exact wpAny_pyNext_range_end (I.ok.hd hc) st (by have : n ≤ i := hg; omega) fun h' eb => ⟨rfl, I.turned (t' := s.toks) (fun b o hb e => eb b o hb e) f0 f1 f3 f4 f5⟩
  self := fun _ _ _ _ _ st h => wpAny_pyIter_rangeiter st h
end L2
namespace L2
open PySem PySem.Spec PyProof.Rows
section
variable {X : Cx} {tg : Expr}
theorem range_it {pins : List (Addr × Obj)} {σ : St} {H : Hp} {s : Shared} {R : It → Hp → Prop} {E : Value → Shared → Prop} {lo hi : Int} {t u v : Tok} {tk : Nat} (I : Inv X pins σ H s) (h1 : -(2 ^ 62) ≤ lo) (h2 : lo < 2 ^ 62) (h3 : -(2 ^ 62) ≤ hi) (h4 : hi < 2 ^ 62)
    (q : R (Itr lo (hi - lo).toNat) H) : wpAny (model X.prog X.w) X.A (pyIter (.ref s.heap.objs.size)) (PIE X pins σ tg R) E { s with heap := s.heap.push { cls := .type "range", data := .fields #[.int lo t, .int hi u, .int 1 v] }, toks := tk } := by
  refine wpAny_pyIter_range (IsRange.new ..) (small_one h1 h2 h3 h4) ?_
  have I1 : Inv X pins σ H { s with heap := s.heap.push { cls := .type "range", data := .fields #[.int lo t, .int hi u, .int 1 v] }, toks := tk } := I.kept fun b o e => Heap.get?_push_of_some _ e
  refine ⟨(s.heap.push { cls := .type "range", data := .fields #[.int lo t, .int hi u, .int 1 v] }).objs.size, [(s.heap.push { cls := .type "range", data := .fields #[.int lo t, .int hi u, .int 1 v] }).objs.size], _, _, H, rfl,
    I1.kept (t' := tk) fun b o e => Heap.get?_push_of_some _ e, turn_range _ lo (hi - lo).toNat, ?_, fun b hb => ?_, q⟩
  · have e1 : lo + ((0 : Nat) : Int) * 1 = lo := by simp
    have e2 : (((hi - lo).toNat : Nat) : Int) - ((0 : Nat) : Int) = Builtin.Range.rangeSize lo hi 1 := by rw [rangeSize_one]; split <;> omega
    show IsRangeIter _ _ (lo + ((0 : Nat) : Int) * 1) ((((hi - lo).toNat : Nat) : Int) - ((0 : Nat) : Int)) 1
    rw [e1, e2]
    exact Heap.get?_push_size _ rfl
  · have e : b = (s.heap.push { cls := .type "range", data := .fields #[.int lo t, .int hi u, .int 1 v] }).objs.size := by simpa using hb
    subst e
    exact I1.fpOk (Nat.le_refl _) (I1.hok.fresh (Nat.le_refl _))
def iRng1 (ta : TA) : TI := fun σ H R => ta σ H fun vs H1 => ∃ j : Int, vs = [.int j] ∧ -(2 ^ 62) ≤ j ∧ j < 2 ^ 62 ∧ R (Itr 0 j.toNat) H1
theorem pi_range1 {a : Expr} {ta : TA} {p pos : Pos} (hg : Gl X "range") (hm : X.mg "range" = none) (ha : PA X [a] ta) (hs : starEach [a] X.env = [(false, eval a X.env)] := by rfl) : PI X tg (.Call (.Name "range" p) [a] [] pos) (iRng1 ta) := by
  intro pins s σ H R I h
  refine Call_ (ld_blt I hg hm boot_range (PyProof.Rows.callWith_type1 (thn (ha pos pins s σ H _ I h) fun us s1 ⟨vs, H1, I1, r1, q1⟩ => ?_) hs rfl))
  obtain ⟨j, e, q1, q2, q⟩ := q1
  subst e
  cases r1 with
  | cons r rr =>
    cases rr
    obtain ⟨t, rfl⟩ := r
    exact call_range_1 (range_it I1 (by omega) (by omega) q1 q2 (by simpa using q))
def tFor (wi : TI) (g : TG) (tb : TS) : TS := fun D σ H => wi σ H fun J H1 => ∃ W : Nat → Nat → St → Hp → Prop, (∃ m, W 0 m σ H1) ∧ ∀ i m σ H, W i m σ H →
  (J.stop i H ∧ D.nx σ H) ∨ (J.go i H ∧ ∃ N : St → Hp → Prop, (∀ σ' H', N σ' H' → ∃ m', m' < m ∧ W (i + 1) m' σ' H') ∧ ∀ x H', J.yld i H x H' → g x σ H' fun σ2 H2 => tb { D with nx := N, ct := N, bk := D.nx } σ2 H2)
def pinsAt (fp : List Addr) (h : Heap) : List (Addr × Obj) := fp.filterMap fun b => (h.get? b).map fun o => (b, o)
theorem mem_pinsAt {fp : List Addr} {h : Heap} {b : Addr} {o : Obj} (hb : b ∈ fp) (e : h.get? b = some o) : (b, o) ∈ pinsAt fp h := List.mem_filterMap.mpr ⟨b, hb, by rw [e]; rfl⟩
theorem of_pinsAt {fp : List Addr} {h : Heap} {p : Addr × Obj} (hp : p ∈ pinsAt fp h) : p.1 ∈ fp ∧ h.get? p.1 = some p.2 := by
  obtain ⟨b, hb, e⟩ := List.mem_filterMap.mp hp
  cases q : h.get? b with
  | none => rw [q] at e; cases e
  | some o =>
    rw [q] at e
    have e' : (b, o) = p := Option.some.inj e
    subst e'
    exact ⟨hb, q⟩
theorem Inv.pinned {pins : List (Addr × Obj)} {σ : St} {H : Hp} {s : Shared} {fp : List Addr} (I : Inv X pins σ H s) (hf : ∀ b ∈ fp, FpOk X pins H b) (ho : ∀ b ∈ fp, ∃ o, s.heap.get? b = some o ∧ ∀ v, o.data ≠ .cell v) : Inv X (pins ++ pinsAt fp s.heap) σ H s :=
  I.pins_of fun p hp => (List.mem_append.mp hp).elim (fun z => I.pin p (List.mem_append_right _ z)) fun z => by
    obtain ⟨hb, e⟩ := of_pinsAt z
    obtain ⟨f0, f1, f2, _⟩ := hf p.1 hb
    obtain ⟨o, e', d⟩ := ho p.1 hb
    rw [e] at e'; cases e'
    exact ⟨e, f0, f1, f2, d⟩
theorem Inv.unpinned {pins pl : List (Addr × Obj)} {σ : St} {H : Hp} {s : Shared} (I : Inv X (pins ++ pl) σ H s) : Inv X pins σ H s := I.pins_of fun p hp => I.pin p (List.mem_append_right _ (List.mem_append_left _ hp))
theorem ps_for {iter : Expr} {body : List Stmt} {wi : TI} {g : TG} {tb : TS} {pos : Pos} (hp : PassesOwn (model X.prog X.w) X.A X.env X.xe) (hc : X.calm = true) (hi : PI X tg iter wi) (hg : PG X tg g) (hb : PSs X body tb)
    (hs : ∀ x, foldedSetIterable iter X.env x = pure x := by intro _; rfl) : PS X (.For tg iter body [] pos) (tFor wi g tb) := by
  intro pins s σ H D I h
  refine wpAny_For (thn (hi pins s σ H _ I h) fun v s1 h1 => thn h1 fun itv s2 h2 => ?_) hs
  obtain ⟨it, fp, tn, J, H2, e, I2, T, st2, f2, W, ⟨m0, w0⟩, turn⟩ := h2
  subst e
  -- what stays true of the iterator's objects through the loop
  have stat : ∀ {H' : Hp}, (∀ b ∈ fp, H' b = none) → ∀ b ∈ fp, FpOk X pins H' b := fun hn b hb => ⟨hn b hb, (f2 b hb).2⟩
  refine codeAny_forLoop_any (fun n s' => ∃ i σ' H', Inv X pins σ' H' s' ∧ tn i s'.heap ∧ (∀ b ∈ fp, H' b = none) ∧ W i n σ' H') ?_ m0 ⟨0, σ, H2, I2, st2, fun b hb => (f2 b hb).1, w0⟩
  rintro n s3 ⟨i, σ3, H3, I3, st3, fr3, w3⟩
  rcases turn i n σ3 H3 w3 with ⟨stop, qn⟩ | ⟨go, N, hN, step⟩
  · refine wpAny_passesOwn hp (thn (T.done X rfl rfl rfl hc i pins s3 σ3 H3 X.xe I3 (stat fr3) st3 stop) fun r s4 ⟨hr, I4⟩ => ?_)
    subst hr
    exact wpAny_execs_nil ⟨σ3, H3, I4, qn⟩
  · refine wpAny_passesOwn hp (thn (T.item X rfl rfl rfl hc i pins s3 σ3 H3 X.xe I3 (stat fr3) st3 go) fun r s4 ⟨u, hr, h4⟩ => ?_)
    subst hr
    refine wpAny_passesOwn hp (thn h4 fun _ s5 ⟨x, H5, I5, r5, y5, st5, fr5⟩ => ?_)
    have I5' := I5.pinned (stat fr5) (T.obj _ _ st5)
    refine wpAny_passesOwn hp (thn (hg _ s5 σ3 H5 x u _ I5' r5 (step x H5 y5)) fun _ s6 ⟨σ6, H6, I6, q6⟩ => ?_)
    refine wpAny_passesOwn hp (thn (hb _ s6 σ6 H6 _ I6 q6) fun f s7 q7 => ?_)
    have again : ∀ {σ7 : St} {H7 : Hp}, Inv X (pins ++ pinsAt fp s5.heap) σ7 H7 s7 → N σ7 H7 → ∃ m, m < n ∧ ∃ i σ' H', Inv X pins σ' H' s7 ∧ tn i s7.heap ∧ (∀ b ∈ fp, H' b = none) ∧ W i m σ' H' := fun {σ7 H7} I7 n7 => by
      obtain ⟨m', hm, w7⟩ := hN σ7 H7 n7
      refine ⟨m', hm, i + 1, σ7, H7, I7.unpinned, T.keep _ _ _ st5 fun b hb o e => (I7.pin (b, o) (List.mem_append_right _ (List.mem_append_right _ (mem_pinsAt hb e)))).1, fun b hb => ?_, w7⟩
      obtain ⟨o, e, d⟩ := T.obj _ _ st5 b hb
      exact (I7.pin (b, o) (List.mem_append_right _ (List.mem_append_right _ (mem_pinsAt hb e)))).2.1
    cases f with
    | next => obtain ⟨σ7, H7, I7, n7⟩ := q7; exact again I7 n7
    | cont => obtain ⟨σ7, H7, I7, n7⟩ := q7; exact again I7 n7
    | brk => obtain ⟨σ7, H7, I7, q7⟩ := q7; exact ⟨σ7, H7, I7.unpinned, q7⟩
    | ret v => obtain ⟨x7, σ7, H7, I7, r7, q7⟩ := q7; exact ⟨x7, σ7, H7, I7.unpinned, r7, q7⟩
end
theorem for_list {K : PySem.W.Frag} {a : Addr} {xs : List V} {g : TG} {tb : TS} {D : Ends} {σ : St} {H : Hp} (Pv : Nat → St → Hp → Prop) (h0 : Pv 0 σ H) (hl : ∀ i σ H, i ≤ xs.length → Pv i σ H → SqL K H a xs)
    (hs : ∀ i x σ H, xs[i]? = some x → Pv i σ H → g x σ H fun σ2 H2 => tb { D with nx := Pv (i + 1), ct := Pv (i + 1), bk := D.nx } σ2 H2) (hd : ∀ σ H, Pv xs.length σ H → D.nx σ H) :
    ∃ W : Nat → Nat → St → Hp → Prop, (∃ m, W 0 m σ H) ∧ ∀ i m σ H, W i m σ H →
      ((Itl K a).stop i H ∧ D.nx σ H) ∨ ((Itl K a).go i H ∧ ∃ N : St → Hp → Prop, (∀ σ' H', N σ' H' → ∃ m', m' < m ∧ W (i + 1) m' σ' H') ∧ ∀ x H', (Itl K a).yld i H x H' → g x σ H' fun σ2 H2 => tb { D with nx := N, ct := N, bk := D.nx } σ2 H2) := by
  refine ⟨fun i m σ H => m = xs.length - i ∧ i ≤ xs.length ∧ Pv i σ H, ⟨xs.length, by simp, Nat.zero_le _, h0⟩, ?_⟩
  rintro i m σ H ⟨rfl, hi, p⟩
  have q := hl i σ H hi p
  by_cases hlt : i < xs.length
  · refine .inr ⟨⟨xs, xs[i], q, by simp [hlt]⟩, Pv (i + 1), fun σ' H' p' => ⟨xs.length - (i + 1), by omega, rfl, hlt, p'⟩, fun x H' y => ?_⟩
    obtain ⟨e, y⟩ := y
    subst e
    exact hs i x σ _ (y xs q) p
  · have e : i = xs.length := by omega
    subst e
    exact .inl ⟨⟨xs, q, Nat.le_refl _⟩, hd σ H p⟩
theorem for_tup {K : PySem.W.Frag} {a : Addr} {xs : List V} {g : TG} {tb : TS} {D : Ends} {σ : St} {H : Hp} (Pv : Nat → St → Hp → Prop) (h0 : Pv 0 σ H) (hl : ∀ i σ H, i ≤ xs.length → Pv i σ H → SqT K H a xs)
    (hs : ∀ i x σ H, xs[i]? = some x → Pv i σ H → g x σ H fun σ2 H2 => tb { D with nx := Pv (i + 1), ct := Pv (i + 1), bk := D.nx } σ2 H2) (hd : ∀ σ H, Pv xs.length σ H → D.nx σ H) :
    ∃ W : Nat → Nat → St → Hp → Prop, (∃ m, W 0 m σ H) ∧ ∀ i m σ H, W i m σ H →
      ((Itt K a).stop i H ∧ D.nx σ H) ∨ ((Itt K a).go i H ∧ ∃ N : St → Hp → Prop, (∀ σ' H', N σ' H' → ∃ m', m' < m ∧ W (i + 1) m' σ' H') ∧ ∀ x H', (Itt K a).yld i H x H' → g x σ H' fun σ2 H2 => tb { D with nx := N, ct := N, bk := D.nx } σ2 H2) := by
  refine ⟨fun i m σ H => m = xs.length - i ∧ i ≤ xs.length ∧ Pv i σ H, ⟨xs.length, by simp, Nat.zero_le _, h0⟩, ?_⟩
  rintro i m σ H ⟨rfl, hi, p⟩
  have q := hl i σ H hi p
  by_cases hlt : i < xs.length
  · refine .inr ⟨⟨xs, xs[i], q, by simp [hlt]⟩, Pv (i + 1), fun σ' H' p' => ⟨xs.length - (i + 1), by omega, rfl, hlt, p'⟩, fun x H' y => ?_⟩
    obtain ⟨e, y⟩ := y
    subst e
    exact hs i x σ _ (y xs q) p
  · have e : i = xs.length := by omega
    subst e
    exact .inl ⟨⟨xs, q, Nat.le_refl _⟩, hd σ H p⟩
theorem for_range {lo : Int} {n : Nat} {g : TG} {tb : TS} {D : Ends} {σ : St} {H : Hp} (Pv : Nat → St → Hp → Prop) (h0 : Pv 0 σ H)
    (hs : ∀ i σ H, i < n → Pv i σ H → g (.int (lo + i)) σ H fun σ2 H2 => tb { D with nx := Pv (i + 1), ct := Pv (i + 1), bk := D.nx } σ2 H2) (hd : ∀ σ H, Pv n σ H → D.nx σ H) :
    ∃ W : Nat → Nat → St → Hp → Prop, (∃ m, W 0 m σ H) ∧ ∀ i m σ H, W i m σ H →
      ((Itr lo n).stop i H ∧ D.nx σ H) ∨ ((Itr lo n).go i H ∧ ∃ N : St → Hp → Prop, (∀ σ' H', N σ' H' → ∃ m', m' < m ∧ W (i + 1) m' σ' H') ∧ ∀ x H', (Itr lo n).yld i H x H' → g x σ H' fun σ2 H2 => tb { D with nx := N, ct := N, bk := D.nx } σ2 H2) := by
  refine ⟨fun i m σ H => m = n - i ∧ i ≤ n ∧ Pv i σ H, ⟨n, by simp, Nat.zero_le _, h0⟩, ?_⟩
  rintro i m σ H ⟨rfl, hi, p⟩
  by_cases hlt : i < n
  · refine .inr ⟨hlt, Pv (i + 1), fun σ' H' p' => ⟨n - (i + 1), by omega, rfl, hlt, p'⟩, fun x H' y => ?_⟩
    obtain ⟨e, y⟩ := y
    subst e y
    exact hs i σ _ hlt p
  · have e : i = n := by omega
    subst e
    exact .inl ⟨Nat.le_refl _, hd σ H p⟩
end L2
namespace L2
open PySem PySem.Spec PyProof.Rows
abbrev R2 := V → V → Hp → VK → Prop
def OpR (X : Cx) (f : Value → Value → Sem Value) (r : R2) : Prop :=
  ∀ (pins : List (Addr × Obj)) (s : Shared) (σ : St) (H : Hp) (x y : V) (v u : Value) (Q : VK), Inv X pins σ H s → RelV x v → RelV y u → r x y H Q →
    wpAny (model X.prog X.w) X.A (f v u) (EP X pins σ Q) X.xe s
def UnR (X : Cx) (f : Value → Sem Value) (r : V → Hp → VK → Prop) : Prop :=
  ∀ (pins : List (Addr × Obj)) (s : Shared) (σ : St) (H : Hp) (x : V) (v : Value) (Q : VK), Inv X pins σ H s → RelV x v → r x H Q →
    wpAny (model X.prog X.w) X.A (f v) (EP X pins σ Q) X.xe s
def CallR (X : Cx) (f : Value) (r : List V → Hp → VK → Prop) : Prop :=
  ∀ (pins : List (Addr × Obj)) (s : Shared) (σ : St) (H : Hp) (xs : List V) (us : List Value) (Q : VK), Inv X pins σ H s → Vals xs us → r xs H Q →
    wpAny (model X.prog X.w) X.A (call f us) (EP X pins σ Q) X.xe s
def TruR (X : Cx) (r : V → Hp → (Bool → Hp → Prop) → Prop) : Prop :=
  ∀ (pins : List (Addr × Obj)) (s : Shared) (σ : St) (H : Hp) (x : V) (v : Value) (Q : Bool → Hp → Prop), Inv X pins σ H s → RelV x v → r x H Q →
    wpAny (model X.prog X.w) X.A (truthy v) (TP X pins σ Q) X.xe s
def tOp (r : R2) (ta tb : TE) : TE := fun σ H Q => ta σ H fun x H1 => tb σ H1 fun y H2 => r x y H2 Q
def tUn (r : V → Hp → VK → Prop) (ta : TE) : TE := fun σ H Q => ta σ H fun x H1 => r x H1 Q
def rI (C : Int → Int → Prop) (g : Int → Int → V) : R2 := fun x y H Q => ∃ i j, x = .int i ∧ y = .int j ∧ C i j ∧ Q (g i j) H
def rI0 (g : Int → Int → V) : R2 := fun x y H Q => ∃ i j, x = .int i ∧ y = .int j ∧ Q (g i j) H
def rU (g : Int → V) : V → Hp → VK → Prop := fun x H Q => ∃ i, x = .int i ∧ Q (g i) H
section
variable {X : Cx} {a b c : Expr} {ta tb tc : TE} {pos : Pos}
theorem binT (ha : PE X a ta) (hb : PE X b tb) {pins : List (Addr × Obj)} {s : Shared} {σ : St} {H : Hp} {R : V → V → Hp → Prop} (I : Inv X pins σ H s)
    (h : ta σ H fun x H1 => tb σ H1 fun y H2 => R x y H2) {Q : Value → Shared → Prop} {f : Value → Value → Sem Value}
    (hf : ∀ v u s2 x y H2, Inv X pins σ H2 s2 → RelV x v → RelV y u → R x y H2 → wpAny (model X.prog X.w) X.A (f v u) Q X.xe s2) :
    wpAny (model X.prog X.w) X.A (eval a X.env) (fun v s₁ => wpAny (model X.prog X.w) X.A (eval b X.env) (fun u s₂ => wpAny (model X.prog X.w) X.A (f v u) Q X.xe s₂) X.xe s₁) X.xe s := by
  refine thn (ha pins s σ H _ I h) fun v s1 ⟨x, H1, I1, r1, q1⟩ => ?_
  refine thn (hb pins s1 σ H1 _ I1 q1) fun u s2 ⟨y, H2, I2, r2, q2⟩ => ?_
  exact hf v u s2 x y H2 I2 r1 r2 q2
theorem pe_op {op : Operator} {r : R2} (ho : OpR X (binaryOp op) r) (ha : PE X a ta) (hb : PE X b tb) : PE X (.BinOp a op b pos) (tOp r ta tb) := by
  intro pins s σ H Q I h
  exact wpAny_BinOp (binT ha hb I h fun v u s2 x y H2 I2 rx ry q => ho pins s2 σ H2 x y v u Q I2 rx ry q)
theorem pe_un {op : UnaryOp} {r : V → Hp → VK → Prop} (ho : UnR X (unaryOp op) r) (ha : PE X a ta) : PE X (.UnaryOp op a pos) (tUn r ta) := by
  intro pins s σ H Q I h
  exact UnaryOp_ (thn (ha pins s σ H _ I h) fun v s1 ⟨x, H1, I1, r1, q1⟩ => ho pins s1 σ H1 x v Q I1 r1 q1)
theorem opI {f : Value → Value → Sem Value} {C : Int → Int → Prop} {g : Int → Int → Int}
    (rule : ∀ (i j : Int) (t u : Tok) (s : Shared) (Q : Value → Shared → Prop) (E : Value → Shared → Prop), C i j → Q (.int (g i j) s.toks) { s with toks := s.toks + 1 } → wpAny (model X.prog X.w) X.A (f (.int i t) (.int j u)) Q E s) :
    OpR X f (rI C fun i j => .int (g i j)) := by
  intro pins s σ H x y v u Q I rx ry h
  obtain ⟨i, j, rfl, rfl, hc, q⟩ := h
  obtain ⟨t, rfl⟩ := rx
  obtain ⟨t', rfl⟩ := ry
  exact rule i j t t' s _ _ hc ⟨.int (g i j), H, I.tok _, ⟨_, rfl⟩, q⟩
theorem opI0 {f : Value → Value → Sem Value} {g : Int → Int → Int}
    (rule : ∀ (i j : Int) (t u : Tok) (s : Shared) (Q : Value → Shared → Prop) (E : Value → Shared → Prop), Q (.int (g i j) s.toks) { s with toks := s.toks + 1 } → wpAny (model X.prog X.w) X.A (f (.int i t) (.int j u)) Q E s) :
    OpR X f (rI0 fun i j => .int (g i j)) := by
  intro pins s σ H x y v u Q I rx ry h
  obtain ⟨i, j, rfl, rfl, q⟩ := h
  obtain ⟨t, rfl⟩ := rx
  obtain ⟨t', rfl⟩ := ry
  exact rule i j t t' s _ _ ⟨.int (g i j), H, I.tok _, ⟨_, rfl⟩, q⟩
theorem opB0 {f : Value → Value → Sem Value} {g : Int → Int → Bool}
    (rule : ∀ (i j : Int) (t u : Tok) (s : Shared) (Q : Value → Shared → Prop) (E : Value → Shared → Prop), Q (.bool (g i j)) s → wpAny (model X.prog X.w) X.A (f (.int i t) (.int j u)) Q E s) :
    OpR X f (rI0 fun i j => .bl (g i j)) := by
  intro pins s σ H x y v u Q I rx ry h
  obtain ⟨i, j, rfl, rfl, q⟩ := h
  obtain ⟨t, rfl⟩ := rx
  obtain ⟨t', rfl⟩ := ry
  exact rule i j t t' s _ _ ⟨.bl (g i j), H, I, rfl, q⟩
def CPow (i j : Int) : Prop := 0 ≤ j ∧ j ≤ 1000000 ∧ i.natAbs < 2 ^ 64
def CMul (i j : Int) : Prop := (-(2 ^ 64) < i ∧ i < 2 ^ 64) ∨ (-(2 ^ 64) < j ∧ j < 2 ^ 64)
theorem CMul.ok {i j : Int} (h : CMul i j) : IntMulOk i j := by
  rcases h with ⟨h1, h2⟩ | ⟨h1, h2⟩
  · exact .of_left (intBits_le_64 h1 h2)
  · exact .of_right (intBits_le_64 h1 h2)
theorem op_add : OpR X (binaryOp .Add) (rI0 fun i j => .int (i + j)) := opI0 fun _ _ _ _ _ _ _ q => add_int q
theorem op_sub : OpR X (binaryOp .Sub) (rI0 fun i j => .int (i - j)) := opI0 fun _ _ _ _ _ _ _ q => sub_int q
theorem op_modN : OpR X (binaryOp .Mod) (rI (fun _ j => j ≠ 0) fun i j => .int (i.fmod j)) := opI fun _ _ _ _ _ _ _ hc q => mod_int' hc q
theorem op_pow : OpR X (binaryOp .Pow) (rI CPow fun i j => .int (i ^ j.toNat)) := opI fun _ _ _ _ _ _ _ hc q => pow_int_small hc.1 hc.2.1 hc.2.2 q
theorem unI {f : Value → Sem Value} {g : Int → Int}
    (rule : ∀ (i : Int) (t : Tok) (s : Shared) (Q : Value → Shared → Prop) (E : Value → Shared → Prop), Q (.int (g i) s.toks) { s with toks := s.toks + 1 } → wpAny (model X.prog X.w) X.A (f (.int i t)) Q E s) :
    UnR X f (rU fun i => .int (g i)) := by
  intro pins s σ H x v Q I rx h
  obtain ⟨i, rfl, q⟩ := h
  obtain ⟨t, rfl⟩ := rx
  exact rule i t s _ _ ⟨.int (g i), H, I.tok _, ⟨_, rfl⟩, q⟩
theorem un_neg : UnR X (unaryOp .USub) (rU fun i => .int (-i)) := unI fun _ _ _ _ _ q => neg_int q
end
section
variable {X : Cx} {a b c : Expr} {ta tb tc : TE} {pos : Pos}
theorem fin_bl {pins : List (Addr × Obj)} {σ : St} {H : Hp} {s : Shared} {Q : VK} {k k' : Bool} (I : Inv X pins σ H s) (q : Q (.bl k) H) (e : k = k') : EP X pins σ Q (.bool k') s := by
  subst e
  exact ⟨.bl k, H, I, rfl, q⟩
theorem op_lt : OpR X (compareOp .Lt) (rI0 fun i j => .bl (decide (i < j))) := opB0 fun _ _ _ _ _ _ _ q => lt_int q
theorem op_le : OpR X (compareOp .LtE) (rI0 fun i j => .bl (decide (i ≤ j))) := opB0 fun _ _ _ _ _ _ _ q => le_int q
theorem op_gt : OpR X (compareOp .Gt) (rI0 fun i j => .bl (decide (j < i))) := opB0 fun _ _ _ _ _ _ _ q => gt_int q
theorem op_ge : OpR X (compareOp .GtE) (rI0 fun i j => .bl (decide (j ≤ i))) := opB0 fun _ _ _ _ _ _ _ q => ge_int q
theorem op_isN : OpR X (compareOp .Is) (fun x y H Q => y = .non ∧ Q (.bl (decide (x = .non))) H) := by
  intro pins s σ H x y v u Q I rx ry h
  obtain ⟨rfl, q⟩ := h
  cases ry
  refine is_none_gen (fin_bl I q ?_)
  cases x <;> first
    | (cases rx; rfl)
    | (obtain ⟨t, rfl⟩ := rx; rfl)
theorem OpR.or {f : Value → Value → Sem Value} {r r' : R2} (h : OpR X f r) (h' : OpR X f r') : OpR X f (fun x y H Q => r x y H Q ∨ r' x y H Q) := by
  intro pins s σ H x y v u Q I rx ry q
  rcases q with q | q
  · exact h pins s σ H x y v u Q I rx ry q
  · exact h' pins s σ H x y v u Q I rx ry q
theorem nomark (b : Expr) {op : CmpOp} (h : op ≠ .In := by decide) (h2 : op ≠ .NotIn := by decide) : behindInMarks op b = false := by
  have e1 : (op == CmpOp.In) = false := by cases op <;> first | rfl | exact absurd rfl h
  have e2 : (op == CmpOp.NotIn) = false := by cases op <;> first | rfl | exact absurd rfl h2
  cases b <;> simp [behindInMarks, e1, e2]
theorem pe_cmpR {op : CmpOp} {r : R2} (ho : OpR X (compareOp op) r) (ha : PE X a ta) (hb : PE X b tb) (hm : behindInMarks op b = false) : PE X (.Compare a [op] [b] pos) (tOp r ta tb) := by
  intro pins s σ H Q I h
  exact wpAny_Compare1 (binT ha hb I h fun v u s2 x y H2 I2 rx ry q => ho pins s2 σ H2 x y v u Q I2 rx ry q) hm
def tTest (t : TE) : TT := fun σ H Q => t σ H fun x H' => ∃ k, x = .bl k ∧ Q k H'
theorem pt_cmpR {op : CmpOp} {r : R2} (ho : OpR X (compareOp op) r) (ha : PE X a ta) (hb : PE X b tb) (hm : behindInMarks op b = false) : PT X (.Compare a [op] [b] pos) (tTest (tOp r ta tb)) := by
  intro pins s σ H Q I h
  refine wpAny_isTrue_Compare1 (thn (ha pins s σ H _ I h) fun v s1 ⟨x, H1, I1, r1, q1⟩ => thn (hb pins s1 σ H1 _ I1 q1) fun u s2 ⟨y, H2, I2, r2, q2⟩ =>
    thn (ho pins s2 σ H2 x y v u _ I2 r1 r2 q2) fun c s3 ⟨z, H3, I3, r3, k, e, q3⟩ => ?_) hm
  subst e
  cases r3
  exact wpAny_truthy_bool ⟨H3, I3, q3⟩
def tChain (r r' : R2) (ta tb tc : TE) : TE := fun σ H Q => ta σ H fun x H1 => tb σ H1 fun y H2 => r x y H2 fun z H3 => ∃ k, z = .bl k ∧
  (if k = true then tc σ H3 fun w' H4 => r' y w' H4 Q else Q (.bl false) H3)
theorem pt_chain {op op' : CmpOp} {r r' : R2} (ho : OpR X (compareOp op) r) (ho' : OpR X (compareOp op') r') (ha : PE X a ta) (hb : PE X b tb) (hc : PE X c tc)
    (hm : lastMarks [op, op'] [b, c] = false := by with_unfolding_all rfl) : PT X (.Compare a [op, op'] [b, c] pos) (tTest (tChain r r' ta tb tc)) := by
  intro pins s σ H Q I h
  refine isTrue_chain (thn (ha pins s σ H _ I h) fun v s1 ⟨x, H1, I1, r1, q1⟩ => test_link (thn (hb pins s1 σ H1 _ I1 q1) fun u s2 ⟨y, H2, I2, r2, q2⟩ =>
    thn (ho pins s2 σ H2 x y v u _ I2 r1 r2 q2) fun d s3 ⟨z, H3, I3, r3, k, e, q3⟩ => ?_)) hm
  subst e
  cases r3
  refine wpAny_truthy_bool ?_
  cases k with
  | false =>
    obtain ⟨k', e', q'⟩ := q3
    cases e'
    exact ite_ff ⟨H3, I3, q'⟩
  | true =>
    refine ite_tt (test_last (thn (hc pins s3 σ H3 _ I3 q3) fun w' s4 ⟨z', H4, I4, r4, q4⟩ => thn (ho' pins s4 σ H4 y z' u w' _ I4 r2 r4 q4) fun d' s5 ⟨z2, H5, I5, r5, k2, e2, q5⟩ => ?_))
    subst e2
    cases r5
    exact wpAny_truthy_bool ⟨H5, I5, q5⟩
def TruV (K : PySem.W.Frag) (x : V) (H : Hp) (k : Bool) : Prop :=
  match x with
  | .non => k = false
  | .bl b => k = b
  | .int i => k = (i != 0)
  | .str y => y.length ≤ sizeLine ∧ k = ((y.length : Int) != 0)
  | .byt y => y.size ≤ sizeLine ∧ k = ((y.size : Int) != 0)
  | .ref p => (∃ xs, SqL K H p xs ∧ k = !xs.isEmpty) ∨ (∃ xs, SqT K H p xs ∧ k = !xs.isEmpty) ∨ ∃ kvs, H p = some (.dK kvs) ∧ k = !kvs.isEmpty
  | _ => False
theorem isEmpty_kv {κ : Type} {kvs : List (κ × V)} {vs : List (κ × Value)} (r : KV kvs vs) : (!vs.isEmpty) = !kvs.isEmpty := by
  cases r <;> rfl
theorem isEmpty_of {xs : List V} {its : List Value} (r : Vals xs its) : (!its.toArray.isEmpty) = !xs.isEmpty := by
  cases r <;> simp
theorem line63 : (sizeLine : Nat) < 2 ^ 63 := by rw [sizeLine_eq]; decide
theorem tru_ok : TruR X (fun x H Q => ∃ k, TruV X.K x H k ∧ Q k H) := by
  intro pins s σ H x v Q I rx h
  obtain ⟨k, e, q⟩ := h
  have hl := line63
  have hs : sizeLine = 16777216 := sizeLine_eq
  cases x with
  | non =>
    cases rx
    have e' : k = false := e
    subst e'
    exact truthy_none ⟨H, I, q⟩
  | bl b =>
    cases rx
    have e' : k = b := e
    subst e'
    exact wpAny_truthy_bool ⟨H, I, q⟩
  | int i =>
    obtain ⟨t, rfl⟩ := rx
    have e' : k = (i != 0) := e
    subst e'
    exact PySem.P.truthy_int ⟨H, I, q⟩
  | str y =>
    obtain ⟨t, rfl⟩ := rx
    obtain ⟨hy, e'⟩ : y.length ≤ sizeLine ∧ k = ((y.length : Int) != 0) := e
    subst e'
    exact PySem.P.truthy_str (by omega) ⟨H, I.tok _, q⟩
  | byt y =>
    obtain ⟨t, rfl⟩ := rx
    obtain ⟨hy, e'⟩ : y.size ≤ sizeLine ∧ k = ((y.size : Int) != 0) := e
    subst e'
    exact PySem.W.truthy_bytes (by omega) ⟨H, I.tok _, q⟩
  | ref p =>
    cases rx
    have e' : (∃ xs, SqL X.K H p xs ∧ k = !xs.isEmpty) ∨ (∃ xs, SqT X.K H p xs ∧ k = !xs.isEmpty) ∨ ∃ kvs, H p = some (.dK kvs) ∧ k = !kvs.isEmpty := e
    rcases e' with ⟨xs, hx, e'⟩ | ⟨xs, hx, e'⟩ | ⟨kvs, hx, e'⟩
    · subst e'
      obtain ⟨its, r, pl, hz⟩ := I.list hx
      have hlen := r.length
      exact wpAny_truthy_list pl.isList (by simp only [List.size_toArray]; omega) ⟨H, I.tok _, by rw [isEmpty_of r]; exact q⟩
    · subst e'
      obtain ⟨its, r, pl, hz⟩ := I.tuple hx
      have hlen := r.length
      exact truthy_tuple pl (by simp only [List.size_toArray]; omega) ⟨H, I.tok _, by rw [isEmpty_of r]; exact q⟩
    · subst e'
      obtain ⟨hz, hS, vs, r, m⟩ : kvs.length ≤ sizeLine ∧ (p == sysModules) = false ∧ ∃ vs, KV kvs vs ∧ s.heap.DictOf (mixKind X.prog X.w) p vs := I.hok p _ hx
      have hlen : kvs.length = vs.length := Paired.length r
      exact wpAny_truthy_dict hS m (by omega) ⟨H, I.tok _, by rw [isEmpty_kv r]; exact q⟩
  | _ => exact (show False from e).elim
theorem pt_truth (ha : PE X a ta) (he : ∀ whole, isTrue a X.env whole = (do let v ← whole; standAt a.pos; holding [v] (truthy v))) :
    PT X a (fun σ H Q => ta σ H fun x H' => ∃ k, TruV X.K x H' k ∧ Q k H') := by
  intro pins s σ H Q I h
  exact isTrue_plain (thn (ha pins s σ H _ I h) fun v s1 ⟨x, H1, I1, r1, q1⟩ => tru_ok pins s1 σ H1 x v Q I1 r1 q1) (he _)
theorem op_add_str : OpR X (binaryOp .Add) (fun x y H Q => ∃ i j, x = .str i ∧ y = .str j ∧ i.length + j.length ≤ sizeLine ∧ Q (.str (i ++ j)) H) := by
  intro pins s σ H x y v u Q I rx ry h
  obtain ⟨i, j, rfl, rfl, hz, q⟩ := h
  obtain ⟨t, rfl⟩ := rx
  obtain ⟨t', rfl⟩ := ry
  exact add_str (fun t' tk => ⟨.str (i ++ j), H, I.tok _, ⟨_, rfl⟩, q⟩) hz
theorem vals1 {x : V} {us : List Value} (r : Vals [x] us) : ∃ u, us = [u] ∧ RelV x u := by
  cases r with
  | cons r1 r2 => cases r2; exact ⟨_, rfl, r1⟩
theorem vals2 {x y : V} {us : List Value} (r : Vals [x, y] us) : ∃ u w', us = [u, w'] ∧ RelV x u ∧ RelV y w' := by
  cases r with
  | cons r1 r2 =>
    cases r2 with
    | cons r3 r4 => cases r4; exact ⟨_, _, rfl, r1, r3⟩
theorem call_abs : CallR X (.builtin "abs") (fun xs H Q => ∃ i, xs = [.int i] ∧ Q (.int (if i < 0 then -i else i)) H) := by
  intro pins s σ H xs us Q I r h
  obtain ⟨i, rfl, q⟩ := h
  obtain ⟨u, rfl, t, rfl⟩ := vals1 r
  exact call_abs_int fun u tk => ⟨.int (if i < 0 then -i else i), H, I.tok _, ⟨_, rfl⟩, q⟩
theorem call_max2 (hc : X.calm = true) : CallR X (.builtin "max") (fun xs H Q => ∃ i j, xs = [.int i, .int j] ∧ Q (.int (if j > i then j else i)) H) := by
  intro pins s σ H xs us Q I r h
  obtain ⟨i, j, rfl, q⟩ := h
  obtain ⟨u, w', rfl, ⟨t, rfl⟩, ⟨t', rfl⟩⟩ := vals2 r
  refine max_two_ints (I.ok.hd hc) fun h' tk k => ⟨_, H, I.kept k, ?_, q⟩
  by_cases hj : j > i
  · rw [if_pos hj, if_pos hj]; exact ⟨_, rfl⟩
  · rw [if_neg hj, if_neg hj]; exact ⟨_, rfl⟩
theorem call_min2 (hc : X.calm = true) : CallR X (.builtin "min") (fun xs H Q => ∃ i j, xs = [.int i, .int j] ∧ Q (.int (if j < i then j else i)) H) := by
  intro pins s σ H xs us Q I r h
  obtain ⟨i, j, rfl, q⟩ := h
  obtain ⟨u, w', rfl, ⟨t, rfl⟩, ⟨t', rfl⟩⟩ := vals2 r
  refine min_two_ints (I.ok.hd hc) fun h' tk k => ⟨_, H, I.kept k, ?_, q⟩
  by_cases hj : j < i
  · rw [if_pos hj, if_pos hj]; exact ⟨_, rfl⟩
  · rw [if_neg hj, if_neg hj]; exact ⟨_, rfl⟩
theorem call_int1 : CallR X (.type "int") (fun xs H Q => (∃ i, xs = [.int i] ∧ Q (.int i) H) ∨ ∃ k, xs = [.bl k] ∧ Q (.int (if k then 1 else 0)) H) := by
  intro pins s σ H xs us Q I r h
  rcases h with ⟨i, rfl, q⟩ | ⟨k, rfl, q⟩
  · obtain ⟨u, rfl, t, rfl⟩ := vals1 r
    exact call_int_int ⟨.int i, H, I, ⟨_, rfl⟩, q⟩
  · obtain ⟨u, rfl, r1⟩ := vals1 r
    cases r1
    exact call_int_bool ⟨.int (if k then 1 else 0), H, I.tok _, ⟨_, rfl⟩, q⟩
theorem call_str_int : CallR X (.type "str") (fun xs H Q => ∃ i, xs = [.int i] ∧ i.natAbs.log2 < 1920 ∧ Q (.str (toString i)) H) := by
  intro pins s σ H xs us Q I r h
  obtain ⟨i, rfl, hz, q⟩ := h
  obtain ⟨u, rfl, t, rfl⟩ := vals1 r
  exact PySem.P.str_of_int hz ⟨.str _, H, I.tok _, ⟨_, rfl⟩, q⟩
def LenV (K : PySem.W.Frag) (x : V) (H : Hp) (n : Nat) : Prop :=
  match x with
  | .str y => y.length ≤ sizeLine ∧ n = y.length
  | .byt y => y.size ≤ sizeLine ∧ n = y.size
  | .ref p => (∃ xs, SqL K H p xs ∧ n = xs.length) ∨ ∃ xs, SqT K H p xs ∧ n = xs.length
  | _ => False
theorem call_len : CallR X (.builtin "len") (fun xs H Q => ∃ x n, xs = [x] ∧ LenV X.K x H n ∧ Q (.int n) H) := by
  intro pins s σ H xs us Q I r h
  obtain ⟨x, n, rfl, e, q⟩ := h
  obtain ⟨u, rfl, rx⟩ := vals1 r
  have hl := line63
  have hs : sizeLine = 16777216 := sizeLine_eq
  cases x with
  | str y =>
    obtain ⟨t, rfl⟩ := rx
    obtain ⟨hy, e'⟩ : y.length ≤ sizeLine ∧ n = y.length := e
    subst e'
    exact len_str (by omega) ⟨.int _, H, I.tok _, ⟨_, rfl⟩, q⟩
  | byt y =>
    obtain ⟨t, rfl⟩ := rx
    obtain ⟨hy, e'⟩ : y.size ≤ sizeLine ∧ n = y.size := e
    subst e'
    exact PySem.W.len_bytes (by omega) ⟨.int _, H, I.tok _, ⟨_, rfl⟩, q⟩
  | ref p =>
    cases rx
    have e' : (∃ xs, SqL X.K H p xs ∧ n = xs.length) ∨ ∃ xs, SqT X.K H p xs ∧ n = xs.length := e
    rcases e' with ⟨xs, hx, e'⟩ | ⟨xs, hx, e'⟩
    · subst e'
      obtain ⟨its, r', pl, hz⟩ := I.list hx
      have hlen := r'.length
      exact Calls.call_len_list pl.isList (by simp only [List.size_toArray]; omega) ⟨.int xs.length, H, I.tok _, ⟨_, by simp only [List.size_toArray]; rw [hlen]⟩, q⟩
    · subst e'
      obtain ⟨its, r', pl, hz⟩ := I.tuple hx
      have hlen := r'.length
      exact len_tuple pl (by simp only [List.size_toArray]; omega) ⟨.int xs.length, H, I.tok _, ⟨_, by simp only [List.size_toArray]; rw [hlen]⟩, q⟩
  | _ => exact (show False from e).elim
end
end L2
namespace L2
open PySem PySem.Spec PyProof.Rows
structure ObjM (h : Heap) (x dx C : Addr) (mA : Str → Option Value) : Prop where
  obj : h.get? x = some (PySem.W.instObj C dx)
  ns : h.Ns1 dx mA
  ne : dx ≠ x
theorem lookIn_ns {h : Heap} {dx : Addr} {mA : Str → Option Value} (n : h.Ns1 dx mA) : ∃ od, h.get? dx = some od ∧ ∀ name, PySem.W.lookIn name od = some (mA name) := by
  obtain ⟨o, es, ep, ho, hd, hk, _, hm⟩ := n
  refine ⟨o, ho, fun name => ?_⟩
  have e := hm name
  unfold nsFind findBy at e
  rw [← Array.find?_toList] at e
  unfold PySem.W.lookIn
  rw [hd]
  dsimp only
  split
  · rename_i y q
    rw [q] at e
    exact congrArg some e
  · rename_i q
    rw [q] at e
    have a : es.toList.any (·.refKey) = false := by
      rw [List.any_eq_false]
      intro y hy
      obtain ⟨z, t, hkey⟩ := hk y (Array.mem_toList_iff.mp hy)
      simp [DictEntry.refKey, hkey]
    have a' : ¬ es.toList.any (·.refKey) = true := by rw [a]; exact Bool.false_ne_true
    rw [if_neg a']
    exact congrArg some e
theorem ObjM.look {h : Heap} {x dx C : Addr} {mA : Str → Option Value} (I : ObjM h x dx C mA) : ∃ od, PySem.W.InstAt h x (PySem.W.instObj C dx) C (some od) ∧ ∀ name, PySem.W.lookIn name od = some (mA name) :=
  let ⟨od, ho, hl⟩ := lookIn_ns I.ns
  ⟨od, ⟨I.obj, rfl, rfl, ho⟩, hl⟩
structure Cls (K : PySem.W.Frag) (C : Addr) : Prop where
  pg : PySem.W.plainGet K C Str.empty = true
  hd : PySem.W.hasDictIn K C = true
  po : PySem.W.plainOver K C = true
  sa : PySem.W.findIn K (.ref C) "__setattr__" = some (some (.builtin "object.__setattr__"))
theorem Cls.get {K : PySem.W.Frag} {C : Addr} (c : Cls K C) (f : Str) : PySem.W.plainGet K C f = true := c.pg
structure Con (K : PySem.W.Frag) (C : Addr) (f : Str) (v : V) (u : Value) : Prop where
  at_ : PySem.W.findIn K (.ref C) f = some (some u)
  rel : RelV v u
  get : PySem.W.specialIn K u "__get__" = some none
  cp : PySem.W.copiedNames.contains f = false
structure Meth (K : PySem.W.Frag) (C : Addr) (m : Str) (f : Addr) : Prop where
  at_ : PySem.W.findIn K (.ref C) m = some (some (.ref f))
  fn : PySem.W.isFn K (.ref f) = true
  kp : PySem.W.keepIn K (.ref f) = true
section
variable {X : Cx} {pins : List (Addr × Obj)} {σ : St} {H : Hp} {s : Shared} {a C dx : Addr} {fs : List (Str × V)} {f : Str} {v : V} {A : Around} {E : Value → Shared → Prop}
theorem Inv.made (I : Inv X pins σ H s) : Inv X pins σ (upd (upd H s.heap.objs.size (.own (s.heap.objs.size + 1))) (s.heap.objs.size + 1) (.ins C s.heap.objs.size []))
    { s with heap := (s.heap.push PySem.W.emptyDict).push (PySem.W.instObj C s.heap.objs.size) } := by
  have e1 : (s.heap.push PySem.W.emptyDict).get? s.heap.objs.size = some PySem.W.emptyDict := Heap.get?_push_size s.heap rfl
  have e2 : ((s.heap.push PySem.W.emptyDict).push (PySem.W.instObj C s.heap.objs.size)).get? (s.heap.objs.size + 1) = some (PySem.W.instObj C s.heap.objs.size) := by
    have := Heap.get?_push_size (s.heap.push PySem.W.emptyDict) (o := PySem.W.instObj C s.heap.objs.size) rfl
    rwa [Heap.size_push] at this
  have e3 : (s.heap.push PySem.W.emptyDict).Ns s.heap.objs.size (fun _ => none) := ⟨PySem.W.emptyDict, #[], _, e1, rfl, (fun e he => absurd he (by simp)), fun _ => rfl⟩
  have I1 := I.laid (a := s.heap.objs.size) (o := .own (s.heap.objs.size + 1)) (h' := s.heap.push PySem.W.emptyDict) (t' := s.toks) (fun b u q => Heap.get?_push_of_some _ q) (Nat.le_refl _) ⟨_, e1⟩
  refine I1.laid (a := s.heap.objs.size + 1) (o := .ins C s.heap.objs.size []) (t' := s.toks) (fun b u q => Heap.get?_push_of_some _ q) (Nat.le_of_eq (Heap.size_push _ _)) ?_
  have ne : s.heap.objs.size ≠ s.heap.objs.size + 1 := Nat.ne_of_lt (Nat.lt_succ_self _)
  refine ⟨by rw [upd_ne ne, upd_same], Nat.zero_le _, ne, e2, fun _ => none, (Heap.Ns1.of_empty e3).at fun o q => Heap.get?_push_of_some _ q, fun _ => True.intro, fun y hy => absurd rfl hy⟩
end
section
variable {X : Cx} {pins : List (Addr × Obj)} {σ : St} {H : Hp} {s : Shared} {A : Around} {E : Value → Shared → Prop} {Q : Value → Shared → Prop} {c : Value} {b : Bool}
inductive TyOf (K : PySem.W.Frag) (H : Hp) : V → Value → Prop where
  | non : TyOf K H .non (.type "NoneType")
  | bl (x : Bool) : TyOf K H (.bl x) (.type "bool")
  | int (i : Int) : TyOf K H (.int i) (.type "int")
  | str (x : Str) : TyOf K H (.str x) (.type "str")
  | flt (x : UInt64) : TyOf K H (.flt x) (.type "float")
  | lst {a : Addr} {xs : List V} (e : H a = some (.lst xs)) : TyOf K H (.ref a) (.type "list")
  | frz {a : Addr} {o : Obj} {xs : List V} (e : H a = some (.frz o (.lst xs))) : TyOf K H (.ref a) (.type "list")
  | tup {a : Addr} {xs : List V} (e : H a = some (.tup xs)) : TyOf K H (.ref a) (.type "tuple")
  | dK {a : Addr} {kvs : List (Key × V)} (e : H a = some (.dK kvs)) : TyOf K H (.ref a) (.type "dict")
  | dT {a : Addr} {kvs : List (List Key × V)} (e : H a = some (.dT kvs)) : TyOf K H (.ref a) (.type "dict")
  | ins {a C dx : Addr} {fs : List (Str × V)} (e : H a = some (.ins C dx fs)) (cl : Cls K C) (ha : PySem.W.findIn K (.ref C) "__class__" = some (some (.builtin "object.__class__")))
      (hn : PySem.W.specialIn K (.builtin "object.__class__") "__get__" = some (some (.builtin "getset_descriptor.__get__"))) (htk : PySem.W.takesIn K (.builtin "object.__class__") = some true)
      (hm : PySem.W.mroIn K C (.type "object") = some true) : TyOf K H (.ref a) (.ref C)
end
end L2
namespace L2
open PySem PySem.Spec PyProof.Rows
structure Room (k : Nat) (A : Around) : Prop where
  hd : A.handled = none
  dp : A.depth + 3 * k + 5 < recursionLimit
  un : A.units + 16 * k + 200 < cLine
theorem Room.mono {j k : Nat} {A : Around} (r : Room k A) (h : j ≤ k) : Room j A := ⟨r.hd, by have := r.dp; omega, by have := r.un; omega⟩
theorem Room.deeper {k : Nat} {A : Around} (r : Room (k + 1) A) (env : Env) : Room k (A.deeper env) :=
  ⟨r.hd, by have := r.dp; show A.depth + 1 + 3 * k + 5 < _; omega, by have := r.un; show A.units + 3 + 16 * k + 200 < _; omega⟩
theorem Room.in1 {k : Nat} {A : Around} (r : Room (k + 1) A) : Room k A.in1 :=
  ⟨r.hd, by have := r.dp; show A.depth + 3 * k + 5 < _; omega, by have := r.un; show A.units + 1 + 16 * k + 200 < _; omega⟩
theorem Room.depth {k : Nat} {A : Around} (r : Room k A) : A.depth < recursionLimit := by have := r.dp; omega
theorem Room.units {k : Nat} {A : Around} (r : Room k A) : A.units + 64 < cLine := by have := r.un; omega
def tNil : TA := fun _ H Q => Q [] H
def tCons (ta : TE) (tr : TA) : TA := fun σ H Q => ta σ H fun x H1 => tr σ H1 fun xs H2 => Q (x :: xs) H2
section
variable {X : Cx} {e : Expr} {es : List Expr} {te : TE} {t : TA} {pos : Pos}
theorem pa_nil : PA X [] tNil := fun _ _ _ _ H Q I h => Calls.spliced_nil ⟨[], H, I, .nil, h⟩
theorem pa_cons (ha : PE X e te) (hr : PA X es t) (hs : starEach (e :: es) X.env = (false, eval e X.env) :: starEach es X.env := by rfl) : PA X (e :: es) (tCons te t) := by
  intro pos pins s σ H Q I h
  rw [hs]
  show wpAny _ _ (spliced ((false, eval e X.env) :: backTo pos (starEach es X.env))) _ _ s
  refine Calls.spliced_cons (thn (ha pins s σ H _ I h) fun u s1 ⟨x, H1, I1, r1, q1⟩ => ?_)
  exact thn (hr pos pins s1 σ H1 _ I1 q1) fun us s2 ⟨xs, H2, I2, r2, q2⟩ => ⟨x :: xs, H2, I2, .cons r1 r2, q2⟩
def tTup (t : TA) : TE := fun σ H Q => t σ H fun xs H1 => xs.length ≤ sizeLine ∧ ∀ p, H1 p = none → Q (.ref p) (upd H1 p (.tup xs))
def tLst (t : TA) : TE := fun σ H Q => t σ H fun xs H1 => xs.length ≤ sizeLine ∧ ∀ p, H1 p = none → Q (.ref p) (upd H1 p (.lst xs))
theorem pe_tup {x1} (h : PA X es t) : PE X (.Tuple es x1 pos) (tTup t) := by
  intro pins s σ H Q I hq
  refine wpAny_Tuple_spliced (thn (h pos pins s σ H _ I hq) fun us s1 ⟨xs, H1, I1, r, z, q⟩ => ⟨by rw [← r.length]; exact z, ?_⟩)
  have hf : H1 s1.heap.objs.size = none := I1.hok.fresh (Nat.le_refl _)
  refine ⟨.ref s1.heap.objs.size, upd H1 s1.heap.objs.size (.tup xs), I1.laid (t' := s1.toks) (fun b u e => Heap.get?_push_of_some _ e) (Nat.le_refl _) ?_, rfl, q _ hf⟩
  exact ⟨z, us, r, ⟨_, Heap.get?_push_size _ rfl, rfl, _, rfl⟩⟩
theorem pe_lst (h : PA X es t) : PE X (.List es pos) (tLst t) := by
  intro pins s σ H Q I hq
  refine wpAny_List_spliced (thn (h pos pins s σ H _ I hq) fun us s1 ⟨xs, H1, I1, r, z, q⟩ => ⟨by rw [← r.length]; exact z, ?_⟩)
  have hf : H1 s1.heap.objs.size = none := I1.hok.fresh (Nat.le_refl _)
  refine ⟨.ref s1.heap.objs.size, upd H1 s1.heap.objs.size (.lst xs), I1.laid (t' := s1.toks) (fun b u e => Heap.get?_push_of_some _ e) (Nat.le_refl _) ?_, rfl, q _ hf⟩
  exact ⟨z, us, 0, r, Heap.get?_push_size _ rfl⟩
end
abbrev Sp := List V → Hp → VK → XK → Prop
abbrev CXT := List Env → Hp → Shared → XK → Value → Shared → Prop
structure Env0 (P : Program) (w : World) (K : PySem.W.Frag) (mg : Str → Option Value) (base : Heap) (A : Around) (outer : List Env) (s : Shared) (H : Hp) : Prop where
  frames : A.frames = some outer
  mod : Mod K mg base
  bs : ∀ b o, base.get? b = some o → s.heap.get? b = some o ∧ H b = none
  bsz : base.objs.size ≤ s.heap.objs.size
  funs : s.heap.FunFrames base outer
  frf : ∀ b ∈ frs outer, H b = none
  hok : HOk P w H s.heap
  bare : AllBare s.gens
def CE (outer : List Env) (P : Program) (w : World) (H : Hp) (s : Shared) (Q : VK) (u : Value) (s' : Shared) : Prop :=
  ∃ v H', s'.os = s.os ∧ AllBare s'.gens ∧ Un (frs outer) [] H H' s.heap s'.heap ∧ HOk P w H' s'.heap ∧ RelV v u ∧ Q v H'
def CR (CX : CXT) (outer : List Env) (P : Program) (w : World) (H : Hp) (s : Shared) (Q : VK) (E : XK) (r : Result) (s' : Shared) : Prop :=
  match r with
  | .ok (.ret u) => CE outer P w H s Q u s'
  | .ok _ => False
  | .error e => CX outer H s E e s'
structure FnOk (P : Program) (w : World) (K : PySem.W.Frag) (mg : Str → Option Value) (base : Heap) (CX : CXT) (k : Nat) (f : Addr) (fd : FuncData) (ps : List Str) (sp : Sp) : Prop where
  len : ∀ vs H Q E, sp vs H Q E → vs.length = ps.length
  run : ∀ (A : Around) (outer : List Env) (s : Shared) (H : Hp) (args : Args) (us : List Value) (vs : List V) (Q : VK) (E : XK), Room k A → Env0 P w K mg base A outer s H → BindsTo s fd args (ps.zip us) → Vals vs us → sp vs H Q E →
    codeAny (model P w) A (.call (.ref f) args) (CR CX outer P w H s Q E) s
theorem FnOk.mono {P : Program} {w : World} {K : PySem.W.Frag} {mg : Str → Option Value} {base : Heap} {CX : CXT} {j k : Nat} {f : Addr} {fd : FuncData} {ps : List Str} {sp : Sp} (F : FnOk P w K mg base CX j f fd ps sp) (h : j ≤ k) :
    FnOk P w K mg base CX k f fd ps sp := ⟨F.len, fun A outer s H args us vs Q E hr => F.run A outer s H args us vs Q E (hr.mono h)⟩
theorem FnOk.imp {P : Program} {w : World} {K : PySem.W.Frag} {mg : Str → Option Value} {base : Heap} {CX : CXT} {k : Nat} {f : Addr} {fd : FuncData} {ps : List Str} {sp sp' : Sp} (F : FnOk P w K mg base CX k f fd ps sp)
    (h : ∀ vs H Q E, sp' vs H Q E → sp vs H Q E) : FnOk P w K mg base CX k f fd ps sp' :=
  ⟨fun vs H Q E q => F.len vs H Q E (h _ _ _ _ q), fun A outer s H args us vs Q E hr he hb hv hs => F.run A outer s H args us vs Q E hr he hb hv (h _ _ _ _ hs)⟩
theorem Env0.in1 {P : Program} {w : World} {K : PySem.W.Frag} {mg : Str → Option Value} {base : Heap} {A : Around} {outer : List Env} {s : Shared} {H : Hp} (e : Env0 P w K mg base A outer s H) :
    Env0 P w K mg base A.in1 outer s H := ⟨e.frames, e.mod, e.bs, e.bsz, e.funs, e.frf, e.hok, e.bare⟩
section
variable {X : Cx} {pins : List (Addr × Obj)} {σ : St} {H : Hp} {s s' : Shared}
theorem Inv.env0 (I : Inv X pins σ H s) : Env0 X.prog X.w X.K X.mg X.base X.A X.stack s H :=
  ⟨I.ok.frames, I.ok.mod, I.bs, Nat.le_trans I.ok.bsz I.sz, I.stack, I.stkFree, I.hok, I.bare⟩
theorem Inv.after {Q : VK} {u : Value} (I : Inv X pins σ H s) (h : CE X.stack X.prog X.w H s Q u s') : EP X pins σ Q u s' := by
  obtain ⟨v, H', os, bare, un, hok, r, q⟩ := h
  obtain ⟨hh, g, d, t, os'⟩ := s'
  obtain rfl : os' = s.os := os
  exact ⟨v, H', I.call (h' := hh) (g' := g) (d' := d) (t' := t) (ch := []) un hok bare (fun b z => absurd z (by simp)), r, q⟩
end
def tCall (sp : Sp) (dvs : List V) (E : XK) (t : TA) : TE := fun σ H Q => t σ H fun vs H1 => sp (vs ++ dvs) H1 Q E
def Binds (K : PySem.W.Frag) (fd : FuncData) (ps : List Str) (ds : List Value) : Prop :=
  ∀ (s : Shared) (us : List Value), K.In s.heap → (us ++ ds).length = ps.length → BindsTo s fd ⟨us, []⟩ (ps.zip (us ++ ds))
theorem Binds.all {K : PySem.W.Frag} {fd : FuncData} {ps : List Str} (h : ∀ us : List Value, us.length = ps.length → bindArgs fd ⟨us, []⟩ = pure (ps.zip us)) : Binds K fd ps [] := fun s us _ hl => by
  rw [List.append_nil] at hl ⊢
  exact .of_eq (h us hl)
def Passes (CX : CXT) (X : Cx) (E : XK) : Prop := ∀ (pins : List (Addr × Obj)) (σ : St) (H : Hp) (s : Shared) (e : Value) (s' : Shared), Inv X pins σ H s → CX X.stack H s E e s' → X.xe e s'
section
variable {X : Cx} {CX : CXT} {k : Nat} {f C : Addr} {fd : FuncData} {ps : List Str} {sp : Sp} {dvs : List V} {ds : List Value} {E : XK} {x m : Str} {p pos apos : Pos} {e o : Expr} {es : List Expr} {ta : TE} {t : TA}
theorem run_fn {pins : List (Addr × Obj)} {σ : St} {H : Hp} {s : Shared} {Q : VK} {us : List Value} {vs : List V} (F : FnOk X.prog X.w X.K X.mg X.base CX k f fd ps sp) (hr : Room k X.A) (hb : Binds X.K fd ps ds) (hd : Vals dvs ds) (hx : Passes CX X E)
    (I : Inv X pins σ H s) (r : Vals vs us) (h : sp (vs ++ dvs) H Q E) : wpAny (model X.prog X.w) X.A (call (.ref f) us) (EP X pins σ Q) X.xe s := by
  have r2 : Vals (vs ++ dvs) (us ++ ds) := r.append hd
  have hl : (us ++ ds).length = ps.length := by rw [← r2.length]; exact F.len _ _ _ _ h
  refine wpAny_call (codeAny_mono (F.run X.A X.stack s H ⟨us, []⟩ (us ++ ds) (vs ++ dvs) Q E hr I.env0 (hb s us I.kIn hl) r2 h) fun r s' hq => ?_)
  cases r with
  | error e => exact hx pins σ H s e s' I hq
  | ok fl =>
    cases fl with
    | ret u => exact I.after hq
    | next => exact False.elim hq
    | brk => exact False.elim hq
    | cont => exact False.elim hq
theorem pe_call (F : FnOk X.prog X.w X.K X.mg X.base CX k f fd ps sp) (hr : Room k X.A) (hg : Gl X x) (hm : X.mg x = some (.ref f)) (hk : PySem.W.keepIn X.K (.ref f) = true) (hb : Binds X.K fd ps ds) (hd : Vals dvs ds) (hx : Passes CX X E)
    (ha : PA X (e :: es) t) (hdb : (x == ("__debug__" : Str)) = false := by decide) (he : starEach (e :: es) X.env = (false, eval e X.env) :: starEach es X.env := by rfl) (hpl : (backTo pos (starEach es X.env)).any (·.1) = false := by rfl) :
    PE X (.Call (.Name x p) (e :: es) [] pos) (tCall sp dvs E t) := by
  intro pins s σ H Q I h
  refine wpAny_Call_Name_kw (ld_glob I hg hm ?_ hdb)
  refine PySem.W.callWith_K (h₀ := X.base) I.ok.mod.kin hk (thn (ha pos pins s σ H _ I h) fun us s1 ⟨vs, H1, I1, r, q⟩ => ⟨I1.kIn, ?_⟩) he hpl
  exact run_fn F hr hb hd hx I1 r q
structure Mk (K : PySem.W.Frag) (C f : Addr) : Prop where
  makes : PySem.W.makesIn K C = true
  init : PySem.W.findIn K (.ref C) "__init__" = some (some (.ref f))
  fn : PySem.W.isFn K (.ref f) = true
  kp : PySem.W.keepIn K (.ref C) = true
end
section
variable {X : Cx} {CX : CXT} {k : Nat} {f C : Addr} {fd : FuncData} {ps ks : List Str} {sp : Sp} {E : XK} {x m : Str} {p pos apos kpos : Pos} {e o : Expr} {es : List Expr} {kws : List Keyword} {te ta : TE} {t tk : TA} {nm : Option Str}
structure KBinds (K : PySem.W.Frag) (fd : FuncData) (ps ks : List Str) (g : List Value → List Value → List Value) (gV : List V → List V → List V) : Prop where
  to : ∀ (s : Shared) (us ws : List Value), K.In s.heap → (g us ws).length = ps.length → BindsTo s fd ⟨us, ks.zip ws⟩ (ps.zip (g us ws))
  rel : ∀ {vs : List V} {us : List Value} {zs : List V} {ws : List Value}, Vals vs us → Vals zs ws → Vals (gV vs zs) (g us ws)
variable {g : List Value → List Value → List Value} {gV : List V → List V → List V}
end
structure FnScope (N P : List Str) (sc : Scope) : Prop where
  kind : sc.kind = .function
  co : sc.isCoroutine = false
  gen : sc.isGenerator = false
  nd : N.Nodup
  pre : N.take P.length = P
  par : ∀ x ∈ P, sc.names.lookup x = some .local ∨ sc.names.lookup x = some .cell
  nofree : ∀ y ∈ sc.names, y.2 ≠ .free
theorem bindL_out {kindOf : Str → Option NameKind} {x : Str} : ∀ {binds : List (Str × Value)} {m : Str → Option Value}, (∀ v, (x, v) ∉ binds) → bindL kindOf binds m x = m x
  | [], _, _ => rfl
  | (n, v) :: r, m, h => by
    unfold bindL
    rw [bindL_out fun w hw => h w (List.mem_cons_of_mem _ hw)]
    split
    · have : x ≠ n := by rintro rfl; exact h v List.mem_cons_self
      simp [this]
    · rfl
theorem bindC_out {kindOf : Str → Option NameKind} {x : Str} : ∀ {binds : List (Str × Value)} {m : Str → Option Value}, (∀ v, (x, v) ∉ binds) → bindC kindOf binds m x = m x
  | [], _, _ => rfl
  | (n, v) :: r, m, h => by
    unfold bindC
    rw [bindC_out fun w hw => h w (List.mem_cons_of_mem _ hw)]
    split
    · rfl
    · have : x ≠ n := by rintro rfl; exact h v List.mem_cons_self
      simp [this]
theorem bindL_get {kindOf : Str → Option NameKind} {x : Str} {v : Value} : ∀ {P : List Str} {vs : List Value} {i : Nat} {m : Str → Option Value}, P.Nodup → P[i]? = some x → vs[i]? = some v → kindOf x = some .local →
    bindL kindOf (P.zip vs) m x = some v
  | [], _, _, _, _, h, _, _ => by simp at h
  | _ :: _, [], _, _, _, _, h, _ => by simp at h
  | p :: P, w :: vs, 0, m, nd, h1, h2, hk => by
    simp at h1 h2; subst h1; subst h2
    show bindL kindOf ((p, w) :: P.zip vs) m p = _
    unfold bindL
    rw [bindL_out fun v hv => (List.nodup_cons.mp nd).1 (List.of_mem_zip hv).1, if_pos hk]
    simp
  | p :: P, w :: vs, i + 1, m, nd, h1, h2, hk => by
    show bindL kindOf ((p, w) :: P.zip vs) m x = _
    unfold bindL
    exact bindL_get (i := i) (List.nodup_cons.mp nd).2 (by simpa using h1) (by simpa using h2) hk
theorem bindC_get {kindOf : Str → Option NameKind} {x : Str} {v : Value} : ∀ {P : List Str} {vs : List Value} {i : Nat} {m : Str → Option Value}, P.Nodup → P[i]? = some x → vs[i]? = some v → kindOf x ≠ some .local →
    bindC kindOf (P.zip vs) m x = some v
  | [], _, _, _, _, h, _, _ => by simp at h
  | _ :: _, [], _, _, _, _, h, _ => by simp at h
  | p :: P, w :: vs, 0, m, nd, h1, h2, hk => by
    simp at h1 h2; subst h1; subst h2
    show bindC kindOf ((p, w) :: P.zip vs) m p = _
    unfold bindC
    rw [bindC_out fun v hv => (List.nodup_cons.mp nd).1 (List.of_mem_zip hv).1, if_neg hk]
    simp
  | p :: P, w :: vs, i + 1, m, nd, h1, h2, hk => by
    show bindC kindOf ((p, w) :: P.zip vs) m x = _
    unfold bindC
    exact bindC_get (i := i) (List.nodup_cons.mp nd).2 (by simpa using h1) (by simpa using h2) hk
def start (N : List Str) (vs : List V) : St := vs.map some ++ List.replicate (N.length - vs.length) none
def cxOf (CX : CXT) (P : Program) (w : World) (K : PySem.W.Frag) (mg : Str → Option Value) (base : Heap) (N : List Str) (qual : Str) (scope : Scope) (f : Addr) (cd : Value) (A : Around) (outer : List Env) (s : Shared) (H : Hp) (E : XK) : Cx where
  prog := P
  w := w
  K := K
  mg := mg
  base := base
  A := A.deeper (envOfC qual scope s.heap.objs.size f cd)
  N := N
  s_0 := s
  H_0 := H
  env := envOfC qual scope s.heap.objs.size f cd
  outer := outer
  stack := envOfC qual scope s.heap.objs.size f cd :: outer
  ex := []
  calm := true
  fn := fun _ => true
  pn := []
  xe := fun e s' => wpAny (model P w) (A.deeper (envOfC qual scope s.heap.objs.size f cd)) (leaving (envOfC qual scope s.heap.objs.size f cd) e) (fun _ s'' => CX outer H s E e s'') (fun e' s'' => CX outer H s E e' s'') s'
theorem cell_has {sc : Scope} {n : Nat} {x : Str} (h : sc.names.lookup x = some .cell) : ∃ c, (cellsFrom n sc.names []).lookup x = some c := by
  have q := PySem.W.cellsFrom_some sc.names n [] (.inl h)
  exact Option.isSome_iff_exists.mp q
theorem inv_start {CX : CXT} {P : Program} {w : World} {K : PySem.W.Frag} {mg : Str → Option Value} {base : Heap} {N ps : List Str} {qual : Str} {scope : Scope} {f : Addr} {cd : Value} {A : Around} {outer : List Env} {s s1 : Shared} {H : Hp} {E : XK} {us : List Value} {vs : List V}
    (S : FnScope N ps scope) (hd : A.handled = none) (e0 : Env0 P w K mg base A outer s H) (hl : vs.length = ps.length) (r : Vals vs us)
    (x : InCallC s s.heap.objs.size (bindL (envOfC qual scope s.heap.objs.size f cd).kindOf (ps.zip us) fun _ => none) (cellsFrom (s.heap.objs.size + 1) scope.names []) (bindC (envOfC qual scope s.heap.objs.size f cd).kindOf (ps.zip us) fun _ => none) s1) :
    Inv (cxOf CX P w K mg base N qual scope f cd A outer s H E) [] (start N vs) H s1 := by
  have hpl : ps.length ≤ N.length := by have := congrArg List.length S.pre; rw [List.length_take] at this; omega
  obtain ⟨h1, tk, rfl, hk⟩ := x.done
  have noA : ∀ b : Addr, b ∉ (cxOf CX P w K mg base N qual scope f cd A outer s H E).ex := fun b z => absurd (show b ∈ ([] : List Addr) from z) (by simp)
  refine ⟨⟨e0.mod, S.kind, rfl, rfl, Nat.le_refl _, fun y z c h1 h2 => ?_, fun y hy => ?_, fun y c _ h => ?_, fun _ => hd, Around.frames_deeper e0.frames, .inr ⟨rfl, rfl⟩, fun b z => absurd z (noA b), e0.bs, e0.bsz, fun b _ _ => noA b, fun b z => absurd z (noA b), e0.funs, e0.frf⟩,
    rfl, e0.bare, Un.kept hk, ⟨_, x.toInCall.ns, fun i y v h1 h2 h3 => ?_⟩, fun y c h => ⟨_, x.cell y c h⟩, e0.hok.fresh (Nat.le_refl _), fun y c h => ?_, fun p hp => absurd (show p ∈ ([] : List (Addr × Obj)) from hp) (by simp), e0.hok.kept hk, ?_⟩
  · exact name_of_addr x.apart (PySem.mem_of_lookup h1) (PySem.mem_of_lookup h2)
  · have hy : scope.names.lookup y = some .cell ∨ scope.names.lookup y = some .free := hy
    rcases hy with hy | hy
    · exact cell_has hy
    · exact absurd rfl (S.nofree _ (PySem.mem_of_lookup hy))
  · exact Nat.le_of_lt (x.above y c (PySem.mem_of_lookup h))
  · have hi : i < vs.length := by
      unfold start at h2
      by_cases hi : i < vs.length
      · exact hi
      · rw [List.getElem?_append_right (by simpa using hi)] at h2
        rw [List.getElem?_replicate] at h2
        split at h2 <;> cases h2
    have ha : vs[i]? = some v := by
      unfold start at h2
      rw [List.getElem?_append_left (by simpa using hi), List.getElem?_map] at h2
      cases e : vs[i]? with
      | none => rw [e] at h2; cases h2
      | some a => rw [e] at h2; cases h2; rfl
    obtain ⟨u, hu, rv⟩ := r.get ha
    have hp : ps[i]? = some y := by
      rw [← S.pre, List.getElem?_take_of_lt (by omega)]; exact h1
    have ndP : ps.Nodup := by rw [← S.pre]; exact S.nd.sublist (List.take_sublist _ _)
    refine ⟨u, rv, ?_⟩
    rcases S.par y (List.mem_of_getElem? hp) with k | k
    · exact .inl ⟨k, bindL_get ndP hp hu k⟩
    · obtain ⟨c, e⟩ := cell_has (n := s.heap.objs.size + 1) k
      refine .inr ⟨.inl k, c, e, ?_⟩
      have q := x.cell y c e
      rw [bindC_get ndP hp hu (by show scope.names.lookup y ≠ _; rw [k]; decide)] at q
      exact q
  · exact e0.hok.fresh (Nat.le_of_lt (x.above y c (PySem.mem_of_lookup h)))
  · unfold start
    show _ = N.length
    rw [List.length_append, List.length_map, List.length_replicate]
    omega
theorem fn_of {CX : CXT} {P : Program} {w : World} {K : PySem.W.Frag} {mg : Str → Option Value} {base : Heap} {k : Nat} {f : Addr} {name qual : Str} {params : Arguments} {body : List Stmt} {scope : Scope} {dV kV doc pm cdv ct oc : Value} {an od : Option Addr}
    {osl : Array (Option Value)} {N ps : List Str} {sp : Sp} (lk : K.lookup f = some ⟨oc, od, .func (PySem.W.fnOf name qual params body scope dV kV doc pm an cdv ct), osl⟩) (hcd : PySem.W.codeIn K cdv qual = true) (S : FnScope N ps scope)
    (len : ∀ vs H Q E, sp vs H Q E → vs.length = ps.length)
    (hbody : ∀ (A : Around) (outer : List Env) (s : Shared) (H : Hp) (vs : List V) (Q : VK) (E : XK), Room k (A.deeper (envOfC qual scope s.heap.objs.size f cdv)) → sp vs H Q E →
      ∃ t, PSs (cxOf CX P w K mg base N qual scope f cdv A outer s H E) body t ∧ t { nx := fun _ H' => Q .non H', rt := Q } (start N vs) H) :
    FnOk P w K mg base CX (k + 1) f (PySem.W.fnOf name qual params body scope dV kV doc pm an cdv ct) ps sp := by
  refine ⟨len, fun A outer s H args us vs Q E hr e0 hb r hsp => ?_⟩
  have hl := len _ _ _ _ hsp
  have KX : K.In s.heap := e0.mod.kin.keeps fun b o e => (e0.bs b o e).1
  have lim : s.heap.NoLimit := e0.mod.nolimit.keeps fun b o e => (e0.bs b o e).1
  have hkind : ∀ y ∈ ps.zip us, scope.names.lookup y.1 = some .local ∨ (scope.names.lookup y.1 = some .cell ∧ ((cellsFrom (s.heap.objs.size + 1) scope.names []).lookup y.1).isSome = true) := fun ⟨n, v⟩ hy => by
    rcases S.par n (List.of_mem_zip hy).1 with q | q
    · exact .inl q
    · exact .inr ⟨q, PySem.W.cellsFrom_some _ _ _ (.inl q)⟩
  refine codeAny_call_function hr.depth (KX _ _ lk) rfl S.co S.gen rfl (PySem.W.codeRec_of KX hcd) (hb _ _ _ _ ?_)
  refine wpAny_newFunctionEnv_cells S.kind hkind fun env he s1 x => ?_
  subst he
  refine ⟨lim.keeps x.toInCall.keep, codeAny_func ?_⟩
  obtain ⟨t, ht, hq⟩ := hbody A outer s H vs Q E (hr.deeper _) hsp
  have I : Inv (cxOf CX P w K mg base N qual scope f cdv A outer s H E) [] (start N vs) H s1 := inv_start S hr.hd e0 hl r x
  refine wpAny_mono (ht [] s1 (start N vs) H _ I hq) (fun fl s' hs => ?_) fun e s' hs => hs
  have fin : ∀ {σ' : St} {H' : Hp} {v : V} {u : Value}, Inv (cxOf CX P w K mg base N qual scope f cdv A outer s H E) [] σ' H' s' → RelV v u → Q v H' → CE outer P w H s Q u s' :=
    fun {σ' H' v u} J rv q => ⟨v, H', J.os, J.bare, J.base, J.hok, rv, q⟩
  cases fl with
  | ret u =>
    obtain ⟨v, σ', H', J, rv, q⟩ := hs
    exact fin J rv q
  | next =>
    obtain ⟨σ', H', J, q⟩ := hs
    exact fin (v := V.non) (u := Value.none) J rfl q
  | brk =>
    obtain ⟨_, _, _, q⟩ := hs
    exact False.elim q
  | cont =>
    obtain ⟨_, _, _, q⟩ := hs
    exact False.elim q
end L2
namespace L2
open PySem PySem.Spec PyProof.Rows
section
variable {X : Cx} {x : Str} {p pos : Pos} {e : Expr} {es : List Expr} {t : TA} {id T : String} {r : List V → Hp → VK → Prop}
def tCB (r : List V → Hp → VK → Prop) (t : TA) : TE := fun σ H Q => t σ H fun vs H1 => r vs H1 Q
theorem pe_callB (hc : CallR X (.builtin id) r) (hg : Gl X x) (hm : X.mg x = none) (hv : bootBuiltins x = some (.builtin id)) (ha : PA X (e :: es) t) (hn : x ≠ "__name__" := by decide) (hdb : (x == ("__debug__" : Str)) = false := by decide)
    (he : starEach (e :: es) X.env = (false, eval e X.env) :: starEach es X.env := by rfl) (hpl : (backTo pos (starEach es X.env)).any (·.1) = false := by rfl) : PE X (.Call (.Name x p) (e :: es) [] pos) (tCB r t) := by
  intro pins s σ H Q I h
  refine wpAny_Call_Name_kw (ld_blt I hg hm hv ?_ hn hdb)
  exact PyProof.Rows.callWith_builtin1 (thn (ha pos pins s σ H _ I h) fun us s1 ⟨vs, H1, I1, r1, q1⟩ => hc pins s1 σ H1 vs us Q I1 r1 q1) he hpl
theorem pe_callTy (hc : CallR X (.type T) r) (hg : Gl X x) (hm : X.mg x = none) (hv : bootBuiltins x = some (.type T)) (ha : PA X (e :: es) t) (hn : x ≠ "__name__" := by decide) (hdb : (x == ("__debug__" : Str)) = false := by decide)
    (he : starEach (e :: es) X.env = (false, eval e X.env) :: starEach es X.env := by rfl) (hpl : (backTo pos (starEach es X.env)).any (·.1) = false := by rfl) : PE X (.Call (.Name x p) (e :: es) [] pos) (tCB r t) := by
  intro pins s σ H Q I h
  refine wpAny_Call_Name_kw (ld_blt I hg hm hv ?_ hn hdb)
  exact PyProof.Rows.callWith_type1 (thn (ha pos pins s σ H _ I h) fun us s1 ⟨vs, H1, I1, r1, q1⟩ => hc pins s1 σ H1 vs us Q I1 r1 q1) he hpl
end
end L2
namespace HT
open PySem PyProof.Rows
section
open PySem.SeqAt
open PySem.AutoSeq1 (wpAny_loadPart')
open PySem.MeetsSeq PySem.MeetsSeq2 PySem.MeetsSeq3
end
section
variable {prog : Program} {w : World} {A : Around} {E : Value → Shared → Prop} {s : Shared}
theorem cat_tup {t b : Addr} {vs ws : List Value} {Q : Value → Shared → Prop} (ht : IsTup s.heap t vs.toArray) (hb : IsTup s.heap b ws.toArray) (hv : vs ≠ [])
    (h1 : ws = [] → Q (.ref t) s) (h2 : ws ≠ [] → Q (.ref s.heap.objs.size) { s with heap := s.heap.push { cls := .type "tuple", data := .seq (vs ++ ws).toArray } })
    (hsz : vs.length + ws.length ≤ sizeLine) : wpAny (model prog w) A (binaryOp .Add (.ref t) (.ref b)) Q E s := by
  obtain ⟨⟨cls, dd, data, sl⟩, ho, hc, n, hd⟩ := id ht
  obtain ⟨⟨cls2, dd2, data2, sl2⟩, ho2, hc2, n2, hd2⟩ := id hb
  simp only at hc hd hc2 hd2
  subst hc hd hc2 hd2
  have e : vs.toArray ++ ws.toArray = (vs ++ ws).toArray := by simp
  by_cases hw : ws = []
  · exact concat_meets ⟨_, ho, rfl⟩ ⟨_, ho2, rfl⟩ noFill_tuple_add seq_tuple_add PySem.F.slot_tuple_add PySem.F.entry_tuple_add (PySem.F.args_tuple_add_2 _ _)
      (tuple_addW1 t b vs.toArray ws.toArray n n2 dd dd2 sl sl2 (by simpa using hv) (by simp [hw])) ⟨ho, ho2, h1 hw⟩
  · refine concat_meets ⟨_, ho, rfl⟩ ⟨_, ho2, rfl⟩ noFill_tuple_add seq_tuple_add PySem.F.slot_tuple_add PySem.F.entry_tuple_add (PySem.F.args_tuple_add_2 _ _)
      (tuple_addW2 t b vs.toArray ws.toArray n n2 dd dd2 sl sl2 (by simpa using hv) (by simpa using hw) (by rw [List.size_toArray, List.size_toArray]; exact hsz)) ⟨ho, ho2, ?_⟩
    rw [e]
    exact h2 hw
def sIx (n d : Nat) : Option Int → Nat
  | none => d
  | some v => if v < 0 then (v + (n : Int)).toNat else min v.toNat n
theorem sIx_le (n d : Nat) (hd : d ≤ n) (o : Option Int) : sIx n d o ≤ n := by
  cases o with
  | none => exact hd
  | some v =>
    show (if v < 0 then (v + (n : Int)).toNat else min v.toNat n) ≤ n
    by_cases hv : v < 0
    · rw [if_pos hv]; omega
    · rw [if_neg hv]; exact Nat.min_le_right _ _
theorem clip_eq (v : Int) (n d : Nat) : (if v < 0 then max (v + (n : Int)) 0 else min v (n : Int)) = ((sIx n d (some v) : Nat) : Int) := by
  show (if v < 0 then max (v + (n : Int)) 0 else min v (n : Int)) = (((if v < 0 then (v + (n : Int)).toNat else min v.toNat n) : Nat) : Int)
  by_cases hv : v < 0
  · simp only [if_pos hv]; omega
  · simp only [if_neg hv]; omega
theorem adjust_gen (lo hi : Option Int) (n : Nat) : Builtin.Slice.sliceAdjust lo hi 1 (n : Int) = (((sIx n 0 lo : Nat) : Int), ((sIx n n hi : Nat) : Int)) := by
  have h1 : ¬ ((1 : Int) < 0) := by omega
  unfold Builtin.Slice.sliceAdjust
  simp only [h1, if_false]
  refine Prod.ext ?_ ?_
  · cases lo with
    | none => rfl
    | some v => exact clip_eq v n 0
  · cases hi with
    | none => rfl
    | some v => exact clip_eq v n n
theorem places_gen (i j : Nat) : Builtin.Slice.slicePlaces (i : Int) (j : Int) 1 = j - i := by
  unfold Builtin.Slice.slicePlaces
  have h1 : (1 : Int) > 0 := by omega
  simp only [h1, if_true, Int.ediv_one]
  split <;> omega
theorem slicePart_ {v : Value} {o : Option Int} {Q : Option Int → Shared → Prop} (p : IsPart v o) (h : Q o s) : wpAny (model prog w) A (Builtin.Slice.slicePartIndex v) Q E s := by
  cases p with
  | none => exact slicePart_none h
  | int i t => exact slicePart_int h
theorem sliceApplied_gen {sl : Addr} {vl vu : Value} {lo hi : Option Int} {n : Nat} {Q : Int × Int × Nat → Shared → Prop} (hs : s.heap.IsSliceOf sl vl vu .none) (pl : IsPart vl lo) (pu : IsPart vu hi)
    (h : Q (((sIx n 0 lo : Nat) : Int), 1, sIx n n hi - sIx n 0 lo) s) : wpAny (model prog w) A (Builtin.Slice.sliceApplied (.ref sl) (pure (n : Int))) Q E s := by
  obtain ⟨os, hos, hcs, hds⟩ := id hs
  unfold Builtin.Slice.sliceApplied Builtin.Slice.sliceFields
  refine wpAny_bind (wpAny_bind (wpAny_field hos hds (x := vl) rfl (wpAny_bind (wpAny_field hos hds (x := vu) rfl (wpAny_bind (wpAny_field hos hds (x := .none) rfl (wpAny_pure ?_)))))))
  refine wpAny_bind (slicePart_none ?_)
  show wpAny _ _ (if ((1 : Int) == 0) = true then _ else _) _ _ s
  rw [if_neg (by decide)]
  refine wpAny_bind (slicePart_ pl (wpAny_bind (slicePart_ pu (wpAny_bind (wpAny_pure ?_)))))
  show wpAny _ _ (match Builtin.Slice.sliceAdjust lo hi 1 (n : Int) with | (lo, hi) => pure (lo, (1 : Int), Builtin.Slice.slicePlaces lo hi 1)) _ _ s
  rw [adjust_gen lo hi n]
  show wpAny _ _ (pure (((sIx n 0 lo : Nat) : Int), (1 : Int), Builtin.Slice.slicePlaces ((sIx n 0 lo : Nat) : Int) ((sIx n n hi : Nat) : Int) 1)) _ _ s
  rw [places_gen]
  exact wpAny_pure h
theorem pick_gen (xs : Array Value) (i k : Nat) : ((List.range k).filterMap fun (m : Nat) => xs[((i : Int) + (m : Int) * 1).toNat]?).toArray = ((xs.toList.drop i).take k).toArray := by
  have e : (fun (m : Nat) => xs[((i : Int) + (m : Int) * 1).toNat]?) = fun m => xs[i + m]? := by
    funext m
    have : ((i : Int) + (m : Int) * 1).toNat = i + m := by omega
    rw [this]
  rw [e]
  have := pick_run xs i k
  rw [List.filterMap_map] at this
  have e2 : ((fun x => xs[x]?) ∘ fun x => i + x) = fun m => xs[i + m]? := rfl
  rw [e2] at this
  rw [this]
theorem getItem_tuple_cut {t sl : Addr} {items : Array Value} {vl vu : Value} {lo hi : Option Int} {Q : Value → Shared → Prop} (ht : IsTup s.heap t items) (hs : s.heap.IsSliceOf sl vl vu .none) (pl : IsPart vl lo) (pu : IsPart vu hi)
    (hw : ¬ (sIx items.size 0 lo = 0 ∧ sIx items.size items.size hi = items.size))
    (h : Q (.ref s.heap.objs.size) { s with heap := s.heap.push { cls := .type "tuple", data := .seq ((items.toList.drop (sIx items.size 0 lo)).take (sIx items.size items.size hi - sIx items.size 0 lo)).toArray } })
    (hsz : items.size ≤ sizeLine) : wpAny (model prog w) A (getItem (.ref t) (.ref sl)) Q E s := by
  have htake : sizeOk (.seq ((items.toList.drop (sIx items.size 0 lo)).take (sIx items.size items.size hi - sIx items.size 0 lo)).toArray) := by
    show ((items.toList.drop (sIx items.size 0 lo)).take (sIx items.size items.size hi - sIx items.size 0 lo)).toArray.size ≤ sizeLine
    rw [List.size_toArray, List.length_take, List.length_drop, Array.length_toList]
    omega
  have hj : sIx items.size items.size hi ≤ items.size := sIx_le _ _ (Nat.le_refl _) hi
  obtain ⟨os, hos, hcs, hds⟩ := id hs
  have hTs : s.TypeIs (.ref sl) "slice" := ⟨os, hos, hcs⟩
  unfold getItem
  try with_reducible refine wpAny_holding ?_
  first | refine wpAny_bind (wpAny_pure ?_) | skip
  refine wpAny_bind (wpAny_sequenceKey ht.typeIs (by decide) ?_)
  refine wpAny_bind (wpAny_callSpecial?_slot (name := Str.ofString "__getitem__") ht.typeIs PyProof.Rows.slot_tuple_getitem
    (wpAny_call_entry PyProof.Rows.slot_tuple_getitem ht.typeIs entry_tuple_getitem ?_ (args_tuple_getitem _ _)))
  show wpAny _ _ (Builtin.Tuple.tupleItemsOf (.ref t) >>= _) _ _ s
  refine wpAny_bind (tupleItemsOf_ ht ?_)
  refine wpAny_bind (wpAny_typeOf hTs ?_)
  rw [if_pos (by decide)]
  refine wpAny_bind (sliceApplied_gen hs pl pu ?_)
  have hno : ¬ ((((sIx items.size 0 lo : Nat) : Int) == 0 && (1 : Int) == 1 && (sIx items.size items.size hi - sIx items.size 0 lo) == items.size) = true) := by
    intro q
    rw [Bool.and_eq_true, Bool.and_eq_true] at q
    have q1 : ((sIx items.size 0 lo : Nat) : Int) = 0 := eq_of_beq q.1.1
    have q2 : sIx items.size items.size hi - sIx items.size 0 lo = items.size := eq_of_beq q.2
    exact hw ⟨by omega, by omega⟩
  show wpAny _ _ (if (((sIx items.size 0 lo : Nat) : Int) == 0 && (1 : Int) == 1 && (sIx items.size items.size hi - sIx items.size 0 lo) == items.size) = true then _ else _) _ _ s
  rw [if_neg hno, pick_gen]
  first
    | exact wpAny_bind (m := Builtin.Tuple.tupleExact _) (wpAny_newObj_type (wpAny_pure ⟨_, rfl, wpAny_pure h⟩) htake)
    | exact wpAny_bind (m := Builtin.Tuple.tupleExact _) (wpAny_newObj_type (wpAny_bind (wpAny_pure (wpAny_pure ⟨_, rfl, wpAny_pure h⟩))) htake)
    | exact wpAny_bind (wpAny_bind (m := Builtin.Tuple.tupleExact _) (wpAny_newObj_type (wpAny_pure (wpAny_pure ⟨_, rfl, wpAny_pure h⟩)) htake))
    | exact wpAny_bind (wpAny_bind (m := Builtin.Tuple.tupleExact _) (wpAny_newObj_type (wpAny_pure ⟨_, rfl, wpAny_pure h⟩) htake))
end
end HT
namespace L2
open PySem PySem.Spec PyProof.Rows
abbrev TO := St → Hp → (Option Int → Hp → Prop) → Prop
def PO (X : Cx) (e : Option Expr) (t : TO) : Prop :=
  ∀ (pins : List (Addr × Obj)) (s : Shared) (σ : St) (H : Hp) (Q : Option Int → Hp → Prop), Inv X pins σ H s → t σ H Q →
    wpAny (model X.prog X.w) X.A (evalPart e X.env) (fun u s' => ∃ o H', Inv X pins σ H' s' ∧ IsPart u o ∧ Q o H') X.xe s
def tNoPart : TO := fun _ H Q => Q none H
def tPart (t : TE) : TO := fun σ H Q => t σ H fun x H1 => ∃ i, x = .int i ∧ Q (some i) H1
section
variable {X : Cx} {e : Expr} {te : TE} {lo hi : Option Expr} {tl th : TO} {pos p2 : Pos}
theorem po_none : PO X none tNoPart := by
  intro pins s σ H Q I h
  rw [evalPart_none]
  exact wpAny_pure ⟨none, H, I, .none, h⟩
theorem po_some (h : PE X e te) : PO X (some e) (tPart te) := by
  intro pins s σ H Q I hw
  rw [evalPart_some]
  refine thn (h pins s σ H _ I hw) fun u s1 ⟨x, H1, I1, r1, q1⟩ => ?_
  obtain ⟨i, rfl, q⟩ := q1
  obtain ⟨t, rfl⟩ := r1
  exact ⟨some i, H1, I1, .int i t, q⟩
def SlR (X : Cx) (r : V → Option Int → Option Int → Hp → VK → Prop) : Prop :=
  ∀ (pins : List (Addr × Obj)) (s : Shared) (σ : St) (H : Hp) (x : V) (v vl vu : Value) (lo hi : Option Int) (sl : Addr) (Q : VK), Inv X pins σ H s → RelV x v → s.heap.IsSliceOf sl vl vu .none → IsPart vl lo → IsPart vu hi → r x lo hi H Q →
    ∃ T id, typeLookup (.type T) "__getitem__" = pure (some (.builtin id)) ∧ s.TypeIs v T ∧ wpAny (model X.prog X.w) X.A (getItem v (.ref sl)) (EP X pins σ Q) X.xe s
theorem SlR.or {r r' : V → Option Int → Option Int → Hp → VK → Prop} (h : SlR X r) (h' : SlR X r') : SlR X (fun x lo hi H Q => r x lo hi H Q ∨ r' x lo hi H Q) := by
  intro pins s σ H x v vl vu lo hi sl Q I rx hs pl pu q
  rcases q with q | q
  · exact h pins s σ H x v vl vu lo hi sl Q I rx hs pl pu q
  · exact h' pins s σ H x v vl vu lo hi sl Q I rx hs pl pu q
def tSl (r : V → Option Int → Option Int → Hp → VK → Prop) (te : TE) (tl th : TO) : TE := fun σ H Q => te σ H fun x H1 => tl σ H1 fun l H2 => th σ H2 fun u H3 => r x l u H3 Q
theorem pe_slice {r : V → Option Int → Option Int → Hp → VK → Prop} (hr : SlR X r) (he : PE X e te) (hl : PO X lo tl) (hu : PO X hi th) : PE X (.Subscript e (.Slice lo hi none p2) pos) (tSl r te tl th) := by
  intro pins s σ H Q I h
  refine Subscript_ (thn (he pins s σ H _ I h) fun v s1 ⟨x, H1, I1, r1, q1⟩ => ?_)
  refine wpAny_Slice (thn (hl pins s1 σ H1 _ I1 q1) fun vl s2 ⟨l, H2, I2, pl, q2⟩ => thn (hu pins s2 σ H2 _ I2 q2) fun vu s3 ⟨u, H3, I3, pu, q3⟩ => ?_)
  rw [evalPart_none]
  refine wpAny_pure ?_
  have I4 : Inv X pins σ H3 { s3 with heap := s3.heap.push { cls := .type "slice", data := .fields #[vl, vu, .none] } } := I3.kept (t' := s3.toks) fun b ob q => Heap.get?_push_of_some _ q
  obtain ⟨T, id, hT, ht, hg⟩ := hr pins { s3 with heap := s3.heap.push { cls := .type "slice", data := .fields #[vl, vu, .none] } } σ H3 x v vl vu l u s3.heap.objs.size Q I4 r1 (Heap.IsSliceOf.new ..) pl pu q3
  show wpAny (model X.prog X.w) X.A (subscriptTail e (.Slice lo hi none p2) v (.ref s3.heap.objs.size)) (EP X pins σ Q) X.xe { s3 with heap := s3.heap.push { cls := .type "slice", data := .fields #[vl, vu, .none] } }
  exact tail_any (ops := [.ref s3.heap.objs.size, v]) ht hT hg (by with_unfolding_all rfl)
def cutV (xs : List V) (lo hi : Option Int) : List V := (xs.drop (HT.sIx xs.length 0 lo)).take (HT.sIx xs.length xs.length hi - HT.sIx xs.length 0 lo)
theorem cutV_length (xs : List V) (lo hi : Option Int) : (cutV xs lo hi).length ≤ xs.length := by
  unfold cutV
  rw [List.length_take, List.length_drop]
  omega
def rSlT (K : PySem.W.Frag) : V → Option Int → Option Int → Hp → VK → Prop := fun x lo hi H Q => ∃ a xs, x = .ref a ∧ SqT K H a xs ∧
  ¬ (HT.sIx xs.length 0 lo = 0 ∧ HT.sIx xs.length xs.length hi = xs.length) ∧ ∀ p, H p = none → Q (.ref p) (upd H p (.tup (cutV xs lo hi)))
theorem sl_tup : SlR X (rSlT X.K) := by
  intro pins s σ H x v vl vu lo hi sl Q I rx hs pl pu h
  obtain ⟨a, xs, rfl, hx, hw, q⟩ := h
  cases rx
  obtain ⟨its, r, ht, hz⟩ := I.tuple hx
  have hlen : its.toArray.size = xs.length := by rw [List.size_toArray]; exact r.length.symm
  refine ⟨"tuple", _, PyProof.Rows.slot_tuple_getitem.lookup, ht.typeIs, ?_⟩
  refine HT.getItem_tuple_cut ht hs pl pu (by rw [hlen]; exact hw) ?_ (by rw [hlen]; exact hz)
  rw [hlen]
  refine ⟨.ref s.heap.objs.size, _, I.laid (t' := s.toks) (o := .tup (cutV xs lo hi)) (fun b ob q => Heap.get?_push_of_some _ q) (Nat.le_refl _) ?_, rfl, q _ (I.hok.fresh (Nat.le_refl _))⟩
  exact ⟨Nat.le_trans (cutV_length xs lo hi) hz, _, (r.drop (HT.sIx xs.length 0 lo)).take (HT.sIx xs.length xs.length hi - HT.sIx xs.length 0 lo), IsTup.new _ _⟩
def rCatT (K : PySem.W.Frag) : R2 := fun x y H Q => ∃ a b xs ys, x = .ref a ∧ y = .ref b ∧ SqT K H a xs ∧ SqT K H b ys ∧ xs ≠ [] ∧ xs.length + ys.length ≤ sizeLine ∧
  (ys = [] → Q (.ref a) H) ∧ (ys ≠ [] → ∀ p, H p = none → Q (.ref p) (upd H p (.tup (xs ++ ys))))
theorem Vals.nil_iff {xs : List V} {us : List Value} (r : Vals xs us) : us = [] ↔ xs = [] := by
  cases r with
  | nil => simp
  | cons _ _ => simp
theorem op_catT : OpR X (binaryOp .Add) (rCatT X.K) := by
  intro pins s σ H x y v u Q I rx ry h
  obtain ⟨a, b, xs, ys, rfl, rfl, ha, hb, hx, hz, q1, q2⟩ := h
  cases rx
  cases ry
  obtain ⟨its, r1, p1, _⟩ := I.tuple ha
  obtain ⟨its2, r2, p2, _⟩ := I.tuple hb
  refine HT.cat_tup p1 p2 (fun z => hx (r1.nil_iff.mp z)) (fun z => ⟨.ref a, H, I, rfl, q1 (r2.nil_iff.mp z)⟩) (fun z => ?_) (by rw [← r1.length, ← r2.length]; exact hz)
  refine ⟨.ref s.heap.objs.size, _, I.laid (t' := s.toks) (o := .tup (xs ++ ys)) (fun b ob q => Heap.get?_push_of_some _ q) (Nat.le_refl _) ?_, rfl, q2 (fun w => z (r2.nil_iff.mpr w)) _ (I.hok.fresh (Nat.le_refl _))⟩
  exact ⟨by rw [List.length_append]; exact hz, _, r1.append r2, IsTup.new _ _⟩
end
end L2
namespace L2
open PySem PySem.Spec PyProof.Rows
def ixN (n : Nat) (i : Int) : Option Nat := if 0 ≤ i then (if i < n then some i.toNat else none) else if -(n : Int) ≤ i then some (i + n).toNat else none
def atI {α : Type} (xs : List α) (i : Int) : Option α := (ixN xs.length i).bind fun j => xs[j]?
theorem ixN_seq {n : Nat} {i : Int} {j : Nat} (h : ixN n i = some j) : seqIndex? i n = some j ∧ j < n ∧ -(n : Int) ≤ i ∧ i < n := by
  unfold ixN at h
  by_cases h0 : 0 ≤ i
  · rw [if_pos h0] at h
    by_cases h1 : i < n
    · rw [if_pos h1] at h
      have e : i.toNat = j := Option.some.inj h
      exact ⟨by rw [seqIndex_of h0 h1, e], by omega, by omega, h1⟩
    · rw [if_neg h1] at h; cases h
  · rw [if_neg h0] at h
    by_cases h1 : -(n : Int) ≤ i
    · rw [if_pos h1] at h
      have e : (i + n).toNat = j := Option.some.inj h
      exact ⟨by rw [seqIndex_neg (by omega) h1, e], by omega, h1, by omega⟩
    · rw [if_neg h1] at h; cases h
theorem atI_get {α : Type} {xs : List α} {i : Int} {v : α} (h : atI xs i = some v) : ∃ j, seqIndex? i xs.length = some j ∧ xs[j]? = some v ∧ j < xs.length ∧ -(xs.length : Int) ≤ i ∧ i < xs.length := by
  unfold atI at h
  cases e : ixN xs.length i with
  | none => rw [e] at h; cases h
  | some j =>
    rw [e] at h
    obtain ⟨h1, h2, h3, h4⟩ := ixN_seq e
    exact ⟨j, h1, h, h2, h3, h4⟩
def PlainIx (b : Expr) : Prop := ∀ o i, subscripted b false o i = operate [o, i] (getItem o i)
def IxR (X : Cx) (r : R2) : Prop :=
  ∀ (value slice : Expr) (pins : List (Addr × Obj)) (s : Shared) (σ : St) (H : Hp) (x y : V) (v u : Value) (Q : VK), Inv X pins σ H s → RelV x v → RelV y u → r x y H Q →
    subscripted slice false v u = operate [v, u] (getItem v u) → wpAny (model X.prog X.w) X.A (subscriptTail value slice v u) (EP X pins σ Q) X.xe s
def MtR (X : Cx) (id : String) (r : V → List V → Hp → VK → Prop) : Prop :=
  ∀ (pins : List (Addr × Obj)) (s : Shared) (σ : St) (H : Hp) (x : V) (xs : List V) (v : Value) (us : List Value) (Q : VK), Inv X pins σ H s → RelV x v → Vals xs us → r x xs H Q →
    wpAny (model X.prog X.w) X.A (call (.builtin id) (v :: us)) (EP X pins σ Q) X.xe s
section
variable {X : Cx} {a b : Expr} {ta tb : TE} {pos : Pos}
theorem IxR.or {r r' : R2} (h : IxR X r) (h' : IxR X r') : IxR X (fun x y H Q => r x y H Q ∨ r' x y H Q) := by
  intro value slice pins s σ H x y v u Q I rx ry q hs
  rcases q with q | q
  · exact h value slice pins s σ H x y v u Q I rx ry q hs
  · exact h' value slice pins s σ H x y v u Q I rx ry q hs
theorem MtR.or {id : String} {r r' : V → List V → Hp → VK → Prop} (h : MtR X id r) (h' : MtR X id r') : MtR X id (fun x xs H Q => r x xs H Q ∨ r' x xs H Q) := by
  intro pins s σ H x xs v us Q I rx rs q
  rcases q with q | q
  · exact h pins s σ H x xs v us Q I rx rs q
  · exact h' pins s σ H x xs v us Q I rx rs q
theorem pe_ix {r : R2} (hr : IxR X r) (ha : PE X a ta) (hb : PE X b tb) (hs : PlainIx b) : PE X (.Subscript a b pos) (tOp r ta tb) := by
  intro pins s σ H Q I h
  exact Subscript_ (binT ha hb I h fun v u s2 x y H2 I2 rx ry q => hr a b pins s2 σ H2 x y v u Q I2 rx ry q (hs _ _))
def rIxL (K : PySem.W.Frag) : R2 := fun x y H Q => ∃ p xs i v, x = .ref p ∧ y = .int i ∧ SqL K H p xs ∧ atI xs i = some v ∧ Q v H
def rIxT (K : PySem.W.Frag) : R2 := fun x y H Q => ∃ p xs i v, x = .ref p ∧ y = .int i ∧ SqT K H p xs ∧ atI xs i = some v ∧ Q v H
theorem ix_list : IxR X (rIxL X.K) := by
  intro value slice pins s σ H x y v u Q I rx ry h hs
  obtain ⟨p, xs, i, z, rfl, rfl, hq, he, q⟩ := h
  cases rx
  obtain ⟨t, rfl⟩ := ry
  obtain ⟨its, r, pl, hz⟩ := I.list hq
  obtain ⟨j, h1, h2, h3, h4, h5⟩ := atI_get he
  obtain ⟨w, ew, rw'⟩ := r.get h2
  have hl := r.length
  have hn := line63
  have fin : EP X pins σ Q w s := ⟨z, H, I, rw', q⟩
  by_cases h0 : 0 ≤ i
  · have hj : i.toNat = j := by
      rw [seqIndex_of h0 h5] at h1
      exact Option.some.inj h1
    exact item_listR pl.isList h0 (by omega) (by rw [hj]; simpa using ew) fin hs
  · have hj : (i + (its.toArray.size : Int)).toNat = j := by
      rw [seqIndex_neg (by omega) h4] at h1
      rw [List.size_toArray, ← hl]
      exact Option.some.inj h1
    exact subscriptTail_builtinR (x := w) pl.isList.typeIs slot_list_getitem.lookup
      (wpAny_getItem_list_neg (Q := fun r s' => r = w ∧ EP X pins σ Q r s') pl.isList (by omega) (by rw [List.size_toArray] <;> omega) (by omega) (by rw [hj]; simpa using ew) ⟨rfl, fin⟩) hs
theorem ix_tup : IxR X (rIxT X.K) := by
  intro value slice pins s σ H x y v u Q I rx ry h hs
  obtain ⟨p, xs, i, z, rfl, rfl, hq, he, q⟩ := h
  cases rx
  obtain ⟨t, rfl⟩ := ry
  obtain ⟨its, r, pl, hz⟩ := I.tuple hq
  obtain ⟨j, h1, h2, h3, h4, h5⟩ := atI_get he
  obtain ⟨w, ew, rw'⟩ := r.get h2
  have hl := r.length
  have hn := line63
  have fin : EP X pins σ Q w s := ⟨z, H, I, rw', q⟩
  exact subscriptTail_builtinR (x := w) pl.typeIs slot_tuple_getitem.lookup
    (getItem_tuple (j := j) (Q := fun r s' => r = w ∧ EP X pins σ Q r s') pl (by omega) (by omega) (by rw [List.size_toArray, ← hl]; exact h1) (by simpa using ew) ⟨rfl, fin⟩) hs
theorem mapSeq_set (its : List Value) (n j : Nat) (u : Value) : Obj.mapSeq (·.setIfInBounds j u) { cls := .type "list", data := .seq its.toArray n } = { cls := .type "list", data := .seq (its.set j u).toArray n } := by
  simp [Obj.mapSeq]
theorem Inv.lst {pins : List (Addr × Obj)} {σ : St} {H : Hp} {s : Shared} {p : Addr} {xs : List V} (I : Inv X pins σ H s) (h : H p = some (.lst xs)) :
    ∃ (its : List Value) (n : Nat), Vals xs its ∧ s.heap.get? p = some { cls := .type "list", data := .seq its.toArray n } ∧ xs.length ≤ sizeLine := by
  obtain ⟨z, its, n, r, e⟩ := I.hok p _ h
  exact ⟨its, n, r, e, z⟩
theorem Inv.lstUpd {pins : List (Addr × Obj)} {σ : St} {H : Hp} {s : Shared} {p : Addr} {xs ys : List V} {its its' : List Value} {n n' : Nat} {f : Obj → Obj} (I : Inv X pins σ H s) (h : H p = some (.lst xs))
    (ho : s.heap.get? p = some { cls := .type "list", data := .seq its.toArray n }) (hf : f { cls := .type "list", data := .seq its.toArray n } = { cls := .type "list", data := .seq its'.toArray n' }) (r : Vals ys its') (hz : ys.length ≤ sizeLine) (t : Nat) :
    Inv X pins σ (upd H p (.lst ys)) { s with heap := s.heap.update p f, toks := t } := by
  have e : (s.heap.update p f).get? p = some { cls := .type "list", data := .seq its'.toArray n' } := by
    rw [Heap.get?_update_self f ho (by rw [hf] <;> rfl), hf]
  refine I.write (x := p) (e := p) (by rw [h]; trivial) (.inl rfl) (fun b u hb q => (Heap.get?_update_other _ _ (Ne.symm hb)).trans q) ⟨_, e⟩ ?_
  exact ⟨hz, its', n', r, e⟩
def rSetL : V → V → V → Hp → (Hp → Prop) → Prop := fun o i v H Q => ∃ p xs k j, o = .ref p ∧ i = .int k ∧ H p = some (.lst xs) ∧ ixN xs.length k = some j ∧ Q (upd H p (.lst (xs.set j v)))
theorem set_list : PSet X rSetL := by
  intro pins s σ H o i v ov iv u Q I ro ri rv h
  obtain ⟨p, xs, k, j, rfl, rfl, hp, hj, q⟩ := h
  cases ro
  obtain ⟨t, rfl⟩ := ri
  obtain ⟨its, n, r, ho, hz⟩ := I.lst hp
  obtain ⟨h1, h2, h3, h4⟩ := ixN_seq hj
  have hl := r.length
  have hn := line63
  have I' : Inv X pins σ (upd H p (.lst (xs.set j v))) { s with heap := s.heap.update p (Obj.mapSeq (·.setIfInBounds j u)) } :=
    I.lstUpd hp ho (mapSeq_set its n j u) (r.set rv j) (by rw [List.length_set]; exact hz) s.toks
  by_cases h0 : 0 ≤ k
  · have hk : k.toNat = j := by
      rw [seqIndex_of h0 h4] at h1
      exact Option.some.inj h1
    exact PySem.W.ki_setAt ho h0 (by omega) (by rw [List.size_toArray, ← hl]; exact h4) (by rw [hk]; exact ⟨_, I', q⟩)
  · have hk : (k + (its.toArray.size : Int)).toNat = j := by
      rw [seqIndex_neg (by omega) h3] at h1
      rw [List.size_toArray, ← hl]
      exact Option.some.inj h1
    exact PySem.W.ki_setBack ho (by omega) (by rw [List.size_toArray, ← hl]; exact h3) (by omega) (by rw [hk]; exact ⟨_, I', q⟩)
theorem slice_bounds (lo hi : Option Int) (n : Nat) : (sliceBounds lo hi none n).1 = ((HT.sIx n 0 lo : Nat) : Int) ∧ (sliceBounds lo hi none n).2.1 = ((HT.sIx n n hi : Nat) : Int) ∧ (sliceBounds lo hi none n).2.2 = 1 := by
  refine ⟨?_, ?_, rfl⟩
  · cases lo with
    | none => simp [sliceBounds, HT.sIx]
    | some i =>
      simp only [sliceBounds, HT.sIx, Option.getD_none, show (1 : Int) > 0 by decide, if_true]
      by_cases h : i < 0
      · simp only [h, if_true] <;> omega
      · simp only [h, if_false] <;> omega
  · cases hi with
    | none => simp [sliceBounds, HT.sIx]
    | some i =>
      simp only [sliceBounds, HT.sIx, Option.getD_none, show (1 : Int) > 0 by decide, if_true]
      by_cases h : i < 0
      · simp only [h, if_true] <;> omega
      · simp only [h, if_false] <;> omega
theorem slicePick_cut (its : List Value) (lo hi : Option Int) : slicePick its.toArray lo hi none = ((its.drop (HT.sIx its.length 0 lo)).take (HT.sIx its.length its.length hi - HT.sIx its.length 0 lo)).toArray := by
  obtain ⟨h1, h2, h3⟩ := slice_bounds lo hi its.toArray.size
  unfold slicePick
  rw [h1, h2, h3]
  simp only [sliceRange_one, pick_run, List.size_toArray] <;> rfl
def rSlL (K : PySem.W.Frag) : V → Option Int → Option Int → Hp → VK → Prop := fun x lo hi H Q => ∃ a xs, x = .ref a ∧ SqL K H a xs ∧ ∀ p, H p = none → Q (.ref p) (upd H p (.lst (cutV xs lo hi)))
theorem sl_list : SlR X (rSlL X.K) := by
  intro pins s σ H x v vl vu lo hi sl Q I rx hs pl pu h
  obtain ⟨a, xs, rfl, hx, q⟩ := h
  cases rx
  obtain ⟨its, r, ht, hz⟩ := I.list hx
  have hlen := r.length
  refine ⟨"list", _, slot_list_getitem.lookup, ht.isList.typeIs, ?_⟩
  refine wpAny_getItem_list_slice ht.isList hs pl pu .none (by simp) ?_ (by rw [List.size_toArray] <;> omega)
  rw [slicePick_cut, ← hlen]
  refine ⟨.ref s.heap.objs.size, _, I.laid (t' := s.toks) (o := .lst (cutV xs lo hi)) (fun b ob q => Heap.get?_push_of_some _ q) (Nat.le_refl _) ?_, rfl, q _ (I.hok.fresh (Nat.le_refl _))⟩
  exact ⟨Nat.le_trans (cutV_length xs lo hi) hz, _, 0, (r.drop (HT.sIx xs.length 0 lo)).take (HT.sIx xs.length xs.length hi - HT.sIx xs.length 0 lo), Heap.get?_push_size _ rfl⟩
def flatV : V → Bool
  | .non => true
  | .bl _ => true
  | .int _ => true
  | .str _ => true
  | _ => false
theorem CallR.or {f : Value} {r r' : List V → Hp → VK → Prop} (h : CallR X f r) (h' : CallR X f r') : CallR X f (fun xs H Q => r xs H Q ∨ r' xs H Q) := by
  intro pins s σ H xs us Q I rs q
  rcases q with q | q
  · exact h pins s σ H xs us Q I rs q
  · exact h' pins s σ H xs us Q I rs q
theorem call_tuple_of : CallR X (.type "tuple") (fun xs H Q => ∃ p ys, xs = [.ref p] ∧ ((SqL X.K H p ys ∧ ∀ l, H l = none → Q (.ref l) (upd H l (.tup ys))) ∨ (SqT X.K H p ys ∧ Q (.ref p) H))) := by
  intro pins s σ H xs us Q I r h
  obtain ⟨p, ys, rfl, h⟩ := h
  obtain ⟨u, rfl, rx⟩ := vals1 r
  cases rx
  rcases h with ⟨hq, q⟩ | ⟨hq, q⟩
  · obtain ⟨its, r', pl, hz⟩ := I.list hq
    have hlen := r'.length
    refine call_tuple_list pl.isList (fun h' kp => ?_) (by simp only [List.size_toArray] <;> omega)
    have I1 : Inv X pins σ H { s with heap := h' } := I.kept (t' := s.toks) kp
    have I2 : Inv X pins σ (upd H h'.objs.size (.tup ys)) { s with heap := h'.push { cls := .type "tuple", data := .seq its.toArray } } :=
      I1.laid (t' := s.toks) (fun b o e => Heap.get?_push_of_some _ e) (Nat.le_refl _) (show ObjOk X.prog X.w _ _ _ (.tup ys) from ⟨hz, its, r', IsTup.new _ _⟩)
    exact ⟨.ref h'.objs.size, _, I2, rfl, q _ (I1.hok.fresh (Nat.le_refl _))⟩
  · obtain ⟨its, r', pl, hz⟩ := I.tuple hq
    exact call_tuple_same pl ⟨.ref p, H, I, rfl, q⟩
def tyV (K : PySem.W.Frag) (T : String) (x : V) (H : Hp) : Prop := match x with
  | .str _ => T = "str"
  | .int _ => T = "int"
  | .ref p => (T = "list" ∧ ∃ xs, SqL K H p xs) ∨ (T = "tuple" ∧ ∃ o, K.lookup p = some o ∧ o.cls = .type "tuple" ∧ o.dict = none) ∨
      (T = "dict" ∧ ((∃ kvs, H p = some (.dK kvs)) ∨ ∃ kvs, H p = some (.dT kvs))) ∨ (T = "set" ∧ ∃ S n, H p = some (.set S n))
  | _ => False
theorem tyV_is {pins : List (Addr × Obj)} {σ : St} {H : Hp} {s : Shared} {T : String} {x : V} {v : Value} (I : Inv X pins σ H s) (r : RelV x v) (ty : tyV X.K T x H) :
    s.TypeIs v T ∧ ∀ a, v = .ref a → ∃ ob, s.heap.get? a = some ob ∧ ob.dict = none := by
  cases x with
  | str z =>
    obtain ⟨t, rfl⟩ := r
    cases (show T = "str" from ty)
    exact ⟨typeIs_str s z t, fun _ e => nomatch e⟩
  | int i =>
    obtain ⟨t, rfl⟩ := r
    cases (show T = "int" from ty)
    exact ⟨typeIs_int s i t, fun _ e => nomatch e⟩
  | ref p =>
    cases r
    rcases ty with ⟨rfl, xs, hq⟩ | ⟨rfl, o, hk, hc, hd⟩ | ⟨rfl, hk⟩ | ⟨rfl, S, n, hk⟩
    · obtain ⟨its, _, pl, _⟩ := I.list hq
      refine ⟨pl.isList.typeIs, fun a e => ?_⟩
      cases e
      obtain ⟨o, n, e, c, hd, _⟩ := pl
      exact ⟨o, e, hd⟩
    · refine ⟨⟨o, I.kIn p o hk, hc⟩, fun a e => ?_⟩
      cases e
      exact ⟨o, I.kIn _ o hk, hd⟩
    · have z : ∃ o, s.heap.get? p = some o ∧ o.ExactDict := by
        rcases hk with ⟨kvs, hk⟩ | ⟨kvs, hk⟩
        · obtain ⟨_, _, _, _, o, _, _, e, ex, _⟩ := I.hok p _ hk
          exact ⟨o, e, ex⟩
        · obtain ⟨_, _, _, _, o, _, _, e, ex, _⟩ := I.hok p _ hk
          exact ⟨o, e, ex⟩
      obtain ⟨o, e, ex⟩ := z
      refine ⟨⟨o, e, ex.1⟩, fun a e2 => ?_⟩
      cases e2
      exact ⟨o, e, ex.2.1⟩
    · obtain ⟨o, _, _, _, e, ex, _⟩ := I.hok p _ hk
      refine ⟨⟨o, e, ex.1⟩, fun a e2 => ?_⟩
      cases e2
      exact ⟨o, e, ex.2.1⟩
  | _ => exact False.elim ty
def tBM (K : PySem.W.Frag) (T : String) (r : V → List V → Hp → VK → Prop) (to : TE) (t : TA) : TE := fun σ H Q => to σ H fun x H1 => tyV K T x H1 ∧ t σ H1 fun xs H2 => r x xs H2 Q
variable {o e : Expr} {es : List Expr} {to : TE} {t : TA} {name : Str} {apos cpos : Pos} {T id : String} {r : V → List V → Hp → VK → Prop}
theorem pe_bm (pa : PlainAttrs T) (slot : Slot T name id) (hty : typeOf (.builtin id) = pure (.type "method_descriptor")) (hm : MtR X id r) (ho : PE X o to) (ha : PA X (e :: es) t)
    (hbase : attributeBase o name X.env (eval o X.env) = eval o X.env := by rfl)
    (hfew : ((backTo cpos (starEach (e :: es) X.env)).all (fun x => !x.1) && (backToKw cpos (keywordEach [] X.env)).all (fun x => x.1.isSome)
      && decide ((e :: es).length + ([] : List Keyword).length + (if ([] : List Keyword).isEmpty then 0 else 1) < 30)) = true := by rfl)
    (hline : (apos.endLine == cpos.line) = true := by rfl) (hs : starEach (e :: es) X.env = (false, eval e X.env) :: starEach es X.env := by rfl) (hplain : (backTo cpos (starEach es X.env)).any (·.1) = false := by rfl) :
    PE X (.Call (.Attribute o name apos) (e :: es) [] cpos) (tBM X.K T r to t) := by
  intro pins s σ H Q I h
  refine wpAny_Call_method_late hbase hfew hline rfl (thn (ho pins s σ H _ I h) fun v s1 ⟨x, H1, I1, r1, ty, q1⟩ => ?_)
  obtain ⟨h1, h2⟩ := tyV_is I1 r1 ty
  refine ⟨T, id, pa, slot, hty, h1, h2, ?_⟩
  have hA := ha cpos pins s1 σ H1 _ I1 q1
  rw [hs] at hA ⊢
  refine Calls.callWith_builtin (by show (false || (backTo cpos (starEach es X.env)).any (·.1)) = false; rw [hplain] <;> rfl) (Calls.evalArgs_plain ?_)
  exact thn hA fun us s2 ⟨vs, H2, I2, r2, q2⟩ => hm pins s2 σ H2 x vs v us Q I2 r1 r2 q2
end
end L2
namespace L2
open PySem PySem.Spec PyProof.Rows
def MtM (X : Cx) (id : String) (r : V → List V → Hp → VK → Prop) : Prop :=
  ∀ (pins : List (Addr × Obj)) (s : Shared) (σ : St) (H : Hp) (x : V) (xs : List V) (v : Value) (us : List Value) (Q : VK), Inv X pins σ H s → RelV x v → Vals xs us → r x xs H Q →
    wpAny (model X.prog X.w) X.A (call (.builtin id) (v :: us)) (EP X pins σ Q) X.xe s
theorem Vals.one : ∀ {x : V} {us : List Value}, Vals [x] us → ∃ u, us = [u] ∧ RelV x u
  | _, _, .cons r .nil => ⟨_, rfl, r⟩
theorem Vals.zero : ∀ {us : List Value}, Vals [] us → us = []
  | _, .nil => rfl
theorem Vals.reverse {xs : List V} {us : List Value} (h : Vals xs us) : Vals xs.reverse us.reverse := by
  induction h with
  | nil => exact .nil
  | cons r t ih => rw [List.reverse_cons, List.reverse_cons]; exact Vals.append ih (.cons r .nil)
theorem Vals.rep {xs : List V} {us : List Value} (h : Vals xs us) : ∀ k : Nat, Vals (List.replicate k xs).flatten (List.replicate k us).flatten
  | 0 => .nil
  | k + 1 => by
    rw [List.replicate_succ, List.replicate_succ, List.flatten_cons, List.flatten_cons]
    exact Vals.append h (Vals.rep h k)
theorem foldl_rep (its : List Value) : ∀ (k : Nat) (acc : List Value),
    List.foldl (fun x1 x2 => x1 ++ x2) acc.toArray (List.replicate k its.toArray) = (acc ++ (List.replicate k its).flatten).toArray
  | 0, acc => by simp
  | k + 1, acc => by
    have e : acc.toArray ++ its.toArray = (acc ++ its).toArray := by simp
    have e2 : (acc ++ its) ++ (List.replicate k its).flatten = acc ++ (List.replicate (k + 1) its).flatten := by
      rw [List.replicate_succ, List.flatten_cons, List.append_assoc]
    rw [← e2, ← foldl_rep its k (acc ++ its), ← e, List.replicate_succ, List.foldl_cons]
section
variable {X : Cx} {pins : List (Addr × Obj)} {σ : St} {H : Hp} {s : Shared} {l b : Addr} {xs ys zs : List V}
theorem Inv.lset {its its' : List Value} {n : Nat} {f : Array Value → Array Value} {t' : Nat} (I : Inv X pins σ H s) (hH : H l = some (.lst xs))
    (e : s.heap.get? l = some { cls := .type "list", data := .seq its.toArray n }) (hf : f its.toArray = its'.toArray) (hv : Vals ys its') (hz : ys.length ≤ sizeLine) :
    Inv X pins σ (upd H l (.lst ys)) { s with heap := s.heap.update l (Obj.mapSeq f), toks := t' } := by
  have q := PySem.IsL.update e f
  rw [hf] at q
  refine I.write (x := l) (e := l) (by rw [hH]; exact trivial) (.inl rfl) (fun b' u hb hu => (Heap.get?_update_other s.heap (Obj.mapSeq f) (Ne.symm hb)).trans hu) ⟨_, q⟩ ?_
  exact ⟨hz, its', _, hv, q⟩
theorem Inv.lnew {its : List Value} {t' : Nat} (I : Inv X pins σ H s) (hv : Vals ys its) (hz : ys.length ≤ sizeLine) :
    Inv X pins σ (upd H s.heap.objs.size (.lst ys)) { s with heap := s.heap.push { cls := .type "list", data := .seq its.toArray }, toks := t' } :=
  I.laid (fun _ _ q => Heap.get?_push_of_some _ q) (Nat.le_refl _) ⟨hz, its, 0, hv, Heap.get?_push_size _ rfl⟩
theorem Inv.fresh (I : Inv X pins σ H s) : H s.heap.objs.size = none := I.hok.fresh (Nat.le_refl _)
theorem Inv.lstM (I : Inv X pins σ H s) (hH : H l = some (.lst xs)) : xs.length ≤ sizeLine ∧ ∃ (its : List Value) (n : Nat), Vals xs its ∧ xs.length = its.length ∧ s.heap.get? l = some { cls := .type "list", data := .seq its.toArray n } := by
  obtain ⟨z, its, n, r, e⟩ := I.hok l _ hH
  exact ⟨z, its, n, r, r.length, e⟩
theorem notLongL {n : Nat} (h : n ≤ sizeLine) : Builtin.List.listTooLong n = false := by
  unfold Builtin.List.listTooLong
  exact decide_eq_false (by omega)
end
section
variable {X : Cx}
def rAppend : V → List V → Hp → VK → Prop := fun x vs H Q => ∃ l xs y, x = .ref l ∧ vs = [y] ∧ H l = some (.lst xs) ∧ xs.length < sizeLine ∧ Q .non (upd H l (.lst (xs ++ [y])))
theorem mt_append : MtM X "list.append" rAppend := by
  intro pins s σ H x vs v us Q I rx rv h
  obtain ⟨l, xs, y, rfl, rfl, hH, hz, q⟩ := h
  cases rx
  obtain ⟨u, rfl, ru⟩ := rv.one
  obtain ⟨z, its, n, r, hl, e⟩ := I.lstM hH
  refine call_meets F.slot_list_append ⟨_, e, rfl⟩ F.entry_list_append (F.args_list_append_2 _ _) (PySem.list_append l its.toArray n u (by rw [List.size_toArray]; omega)) ⟨e, ?_⟩
  refine ⟨.non, _, I.lset (its' := its ++ [u]) hH e (by simp) (r.append (.cons ru .nil)) ?_, rfl, q⟩
  rw [List.length_append, List.length_singleton]
  omega
def rCat : R2 := fun x y H Q => ∃ l b xs zs, x = .ref l ∧ y = .ref b ∧ H l = some (.lst xs) ∧ H b = some (.lst zs) ∧ xs.length + zs.length ≤ sizeLine ∧ ∀ p, H p = none → Q (.ref p) (upd H p (.lst (xs ++ zs)))
theorem op_cat : OpR X (binaryOp .Add) rCat := by
  intro pins s σ H x y v u Q I rx ry h
  obtain ⟨l, b, xs, zs, rfl, rfl, hH, hB, hz, q⟩ := h
  cases rx
  cases ry
  obtain ⟨z, its, n, r, hl, e⟩ := I.lstM hH
  obtain ⟨z2, its2, n2, r2, hl2, e2⟩ := I.lstM hB
  refine PySem.P.add_list e e2 ?_ (by rw [List.size_toArray, List.size_toArray]; omega)
  have ea : its.toArray ++ its2.toArray = (its ++ its2).toArray := by simp
  rw [ea]
  exact ⟨.ref _, _, I.lnew (t' := s.toks) (r.append r2) (by rw [List.length_append]; omega), rfl, q _ I.fresh⟩
def rRep : R2 := fun x y H Q => ∃ l k xs, x = .ref l ∧ y = .int k ∧ H l = some (.lst xs) ∧ -(2 ^ 63) ≤ k ∧ k < 2 ^ 63 ∧ xs.length * k.toNat ≤ sizeLine ∧
  ∀ p, H p = none → Q (.ref p) (upd H p (.lst (List.replicate k.toNat xs).flatten))
theorem len_rep {α : Type} (xs : List α) (k : Nat) : (List.replicate k xs).flatten.length = k * xs.length := by
  induction k with
  | zero => simp
  | succ k ih => rw [List.replicate_succ, List.flatten_cons, List.length_append, ih, Nat.succ_mul, Nat.add_comm]
theorem op_rep : OpR X (binaryOp .Mult) rRep := by
  intro pins s σ H x y v u Q I rx ry h
  obtain ⟨l, k, xs, rfl, rfl, hH, h1, h2, hz, q⟩ := h
  cases rx
  obtain ⟨t, rfl⟩ := ry
  obtain ⟨z, its, n, r, hl, e⟩ := I.lstM hH
  have hlen : its.toArray.size * k.toNat ≤ sizeLine := by rw [List.size_toArray, ← hl]; exact hz
  have hcap : ¬ its.toArray.size * k.toNat > (2 ^ 63 - 1) / 8 := by
    have : (sizeLine : Nat) ≤ (2 ^ 63 - 1) / 8 := by decide
    omega
  have hfit : ¬ (!Builtin.List.listFitsIndex k) = true := by
    rw [fitsIndex_both h1 h2]
    exact Bool.false_ne_true
  have hlong : ¬ Builtin.List.listTooLong (its.toArray.size * k.toNat) = true := by
    rw [notLongL hlen]
    exact Bool.false_ne_true
  have hnew : List.foldl (fun x1 x2 => x1 ++ x2) #[] (List.replicate (if its.toArray.isEmpty = true then 0 else k.toNat) its.toArray) = (List.replicate k.toNat its).flatten.toArray := by
    have f0 : ∀ m : Nat, List.foldl (fun x1 x2 => x1 ++ x2) #[] (List.replicate m its.toArray) = (List.replicate m its).flatten.toArray := fun m => by
      have := foldl_rep its m []
      rw [List.nil_append] at this
      exact this
    rw [f0]
    cases its with
    | nil => simp
    | cons a r' => rw [if_neg (by simp)]
  refine wpAny_binaryOp_repeat_ref (T := "list") (U := "int") (by decide) ⟨_, e, rfl⟩ (fun s' => typeIs_int s' k t) noFill_list_mul F.fills_int_mul F.slot_int_rmul repeat_list F.slot_int_index.lookup
    (call_meets F.slot_int_rmul (typeIs_int s k t) F.entry_int_rmul (F.args_int_rmul_2 _ _) (int___rmul___int_list k t l its.toArray n)
      ⟨e, rfl, ⟨_, e, rfl⟩, call_meets F.slot_list_mul ⟨_, e, rfl⟩ F.entry_list_mul (F.args_list_mul_2 _ _) (AutoListH.list___mul___list_int_3 l its.toArray n k t hfit hcap hlong) ⟨e, ?_⟩⟩)
  rw [hnew]
  exact ⟨.ref _, _, I.lnew (t' := s.toks) (r.rep k.toNat) (by rw [len_rep, Nat.mul_comm]; exact hz), rfl, q _ I.fresh⟩
end
end L2
namespace L2
open PySem PySem.Spec PyProof.Rows
theorem Vals.ints : ∀ {ns : List Int} {us : List Value}, Vals (ns.map V.int) us → IntsAre us ns
  | [], us, h => by
    rw [List.map_nil] at h
    cases h
    exact IntsAre.nil
  | n :: ns, us, h => by
    rw [List.map_cons] at h
    cases h with
    | cons r t =>
      obtain ⟨k, rfl⟩ := r
      exact IntsAre.cons n k (Vals.ints t)
theorem Vals.strs : ∀ {xs : List Str} {us : List Value}, Vals (xs.map V.str) us → StrsAre us xs
  | [], us, h => by
    rw [List.map_nil] at h
    cases h
    exact StrsAre.nil
  | x :: xs, us, h => by
    rw [List.map_cons] at h
    cases h with
    | cons r t =>
      obtain ⟨k, rfl⟩ := r
      exact StrsAre.cons x k (Vals.strs t)
theorem Vals.bls : ∀ {bs : List Bool} {us : List Value}, Vals (bs.map V.bl) us → us = bs.map Value.bool
  | [], us, h => by
    rw [List.map_nil] at h
    cases h
    rfl
  | b :: bs, us, h => by
    rw [List.map_cons] at h
    cases h with
    | cons r t =>
      cases r
      rw [Vals.bls t, List.map_cons]
theorem Vals.ref1 {a : Addr} {us : List Value} (r : Vals [V.ref a] us) : us = [Value.ref a] := by
  cases r with
  | cons r t =>
    cases t
    cases r
    rfl
theorem iter_any {prog : Program} {w : World} {A : Around} {E : Value → Shared → Prop} {s : Shared} {l : Addr} {items : Array Value} {Q : Value → Shared → Prop} (hl : s.heap.IsList l items)
    (h : ∀ s₂ : Shared, s₂ = { s with heap := s.heap.push { cls := .type "list_iterator", data := .fields #[.ref l, .int 0 0] } } →
      (s₂.heap.IsListIter s.heap.objs.size l 0 ∧ s₂.heap.IsList l items) → l ≠ s.heap.objs.size → Q (.ref s.heap.objs.size) s₂) : wpAny (model prog w) A (pyIter (.ref l)) Q E s := by
  have hlt : l < s.heap.objs.size := by obtain ⟨_, e, _⟩ := hl; exact Heap.lt_size e
  exact wpAny_pyIter_list hl (h _ rfl ⟨⟨_, Heap.get?_push_size _ rfl, rfl, rfl⟩, hl.push _⟩ (Nat.ne_of_lt hlt))
theorem truth_bools {prog : Program} {w : World} {A : Around} {bs : List Bool} {its : List Value} (e : its = bs.map Value.bool) :
    TruthOf prog w A (fun i v => its.toArray[i]? = some v) (fun i => bs.getD i false) := fun i v s Q E hv hq => by
  have hv' : its[i]? = some v := by simpa using hv
  rw [e, List.getElem?_map] at hv'
  obtain ⟨b, hb, rfl⟩ := Option.map_eq_some_iff.mp hv'
  have hg : bs.getD i false = b := by rw [List.getD_eq_getElem?_getD, hb] <;> rfl
  have hq' : Q (bs.getD i false) s := hq
  rw [hg] at hq'
  exact wpAny_truthy_bool hq'
theorem any_range : ∀ bs : List Bool, (List.range bs.length).any (fun i => bs.getD i false) = bs.any id
  | [] => rfl
  | b :: bs => by
    rw [List.length_cons, List.range_succ_eq_map, List.any_cons, List.any_map, List.any_cons, ← any_range bs]
    all_goals rfl
theorem all_range : ∀ bs : List Bool, (List.range bs.length).all (fun i => bs.getD i false) = bs.all id
  | [] => rfl
  | b :: bs => by
    rw [List.length_cons, List.range_succ_eq_map, List.all_cons, List.all_map, List.all_cons, ← all_range bs]
    all_goals rfl
section
variable {X : Cx}
def rAny (K : PySem.W.Frag) : List V → Hp → VK → Prop := fun vs H Q => ∃ (a : Addr) (bs : List Bool), vs = [V.ref a] ∧ SqL K H a (bs.map V.bl) ∧ Q (.bl (bs.any id)) H
def rAll (K : PySem.W.Frag) : List V → Hp → VK → Prop := fun vs H Q => ∃ (a : Addr) (bs : List Bool), vs = [V.ref a] ∧ SqL K H a (bs.map V.bl) ∧ Q (.bl (bs.all id)) H
theorem cr_any (hc : X.calm = true) : CallR X (.builtin "any") (rAny X.K) := by
  intro pins s σ H vs us Q I r h
  obtain ⟨a, bs, rfl, hs, q⟩ := h
  obtain ⟨its, rv, hl, _⟩ := I.list hs
  rw [Vals.ref1 r]
  have hb := rv.bls
  refine call_any_walk (iter_any hl.isList fun s₂ e2 st hne => ?_)
  subst e2
  refine ⟨_, _, _, _, _, _, _, rfl, Walks.list (A := X.A.in1) (I.ok.hd hc) _ a hne its.toArray, st, truth_bools hb, fun h' tk hk => ?_⟩
  refine ⟨.bl _, H, I.kept fun b o eo => hk b o (fun hmem => ?_) (Heap.get?_push_of_some _ eo), ?_, q⟩
  · rcases List.mem_cons.mp hmem with e1 | hmem
    · exact absurd (e1 ▸ Heap.lt_size eo) (Nat.lt_irrefl _)
    · cases hmem
  · show Value.bool _ = Value.bool _
    rw [← any_range, hb, List.size_toArray, List.length_map]
theorem cr_all (hc : X.calm = true) : CallR X (.builtin "all") (rAll X.K) := by
  intro pins s σ H vs us Q I r h
  obtain ⟨a, bs, rfl, hs, q⟩ := h
  obtain ⟨its, rv, hl, _⟩ := I.list hs
  rw [Vals.ref1 r]
  have hb := rv.bls
  refine call_all_walk (iter_any hl.isList fun s₂ e2 st hne => ?_)
  subst e2
  refine ⟨_, _, _, _, _, _, _, rfl, Walks.list (A := X.A.in1) (I.ok.hd hc) _ a hne its.toArray, st, truth_bools hb, fun h' tk hk => ?_⟩
  refine ⟨.bl _, H, I.kept fun b o eo => hk b o (fun hmem => ?_) (Heap.get?_push_of_some _ eo), ?_, q⟩
  · rcases List.mem_cons.mp hmem with e1 | hmem
    · exact absurd (e1 ▸ Heap.lt_size eo) (Nat.lt_irrefl _)
    · cases hmem
  · show Value.bool _ = Value.bool _
    rw [← all_range, hb, List.size_toArray, List.length_map]
end
mutual
inductive Dp (K : PySem.W.Frag) (H : Hp) : V → PyData → Prop
  | non : Dp K H .non .none
  | bl (b : Bool) : Dp K H (.bl b) (.bool b)
  | int (i : Int) : Dp K H (.int i) (.int i)
  | str (x : Str) : Dp K H (.str x) (.str x)
  | lst {a : Addr} {xs : List V} {ds : List PyData} : SqL K H a xs → DpAll K H xs ds → Dp K H (.ref a) (.list ds)
  | tup {a : Addr} {xs : List V} {ds : List PyData} : SqT K H a xs → DpAll K H xs ds → Dp K H (.ref a) (.tuple ds)
inductive DpAll (K : PySem.W.Frag) (H : Hp) : List V → List PyData → Prop
  | nil : DpAll K H [] []
  | cons {v : V} {vs : List V} {d : PyData} {ds : List PyData} : Dp K H v d → DpAll K H vs ds → DpAll K H (v :: vs) (d :: ds)
end
section
variable {X : Cx} {pins : List (Addr × Obj)} {σ : St} {H : Hp} {s : Shared}
mutual
theorem Dp.reads (I : Inv X pins σ H s) : ∀ (d : PyData) (v : V) (u : Value), Dp X.K H v d → RelV v u → ∃ as, Reads s.heap u d as
  | .none, _, _, h, r => by
    cases h
    cases r
    exact ⟨_, Reads.none⟩
  | .bool b, _, _, h, r => by
    cases h
    cases r
    exact ⟨_, Reads.bool b⟩
  | .int i, _, _, h, r => by
    cases h
    obtain ⟨t, rfl⟩ := r
    exact ⟨_, Reads.int i t⟩
  | .str x, _, _, h, r => by
    cases h
    obtain ⟨t, rfl⟩ := r
    exact ⟨_, Reads.str x t⟩
  | .list ds, _, _, h, r => by
    cases h with
    | lst hs ha =>
      cases r
      obtain ⟨its, rv, ⟨o, n, ho, hc, _, hd⟩, _⟩ := I.list hs
      obtain ⟨as, hr⟩ := Dp.readsAll I ds _ its ha rv
      exact ⟨_, Reads.list ho hc hd hr⟩
  | .tuple ds, _, _, h, r => by
    cases h with
    | tup hs ha =>
      cases r
      obtain ⟨its, rv, ⟨o, ho, hc, n, hd⟩, _⟩ := I.tuple hs
      obtain ⟨as, hr⟩ := Dp.readsAll I ds _ its ha rv
      exact ⟨_, Reads.tuple ho hc hd hr⟩
  | .dict _, _, _, h, _ => by cases h
theorem Dp.readsAll (I : Inv X pins σ H s) : ∀ (ds : List PyData) (vs : List V) (us : List Value), DpAll X.K H vs ds → Vals vs us → ∃ as, ReadsAll s.heap us ds as
  | [], _, _, h, r => by
    cases h
    cases r
    exact ⟨_, ReadsAll.nil⟩
  | d :: ds, _, _, h, r => by
    cases h with
    | cons h1 h2 =>
      cases r with
      | cons r1 r2 =>
        obtain ⟨as, q1⟩ := Dp.reads I d _ _ h1 r1
        obtain ⟨bs, q2⟩ := Dp.readsAll I ds _ _ h2 r2
        exact ⟨_, ReadsAll.cons q1 q2⟩
end
end
section
variable {X : Cx}
def rEqD (K : PySem.W.Frag) : R2 := fun x y H Q => ∃ d e, Dp K H x d ∧ Dp K H y e ∧ SeqAt.shaped d = true ∧ SeqAt.shaped e = true ∧ Q (.bl (PyData.eqv d e)) H
def rNeD (K : PySem.W.Frag) : R2 := fun x y H Q => ∃ d e, Dp K H x d ∧ Dp K H y e ∧ SeqAt.shaped d = true ∧ SeqAt.shaped e = true ∧ Q (.bl (!PyData.eqv d e)) H
theorem op_eqD (hu : X.A.units + 64 < cLine) : OpR X (compareOp .Eq) (rEqD X.K) := by
  intro pins s σ H x y v u Q I rx ry h
  obtain ⟨d, e, hd, he, sd, se, q⟩ := h
  obtain ⟨as, r1⟩ := Dp.reads I d x v hd rx
  obtain ⟨bs, r2⟩ := Dp.reads I e y u he ry
  exact SeqAt.compareEq_shaped r1 r2 sd se hu ⟨.bl _, H, I, rfl, q⟩
theorem op_neD (hu : X.A.units + 64 < cLine) : OpR X (compareOp .NotEq) (rNeD X.K) := by
  intro pins s σ H x y v u Q I rx ry h
  obtain ⟨d, e, hd, he, sd, se, q⟩ := h
  obtain ⟨as, r1⟩ := Dp.reads I d x v hd rx
  obtain ⟨bs, r2⟩ := Dp.reads I e y u he ry
  exact SeqAt.compareNe_shaped r1 r2 sd se hu ⟨.bl _, H, I, rfl, q⟩
end
end L2
namespace L2
open PySem PySem.Spec PyProof.Rows
abbrev CellAt (h : Heap) (c : Addr) (v : Option Value) : Prop := h.IsCell c v
def relS (scope sc : Scope) : Scope :=
  { scope with names := scope.names.map fun (n, k) => if (k == .free && sc.kind == .function && sc.names.lookup n == some .cell) then (n, .cell) else (n, k) }
def cloFrom (cells : List (Str × Addr)) : List (Str × NameKind) → List (Str × Addr) → List (Str × Addr)
  | [], acc => acc
  | (n, k) :: r, acc => if k == .free then cloFrom cells r ((n, (cells.lookup n).getD 0) :: acc) else cloFrom cells r acc
theorem closure_loop (env : Env) (f : Str × NameKind → List (Str × Addr) → Sem (ForInStep (List (Str × Addr))))
    (hf : ∀ n k c, f (n, k) c = if k == .free then (do let a ← cellOf env n; pure (.yield ((n, a) :: c))) else pure (.yield c)) :
    ∀ (names : List (Str × NameKind)) (acc : List (Str × Addr)), (∀ y ∈ names, y.2 = .free → ∃ c, env.cells.lookup y.1 = some c) → forIn names acc f = pure (cloFrom env.cells names acc)
  | [], acc, _ => by rw [List.forIn_nil]; rfl
  | (n, k) :: r, acc, h => by
    rw [List.forIn_cons, hf]
    have ih := fun acc => closure_loop env f hf r acc fun y hy => h y (List.mem_cons_of_mem _ hy)
    unfold cloFrom
    by_cases hk : (k == NameKind.free) = true
    · rw [if_pos hk, if_pos hk]
      obtain ⟨c, hc⟩ := h (n, k) List.mem_cons_self (by simpa using hk)
      have e : cellOf env n = pure c := by unfold cellOf; rw [hc]
      rw [e]
      have e2 : (env.cells.lookup n).getD 0 = c := by rw [hc]; rfl
      rw [e2]
      exact ih _
    · rw [if_neg hk, if_neg hk]
      exact ih _
theorem closure_ok {scope : Scope} {env : Env} (h : ∀ y ∈ scope.names, y.2 = .free → ∃ c, env.cells.lookup y.1 = some c) : closureFor scope env = pure (cloFrom env.cells scope.names []) := by
  simp only [closureFor]
  rw [closure_loop env _ (fun n k c => rfl) scope.names [] h]
  rfl
theorem mem_lookup {α : Type} : ∀ {l : List (Str × α)} {n : Str} {c : α}, (n, c) ∈ l → ∃ c', l.lookup n = some c'
  | (k, v) :: r, n, c, h => by
    rw [List.lookup_cons]
    cases hb : n == k with
    | true => exact ⟨_, rfl⟩
    | false =>
      rcases List.mem_cons.mp h with e | h
      · cases e; simp at hb
      · exact mem_lookup h
theorem cloFrom_mem {cells : List (Str × Addr)} : ∀ {names : List (Str × NameKind)} {acc : List (Str × Addr)} {n : Str} {c : Addr}, (n, c) ∈ cloFrom cells names acc → (n, c) ∈ acc ∨ ((n, .free) ∈ names ∧ c = (cells.lookup n).getD 0)
  | [], _, _, _, h => .inl h
  | (m, k) :: r, acc, n, c, h => by
    unfold cloFrom at h
    split at h
    · rename_i hk
      have hk : k = .free := by simpa using hk
      rcases cloFrom_mem h with h | ⟨h1, h2⟩
      · rcases List.mem_cons.mp h with e | h
        · cases e; exact .inr ⟨hk ▸ List.mem_cons_self, rfl⟩
        · exact .inl h
      · exact .inr ⟨List.mem_cons_of_mem _ h1, h2⟩
    · rcases cloFrom_mem h with h | ⟨h1, h2⟩
      · exact .inl h
      · exact .inr ⟨List.mem_cons_of_mem _ h1, h2⟩
theorem cloFrom_acc {cells : List (Str × Addr)} : ∀ {names : List (Str × NameKind)} {acc : List (Str × Addr)} {p : Str × Addr}, p ∈ acc → p ∈ cloFrom cells names acc
  | [], _, _, h => h
  | (m, k) :: r, acc, p, h => by
    unfold cloFrom
    split
    · exact cloFrom_acc (List.mem_cons_of_mem _ h)
    · exact cloFrom_acc h
theorem cloFrom_has {cells : List (Str × Addr)} : ∀ {names : List (Str × NameKind)} {acc : List (Str × Addr)} {n : Str}, (n, .free) ∈ names → (n, (cells.lookup n).getD 0) ∈ cloFrom cells names acc
  | (m, k) :: r, acc, n, h => by
    unfold cloFrom
    rcases List.mem_cons.mp h with e | h
    · cases e
      exact cloFrom_acc List.mem_cons_self
    · split
      · exact cloFrom_has h
      · exact cloFrom_has h
theorem cells_mem : ∀ {names : List (Str × NameKind)} {h : Heap} {acc : List (Str × Addr)} {x : Str} {c : Addr}, (x, c) ∈ cellsFrom h.objs.size names acc →
    (x, c) ∈ acc ∨ ((x, .cell) ∈ names ∧ h.objs.size ≤ c ∧ CellAt (pushCells h names) c none)
  | [], _, _, _, _, h => .inl h
  | (n, k) :: r, h, acc, x, c, hm => by
    unfold cellsFrom at hm
    unfold pushCells
    split at hm
    · rename_i hk
      rw [if_pos hk]
      have hk : k = .cell := by simpa using hk
      rw [← Heap.size_push h { cls := .type "cell", data := .cell none }] at hm
      rcases cells_mem hm with hm | ⟨h1, h2, h3⟩
      · rcases List.mem_cons.mp hm with e | hm
        · cases e
          exact .inr ⟨hk ▸ List.mem_cons_self, Nat.le_refl _, _, pushCells_keeps r _ _ _ (Heap.get?_push_size _ rfl), rfl⟩
        · exact .inl hm
      · rw [Heap.size_push] at h2
        exact .inr ⟨List.mem_cons_of_mem _ h1, Nat.le_of_succ_le h2, h3⟩
    · rename_i hk
      rw [if_neg hk]
      rcases cells_mem hm with hm | ⟨h1, h2, h3⟩
      · exact .inl hm
      · exact .inr ⟨List.mem_cons_of_mem _ h1, h2, h3⟩
theorem cells_acc : ∀ {names : List (Str × NameKind)} {n : Nat} {acc : List (Str × Addr)} {p : Str × Addr}, p ∈ acc → p ∈ cellsFrom n names acc
  | [], _, _, _, h => h
  | (m, k) :: r, n, acc, p, h => by
    unfold cellsFrom
    split
    · exact cells_acc (List.mem_cons_of_mem _ h)
    · exact cells_acc h
theorem cells_has : ∀ {names : List (Str × NameKind)} {n : Nat} {acc : List (Str × Addr)} {x : Str}, (x, .cell) ∈ names → ∃ c, (x, c) ∈ cellsFrom n names acc
  | (m, k) :: r, n, acc, x, h => by
    unfold cellsFrom
    rcases List.mem_cons.mp h with e | h
    · cases e
      exact ⟨n, cells_acc List.mem_cons_self⟩
    · split
      · exact cells_has h
      · exact cells_has h
theorem cells_inj : ∀ {names : List (Str × NameKind)} {h : Heap} {acc : List (Str × Addr)} {x y : Str} {c : Addr}, (∀ p ∈ acc, p.2 < h.objs.size) → (∀ x y c, (x, c) ∈ acc → (y, c) ∈ acc → x = y) →
    (x, c) ∈ cellsFrom h.objs.size names acc → (y, c) ∈ cellsFrom h.objs.size names acc → x = y
  | [], _, _, _, _, _, _, hi, h1, h2 => hi _ _ _ h1 h2
  | (n, k) :: r, h, acc, x, y, c, hl, hi, h1, h2 => by
    unfold cellsFrom at h1 h2
    split at h1
    · rename_i hk
      rw [if_pos hk] at h2
      rw [← Heap.size_push h { cls := .type "cell", data := .cell none }] at h1 h2
      refine cells_inj (h := h.push _) (fun p hp => ?_) (fun x y c a b => ?_) h1 h2
      · rw [Heap.size_push]
        rcases List.mem_cons.mp hp with rfl | hp
        · exact Nat.lt_succ_self _
        · exact Nat.lt_succ_of_lt (hl p hp)
      · rcases List.mem_cons.mp a with e | a <;> rcases List.mem_cons.mp b with e' | b
        · cases e; cases e'; rfl
        · cases e; exact absurd (hl _ b) (Nat.lt_irrefl _)
        · cases e'; exact absurd (hl _ a) (Nat.lt_irrefl _)
        · exact hi _ _ _ a b
    · rename_i hk
      rw [if_neg hk] at h2
      exact cells_inj hl hi h1 h2
theorem newEnv_comp {M : Model} {A : Around} {E : Value → Shared → Prop} {s : Shared} {scope : Scope} {globals : Addr} {closure : List (Str × Addr)} {qual : Str} {func : Option Addr} {code : Value} {around : Env} {builtins : Addr} {Q : Env → Shared → Prop}
    (h : Q (newEnv scope s.heap.objs.size globals (cellsFrom (s.heap.objs.size + 1) scope.names closure) qual func code (some around) builtins)
      { s with heap := pushCells (s.heap.push { cls := .type "dict", data := .dict #[] }) scope.names }) :
    wpAny M A (newFunctionEnv scope globals closure [] qual func code (some around) builtins) Q E s := by
  simp only [newFunctionEnv, Option.isSome_some, if_true]
  refine wpAny_bind (wpAny_alloc ?_)
  refine wpAny_bind (wpAny_layCells _ (fun n k c => rfl) scope.names closure _ _ ?_)
  rw [show ({ s with heap := s.heap.push { cls := .type "dict", data := .dict #[] } } : Shared).heap.objs.size = s.heap.objs.size + 1 from Heap.size_push ..]
  rw [List.forIn_nil]
  exact wpAny_bind (wpAny_pure (wpAny_pure h))
theorem lookup_relS {sc : Scope} : ∀ {names : List (Str × NameKind)} {x : Str} {k : NameKind},
    (names.map fun (n, k) => if (k == NameKind.free && sc.kind == .function && sc.names.lookup n == some .cell) then (n, NameKind.cell) else (n, k)).lookup x = some k →
    ∃ k', names.lookup x = some k' ∧ (k = k' ∨ (k' = .free ∧ k = .cell))
  | [], _, _, h => by simp at h
  | (n, k₀) :: r, x, k, h => by
    have ih := @lookup_relS sc r x k
    have h' : List.lookup x ((if (k₀ == NameKind.free && sc.kind == .function && sc.names.lookup n == some .cell) = true then (n, NameKind.cell) else (n, k₀)) :: (r.map _)) = some k := h
    cases hx : x == n with
    | true =>
      simp only [List.lookup_cons, hx]
      by_cases hc : (k₀ == NameKind.free && sc.kind == .function && sc.names.lookup n == some .cell) = true
      · rw [if_pos hc] at h'
        simp only [List.lookup_cons, hx] at h'
        cases h'
        simp only [Bool.and_eq_true, beq_iff_eq] at hc
        exact ⟨k₀, rfl, .inr ⟨hc.1.1, rfl⟩⟩
      · rw [if_neg hc] at h'
        simp only [List.lookup_cons, hx] at h'
        cases h'
        exact ⟨_, rfl, .inl rfl⟩
    | false =>
      simp only [List.lookup_cons, hx]
      by_cases hc : (k₀ == NameKind.free && sc.kind == .function && sc.names.lookup n == some .cell) = true
      · rw [if_pos hc] at h'
        simp only [List.lookup_cons, hx] at h'
        exact ih h'
      · rw [if_neg hc] at h'
        simp only [List.lookup_cons, hx] at h'
        exact ih h'
structure BlkOk (N : List Str) (sc scope : Scope) (own : List (Str × Nat)) : Prop where
  kind : scope.kind = .function
  uniq : ∀ y ∈ scope.names, scope.names.lookup y.1 = some y.2
  ix : ∀ p ∈ own, N[p.2]? = some p.1
  free : ∀ y ∈ scope.names, y.2 = .free → sc.names.lookup y.1 = some .cell ∨ sc.names.lookup y.1 = some .free
  own : ∀ y ∈ scope.names, y.2 = .local ∨ y.2 = .cell → y.1 ∈ own.map (·.1) ∨ y.1 ∉ N
def wipe (σ : St) : List Nat → St
  | [] => σ
  | v :: vs => (wipe σ vs).set v none
theorem wipe_length (σ : St) : ∀ vs : List Nat, (wipe σ vs).length = σ.length
  | [] => rfl
  | v :: vs => by unfold wipe; rw [List.length_set, wipe_length σ vs]
theorem wipe_some {σ : St} {i : Nat} {x : V} : ∀ {vs : List Nat}, (wipe σ vs)[i]? = some (some x) → σ[i]? = some (some x) ∧ i ∉ vs
  | [], h => ⟨h, by simp⟩
  | v :: vs, h => by
    unfold wipe at h
    by_cases hi : v = i
    · subst hi
      by_cases hv : v < (wipe σ vs).length
      · rw [List.getElem?_set_self hv] at h; cases h
      · rw [List.getElem?_eq_none (by simpa using hv)] at h; cases h
    · rw [List.getElem?_set_ne hi] at h
      obtain ⟨h1, h2⟩ := wipe_some h
      exact ⟨h1, by simp only [List.mem_cons, not_or]; exact ⟨fun e => hi e.symm, h2⟩⟩
abbrev Cx.blk (X : Cx) (s : Shared) (H : Hp) (scope : Scope) (cenv : Env) (fp : List Addr) : Cx := { X with s_0 := s, H_0 := H, env := cenv, outer := X.stack, ex := fp, fn := fun x => scope.names.lookup x == some .cell, pn := [], xe := fun _ _ => False }
section
variable {X : Cx} {pins : List (Addr × Obj)} {σ : St} {H : Hp} {s : Shared}
theorem block_start {scope : Scope} {own : List (Str × Nat)} {fp : List Addr} (I : Inv X pins σ H s) (ok : BlkOk X.N X.env.scope scope own) (hN : X.N.Nodup) (hfp : ∀ b ∈ fp, FpOk X pins H b ∧ b < s.heap.objs.size) :
    Inv (X.blk s H scope (compEnvC scope (cellsFrom (s.heap.objs.size + 1) scope.names (cloFrom X.env.cells scope.names [])) s.heap.objs.size X.env) fp) [] (wipe σ (own.map (·.2))) H { s with heap := pushCells (s.heap.push { cls := .type "dict", data := .dict #[] }) scope.names } := by
  have hfree : ∀ y ∈ scope.names, y.2 = .free → ∃ c, X.env.cells.lookup y.1 = some c := fun y hy e => by
    rcases ok.free y hy e with k | k
    · exact I.ok.has _ (.inl k)
    · exact I.ok.has _ (.inr k)
  generalize hcenv : compEnvC scope (cellsFrom (s.heap.objs.size + 1) scope.names (cloFrom X.env.cells scope.names [])) s.heap.objs.size X.env = cenv
  have kp : ∀ b o, s.heap.get? b = some o → (pushCells (s.heap.push { cls := .type "dict", data := .dict #[] }) scope.names).get? b = some o := fun b o e => pushCells_keeps _ _ _ _ (Heap.get?_push_of_some _ e)
  have hL : cenv.locals = s.heap.objs.size := by rw [← hcenv]; rfl
  have hcl : cenv.cells = cellsFrom (s.heap.objs.size + 1) scope.names (cloFrom X.env.cells scope.names []) := by rw [← hcenv]; rfl
  have hsc : cenv.scope = relS scope X.env.scope := by rw [← hcenv]; rfl
  rw [← Heap.size_push s.heap { cls := .type "dict", data := .dict #[] }] at hcl
  have cm : ∀ {y c}, (y, c) ∈ cloFrom X.env.cells scope.names [] → X.env.cells.lookup y = some c ∧ c < s.heap.objs.size := fun {y c} hm => by
    rcases cloFrom_mem hm with hm | ⟨h1, rfl⟩
    · cases hm
    · obtain ⟨c, hc⟩ := hfree _ h1 rfl
      rw [hc]
      obtain ⟨w, z⟩ := I.cell _ _ hc
      exact ⟨rfl, z.lt⟩
  have mem : ∀ {y c}, cenv.cells.lookup y = some c → (X.env.cells.lookup y = some c ∧ c < s.heap.objs.size) ∨ (s.heap.objs.size + 1 ≤ c ∧ CellAt (pushCells (s.heap.push { cls := .type "dict", data := .dict #[] }) scope.names) c none) := fun {y c} e => by
    rw [hcl] at e
    rcases cells_mem (PySem.mem_of_lookup e) with hm | ⟨_, h2, h3⟩
    · exact .inl (cm hm)
    · rw [Heap.size_push] at h2; exact .inr ⟨h2, h3⟩
  have look : ∀ {y}, scope.names.lookup y = some .free → ∃ c, cenv.cells.lookup y = some c ∧ X.env.cells.lookup y = some c := fun {y} hl => by
    have hy : (y, NameKind.free) ∈ scope.names := PySem.mem_of_lookup hl
    obtain ⟨c', e'⟩ := mem_lookup (cells_acc (names := scope.names) (n := (s.heap.push { cls := .type "dict", data := .dict #[] }).objs.size) (cloFrom_has (cells := X.env.cells) (acc := []) hy))
    rw [← hcl] at e'
    refine ⟨c', e', ?_⟩
    rw [hcl] at e'
    rcases cells_mem (PySem.mem_of_lookup e') with hm | ⟨h1, _, _⟩
    · exact (cm hm).1
    · have := ok.uniq _ h1
      rw [hl] at this; cases this
  have okB : (X.blk s H scope cenv fp).Ok := by
    refine ⟨I.ok.mod, by show cenv.scope.kind = _; rw [hsc]; exact ok.kind, by show cenv.globals = _; rw [← hcenv]; exact I.ok.glob, by show cenv.builtins = _; rw [← hcenv]; exact I.ok.blt, by show s.heap.objs.size ≤ cenv.locals; rw [hL]; exact Nat.le_refl _,
      fun y z c e1 e2 => ?_, fun y hy => ?_, fun y c z e => ?_, I.ok.hd, I.ok.frames, .inl rfl, fun b hb => ⟨?_, fun y c e z => ?_⟩, I.bs, Nat.le_trans I.ok.bsz I.sz, fun b o e hb => ?_, fun b hb z => ?_, I.stack, I.stkFree⟩
    · have e1 : cenv.cells.lookup y = some c := e1
      have e2 : cenv.cells.lookup z = some c := e2
      rw [hcl] at e1 e2
      refine cells_inj (fun p hp => ?_) (fun y z c a b => I.ok.inj y z c (cm a).1 (cm b).1) (PySem.mem_of_lookup e1) (PySem.mem_of_lookup e2)
      rw [Heap.size_push]
      exact Nat.lt_succ_of_lt (cm (y := p.1) (c := p.2) hp).2
    · show ∃ c, cenv.cells.lookup y = some c
      have key : ∀ k, cenv.kindOf y = some k → (k = .cell ∨ k = .free) → ∃ c, cenv.cells.lookup y = some c := fun k hk hk' => by
        unfold Env.kindOf at hk
        rw [hsc] at hk
        obtain ⟨k', e, r⟩ := lookup_relS hk
        have : k' = .cell ∨ k' = .free := by
          rcases r with rfl | ⟨rfl, _⟩
          · exact hk'
          · exact .inr rfl
        rcases this with rfl | rfl
        · obtain ⟨c, hm⟩ := cells_has (n := (s.heap.push { cls := .type "dict", data := .dict #[] }).objs.size) (acc := cloFrom X.env.cells scope.names []) (PySem.mem_of_lookup e)
          obtain ⟨c', e'⟩ := mem_lookup hm
          exact ⟨c', by rw [hcl]; exact e'⟩
        · obtain ⟨c, h1, _⟩ := look e
          exact ⟨c, h1⟩
      rcases hy with hy | hy
      · exact key _ hy (.inl rfl)
      · exact key _ hy (.inr rfl)
    · have z : (scope.names.lookup y == some NameKind.cell) = true := z
      have z : scope.names.lookup y = some .cell := by simpa using z
      have e : cenv.cells.lookup y = some c := e
      rw [hcl] at e
      rcases cells_mem (PySem.mem_of_lookup e) with hm | ⟨_, h2, _⟩
      · rcases cloFrom_mem hm with hm | ⟨h1, _⟩
        · cases hm
        · have q := ok.uniq _ h1
          rw [z] at q; cases q
      · rw [Heap.size_push] at h2
        exact Nat.le_of_succ_le h2
    · show b ≠ cenv.locals
      rw [hL]; exact Nat.ne_of_lt (hfp b hb).2
    · have e : cenv.cells.lookup y = some c := e
      rcases mem e with ⟨h1, _⟩ | ⟨h1, _⟩
      · exact (hfp b hb).1.2.2.2.2.1 y c h1 z
      · have h2 : s.heap.objs.size + 1 ≤ b := by rw [← z]; exact h1
        exact absurd (Nat.lt_of_lt_of_le (hfp b hb).2 (Nat.le_of_succ_le h2)) (Nat.lt_irrefl _)
    · rcases (hfp b hb).1.2.2.2.1 with z | z
      · exact I.ok.noex b o e z
      · exact absurd (Nat.lt_of_lt_of_le (Heap.lt_size e) (Nat.le_trans I.ok.bsz z)) (Nat.lt_irrefl _)
    · rcases List.mem_cons.mp (I.stkSub b z) with z | z
      · exact (hfp b hb).1.2.1 z
      · exact (hfp b hb).1.2.2.1 z
  refine ⟨okB, rfl, I.bare, Un.kept kp, ⟨fun _ => none, ?_, fun i y av e1 e2 e3 => ?_⟩, fun y c e => ?_, ?_, fun y c e => ?_, fun p hp => ?_, I.hok.kept kp, by rw [wipe_length]; exact I.len⟩
  · show Heap.Ns _ cenv.locals _
    rw [hL]
    exact Heap.Ns.keeps (Heap.Ns.new ..) fun b o e => pushCells_keeps _ _ _ _ e
  · obtain ⟨e2, hne⟩ := wipe_some e2
    have hfr : scope.names.lookup y = some .free ∧ (cenv.kindOf y = some .cell ∨ cenv.kindOf y = some .free) := by
      have key : ∀ k, cenv.scope.names.lookup y = some k → k = .local ∨ k = .cell ∨ k = .free → scope.names.lookup y = some .free ∧ (cenv.kindOf y = some .cell ∨ cenv.kindOf y = some .free) := fun k hk hk' => by
        have hk0 := hk
        rw [hsc] at hk
        obtain ⟨k', e, r⟩ := lookup_relS hk
        have no : ¬ (k' = .local ∨ k' = .cell) := fun hh => by
          rcases ok.own _ (PySem.mem_of_lookup e) hh with e' | e'
          · obtain ⟨p, hp, hpy⟩ := List.mem_map.mp e'
            have e3 := ok.ix p hp
            have : p.1 = y := hpy
            rw [this] at e3
            exact hne (List.mem_map.mpr ⟨p, hp, nodup_ix hN e3 e1⟩)
          · exact e' (List.mem_of_getElem? e1)
        rcases r with rfl | ⟨rfl, rfl⟩
        · rcases hk' with rfl | rfl | rfl
          · exact absurd (.inl rfl) no
          · exact absurd (.inr rfl) no
          · exact ⟨e, .inr hk0⟩
        · exact ⟨e, .inl hk0⟩
      have e3 : Vis cenv.scope y := e3
      rcases e3 with e3 | e3 | e3
      · exact key _ e3 (.inl rfl)
      · exact key _ e3 (.inr (.inl rfl))
      · exact key _ e3 (.inr (.inr rfl))
    obtain ⟨m, hn, hl⟩ := I.loc
    have hvis : Vis X.env.scope y := (ok.free _ (PySem.mem_of_lookup hfr.1) rfl).elim (fun k => .inr (.inl k)) (fun k => .inr (.inr k))
    obtain ⟨w, r, q⟩ := hl i y av e1 e2 hvis
    refine ⟨w, r, .inr ⟨hfr.2, ?_⟩⟩
    obtain ⟨c, h1, h2⟩ := look hfr.1
    rcases q with ⟨k, _⟩ | ⟨_, c', e', z⟩
    · have k : X.env.scope.names.lookup y = some .local := k
      rcases ok.free _ (PySem.mem_of_lookup hfr.1) rfl with k' | k' <;> rw [show X.env.scope.names.lookup y = _ from k'] at k <;> cases k
    · rw [h2] at e'; cases e'
      exact ⟨c, h1, z.keeps kp⟩
  · have e : cenv.cells.lookup y = some c := e
    rcases mem e with ⟨h1, _⟩ | ⟨_, z⟩
    · obtain ⟨w, z⟩ := I.cell y c h1
      exact ⟨w, z.keeps kp⟩
    · exact ⟨_, z⟩
  · show H cenv.locals = none
    rw [hL]; exact I.hok.fresh (Nat.le_refl _)
  · have e : cenv.cells.lookup y = some c := e
    rcases mem e with ⟨h1, _⟩ | ⟨h1, _⟩
    · exact I.freeC y c h1
    · exact I.hok.fresh (Nat.le_of_succ_le h1)
  · exact absurd (show p ∈ ([] : List (Addr × Obj)) ++ [] from hp) (by simp)
theorem app_ok {E : Value → Shared → Prop} {D : Addr} {xs : List V} {y : V} {v : Value} {Q : Value → Shared → Prop} (I : Inv X pins σ H s) (hD : H D = some (.lst xs)) (hz : xs.length < sizeLine) (r : RelV y v)
    (h : ∀ s', Inv X pins σ (upd H D (.lst (xs ++ [y]))) s' → Q .none s') : wpAny (model X.prog X.w) X.A (call (.builtin "list.append") [.ref D, v]) Q E s := by
  obtain ⟨hz', its, n, ri, e⟩ := I.hok D _ hD
  have hl := ri.length
  refine append_at (hsz := by rw [List.size_toArray]; omega) e fun h' sb ho' => ?_
  refine h { s with heap := h' } (I.write (t' := s.toks) (by rw [hD]; trivial) (.inl rfl) (fun b u hb q => (sb.2 b hb).trans q) ⟨_, ho'⟩ ⟨by rw [List.length_append]; exact hz, its ++ [v], n + 1, ri.append (.cons r .nil), ?_⟩)
  rw [ho']
  simp
def PTs (X : Cx) (ifs : List Expr) (t : TT) : Prop :=
  ∀ (pins : List (Addr × Obj)) (s : Shared) (σ : St) (H : Hp) (Q : Bool → Hp → Prop), Inv X pins σ H s → t σ H Q →
    wpAny (model X.prog X.w) X.A (forIn ifs true fun c r => if r = true then do let ok ← isTrue c X.env (eval c X.env); pure (ForInStep.yield ok) else pure (ForInStep.yield r)) (TP X pins σ Q) X.xe s
def tYes : TT := fun _ H Q => Q true H
theorem pts_nil : PTs X [] tYes := fun _ _ _ H _ I h => wpAny_tests_nil ⟨H, I, h⟩
end
theorem thnF {α : Type} {t : Sem α} {Q Q' : α → Shared → Prop} {M : Model} {A : Around} {E : Value → Shared → Prop} {s : Shared} (h : wpAny M A t Q (fun _ _ => False) s) (hQ : ∀ a s, Q a s → Q' a s) : wpAny M A t Q' E s := wpAny_mono h hQ fun _ _ z => False.elim z
theorem compLoop_any {prog : Program} {w : World} {A : Around} {R : Result → Shared → Prop} {s : Shared} {elt target iter : Expr} {ifs : List Expr} {scope : Scope} {pos : Pos} {it acc : Value} {env : Env} (I : Nat → Shared → Prop)
    (turn : ∀ n s, I n s → wpAny (model prog w) A (pyNext it) (fun r s₁ => match r with
      | none => R (.ok .next) s₁
      | some v => wpAny (model prog w) A (letOwnedTupleGo target it v) (fun _ s₁' => wpAny (model prog w) A (assign target env v) (fun _ s₂ =>
          wpAny (model prog w) A (forIn ifs true fun c r => if r = true then do let ok ← isTrue c env (eval c env); pure (ForInStep.yield ok) else pure (ForInStep.yield r)) (fun ok s₃ =>
            if ok = true then wpAny (model prog w) A (eval elt env) (fun x s₄ =>
              wpAny (model prog w) A (call (.builtin "list.append") [acc, x]) (fun _ s₅ => ∃ m, m < n ∧ I m s₅) (notedBy (model prog w) A env fun e s' => R (.error e) s') s₄) (notedBy (model prog w) A env fun e s' => R (.error e) s') s₃
            else ∃ m, m < n ∧ I m s₃) (notedBy (model prog w) A env fun e s' => R (.error e) s') s₂) (notedBy (model prog w) A env fun e s' => R (.error e) s') s₁') (notedBy (model prog w) A env fun e s' => R (.error e) s') s₁) (notedBy (model prog w) A env fun e s' => R (.error e) s') s)
    (n : Nat) (h : I n s) :
    codeAny (model prog w) A (.compLoop (.ListComp elt [⟨target, iter, ifs, 0⟩] scope pos) 0 it acc env) R s := by
  refine codeAny_loop rfl I (fun n s hI => ?_) n h
  show wpAny _ A ((compTurn (.ListComp elt [⟨target, iter, ifs, 0⟩] scope pos) 0 it acc env).onRaise (fun x => do noteFrame x env; theTreesLotGoes x)) _ _ s
  refine wpAny_noted ?_
  rw [compTurn_list]
  refine wpAny_bind (wpAny_standAt (wpAny_bind (wpAny_mono (turn n s hI) (fun r s₁ h₁ => ?_) fun _ _ h' => h')))
  cases r with
  | none => exact wpAny_pure h₁
  | some v =>
    refine wpAny_bind (wpAny_mono h₁ (fun _ s₁' h₁' => ?_) fun _ _ h' => h')
    refine wpAny_bind (wpAny_mono h₁' (fun _ s₂ h₂ => wpAny_bind (wpAny_mono h₂ (fun ok s₃ h₃ => ?_) fun _ _ h' => h')) fun _ _ h' => h')
    cases ok with
    | false => exact wpAny_pure ⟨rfl, h₃⟩
    | true =>
      exact wpAny_bind (wpAny_bind (wpAny_mono h₃ (fun x s₄ h₄ => wpAny_bind (wpAny_mono h₄ (fun _ s₅ h₅ => wpAny_pure (wpAny_pure ⟨rfl, h₅⟩)) fun _ _ h' => h')) fun _ _ h' => h'))
section
variable {X : Cx}
def tLc (wi : TI) (g : TG) (tt : TT) (te : TE) (vs : List Nat) : TE := fun σ H Q => wi σ H fun J H1 => ∀ D, H1 D = none → ∃ W : Nat → Nat → Hp → Prop, (∃ m, W 0 m (upd H1 D (.lst []))) ∧ ∀ i m H, W i m H →
  (J.stop i H ∧ Q (.ref D) H) ∨ (J.go i H ∧ ∃ Nx : Hp → Prop, (∀ H', Nx H' → ∃ m', m' < m ∧ W (i + 1) m' H') ∧ ∀ x H', J.yld i H x H' → g x (wipe σ vs) H' fun σ2 H2 => wipe σ2 vs = wipe σ vs ∧ tt σ2 H2 fun b H3 =>
    if b = true then te σ2 H3 fun y H4 => ∃ acc, H4 D = some (.lst acc) ∧ acc.length < sizeLine ∧ Nx (upd H4 D (.lst (acc ++ [y]))) else Nx H3)
theorem lc_core {pins : List (Addr × Obj)} {s : Shared} {σ : St} {H : Hp} {Q : VK} {elt tg iter : Expr} {ifs : List Expr} {scope : Scope} {own : List (Str × Nat)} {pos pos' : Pos} {wi : TI} {g : TG} {tt : TT} {te : TE} {use : Option (Value → Sem Unit)} {Qf : Value → Shared → Prop}
    (hc : X.calm = true) (hN : X.N.Nodup) (I : Inv X pins σ H s) (hi : PI X tg iter wi) (ok : BlkOk X.N X.env.scope scope own)
    (hg : ∀ (s : Shared) (H : Hp) (C : Addr) (cl : List (Str × Addr)) (fp : List Addr), PG (X.blk s H scope (compEnvC scope cl C X.env) fp) tg g) (ht : ∀ (s : Shared) (H : Hp) (C : Addr) (cl : List (Str × Addr)) (fp : List Addr), PTs (X.blk s H scope (compEnvC scope cl C X.env) fp) ifs tt)
    (he : ∀ (s : Shared) (H : Hp) (C : Addr) (cl : List (Str × Addr)) (fp : List Addr), PE (X.blk s H scope (compEnvC scope cl C X.env) fp) elt te) (hs : ∀ x, foldedSetIterable iter X.env x = pure x)
    (h : tLc wi g tt te (own.map (·.2)) σ H Q)
    (hRR : ∀ D C s' m H', Inv X pins σ H' s' → Q (.ref D) H' → s'.heap.Ns C m → FpOk X pins H' C → compPost (model X.prog X.w) X.A X.xe use Qf (.ref D) C (.ok .next) s') :
    wpAny (model X.prog X.w) X.A (comprehension (.ListComp elt [⟨tg, iter, ifs, 0⟩] scope pos) scope X.env pos' (newList []) false (eval iter X.env) use) Qf X.xe s := by
  have hfree : ∀ y ∈ scope.names, y.2 = .free → ∃ c, X.env.cells.lookup y.1 = some c := fun y hy e => by
    rcases ok.free y hy e with k | k
    · exact I.ok.has _ (.inl k)
    · exact I.ok.has _ (.inr k)
  refine wpAny_comprehension_free (use := use) rfl hs (closure_ok hfree) ok.kind (fun y hy e => by rw [ok.uniq y hy, e])
    (thn (hi pins s σ H _ I h) fun xv s1 hx => thn hx fun itv s2 h2 => ?_)
  obtain ⟨it, fp, tn, J, H2, e, I2, T, st2, f2, q⟩ := h2
  subst e
  refine wpAny_newObj_type (newEnv_comp ?_) (by show 0 ≤ sizeLine; decide)
  generalize hD : s2.heap.objs.size = D
  have hDn : H2 D = none := I2.hok.fresh (Nat.le_of_eq hD)
  obtain ⟨W, ⟨m0, w0⟩, turn⟩ := q D hDn
  -- the new list
  generalize hs3 : ({ s2 with heap := s2.heap.push { cls := .type "list", data := .seq ([] : List Value).toArray } } : Shared) = s3
  have I3 : Inv X pins σ (upd H2 D (.lst [])) s3 := by
    rw [← hs3]
    refine I2.laid (t' := s2.toks) (fun b o e => Heap.get?_push_of_some _ e) (Nat.le_of_eq hD) ⟨Nat.zero_le _, [], 0, .nil, ?_⟩
    rw [← hD]
    exact Heap.get?_push_size _ rfl
  have h3 : s3.heap = s2.heap.push { cls := .type "list", data := .seq ([] : List Value).toArray } := by rw [← hs3]
  have sz : ∀ b ∈ fp, b < s2.heap.objs.size := fun b hb => by
    obtain ⟨o, e, _⟩ := T.obj _ _ st2 b hb
    exact Heap.lt_size e
  have f3 : ∀ b ∈ fp, FpOk X pins (upd H2 D (.lst [])) b ∧ b < s3.heap.objs.size := fun b hb => by
    have hlt := sz b hb
    refine ⟨⟨?_, (f2 b hb).2⟩, by rw [h3, Heap.size_push]; exact Nat.lt_succ_of_lt hlt⟩
    rw [upd_ne (by rw [← hD]; exact Nat.ne_of_lt hlt)]
    exact (f2 b hb).1
  have st3 : tn 0 s3.heap := T.keep _ _ _ st2 fun b _ o e => by rw [h3]; exact Heap.get?_push_of_some _ e
  have I4 := block_start I3 ok hN f3
  have pg := hg s3 (upd H2 D (.lst [])) s3.heap.objs.size (cellsFrom (s3.heap.objs.size + 1) scope.names (cloFrom X.env.cells scope.names [])) fp
  have pt := ht s3 (upd H2 D (.lst [])) s3.heap.objs.size (cellsFrom (s3.heap.objs.size + 1) scope.names (cloFrom X.env.cells scope.names [])) fp
  have pe := he s3 (upd H2 D (.lst [])) s3.heap.objs.size (cellsFrom (s3.heap.objs.size + 1) scope.names (cloFrom X.env.cells scope.names [])) fp
  show codeAny _ _ (.compStart (.ListComp elt [⟨tg, iter, ifs, 0⟩] scope pos) 0 (.ref it) (.ref D) (compEnvC scope (cellsFrom (s3.heap.objs.size + 1) scope.names (cloFrom X.env.cells scope.names [])) s3.heap.objs.size X.env)) (compPost (model X.prog X.w) X.A X.xe use Qf (.ref D) s3.heap.objs.size) { s3 with heap := pushCells (s3.heap.push { cls := .type "dict", data := .dict #[] }) scope.names }
  have nfp : ∀ b ∈ fp, (upd H2 D (.lst [])) b = none := fun b hb => (f3 b hb).1.1
  generalize hce : compEnvC scope (cellsFrom (s3.heap.objs.size + 1) scope.names (cloFrom X.env.cells scope.names [])) s3.heap.objs.size X.env = ce at I4 pg pt pe ⊢
  have cL : ce.locals = s3.heap.objs.size := by subst hce; rfl
  generalize hH3 : upd H2 D (.lst []) = H3 at I3 I4 pg pt pe w0 nfp f3
  generalize hs4 : ({ s3 with heap := pushCells (s3.heap.push { cls := .type "dict", data := .dict #[] }) scope.names } : Shared) = s4 at I4 ⊢
  have st4 : tn 0 s4.heap := T.keep _ _ _ st3 fun b _ o e => by rw [← hs4]; exact pushCells_keeps _ _ _ _ (Heap.get?_push_of_some _ e)
  have stat : ∀ {σ' : St} {H' : Hp} {s' : Shared}, Inv (X.blk s3 H3 scope ce fp) [] σ' H' s' → (∀ b ∈ fp, H' b = none) → ∀ b ∈ fp, FpOk (X.blk s3 H3 scope ce fp) [] H' b := fun {σ' H' s'} I' hn b hb =>
    ⟨hn b hb, (I'.ok.exf b hb).1, I'.ok.exfs b hb, .inl hb, fun x c e => (I'.ok.exf b hb).2 x c e, fun p hp => absurd (show p ∈ ([] : List (Addr × Obj)) ++ [] from hp) (by simp)⟩
  have loop : codeAny (model X.prog X.w) X.A (.compLoop (.ListComp elt [⟨tg, iter, ifs, 0⟩] scope pos) 0 (.ref it) (.ref D) ce) (compPost (model X.prog X.w) X.A X.xe use Qf (.ref D) s3.heap.objs.size) s4 := by
    refine compLoop_any (fun n s' => ∃ i H', Inv (X.blk s3 H3 scope ce fp) [] (wipe σ (own.map (·.2))) H' s' ∧ tn i s'.heap ∧ (∀ b ∈ fp, H' b = none) ∧ W i n H') ?_ m0 ⟨0, H3, I4, st4, nfp, w0⟩
    rintro n s5 ⟨i, H5, I5, st5, n5, w5⟩
    rcases turn i n H5 w5 with ⟨stop, qq⟩ | ⟨go, Nx, hNx, step⟩
    · have td := T.done (X.blk s3 H3 scope ce fp) rfl rfl rfl hc i [] s5 _ H5 (fun _ _ => False) I5 (stat I5 n5) st5 stop
      refine thnF td fun r s6 ⟨hr, I6⟩ => ?_
      subst hr
      -- back in the def's context
      have I7 : Inv X pins σ H5 s6 := I3.call' (ch := fp) I6.os I6.base I6.hok I6.bare fun b hb => ⟨(f3 b hb).1.2.2.2.1, (f3 b hb).1.2.1, (f3 b hb).1.2.2.2.2.1, (f3 b hb).1.2.2.2.2.2⟩
      have nC : H5 s3.heap.objs.size = none := by
        have z : H5 ce.locals = none := I6.free
        rw [cL] at z
        exact z
      obtain ⟨m, hn, _⟩ := I6.loc
      have hn : s6.heap.Ns ce.locals m := hn
      rw [cL] at hn
      exact hRR D s3.heap.objs.size s6 m H5 I7 qq hn (I3.fpOk (Nat.le_refl _) nC)
    · have ti := T.item (X.blk s3 H3 scope ce fp) rfl rfl rfl hc i [] s5 _ H5 (fun _ _ => False) I5 (stat I5 n5) st5 go
      refine thnF ti fun r s6 ⟨u, hr, h6⟩ => ?_
      subst hr
      refine thnF h6 fun _ s7 ⟨x, H7, I7, r7, y7, st7, n7⟩ => ?_
      have I7' := I7.pinned (stat I7 n7) (T.obj _ _ st7)
      refine thnF (pg _ s7 _ H7 x u _ I7' r7 (step x H7 y7)) fun _ s8 ⟨σ8, H8, I8, hw8, q8⟩ => ?_
      refine thnF (pt _ s8 σ8 H8 _ I8 q8) fun b s9 ⟨H9, I9, q9⟩ => ?_
      -- the turn's end
      have fin : ∀ {s' : Shared} {H' : Hp}, Inv (X.blk s3 H3 scope ce fp) ([] ++ pinsAt fp s7.heap) σ8 H' s' → Nx H' → ∃ m, m < n ∧ ∃ i H', Inv (X.blk s3 H3 scope ce fp) [] (wipe σ (own.map (·.2))) H' s' ∧ tn i s'.heap ∧ (∀ b ∈ fp, H' b = none) ∧ W i m H' := fun {s' H'} I' nx => by
        obtain ⟨m', hm, w'⟩ := hNx H' nx
        have pin' : ∀ b ∈ fp, ∀ o, s7.heap.get? b = some o → s'.heap.get? b = some o ∧ H' b = none := fun b hb o e =>
          let z := I'.pin (b, o) (List.mem_append_right _ (List.mem_append_right _ (mem_pinsAt hb e)))
          ⟨z.1, z.2.1⟩
        have hl : (wipe σ (own.map (·.2))).length = σ8.length := by rw [← hw8, wipe_length]
        refine ⟨m', hm, i + 1, H', (I'.unpinned (pins := [])).weak hl (fun j v e => ?_), T.keep _ _ _ st7 fun b hb o e => (pin' b hb o e).1, fun b hb => ?_, w'⟩
        · rw [← hw8] at e
          exact (wipe_some e).1
        · obtain ⟨o, e, _⟩ := T.obj _ _ st7 b hb
          exact (pin' b hb o e).2
      cases b with
      | false =>
        simp only [Bool.false_eq_true, if_false] at q9 ⊢
        exact fin I9 q9
      | true =>
        simp only [if_true] at q9 ⊢
        refine thnF (pe _ s9 σ8 H9 _ I9 q9) fun z s10 ⟨yv, H10, I10, r10, acc, hD10, hz10, nx⟩ => ?_
        exact app_ok (X := X.blk s3 H3 scope ce fp) I10 hD10 hz10 r10 fun s11 I11 => fin I11 nx
  exact codeAny_compStart_list loop (T.self X.A 0 _ _ _ st4 loop)
theorem pe_lc {elt tg iter : Expr} {ifs : List Expr} {scope : Scope} {own : List (Str × Nat)} {pos : Pos} {wi : TI} {g : TG} {tt : TT} {te : TE} (hc : X.calm = true) (hN : X.N.Nodup) (hi : PI X tg iter wi) (ok : BlkOk X.N X.env.scope scope own)
    (hg : ∀ (s : Shared) (H : Hp) (C : Addr) (cl : List (Str × Addr)) (fp : List Addr), PG (X.blk s H scope (compEnvC scope cl C X.env) fp) tg g) (ht : ∀ (s : Shared) (H : Hp) (C : Addr) (cl : List (Str × Addr)) (fp : List Addr), PTs (X.blk s H scope (compEnvC scope cl C X.env) fp) ifs tt)
    (he : ∀ (s : Shared) (H : Hp) (C : Addr) (cl : List (Str × Addr)) (fp : List Addr), PE (X.blk s H scope (compEnvC scope cl C X.env) fp) elt te) (hs : ∀ x, foldedSetIterable iter X.env x = pure x := by intro _; rfl) :
    PE X (.ListComp elt [⟨tg, iter, ifs, 0⟩] scope pos) (tLc wi g tt te (own.map (·.2))) := by
  intro pins s σ H Q I h
  rw [eval_ListComp]
  refine lc_core hc hN I hi ok hg ht he hs h fun D C s' m H' I' q hn f => ⟨m, hn, fun h'' sb => ?_⟩
  obtain ⟨f0, f1, f2, f3, f4, f5⟩ := f
  exact ⟨.ref D, H', I'.turned (t' := s'.toks) (fun b o hb e => (sb.2 b hb).trans e) f0 f1 f3 f4 f5, rfl, q⟩
end
theorem lc_list {K : PySem.W.Frag} {a : Addr} {xs : List V} {g : TG} {tt : TT} {te : TE} {vs : List Nat} {σ : St} {H1 : Hp} {D : Addr} {Qd : Hp → Prop} (Pv : Nat → Hp → Prop) (h0 : Pv 0 (upd H1 D (.lst []))) (hl : ∀ i H, i ≤ xs.length → Pv i H → SqL K H a xs)
    (hs : ∀ i x H, xs[i]? = some x → Pv i H → g x (wipe σ vs) H fun σ2 H2 => wipe σ2 vs = wipe σ vs ∧ tt σ2 H2 fun b H3 =>
      if b = true then te σ2 H3 fun y H4 => ∃ acc, H4 D = some (.lst acc) ∧ acc.length < sizeLine ∧ Pv (i + 1) (upd H4 D (.lst (acc ++ [y]))) else Pv (i + 1) H3) (hd : ∀ H, Pv xs.length H → Qd H) :
    ∃ W : Nat → Nat → Hp → Prop, (∃ m, W 0 m (upd H1 D (.lst []))) ∧ ∀ i m H, W i m H →
      ((Itl K a).stop i H ∧ Qd H) ∨ ((Itl K a).go i H ∧ ∃ Nx : Hp → Prop, (∀ H', Nx H' → ∃ m', m' < m ∧ W (i + 1) m' H') ∧ ∀ x H', (Itl K a).yld i H x H' → g x (wipe σ vs) H' fun σ2 H2 => wipe σ2 vs = wipe σ vs ∧ tt σ2 H2 fun b H3 =>
        if b = true then te σ2 H3 fun y H4 => ∃ acc, H4 D = some (.lst acc) ∧ acc.length < sizeLine ∧ Nx (upd H4 D (.lst (acc ++ [y]))) else Nx H3) := by
  refine ⟨fun i m H => m = xs.length - i ∧ i ≤ xs.length ∧ Pv i H, ⟨xs.length, by simp, Nat.zero_le _, h0⟩, ?_⟩
  rintro i m H ⟨rfl, hi, p⟩
  have q := hl i H hi p
  by_cases hlt : i < xs.length
  · refine .inr ⟨⟨xs, xs[i], q, by simp [hlt]⟩, Pv (i + 1), fun H' p' => ⟨xs.length - (i + 1), by omega, rfl, hlt, p'⟩, fun x H' y => ?_⟩
    obtain ⟨e, y⟩ := y
    subst e
    exact hs i x _ (y xs q) p
  · have e : i = xs.length := by omega
    subst e
    exact .inl ⟨⟨xs, q, Nat.le_refl _⟩, hd H p⟩
theorem lc_tup {K : PySem.W.Frag} {a : Addr} {xs : List V} {g : TG} {tt : TT} {te : TE} {vs : List Nat} {σ : St} {H1 : Hp} {D : Addr} {Qd : Hp → Prop} (Pv : Nat → Hp → Prop) (h0 : Pv 0 (upd H1 D (.lst []))) (hl : ∀ i H, i ≤ xs.length → Pv i H → SqT K H a xs)
    (hs : ∀ i x H, xs[i]? = some x → Pv i H → g x (wipe σ vs) H fun σ2 H2 => wipe σ2 vs = wipe σ vs ∧ tt σ2 H2 fun b H3 =>
      if b = true then te σ2 H3 fun y H4 => ∃ acc, H4 D = some (.lst acc) ∧ acc.length < sizeLine ∧ Pv (i + 1) (upd H4 D (.lst (acc ++ [y]))) else Pv (i + 1) H3) (hd : ∀ H, Pv xs.length H → Qd H) :
    ∃ W : Nat → Nat → Hp → Prop, (∃ m, W 0 m (upd H1 D (.lst []))) ∧ ∀ i m H, W i m H →
      ((Itt K a).stop i H ∧ Qd H) ∨ ((Itt K a).go i H ∧ ∃ Nx : Hp → Prop, (∀ H', Nx H' → ∃ m', m' < m ∧ W (i + 1) m' H') ∧ ∀ x H', (Itt K a).yld i H x H' → g x (wipe σ vs) H' fun σ2 H2 => wipe σ2 vs = wipe σ vs ∧ tt σ2 H2 fun b H3 =>
        if b = true then te σ2 H3 fun y H4 => ∃ acc, H4 D = some (.lst acc) ∧ acc.length < sizeLine ∧ Nx (upd H4 D (.lst (acc ++ [y]))) else Nx H3) := by
  refine ⟨fun i m H => m = xs.length - i ∧ i ≤ xs.length ∧ Pv i H, ⟨xs.length, by simp, Nat.zero_le _, h0⟩, ?_⟩
  rintro i m H ⟨rfl, hi, p⟩
  have q := hl i H hi p
  by_cases hlt : i < xs.length
  · refine .inr ⟨⟨xs, xs[i], q, by simp [hlt]⟩, Pv (i + 1), fun H' p' => ⟨xs.length - (i + 1), by omega, rfl, hlt, p'⟩, fun x H' y => ?_⟩
    obtain ⟨e, y⟩ := y
    subst e
    exact hs i x _ (y xs q) p
  · have e : i = xs.length := by omega
    subst e
    exact .inl ⟨⟨xs, q, Nat.le_refl _⟩, hd H p⟩
def blkC (N : List Str) (sc scope : Scope) (own : List (Str × Nat)) : Bool :=
  (match scope.kind with | .function => true | _ => false) && (scope.names.all fun y => decide (scope.names.lookup y.1 = some y.2)) && (own.all fun p => decide (N[p.2]? = some p.1)) &&
    (scope.names.all fun y => match y.2 with
      | .free => (match sc.names.lookup y.1 with | some .cell => true | some .free => true | _ => false)
      | .local => decide (y.1 ∈ own.map (·.1)) || decide (y.1 ∉ N)
      | .cell => decide (y.1 ∈ own.map (·.1)) || decide (y.1 ∉ N)
      | _ => true)
theorem blkOk_by {N : List Str} {sc scope : Scope} {own : List (Str × Nat)} (h : blkC N sc scope own = true) : BlkOk N sc scope own := by
  unfold blkC at h
  simp only [Bool.and_eq_true, List.all_eq_true, decide_eq_true_eq] at h
  obtain ⟨⟨⟨h1, h2⟩, h3⟩, h4⟩ := h
  refine ⟨?_, h2, h3, fun y hy e => ?_, fun y hy e => ?_⟩
  · split at h1
    · assumption
    · cases h1
  · have q := h4 y hy
    simp only [e] at q
    split at q <;> first | exact .inl (by assumption) | exact .inr (by assumption) | cases q
  · have q := h4 y hy
    rcases e with e | e <;> (simp only [e, Bool.or_eq_true, decide_eq_true_eq] at q; exact q)
end L2
namespace L2
open PySem PySem.Spec PyProof.Rows
end L2
namespace L2
open PySem PySem.Spec PyProof.Rows
section
variable {κ : Type} [DecidableEq κ]
def valV (kvs : List (κ × V)) (k : κ) : Option V := (kvs.find? fun kv => decide (kv.1 = k)).map (·.2)
def putK (kvs : List (κ × V)) (k : κ) (v : V) : List (κ × V) :=
  if (kvs.any fun kv => decide (kv.1 = k)) = true then kvs.map (fun kv => if kv.1 = k then (kv.1, v) else kv) else kvs ++ [(k, v)]
def dropK (kvs : List (κ × V)) (k : κ) : List (κ × V) := kvs.filter fun kv => decide (kv.1 ≠ k)
theorem valV_pos {p : κ × V} {r : List (κ × V)} {k : κ} (e : p.1 = k) : valV (p :: r) k = some p.2 := by simp [valV, List.find?_cons, e]
theorem valV_neg {p : κ × V} {r : List (κ × V)} {k : κ} (e : ¬ p.1 = k) : valV (p :: r) k = valV r k := by simp [valV, List.find?_cons, e]
theorem valV_any (k : κ) : ∀ kvs : List (κ × V), (kvs.any fun kv => decide (kv.1 = k)) = (valV kvs k).isSome
  | [] => rfl
  | p :: r => by
    rw [List.any_cons]
    by_cases e : p.1 = k
    · simp only [valV_pos e, decide_eq_true e, Bool.true_or, Option.isSome_some]
    · rw [valV_neg e, decide_eq_false e, Bool.false_or]; exact valV_any k r
theorem RelO.isSome_eq {o : Option V} {u : Option Value} (r : RelO o u) : o.isSome = u.isSome := by
  cases o with
  | none => cases u with
    | none => rfl
    | some _ => exact (show False from r).elim
  | some _ => cases u with
    | none => exact (show False from r).elim
    | some _ => rfl
theorem RelO.getD {o : Option V} {u : Option Value} {d : V} {d' : Value} (r : RelO o u) (rd : RelV d d') : RelV (o.getD d) (u.getD d') := by
  cases o with
  | none => cases u with
    | none => exact rd
    | some _ => exact (show False from r).elim
  | some _ => cases u with
    | none => exact (show False from r).elim
    | some _ => exact r
theorem KV.val {kvs : List (κ × V)} {vs : List (κ × Value)} (r : KV kvs vs) (k : κ) : RelO (valV kvs k) (valueAt vs k) := by
  unfold KV at r
  induction r with
  | nil => exact True.intro
  | @cons p q ps qs h t ih =>
    obtain ⟨h1, h2⟩ := h
    by_cases e : p.1 = k
    · have e' : q.1 = k := h1.symm.trans e
      have b : valueAt (q :: qs) k = some q.2 := by simp [valueAt, List.find?_cons, e']
      rw [valV_pos e, b]; exact h2
    · have e' : ¬ q.1 = k := fun z => e (h1.trans z)
      have b : valueAt (q :: qs) k = valueAt qs k := by simp [valueAt, List.find?_cons, e']
      rw [valV_neg e, b]; exact ih
theorem KV.any {kvs : List (κ × V)} {vs : List (κ × Value)} (r : KV kvs vs) (k : κ) : (kvs.any fun kv => decide (kv.1 = k)) = vs.any fun kv => decide (kv.1 = k) := by
  unfold KV at r
  induction r with
  | nil => rfl
  | cons h t ih => rw [List.any_cons, List.any_cons, ih, h.1]
theorem KV.repl {kvs : List (κ × V)} {vs : List (κ × Value)} (r : KV kvs vs) (k : κ) {y : V} {u : Value} (ry : RelV y u) :
    KV (kvs.map fun kv => if kv.1 = k then (kv.1, y) else kv) (vs.map fun kv => if kv.1 = k then (kv.1, u) else kv) := by
  unfold KV at r ⊢
  induction r with
  | nil => exact .nil
  | @cons p q ps qs h t ih =>
    rw [List.map_cons, List.map_cons]
    refine .cons ?_ ih
    obtain ⟨h1, h2⟩ := h
    by_cases e : p.1 = k
    · rw [if_pos e, if_pos (h1.symm.trans e)]; exact ⟨h1, ry⟩
    · rw [if_neg e, if_neg (fun z => e (h1.trans z))]; exact ⟨h1, h2⟩
theorem KV.put {kvs : List (κ × V)} {vs : List (κ × Value)} (r : KV kvs vs) (k : κ) {y : V} {u : Value} (ry : RelV y u) : KV (putK kvs k y) (stored vs k u) := by
  unfold putK stored
  rw [r.any k]
  by_cases e : (vs.any fun kv => decide (kv.1 = k)) = true
  · rw [if_pos e, if_pos e]; exact r.repl k ry
  · rw [if_neg e, if_neg e]; exact Paired.snoc r ⟨rfl, ry⟩
theorem KV.drop {kvs : List (κ × V)} {vs : List (κ × Value)} (r : KV kvs vs) (k : κ) : KV (dropK kvs k) (without vs k) := by
  unfold KV at r ⊢
  unfold dropK without
  induction r with
  | nil => exact .nil
  | @cons p q ps qs h t ih =>
    obtain ⟨h1, h2⟩ := h
    rw [List.filter_cons, List.filter_cons]
    by_cases e : p.1 = k
    · have a : ¬ decide (p.1 ≠ k) = true := by simp [e]
      have b : ¬ decide (q.1 ≠ k) = true := by simp [h1.symm.trans e]
      rw [if_neg a, if_neg b]; exact ih
    · have e' : ¬ q.1 = k := fun z => e (h1.trans z)
      have a : decide (p.1 ≠ k) = true := by simp [e]
      have b : decide (q.1 ≠ k) = true := by simp [e']
      rw [if_pos a, if_pos b]; exact .cons ⟨h1, h2⟩ ih
theorem KV.keys {kvs : List (κ × V)} {vs : List (κ × Value)} (r : KV kvs vs) : kvs.map (·.1) = vs.map (·.1) := by
  unfold KV at r
  induction r with
  | nil => rfl
  | cons h t ih => rw [List.map_cons, List.map_cons, ih, h.1]
theorem KV.length {kvs : List (κ × V)} {vs : List (κ × Value)} (r : KV kvs vs) : kvs.length = vs.length := Paired.length r
end
abbrev KT (H : Hp) : List (List Key × V) → List (List Key × Addr × Value) → Prop := Paired fun p q => p.1 = q.1 ∧ H q.2.1 = some (.tup (p.1.map kV)) ∧ RelV p.2 q.2.2
theorem KT.val {H : Hp} {kvs : List (List Key × V)} {xs : List (List Key × Addr × Value)} (r : KT H kvs xs) (k : List Key) : RelO (valV kvs k) ((atKey xs k).map (·.2)) := by
  induction r with
  | nil => exact True.intro
  | @cons p q ps qs h t ih =>
    obtain ⟨h1, _, h2⟩ := h
    by_cases e : p.1 = k
    · have e' : q.1 = k := h1.symm.trans e
      have b : atKey (q :: qs) k = some q.2 := by simp [atKey, List.find?_cons, e']
      rw [valV_pos e, b]; exact h2
    · have e' : ¬ q.1 = k := fun z => e (h1.trans z)
      have b : atKey (q :: qs) k = atKey qs k := by simp [atKey, List.find?_cons, e']
      rw [valV_neg e, b]; exact ih
theorem KT.repl {H : Hp} {kvs : List (List Key × V)} {xs : List (List Key × Addr × Value)} (r : KT H kvs xs) (k : List Key) {y : V} {u : Value} (ry : RelV y u) :
    KT H (kvs.map fun kv => if kv.1 = k then (kv.1, y) else kv) (xs.map (putAt k u)) := by
  induction r with
  | nil => exact .nil
  | @cons p q ps qs h t ih =>
    rw [List.map_cons, List.map_cons]
    refine .cons ?_ ih
    obtain ⟨h1, h2, h3⟩ := h
    unfold putAt
    by_cases e : p.1 = k
    · rw [if_pos e, if_pos (h1.symm.trans e)]; exact ⟨h1, h2, ry⟩
    · rw [if_neg e, if_neg (fun z => e (h1.trans z))]; exact ⟨h1, h2, h3⟩
theorem KT.put {H : Hp} {kvs : List (List Key × V)} {xs : List (List Key × Addr × Value)} (r : KT H kvs xs) (k : List Key) {b : Addr} {y : V} {u : Value} (hb : H b = some (.tup (k.map kV))) (ry : RelV y u) :
    KT H (putK kvs k y) (storedH xs k b u) := by
  have e : (kvs.any fun kv => decide (kv.1 = k)) = (atKey xs k).isSome := by
    rw [valV_any, (r.val k).isSome_eq, Option.isSome_map]
  unfold putK storedH
  rw [e]
  by_cases q : (atKey xs k).isSome = true
  · rw [if_pos q, if_pos q]; exact r.repl k ry
  · rw [if_neg q, if_neg q]; exact Paired.snoc r ⟨rfl, hb, ry⟩
theorem KT.keeps {H H' : Hp} {kvs : List (List Key × V)} {xs : List (List Key × Addr × Value)} (r : KT H kvs xs) (ht : ∀ b ys, H b = some (.tup ys) → H' b = some (.tup ys)) : KT H' kvs xs :=
  Paired.mapP r fun _ _ z => ⟨z.1, ht _ _ z.2.1, z.2.2⟩
def DGet (H : Hp) (a : Addr) (y : V) (r : Option V) : Prop :=
  (∃ kvs k, Rd H a (.dK kvs) ∧ y = kV k ∧ r = valV kvs k) ∨ ∃ kvs k b, Rd H a (.dT kvs) ∧ y = .ref b ∧ H b = some (.tup (k.map kV)) ∧ r = valV kvs k
def DPut (H : Hp) (a : Addr) (y v : V) (H' : Hp) : Prop :=
  (∃ kvs k, H a = some (.dK kvs) ∧ y = kV k ∧ kvs.length < sizeLine ∧ H' = upd H a (.dK (putK kvs k v))) ∨
  ∃ kvs k b, H a = some (.dT kvs) ∧ y = .ref b ∧ H b = some (.tup (k.map kV)) ∧ kvs.length < sizeLine ∧ H' = upd H a (.dT (putK kvs k v))
theorem DGet.k {H : Hp} {a : Addr} {kvs : List (Key × V)} {k : Key} (e : H a = some (.dK kvs)) : DGet H a (kV k) (valV kvs k) := .inl ⟨kvs, k, .inl e, rfl, rfl⟩
theorem DGet.t {H : Hp} {a b : Addr} {kvs : List (List Key × V)} {k : List Key} (e : H a = some (.dT kvs)) (eb : H b = some (.tup (k.map kV))) : DGet H a (.ref b) (valV kvs k) := .inr ⟨kvs, k, b, .inl e, rfl, eb, rfl⟩
theorem DPut.k {H : Hp} {a : Addr} {kvs : List (Key × V)} {k : Key} {v : V} (e : H a = some (.dK kvs)) (hl : kvs.length < sizeLine) : DPut H a (kV k) v (upd H a (.dK (putK kvs k v))) := .inl ⟨kvs, k, e, rfl, hl, rfl⟩
theorem DPut.t {H : Hp} {a b : Addr} {kvs : List (List Key × V)} {k : List Key} {v : V} (e : H a = some (.dT kvs)) (eb : H b = some (.tup (k.map kV))) (hl : kvs.length < sizeLine) :
    DPut H a (.ref b) v (upd H a (.dT (putK kvs k v))) := .inr ⟨kvs, k, b, e, rfl, eb, hl, rfl⟩
structure M1 (X : Cx) (o : Expr) (m : Str) (apos : Pos) (e : Expr) (cpos : Pos) : Prop where
  base : attributeBase o m X.env (eval o X.env) = eval o X.env
  few : ((backTo cpos (starEach [e] X.env)).all (fun x => !x.1) && (backToKw cpos (keywordEach [] X.env)).all (fun x => x.1.isSome)
    && decide (([e] : List Expr).length + ([] : List Keyword).length + (if ([] : List Keyword).isEmpty then 0 else 1) < 30)) = true
  line : (apos.endLine == cpos.line) = true
  trees : backTo cpos (starEach [e] X.env) = [(false, eval e X.env)]
structure M2 (X : Cx) (o : Expr) (m : Str) (apos : Pos) (e f : Expr) (cpos : Pos) : Prop where
  base : attributeBase o m X.env (eval o X.env) = eval o X.env
  few : ((backTo cpos (starEach [e, f] X.env)).all (fun x => !x.1) && (backToKw cpos (keywordEach [] X.env)).all (fun x => x.1.isSome)
    && decide (([e, f] : List Expr).length + ([] : List Keyword).length + (if ([] : List Keyword).isEmpty then 0 else 1) < 30)) = true
  line : (apos.endLine == cpos.line) = true
  trees : backTo cpos (starEach [e, f] X.env) = [(false, eval e X.env), (false, eval f X.env)]
end L2
namespace L2
open PySem PySem.Spec PyProof.Rows
end L2
namespace L2
open PySem PySem.Spec PyProof.Rows
section
variable {X : Cx} {pins : List (Addr × Obj)} {σ : St} {H : Hp} {s : Shared} {h' : Heap}
theorem Inv.turnedNew {t' : Nat} {ch : List Addr} {T : Addr} {ob : HO} (I : Inv X pins σ H s) (k : ∀ b o, b ∉ ch → s.heap.get? b = some o → h'.get? b = some o) (hf : ∀ b ∈ ch, FpOk X pins H b) (hT : s.heap.objs.size ≤ T)
    (new : ObjOk X.prog X.w (upd H T ob) h' T ob) : Inv X pins σ (upd H T ob) { s with heap := h', toks := t' } := by
  have hn : H T = none := I.hok.fresh hT
  have nit : ∀ b u, H b = some u → b ∉ ch := fun b u e z => by
    have q := (hf b z).1
    rw [q] at e; cases e
  refine I.step (g' := s.gens) (d' := s.drawn) (ch := ch) (fun b hb => ⟨(hf b hb).2.2.2.1, (hf b hb).2.1, (hf b hb).2.2.2.2.1, (hf b hb).2.2.2.2.2⟩) (fun b o _ _ hc e _ => k b o hc e) (fun b o _ _ hc e _ => ⟨o.slots, k b o hc e⟩)
    (fun b o _ e n => ?_) (fun b o hc e => ⟨o, k b o hc e⟩) (fun b xs e => ?_) (fun b o u e => ?_) (fun b ps e => ⟨#[], ?_⟩) (fun m hm => ?_) (fun b u e => ?_) I.bare
  · rw [upd_ne (Nat.ne_of_lt (Nat.lt_of_lt_of_le (Heap.lt_size e) hT))]; exact n
  · rw [upd_ne (ne_of_none e hn)]; exact e
  · rw [upd_ne (ne_of_none e hn)]; exact e
  · rw [upd_ne (ne_of_none e hn), e]; simp
  · obtain ⟨o, es, ep, ho, r⟩ := hm
    exact ⟨o, es, ep, k _ o (fun z => (hf _ z).2.1 rfl) ho, r⟩
  · by_cases hb : b = T
    · subst hb
      rw [upd_same] at e
      cases e
      exact new
    · rw [upd_ne hb] at e
      refine (I.hok b u e).stay (fun c v hc q => k c v ?_ q) (fun c q => by rw [upd_ne (ne_of_none q hn)]; exact q) fun c xs q => by rw [upd_ne (ne_of_none q hn)]; exact q
      rcases hc with z | z
      · rw [z]; exact nit b u e
      · exact nit c _ z
end
section
variable {X : Cx}
theorem pi_one {tg : Expr} {pins : List (Addr × Obj)} {σ : St} {H : Hp} {s : Shared} {R : It → Hp → Prop} {J : It} {tn : Nat → Heap → Prop} {tk : Nat} (I : Inv X pins σ H s) (o : Obj)
    (T : Turn X.prog X.w X.K tg J [s.heap.objs.size] s.heap.objs.size tn) (st : tn 0 (s.heap.push o)) (q : R J H) : PIE X pins σ tg R (.ref s.heap.objs.size) { s with heap := s.heap.push o, toks := tk } := by
  refine ⟨s.heap.objs.size, [s.heap.objs.size], tn, J, H, rfl, I.kept fun b ob e => Heap.get?_push_of_some _ e, T, st, fun b hb => ?_, q⟩
  have e : b = s.heap.objs.size := by simpa using hb
  subst e
  exact I.fpOk (Nat.le_refl _) (I.hok.fresh (Nat.le_refl _))
end
def Its (x : Str) : It := ⟨fun i _ => i < x.cps.size, fun i H v H' => H' = H ∧ ∃ c, x.cps[i]? = some c ∧ v = .str ⟨#[c]⟩, fun i _ => x.cps.size ≤ i⟩
theorem turn_str {P : Program} {w : World} {K : PySem.W.Frag} {tg : Expr} (it : Addr) (x : Str) (t : Tok) (ty : String) (hty : ty = "str_ascii_iterator" ∨ ty = "str_iterator") :
    Turn P w K tg (Its x) [it] it (fun i h => h.IsStrIter it ty x t i) where
  mem := by simp
  obj := fun i h st b hb => by
    have e : b = it := by simpa using hb
    subst e
    obtain ⟨o, e, c, d⟩ := st
    exact ⟨o, e, fun v z => by rw [d] at z; cases z⟩
  keep := fun i h h' st k => let ⟨o, ho, r⟩ := st; ⟨o, k it (by simp) o ho, r⟩
  item := by
    intro X hP hw hK hc i pins s σ H E I hf st hg
    subst hP hw hK
    obtain ⟨f0, f1, f2, f3, f4, f5⟩ := hf it (by simp)
    have W : Walks X.prog X.w X.A it [it] [it] x.cps.size (SignAt x) (fun i h => h.IsStrIter it ty x t i) := by
      rcases hty with e | e
      · rw [e]; exact Walks.strAscii (I.ok.hd hc) it x t
      · rw [e]; exact Walks.strWide (I.ok.hd hc) it x t
    have hno : ["enumerate", "zip", "dict_itemiterator", "dict_reverseitemiterator", "odict_iterator", "itertools.zip_longest", "itertools.pairwise"].contains ty = false := by
      rcases hty with e | e
      · rw [e]; decide
      · rw [e]; decide
    refine W.item i s _ _ hg st fun v h' tk hv st' kk => ?_
    obtain ⟨c, u, hcx, rfl⟩ := hv
    have I1 : Inv X pins σ H { s with heap := h', toks := tk } := I.turned (fun b o hb e => kk b o (by simpa using hb) e) f0 f1 f3 f4 f5
    obtain ⟨oi, e, cc, dd⟩ := id st'
    exact ⟨_, rfl, go_of (s := { s with heap := h', toks := tk }) e cc dd hno ⟨.str ⟨#[c]⟩, H, I1, ⟨u, rfl⟩, ⟨rfl, c, hcx, rfl⟩, st', fun b hb => (hf b hb).1⟩⟩
  done := by
    intro X hP hw hK hc i pins s σ H E I hf st hg
    subst hP hw hK
    obtain ⟨f0, f1, f2, f3, f4, f5⟩ := hf it (by simp)
    have hx : x.cps[i]? = none := Array.getElem?_eq_none hg
    rcases hty with e | e
    · rw [e] at st
      exact wpAny_pyNext_ascii_end (I.ok.hd hc) st hx fun h' eb => ⟨rfl, I.turned (t' := s.toks) (fun b o hb e => eb b o hb e) f0 f1 f3 f4 f5⟩
    · rw [e] at st
      exact wpAny_pyNext_wide_end (I.ok.hd hc) st hx fun h' eb => ⟨rfl, I.turned (t' := s.toks) (fun b o hb e => eb b o hb e) f0 f1 f3 f4 f5⟩
  self := fun A i s Q E st h => by
    rcases hty with e | e
    · rw [e] at st; exact wpAny_pyIter_striter_ascii st h
    · rw [e] at st; exact wpAny_pyIter_striter_wide st h
def iStr (te : TE) : TI := fun σ H R => te σ H fun v H1 => ∃ x, v = .str x ∧ R (Its x) H1
theorem pi_str {X : Cx} {tg e : Expr} {te : TE} (he : PE X e te) : PI X tg e (iStr te) := by
  intro pins s σ H R I h
  refine thn (he pins s σ H _ I h) fun v s1 ⟨y, H1, I1, r1, x, ex, q⟩ => ?_
  subst ex
  obtain ⟨t, rfl⟩ := r1
  cases ha : x.cps.all (· < 128)
  · exact wpAny_pyIter_wide ha (pi_one (tk := s1.toks) I1 _ (turn_str _ x t "str_iterator" (.inr rfl)) ⟨_, Heap.get?_push_size _ rfl, rfl, rfl⟩ q)
  · exact wpAny_pyIter_ascii ha (pi_one (tk := s1.toks) I1 _ (turn_str _ x t "str_ascii_iterator" (.inl rfl)) ⟨_, Heap.get?_push_size _ rfl, rfl, rfl⟩ q)
end L2
section 
namespace Bits
open PySem PyProof.Rows
end Bits
end 
section 
namespace TL
open PySem PySem.Builtin PySem.Builtin.Str PySem.StrLaws
abbrev tl (x : Str) : List Nat := x.cps.toList
def pre (S l : List Nat) : Bool := l.take S.length == S
def par (S : List Nat) : List Nat → List Nat → Option (List Nat × List Nat)
  | _, [] => none
  | acc, c :: r => if pre S (c :: r) = true then some (acc, (c :: r).drop S.length) else par S (acc ++ [c]) r
end TL
end 
namespace L2
open PySem PySem.Spec PyProof.Rows
theorem vals_strs : ∀ l : List (Str × Tok), Vals ((l.map (·.1)).map V.str) (strValues l)
  | [] => .nil
  | p :: r => .cons ⟨p.2, rfl⟩ (vals_strs r)
theorem strs_of_vals : ∀ {ys : List Str} {us : List Value}, Vals (ys.map V.str) us → StrsAre us ys
  | [], _, .nil => .nil
  | y :: ys, _, .cons r t => by
    obtain ⟨k, rfl⟩ := r
    exact .cons y k (strs_of_vals t)
def rNewStrs (ys : List Str) : Hp → VK → Prop := fun H Q => ∀ p, H p = none → Q (.ref p) (upd H p (.lst (ys.map V.str)))
section
variable {X : Cx} {pins : List (Addr × Obj)} {σ : St} {H : Hp} {s : Shared} {Q : VK}
theorem laid_strs {l : List (Str × Tok)} {ys : List Str} {k : Nat} (I : Inv X pins σ H s) (e : l.map (·.1) = ys) (hz : ys.length ≤ sizeLine) (h : rNewStrs ys H Q) :
    EP X pins σ Q (.ref s.heap.objs.size) { s with toks := k, heap := s.heap.push { cls := .type "list", data := .seq (strValues l).toArray } } := by
  have hp := I.hok.fresh (Nat.le_refl _)
  refine ⟨.ref s.heap.objs.size, upd H s.heap.objs.size (.lst (ys.map V.str)), I.laid (fun b u q => Heap.get?_push_of_some _ q) (Nat.le_refl _) ⟨by rw [List.length_map]; exact hz, strValues l, _, ?_, Heap.get?_push_size _ rfl⟩, rfl, h _ hp⟩
  rw [← e]
  exact vals_strs l
theorem laid_parts {x y z : Str} {t u v : Tok} {k : Nat} (I : Inv X pins σ H s) (h : ∀ p, H p = none → Q (.ref p) (upd H p (.tup [.str x, .str y, .str z]))) :
    EP X pins σ Q (.ref s.heap.objs.size) { s with toks := k, heap := s.heap.push { cls := .type "tuple", data := .seq [Value.str x t, .str y u, .str z v].toArray } } := by
  have hp := I.hok.fresh (Nat.le_refl _)
  exact ⟨.ref s.heap.objs.size, upd H s.heap.objs.size (.tup [.str x, .str y, .str z]), I.laid (fun b u q => Heap.get?_push_of_some _ q) (Nat.le_refl _)
    ⟨by show 3 ≤ sizeLine; decide, [Value.str x t, .str y u, .str z v], .cons ⟨t, rfl⟩ (.cons ⟨u, rfl⟩ (.cons ⟨v, rfl⟩ .nil)), _, Heap.get?_push_size _ rfl, rfl, _, rfl⟩, rfl, h _ hp⟩
end
section
variable {X : Cx}
theorem mt_split : MtR X "str.split" (fun x xs H Q => ∃ a b, x = .str a ∧ xs = [.str b] ∧ (b.length == 0) = false ∧ a.length + 2 ≤ sizeLine ∧ rNewStrs (Txt.split a b) H Q) := by
  intro pins s σ H x xs v us Q I rx rs h
  obtain ⟨a, b, rfl, rfl, hb, hz, h⟩ := h
  obtain ⟨t, rfl⟩ := rx
  cases rs with
  | cons r1 rs =>
    cases rs
    obtain ⟨u, rfl⟩ := r1
    have hl : (Txt.split a b).length ≤ sizeLine := Nat.le_trans (PyProof.Rows.split_le a b) hz
    have hn : (Builtin.Str.partsBetween a (Builtin.Str.occurrences a b 0 a.length (a.length + 1)) b.length).length ≤ sizeLine := by
      have e1 := StrLaws.occ_length_le a b 0 a.length (a.length + 1)
      rw [length_partsBetween]; omega
    cases h1 : (decide (a.length < b.length) || decide (Builtin.Str.strKind a < Builtin.Str.strKind b))
    · cases hf : (Builtin.Str.occurrences a b 0 a.length (a.length + 1)).isEmpty
      · refine call_meets F.slot_str_split (typeIs_str _ _ _) F.entry_str_split (F.args_str_split_2 _ _) (meets_str_split_sep a b t u h1 hb hf (by omega) hn) ?_
        show EP X pins σ Q (.ref s.heap.objs.size) { s with toks := _, heap := s.heap.push { cls := .type "list", data := .seq (strsFrom s.toks (Builtin.Str.partsBetween a (Builtin.Str.occurrences a b 0 a.length (a.length + 1)) b.length)).toArray } }
        rw [strsFrom_eq]
        exact laid_strs (ys := Txt.split a b) I ((numbered_texts _ _).trans ((if_neg (ne_true_of_eq_false h1)).trans (if_neg (ne_true_of_eq_false hf))).symm) hl h
      · refine call_meets F.slot_str_split (typeIs_str _ _ _) F.entry_str_split (F.args_str_split_2 _ _) (meets_str_split_not_found a b t u h1 hb hf) ?_
        exact laid_strs (l := [(a, t)]) (ys := Txt.split a b) (k := s.toks) I ((if_neg (ne_true_of_eq_false h1)).trans (if_pos hf)).symm hl h
    · refine call_meets F.slot_str_split (typeIs_str _ _ _) F.entry_str_split (F.args_str_split_2 _ _) (meets_str_split_cannot_occur a b t u h1) ?_
      exact laid_strs (l := [(a, t)]) (ys := Txt.split a b) (k := s.toks) I (if_pos h1).symm hl h
theorem mt_partition : MtR X "str.partition" (fun x xs H Q => ∃ a b, x = .str a ∧ xs = [.str b] ∧ (b.length == 0) = false ∧ a.length ≤ sizeLine ∧
    ∀ p, H p = none → Q (.ref p) (upd H p (.tup [.str (Txt.partition a b).1, .str (Txt.partition a b).2.1, .str (Txt.partition a b).2.2]))) := by
  intro pins s σ H x xs v us Q I rx rs h
  obtain ⟨a, b, rfl, rfl, hb, hz, h⟩ := h
  obtain ⟨t, rfl⟩ := rx
  cases rs with
  | cons r1 rs =>
    cases rs
    obtain ⟨u, rfl⟩ := r1
    refine call_meets F.slot_str_partition (typeIs_str _ _ _) F.entry_str_partition (F.args_str_partition_2 _ _) (meets_str_partition a b t u hb hz) ?_
    unfold Txt.partition at h
    revert h
    cases Builtin.Str.occurrences a b 0 a.length 1 with
    | nil => intro h; exact laid_parts I h
    | cons i r => intro h; exact laid_parts I h
theorem mt_join : MtR X "str.join" (fun x xs H Q => ∃ a p, ∃ ys : List Str, x = .str a ∧ xs = [.ref p] ∧ (SqL X.K H p (ys.map V.str) ∨ SqT X.K H p (ys.map V.str)) ∧
    (ys.map (·.length)).sum + ys.length * a.length ≤ 16777216 ∧ Q (.str (Txt.join a ys)) H) := by
  intro pins s σ H x xs v us Q I rx rs h
  obtain ⟨a, p, ys, rfl, rfl, hp, hz, h⟩ := h
  obtain ⟨t, rfl⟩ := rx
  cases rs with
  | cons r1 rs =>
    cases rs
    cases r1
    rcases hp with hp | hp
    · obtain ⟨its, r, ⟨o, n, ho, hc, _, hd⟩, _⟩ := I.list hp
      exact PyProof.Rows.join_list (items := its.toArray) ⟨o, ho, hc, n, hd⟩ (by rw [List.toList_toArray]; exact strs_of_vals r) hz fun t' k => ⟨.str _, H, I.tok k, ⟨t', rfl⟩, h⟩
    · obtain ⟨its, r, ht, _⟩ := I.tuple hp
      exact PyProof.Rows.join_tuple (items := its.toArray) ht (by rw [List.toList_toArray]; exact strs_of_vals r) hz fun t' k => ⟨.str _, H, I.tok k, ⟨t', rfl⟩, h⟩
theorem mt1 {id : String} {g : Str → Str → V} (rule : ∀ (a b : Str) (t u : Tok) (s : Shared) (Q : Value → Shared → Prop), (∀ (v : Value) (k : Nat), RelV (g a b) v → Q v { s with toks := k }) →
    wpAny (model X.prog X.w) X.A (call (.builtin id) [.str a t, .str b u]) Q X.xe s) : MtR X id (fun x xs H Q => ∃ a b, x = .str a ∧ xs = [.str b] ∧ Q (g a b) H) := by
  intro pins s σ H x xs v us Q I rx rs h
  obtain ⟨a, b, rfl, rfl, h⟩ := h
  obtain ⟨t, rfl⟩ := rx
  cases rs with
  | cons r1 rs =>
    cases rs
    obtain ⟨u, rfl⟩ := r1
    exact rule a b t u s _ fun v k r => ⟨g a b, H, I.tok k, r, h⟩
theorem mt_startswith : MtR X "str.startswith" (fun x xs H Q => ∃ a b, x = .str a ∧ xs = [.str b] ∧ Q (.bl (Txt.startswith a b)) H) :=
  mt1 (g := fun a b => .bl (Txt.startswith a b)) fun _ _ _ _ s _ h => PySem.SC.startswith (h _ s.toks rfl)
theorem call_int_str : CallR X (.type "int") (fun xs H Q => ∃ a n, xs = [.str a] ∧ PySem.intText? a = some n ∧ a.length ≤ 640 ∧ Q (.int n) H) := by
  intro pins s σ H xs us Q I rs h
  obtain ⟨a, n, rfl, hn, hl, h⟩ := h
  cases rs with
  | cons r1 rs =>
    cases rs
    obtain ⟨t, rfl⟩ := r1
    exact PySem.W.KIN.call_text hn hl ⟨.int n, H, I.tok _, ⟨_, rfl⟩, h⟩
end
end L2
namespace L2
open PySem PySem.Spec PyProof.Rows
section
variable {X : Cx}
theorem op_notIn_sign : OpR X (compareOp .NotIn) (fun x y H Q => ∃ (c : Nat) (z : Str), x = .str ⟨#[c]⟩ ∧ y = .str z ∧ Q (.bl (!decide (c ∈ z.cps.toList))) H) := by
  intro pins s σ H x y v u Q I rx ry h
  obtain ⟨c, z, rfl, rfl, q⟩ := h
  obtain ⟨t, rfl⟩ := rx
  obtain ⟨t', rfl⟩ := ry
  exact PyProof.Rows.notIn_str (fin_bl I q (congrArg Bool.not (PySem.StrLaws.found_one z c).symm))
end
end L2
namespace Att
open PySem PySem.W PySem.Calls PyProof.Rows
theorem ints_of_wellAll {P : Params} {h : Heap} : ∀ (ns : List Int) (vs : List Value), WellAll P h vs (ns.map WData.int) → IntsAre vs ns := by
  intro ns
  induction ns with
  | nil =>
    intro vs w
    rw [List.map_nil] at w
    cases w
    exact .nil
  | cons n ns ih =>
    intro vs w
    rw [List.map_cons] at w
    cases w with
    | cons a b =>
      cases a
      exact .cons _ _ (ih _ b)
theorem script_of {l : OpenLaw} {n : Nat} (hn : l.most = some n) {P : Params} {h : Heap} {args : List WData} {vals : List Value}
    (hpre : l.row.toRowW.claim.pre args = true) (hwl : WellAll P h vals args) :
    ∃ a vs ns, vals = [Value.ref a] ∧ args = [WData.list (ns.map WData.int)] ∧ h.get? a = some { cls := .type "list", data := .seq vs.toArray } ∧ IntsAre vs ns ∧ ns.length ≤ n := by
  have hsh : WShape.hasAll [] args [.list .int] = true := (pre_splitW hpre).1
  have hc : l.pre.holds [] { args := args } = true := (pre_splitW hpre).2
  obtain ⟨d, r, rfl, h1, h2⟩ := hasAllW_cons hsh
  obtain rfl := hasAllW_nil h2
  obtain ⟨xs, rfl, h3⟩ := hasW_list h1
  obtain ⟨ns, rfl⟩ := items_int h3
  have hlen : ns.length ≤ n := by
    unfold OpenLaw.pre at hc
    have h4 : (WTm.not (.lt (.lit (.int (n : Int))) (.len (.arg 0)))).holds [] { args := [.list (ns.map .int)] } = true := by
      have h4 := (holds_andW hc).1
      rw [hn] at h4
      exact h4
    have h5 := condW_of h4 (w_not (w_lt w_lit (w_len_list (w_arg rfl))))
    rw [List.length_map] at h5
    refine Nat.le_of_not_lt fun q => ?_
    have q' : (n : Int) < ((ns.length : Nat) : Int) := by omega
    first
      | (rw [decide_eq_true q'] at h5; exact absurd h5 (by decide))
      | (simp at h5; omega)
  cases hwl with
  | cons w1 w2 =>
    cases w2
    cases w1 with
    | list ho hall => exact ⟨_, _, ns, rfl, rfl, ho, ints_of_wellAll ns _ hall, hlen⟩
theorem post_true (l : OpenLaw) (args : List WData) : l.row.toRowW.claim.post args (.bool true) args = true :=
  postW_of (r := l.row.toRowW) (X := (true == true))
    (show WShape.has [] (.bool true) .bool = true by first | rfl | decide | simp [WShape.has, WShape.arms, WShape.armsAll])
    (show (WTm.eq .res (.lit (.bool true))).value [] { args := args, res := some (.bool true), after := args } = some (.bool (true == true)) from w_eq_bool (w_res rfl) w_lit) rfl
theorem attach_call {l : OpenLaw} {n : Nat} {q : Program} {loose : List Str} {XP : (Str → Option Value) → Heap → Prop} {YP : World → Heap → Prop} {d : DefRec}
    (hn : l.most = some n) (hdf : d.params.defaults = [])
    (call : ∀ (w : World) (s₀ s₁ : Shared) (mg mb : Str → Option Value) (fa : Addr) (o : Obj) (pm cd doc : Value) (a : Addr) (vs : List Value) (ns : List Int),
      Ground q loose [] XP w s₀ mg mb s₁.heap → YP w s₁.heap →
      s₁.heap.get? fa = some o → o.data = .func (docDef d.name d.params d.body d.scope pm cd doc) → s₁.heap.CodeRec cd d.name → mg d.name = some (.ref fa) →
      s₁.heap.get? a = some { cls := .type "list", data := .seq vs.toArray } → IntsAre vs ns → ns.length ≤ n → s₁.gens = #[] →
      codeAny (model l.prog w) callerA (.call (.ref fa) ⟨[.ref a], []⟩) (fun r s' => r = .ok (.ret (.bool true)) ∧ OldK s₁.heap s'.heap ∧ s'.os = s₁.os ∧ AllBare s'.gens) s₁) :
    WalkO q loose XP YP l.row.toRowW d [] (fun f vs => PySem.call f vs) := by
  intro w s₀ s₁ mg mb G Y fa o pm cd doc dV kV ho hd hcd hD hmg hg args vals as hpre hlay hrd hwl hlo
  obtain rfl : dV = .none := Dflts.none hD hdf
  obtain rfl : kV = .none := Dflts.noKw hD
  obtain ⟨a, vs, ns, rfl, rfl, hobj, hints, hlen⟩ := script_of hn hpre hwl
  refine enter_call (codeAny_mono (call w s₀ s₁ mg mb fa o pm cd doc a vs ns G Y ho (fd_plain hd) hcd hmg hobj hints hlen hg) fun r s' hq => ?_)
  obtain ⟨rfl, h2, h3, h4⟩ := hq
  exact ⟨.inl ⟨.bool true, .bool true, [], rfl, fun _ => rfl, .bool true, post_true l _, fun _ => ⟨List.Pairwise.nil, fun _ hm => (nomatch hm)⟩⟩, h2, h3, h4⟩
end Att
namespace L2
open PySem PySem.Spec PyProof.Rows
theorem vals_ints : ∀ {vs : List Value} {ns : List Int}, IntsAre vs ns → Vals (ns.map V.int) vs
  | _, _, .nil => .nil
  | _, _, .cons n t h => .cons ⟨t, rfl⟩ (vals_ints h)
def Only (H : Hp) : Prop := ∀ b, H b = none ∨ ∃ o xs, H b = some (.frz o (.lst xs))
theorem law_call {P : Program} {w : World} {K : PySem.W.Frag} {mg mb : Str → Option Value} {CX : CXT} {k : Nat} {fa a : Addr} {fd : FuncData} {x : Str} {sp : Sp} {s₁ : Shared} {vs : List Value} {ns : List Int}
    (KX : K.In s₁.heap) (hns : s₁.heap.Ns mainGlobals mg) (hb : s₁.heap.Ns builtinsNs mb) (hbb : ∀ x : Str, x ≠ "__name__" → mb x = bootBuiltins x) (hlim : s₁.heap.NoLimit) (hg : s₁.gens = #[])
    (ha : s₁.heap.get? a = some { cls := .type "list", data := .seq vs.toArray }) (hi : IntsAre vs ns) (hl : ns.length ≤ sizeLine) (hr : Room k callerA)
    (F : ∀ base : Heap, K.In base → base.Ns mainGlobals mg → FnOk P w K mg base CX k fa fd [x] sp) (hbind : ∀ (s : Shared) (u : Value), BindsTo s fd ⟨[u], []⟩ [(x, u)])
    (hsp : ∀ H : Hp, Only H → SqL K H a (ns.map V.int) → sp [.ref a] H (fun v _ => v = .bl true) fun _ _ _ => False)
    (hCX : ∀ H e s', CX [] H s₁ (fun _ _ _ => False) e s' → False) :
    codeAny (model P w) callerA (.call (.ref fa) ⟨[.ref a], []⟩) (fun r s' => r = .ok (.ret (.bool true)) ∧ OldK s₁.heap s'.heap ∧ s'.os = s₁.os ∧ AllBare s'.gens) s₁ := by
  have rv := vals_ints hi
  have lenV := hi.length
  -- from an abstract heap in which nothing but the script may be tracked
  have core : ∀ H : Hp, Only H → SqL K H a (ns.map V.int) → HOk P w H s₁.heap → (∀ b, H b ≠ none → b = a) → (H a ≠ none → K.lookup a = none) →
      codeAny (model P w) callerA (.call (.ref fa) ⟨[.ref a], []⟩) (fun r s' => r = .ok (.ret (.bool true)) ∧ OldK s₁.heap s'.heap ∧ s'.os = s₁.os ∧ AllBare s'.gens) s₁ := by
    intro H hO hS hok hA hK
    have base_of : ∀ {b : Addr} {o : Obj}, s₁.heap.get? b = some o → H b = none → (hidT s₁.heap H).get? b = some o := fun e n => hidT_get e n
    have noA : ∀ {b : Addr} {o : Obj} {es : Array DictEntry} {ep : Nat}, s₁.heap.get? b = some o → o.data = .dict es ep → H b = none := fun {b o es ep} e d => by
      cases q : H b with
      | none => rfl
      | some u =>
        have e' : b = a := hA b (by rw [q]; simp)
        subst e'
        rw [ha] at e; cases e
        have d' : Data.seq vs.toArray _ = Data.dict es ep := d
        cases d'
    have nsK : ∀ {b : Addr} {m : Str → Option Value}, s₁.heap.Ns b m → (hidT s₁.heap H).Ns b m := fun {b m} ⟨o, es, ep, e, d, r⟩ => ⟨o, es, ep, base_of e (noA e d), d, r⟩
    have hKb : K.In (hidT s₁.heap H) := fun b o e => base_of (KX b o e) (by
      cases q : H b with
      | none => rfl
      | some u =>
        have e' : b = a := hA b (by rw [q]; simp)
        subst e'
        rw [hK (by rw [q]; simp)] at e; cases e)
    have hM : Mod K mg (hidT s₁.heap H) := ⟨hKb, nsK hns, ⟨mb, nsK hb, hbb⟩, let ⟨mc, h1, h2⟩ := hlim; ⟨mc, nsK h1, h2⟩⟩
    have e0 : Env0 P w K mg (hidT s₁.heap H) callerA [] s₁ H := ⟨rfl, hM, fun b o e => of_hidT e, Nat.le_of_eq (hidT_size _ _), trivial, fun b hb => absurd (show b ∈ ([] : List Addr) from hb) (by simp), hok, .of_eq hg⟩
    refine codeAny_mono ((F _ hKb (nsK hns)).run callerA [] s₁ H ⟨[.ref a], []⟩ [.ref a] [.ref a] _ _ hr e0 (hbind s₁ (.ref a)) (.cons rfl .nil) (hsp H hO hS)) fun r s' h => ?_
    cases r with
    | error e => exact (hCX H e s' h).elim
    | ok fl =>
      cases fl with
      | next => exact False.elim h
      | brk => exact False.elim h
      | cont => exact False.elim h
      | ret u =>
        obtain ⟨v, H', os, bare, un, hok', r', q⟩ := h
        have q' : v = .bl true := q
        subst q'
        obtain rfl : u = Value.bool true := r'
        refine ⟨rfl, OldK.of_keep fun b o e => ?_, os, bare⟩
        cases q : H b with
        | none => exact un.keep b o e q (by intro z; exact absurd (show b ∈ ([] : List Addr) from z) (by simp)) (by simp)
        | some u =>
          rcases hO b with z | ⟨ob, xs, z⟩
          · rw [q] at z; cases z
          · have z2 := un.frzs b ob _ z
            obtain ⟨e1, _⟩ := hok b _ z
            obtain ⟨e2, _⟩ := hok' b _ z2
            rw [e] at e1; cases e1
            exact e2
  cases hk : K.lookup a with
  | some o =>
    -- the script is one of the module's own objects
    have e := KX a o hk
    rw [ha] at e
    cases e
    refine core (fun _ => none) (fun _ => .inl rfl) (.inr ⟨_, vs.toArray, _, hk, rfl, rfl, rfl, by rw [List.size_toArray, lenV]; exact hl, by simpa using rv⟩) (fun b u z => by have z' : (none : Option HO) = some u := z; cases z') (fun b z => absurd rfl z) fun z => absurd rfl z
  | none =>
    refine core (fun b => if b = a then some (.frz { cls := .type "list", data := .seq vs.toArray } (.lst (ns.map V.int))) else none) (fun b => ?_) (.inl (.inr ⟨{ cls := .type "list", data := .seq vs.toArray }, if_pos rfl⟩)) (fun b u z => ?_) (fun b z => ?_) fun _ => hk
    · by_cases hb : b = a
      · exact .inr ⟨_, _, if_pos hb⟩
      · exact .inl (if_neg hb)
    · by_cases hb : b = a
      · have z' := (if_pos hb).symm.trans z
        cases z'
        subst hb
        exact ⟨ha, by rw [List.length_map]; exact hl, vs, _, rv, ha⟩
      · have z' := (if_neg hb).symm.trans z
        cases z'
    · by_cases hb : b = a
      · exact hb
      · exact absurd (if_neg hb) z
end L2
namespace L2
open PySem PySem.Spec PyProof.Rows
theorem walk_of {l : PySem.W.OpenLaw} {n k : Nat} {q : Program} {loose : List Str} {XP : (Str → Option Value) → Heap → Prop} {YP : World → Heap → Prop} {d : DefRec} {K : Params → PySem.W.Frag} {CX : World → CXT} {sp : World → Sp} {x : Str}
    (hn : l.most = some n) (hn2 : n ≤ sizeLine) (hdf : d.params.defaults = []) (hr : Room k callerA)
    (hY : ∀ (w : World) (h : Heap), YP w h → (K w.params).In h)
    (F : ∀ (w : World) (mg : Str → Option Value) (fa : Addr) (h : Heap), (K w.params).In h → h.Ns mainGlobals mg → mg d.name = some (.ref fa) →
      ∃ fd : FuncData, (∀ (s : Shared) (u : Value), BindsTo s fd ⟨[u], []⟩ [(x, u)]) ∧
        ∀ base : Heap, (K w.params).In base → base.Ns mainGlobals mg → FnOk l.prog w (K w.params) mg base (CX w) k fa fd [x] (sp w))
    (hsp : ∀ (w : World) (H : Hp) (a : Addr) (ns : List Int), ns.length ≤ n → Only H → SqL (K w.params) H a (ns.map V.int) → sp w [.ref a] H (fun v _ => v = .bl true) fun _ _ _ => False)
    (hCX : ∀ (w : World) (H : Hp) (s : Shared) (e : Value) (s' : Shared), CX w [] H s (fun _ _ _ => False) e s' → False) :
    PySem.W.WalkO q loose XP YP l.row.toRowW d [] (fun f vs => PySem.call f vs) := by
  refine Att.attach_call hn hdf fun w s₀ s₁ mg mb fa o pm cd doc a vs ns G Y ho hd hcd hmg hobj hints hlen hg => ?_
  have KX := hY w _ Y
  obtain ⟨fd, hb, hF⟩ := F w mg fa _ KX G.T.g hmg
  exact law_call KX G.T.g G.T.b G.T.builtins G.T.nolimit hg hobj hints (Nat.le_trans hlen hn2) hr hF hb (fun H hO hS => hsp w H a ns hlen hO hS) fun H e s' => hCX w H s₁ e s'
end L2
namespace L2
open PySem PySem.Spec PyProof.Rows
def defArgs (s : Stmt) : Arguments := match s with
  | .FunctionDef _ a _ _ _ _ _ _ _ _ => a
  | _ => { posonlyargs := [], args := [], vararg := none, kwonlyargs := [], kw_defaults := [], kwarg := none, defaults := [] }
def defBody (s : Stmt) : List Stmt := match s with
  | .FunctionDef _ _ b _ _ _ _ _ _ _ => b
  | _ => []
def defScope (s : Stmt) : Scope := match s with
  | .FunctionDef _ _ _ _ _ _ sc _ _ _ => sc
  | _ => { kind := .function, names := [], isGenerator := false, isCoroutine := false }
abbrev CX0 : CXT := fun _ _ _ _ _ _ => False
abbrev E0 : XK := fun _ _ _ => False
structure Fun (K : PySem.W.Frag) (x qual : Str) (st : Stmt) (f : Addr) (fd : FuncData) : Prop where
  ex : ∃ (oc : Value) (od : Option Addr) (kV doc pm : Value) (an : Option Addr) (cdv ct : Value) (osl : Array (Option Value)),
    fd = PySem.W.fnOf x qual (defArgs st) (defBody st) (defScope st) .none kV doc pm an cdv ct ∧ K.lookup f = some ⟨oc, od, .func fd, osl⟩ ∧ PySem.W.codeIn K cdv qual = true
  kp : PySem.W.keepIn K (.ref f) = true
section
variable {P : Program} {w : World} {K : PySem.W.Frag} {mg : Str → Option Value} {base : Heap}
theorem Fun.ok {x qual : Str} {st : Stmt} {f : Addr} {fd : FuncData} {N ps : List Str} {k : Nat} {sp : Sp} (F : Fun K x qual st f fd) (S : FnScope N ps (defScope st)) (len : ∀ vs H Q E, sp vs H Q E → vs.length = ps.length)
    (hbody : ∀ (cdv : Value) (A : Around) (outer : List Env) (s : Shared) (H : Hp) (vs : List V) (Q : VK) (E : XK), Room k (A.deeper (envOfC qual (defScope st) s.heap.objs.size f cdv)) → sp vs H Q E →
      ∃ t, PSs (cxOf CX0 P w K mg base N qual (defScope st) f cdv A outer s H E).nox (defBody st) t ∧ t { nx := fun _ H' => Q .non H', rt := Q } (start N vs) H) : FnOk P w K mg base CX0 (k + 1) f fd ps sp := by
  obtain ⟨oc, od, kV, doc, pm, an, cdv, ct, osl, rfl, lk, hcd⟩ := F.ex
  refine fn_of lk hcd S len fun A outer s H vs Q E hr hsp => ?_
  obtain ⟨t, h, q⟩ := hbody cdv A outer s H vs Q E hr hsp
  exact ⟨t, h.nox, q⟩
theorem Fun.binds {x qual : Str} {st : Stmt} {f : Addr} {fd : FuncData} {ps : List Str} (F : Fun K x qual st f fd)
    (h : ∀ (kV doc pm : Value) (an : Option Addr) (cdv ct : Value) (us : List Value), us.length = ps.length → bindArgs (PySem.W.fnOf x qual (defArgs st) (defBody st) (defScope st) .none kV doc pm an cdv ct) ⟨us, []⟩ = pure (ps.zip us)) : Binds K fd ps [] := by
  obtain ⟨oc, od, kV, doc, pm, an, cdv, ct, osl, rfl, lk, hcd⟩ := F.ex
  exact .all (h kV doc pm an cdv ct)
theorem fun_mk {x qual : Str} {st : Stmt} {f : Addr} {oc : Value} {od an : Option Addr} {osl : Array (Option Value)} {kV doc pm cdv ct : Value} (l : K.lookup f = some ⟨oc, od, .func (PySem.W.fnOf x qual (defArgs st) (defBody st) (defScope st) .none kV doc pm an cdv ct), osl⟩)
    (c : PySem.W.codeIn K cdv qual = true) (k : PySem.W.keepIn K (.ref f) = true) : Fun K x qual st f (PySem.W.fnOf x qual (defArgs st) (defBody st) (defScope st) .none kV doc pm an cdv ct) := ⟨⟨oc, od, kV, doc, pm, an, cdv, ct, osl, rfl, l, c⟩, k⟩
end
section
variable {X : Cx}
theorem pv (i : Nat) {x : Str} {pos : Pos} (hN : X.N[i]? = some x := by rfl) (hv : Vis X.env.scope x := by first | exact Or.inl rfl | exact Or.inr (Or.inl rfl) | exact Or.inr (Or.inr rfl)) (hd : (x == ("__debug__" : Str)) = false := by decide)
    (hcd : (x == ("__classdict__" : Str)) = false := by decide) : PE X (.Name x pos) (tVar i) := pe_var hN hv hd hcd
end
theorem iteF {A B : Prop} (h : B) : if false = true then A else B := by
  rw [if_neg Bool.false_ne_true]
  exact h
theorem iteT {A B : Prop} (h : A) : if true = true then A else B := by
  rw [if_pos rfl]
  exact h
def Same (H H' : Hp) : Prop := ∀ b o, H b = some o → H' b = some o
theorem Same.refl (H : Hp) : Same H H := fun _ _ h => h
theorem Same.trans {H H1 H2 : Hp} (a : Same H H1) (b : Same H1 H2) : Same H H2 := fun c o h => b c o (a c o h)
theorem Same.free {H H' : Hp} (e : Same H H') {l : Addr} (h : H' l = Option.none) : H l = Option.none := by
  cases q : H l with
  | none => rfl
  | some o =>
    rw [e l o q] at h
    cases h
theorem Same.seq {K : PySem.W.Frag} {H H' : Hp} {a : Addr} {xs : List V} (e : Same H H') (h : SqL K H a xs) : SqL K H' a xs := by
  rcases h with (h | ⟨o, h⟩) | h
  · exact .inl (.inl (e _ _ h))
  · exact .inl (.inr ⟨o, e _ _ h⟩)
  · exact .inr h
theorem Same.made {H H1 : Hp} {x dx C : Addr} (nx : H x = Option.none) (nd : H dx = Option.none) (k : ∀ b o, (upd (upd H dx (.own x)) x (.ins C dx [])) b = some o → b ≠ x → H1 b = some o) : Same H H1 := fun b o e =>
  k b o (by rw [upd_ne (ne_of_none e nx), upd_ne (ne_of_none e nd)]; exact e) (ne_of_none e nx)
end L2
set_option Elab.async false
set_option linter.all false
set_option maxRecDepth 100000
set_option maxHeartbeats 4000000
namespace I2
open PySem PySem.Spec PyProof.Rows L2
inductive D where
  | non | bl (b : Bool) | int (i : Int) | str (x : Str) | tup (ds : List D) | lst (ds : List D) | scr (ds : List D) | dic0 | ref (i : Nat) | exc (c : Str) | dcs (ks : List Str) (ds : List D)
  deriving Inhabited
inductive Cell where
  | lst (ds : List D)
  | dic (kvs : List (Int × D))
  | gone
abbrev Sto := List Cell
abbrev DEnv := List (Option D)
inductive Out (α : Type) where
  | ok (a : α)
  | ex (c : Str)
abbrev Res (α : Type) := Option (Out α × Sto)
abbrev Sm := DEnv → Sto → Res D
abbrev Smt := DEnv → Sto → Res Bool
abbrev Sma := DEnv → Sto → Res (List D)
structure GX where
  K : PySem.W.Frag
  cls : Str → Option Addr
  /-- is an error of the class c one of the class T -/
  isx : Str → Str → Option Bool
  tyv : Str → Option Value
structure MM where
  cells : List Addr
  vol : List Addr
  dead : List Addr
def MM.no (m : MM) (a : Addr) : Prop := (a ∈ m.cells → a ∈ m.dead) ∧ a ∉ m.vol
def MM.add (m : MM) (p : Addr) : MM := ⟨m.cells ++ [p], m.vol, m.dead⟩
def MM.fill (m : MM) (p : Addr) : MM := ⟨m.cells, p :: m.vol, m.dead⟩
def MM.take (m : MM) (k : Nat) : MM := ⟨m.cells.take k, m.vol, m.dead⟩
def SF (K : PySem.W.Frag) (H : Hp) (a : Addr) (xs : List V) : Prop :=
  (∃ o, H a = some (.frz o (.lst xs))) ∨ ∃ (o : Obj) (its : Array Value) (n : Nat), K.lookup a = some o ∧ o.cls = .type "list" ∧ o.dict = none ∧ o.data = .seq its n ∧ its.size ≤ sizeLine ∧ Vals xs its.toList
theorem SF.sq {K : PySem.W.Frag} {H : Hp} {a : Addr} {xs : List V} (h : SF K H a xs) : SqL K H a xs := by
  rcases h with ⟨o, h⟩ | h
  · exact .inl (.inr ⟨o, h⟩)
  · exact .inr h
def IsX (C a : Addr) : Heap → Prop := fun h => ∃ o vs, h.get? a = some o ∧ o.cls = .ref C ∧ o.data = .fields vs
mutual
inductive RD (g : GX) (m : MM) (H : Hp) : D → V → Prop
  | non : RD g m H .non .non
  | bl (b : Bool) : RD g m H (.bl b) (.bl b)
  | int (i : Int) : RD g m H (.int i) (.int i)
  | str (x : Str) : RD g m H (.str x) (.str x)
  | tup {a : Addr} {xs : List V} {ds : List D} : SqT g.K H a xs → RDs g m H ds xs → RD g m H (.tup ds) (.ref a)
  | lst {a : Addr} {xs : List V} {ds : List D} : H a = some (.lst xs) → m.no a → RDs g m H ds xs → RD g m H (.lst ds) (.ref a)
  | scr {a : Addr} {xs : List V} {ds : List D} : SF g.K H a xs → RDs g m H ds xs → RD g m H (.scr ds) (.ref a)
  | dic0 {a : Addr} : H a = some (.dK []) → m.no a → RD g m H .dic0 (.ref a)
  | dcs {a : Addr} {o : Obj} {ys : List (Key × V)} {ks : List Str} {ds : List D} : H a = some (.frz o (.dK ys)) → ys.map (·.1) = ks.map Sum.inr → RDs g m H ds (ys.map (·.2)) → RD g m H (.dcs ks ds) (.ref a)
  | ref {i : Nat} {a : Addr} : m.cells[i]? = some a → RD g m H (.ref i) (.ref a)
  | exc {c : Str} {a C : Addr} : g.cls c = some C → H a = some (.ext (IsX C a)) → RD g m H (.exc c) (.ref a)
inductive RDs (g : GX) (m : MM) (H : Hp) : List D → List V → Prop
  | nil : RDs g m H [] []
  | cons {d : D} {ds : List D} {v : V} {vs : List V} : RD g m H d v → RDs g m H ds vs → RDs g m H (d :: ds) (v :: vs)
end
structure Ext0 (m : MM) (H : Hp) (m' : MM) (H' : Hp) : Prop where
  pre : ∃ r, m'.cells = m.cells ++ r
  tup : ∀ b xs, H b = some (.tup xs) → H' b = some (.tup xs)
  frz : ∀ b o u, H b = some (.frz o u) → H' b = some (.frz o u)
  lst : ∀ b xs, H b = some (.lst xs) → m.no b → H' b = some (.lst xs) ∧ m'.no b
  dic : ∀ b kvs, H b = some (.dK kvs) → m.no b → H' b = some (.dK kvs) ∧ m'.no b
  ext : ∀ b φ, H b = some (.ext φ) → H' b = some (.ext φ)
structure Ext (m : MM) (H : Hp) (m' : MM) (H' : Hp) : Prop extends Ext0 m H m' H' where
  vols : m'.vol = m.vol
  kept : ∀ b xs, b ∈ m.vol → H b = some (.lst xs) → H' b = some (.lst xs)
theorem Ext.refl (m : MM) (H : Hp) : Ext m H m H :=
  ⟨⟨⟨[], by simp⟩, fun _ _ h => h, fun _ _ _ h => h, fun _ _ h n => ⟨h, n⟩, fun _ _ h n => ⟨h, n⟩, fun _ _ h => h⟩, rfl, fun _ _ _ h => h⟩
theorem Ext.trans {m m1 m2 : MM} {H H1 H2 : Hp} (a : Ext m H m1 H1) (b : Ext m1 H1 m2 H2) : Ext m H m2 H2 where
  pre := by
    obtain ⟨r, e⟩ := a.pre
    obtain ⟨r', e'⟩ := b.pre
    exact ⟨r ++ r', by rw [e', e, List.append_assoc]⟩
  vols := b.vols.trans a.vols
  tup := fun x xs h => b.tup x xs (a.tup x xs h)
  frz := fun x o u h => b.frz x o u (a.frz x o u h)
  lst := fun x xs h n => let ⟨h1, n1⟩ := a.lst x xs h n; b.lst x xs h1 n1
  dic := fun x kvs h n => let ⟨h1, n1⟩ := a.dic x kvs h n; b.dic x kvs h1 n1
  ext := fun x φ h => b.ext x φ (a.ext x φ h)
  kept := fun x xs hx h => b.kept x xs (by rw [a.vols]; exact hx) (a.kept x xs hx h)
theorem Ext0.at {m m' : MM} {H H' : Hp} (e : Ext0 m H m' H') {i : Nat} {a : Addr} (h : m.cells[i]? = some a) : m'.cells[i]? = some a := by
  obtain ⟨r, er⟩ := e.pre
  rw [er, List.getElem?_append_left (List.getElem?_eq_some_iff.mp h).1]
  exact h
theorem Ext0.sqT {K : PySem.W.Frag} {m m' : MM} {H H' : Hp} (e : Ext0 m H m' H') {a : Addr} {xs : List V} (h : SqT K H a xs) : SqT K H' a xs := by
  rcases h with (h | ⟨o, h⟩) | h
  · exact .inl (.inl (e.tup _ _ h))
  · exact .inl (.inr ⟨o, e.frz _ _ _ h⟩)
  · exact .inr h
theorem Ext0.sf {K : PySem.W.Frag} {m m' : MM} {H H' : Hp} (e : Ext0 m H m' H') {a : Addr} {xs : List V} (h : SF K H a xs) : SF K H' a xs := by
  rcases h with ⟨o, h⟩ | h
  · exact .inl ⟨o, e.frz _ _ _ h⟩
  · exact .inr h
mutual
theorem RD.ext0 {g : GX} {m m' : MM} {H H' : Hp} (e : Ext0 m H m' H') : ∀ {d : D} {v : V}, RD g m H d v → RD g m' H' d v
  | _, _, .non => .non
  | _, _, .bl b => .bl b
  | _, _, .int i => .int i
  | _, _, .str x => .str x
  | _, _, .tup h hs => .tup (e.sqT h) (RDs.ext0 e hs)
  | _, _, .lst h n hs => .lst (e.lst _ _ h n).1 (e.lst _ _ h n).2 (RDs.ext0 e hs)
  | _, _, .scr h hs => .scr (e.sf h) (RDs.ext0 e hs)
  | _, _, .dic0 h n => .dic0 (e.dic _ _ h n).1 (e.dic _ _ h n).2
  | _, _, .dcs h ek hs => .dcs (e.frz _ _ _ h) ek (RDs.ext0 e hs)
  | _, _, .ref h => .ref (e.at h)
  | _, _, .exc h1 h2 => .exc h1 (e.ext _ _ h2)
theorem RDs.ext0 {g : GX} {m m' : MM} {H H' : Hp} (e : Ext0 m H m' H') : ∀ {ds : List D} {vs : List V}, RDs g m H ds vs → RDs g m' H' ds vs
  | _, _, .nil => .nil
  | _, _, .cons h hs => .cons (RD.ext0 e h) (RDs.ext0 e hs)
end
theorem RD.ext {g : GX} {m m' : MM} {H H' : Hp} {d : D} {v : V} (e : Ext m H m' H') (r : RD g m H d v) : RD g m' H' d v := r.ext0 e.toExt0
theorem RDs.ext {g : GX} {m m' : MM} {H H' : Hp} {ds : List D} {vs : List V} (e : Ext m H m' H') (r : RDs g m H ds vs) : RDs g m' H' ds vs := r.ext0 e.toExt0
theorem Ext.sqT {K : PySem.W.Frag} {m m' : MM} {H H' : Hp} (e : Ext m H m' H') {a : Addr} {xs : List V} (h : SqT K H a xs) : SqT K H' a xs := e.toExt0.sqT h
theorem Ext.sf {K : PySem.W.Frag} {m m' : MM} {H H' : Hp} (e : Ext m H m' H') {a : Addr} {xs : List V} (h : SF K H a xs) : SF K H' a xs := e.toExt0.sf h
section
variable {g : GX} {m : MM} {H : Hp}
theorem RDs.length : ∀ {ds : List D} {vs : List V}, RDs g m H ds vs → ds.length = vs.length
  | _, _, .nil => rfl
  | _, _, .cons _ t => by simp [RDs.length t]
theorem RDs.get : ∀ {ds : List D} {vs : List V} {i : Nat} {d : D}, RDs g m H ds vs → ds[i]? = some d → ∃ v, vs[i]? = some v ∧ RD g m H d v
  | _, _, _, _, .nil, e => by simp at e
  | _, _, 0, _, .cons r _, e => by simp at e; subst e; exact ⟨_, rfl, r⟩
  | _, _, i + 1, d, .cons _ t, e => by
    obtain ⟨u, h1, h2⟩ := RDs.get (i := i) (d := d) t (by simpa using e)
    exact ⟨u, by simpa using h1, h2⟩
theorem RDs.get' : ∀ {ds : List D} {vs : List V} {i : Nat} {v : V}, RDs g m H ds vs → vs[i]? = some v → ∃ d, ds[i]? = some d ∧ RD g m H d v
  | _, _, _, _, .nil, e => by simp at e
  | _, _, 0, _, .cons r _, e => by simp at e; subst e; exact ⟨_, rfl, r⟩
  | _, _, i + 1, d, .cons _ t, e => by
    obtain ⟨u, h1, h2⟩ := RDs.get' (i := i) (v := d) t (by simpa using e)
    exact ⟨u, by simpa using h1, h2⟩
theorem RDs.append : ∀ {ds es : List D} {vs us : List V}, RDs g m H ds vs → RDs g m H es us → RDs g m H (ds ++ es) (vs ++ us)
  | _, _, _, _, .nil, s => s
  | _, _, _, _, .cons r t, s => .cons r (RDs.append t s)
theorem RDs.take : ∀ {ds : List D} {vs : List V} (n : Nat), RDs g m H ds vs → RDs g m H (ds.take n) (vs.take n)
  | _, _, 0, _ => .nil
  | _, _, _ + 1, .nil => .nil
  | _, _, n + 1, .cons r t => .cons r (RDs.take n t)
theorem RDs.drop : ∀ {ds : List D} {vs : List V} (n : Nat), RDs g m H ds vs → RDs g m H (ds.drop n) (vs.drop n)
  | _, _, 0, r => r
  | _, _, _ + 1, .nil => .nil
  | _, _, n + 1, .cons _ t => RDs.drop n t
theorem RDs.set {d : D} {v : V} (r : RD g m H d v) : ∀ {ds : List D} {vs : List V} (i : Nat), RDs g m H ds vs → RDs g m H (ds.set i d) (vs.set i v)
  | _, _, _, .nil => .nil
  | _, _, 0, .cons _ t => .cons r t
  | _, _, i + 1, .cons q t => .cons q (RDs.set r i t)
end
def CellAt' (g : GX) (m : MM) (H : Hp) (a : Addr) : Cell → Prop
  | .lst ds => ∃ xs, H a = some (.lst xs) ∧ RDs g m H ds xs
  | .dic kvs => ∃ ys : List (Key × V), H a = some (.dK ys) ∧ ys.map (·.1) = kvs.map (fun p => Sum.inl p.1) ∧ RDs g m H (kvs.map (·.2)) (ys.map (·.2))
  | .gone => ∃ xs, H a = some (.lst xs)
structure RS (g : GX) (m : MM) (H : Hp) (st : Sto) : Prop where
  len : m.cells.length = st.length
  nd : m.cells.Nodup
  «at» : ∀ (i : Nat) (c : Cell) (a : Addr), st[i]? = some c → m.cells[i]? = some a → CellAt' g m H a c
  vol : ∀ a ∈ m.vol, ∃ xs, H a = Option.some (.lst xs)
  disj : ∀ a ∈ m.cells, a ∉ m.vol
  lv : ∀ (i : Nat) (c : Cell) (a : Addr), st[i]? = Option.some c → m.cells[i]? = Option.some a → c ≠ .gone → a ∉ m.dead
  dd : ∀ a ∈ m.dead, a ∉ m.vol ∧ ∃ xs, H a = Option.some (.lst xs)
theorem RS.get {g : GX} {m : MM} {H : Hp} {st : Sto} (R : RS g m H st) {i : Nat} {c : Cell} (h : st[i]? = some c) : ∃ a, m.cells[i]? = some a ∧ CellAt' g m H a c := by
  have hi := (List.getElem?_eq_some_iff.mp h).1
  rw [← R.len] at hi
  exact ⟨m.cells[i], by simp [hi], R.at i c _ h (by simp [hi])⟩
theorem RS.some {g : GX} {m : MM} {H : Hp} {st : Sto} (R : RS g m H st) {a : Addr} (h : a ∈ m.cells) : (∃ xs, H a = some (.lst xs)) ∨ ∃ ys, H a = some (.dK ys) := by
  obtain ⟨i, hi, rfl⟩ := List.getElem_of_mem h
  have hs : i < st.length := by rw [← R.len]; exact hi
  have := R.at i st[i] m.cells[i] (by simp [hs]) (by simp [hi])
  cases e : st[i] with
  | lst ds => rw [e] at this; obtain ⟨xs, q, _⟩ := this; exact .inl ⟨xs, q⟩
  | dic kvs => rw [e] at this; obtain ⟨ys, q, _⟩ := this; exact .inr ⟨ys, q⟩
  | gone => rw [e] at this; obtain ⟨xs, q⟩ := this; exact .inl ⟨xs, q⟩
section
variable {g : GX} {m : MM} {H : Hp} {st : Sto} {p : Addr} {o : HO}
theorem upd_keep {b : Addr} {u : HO} (hp : H p = none) (h : H b = some u) : upd H p o b = some u := by rw [upd_ne (ne_of_none h hp)]; exact h
theorem Ext.new (hp : H p = none) : Ext m H m (upd H p o) :=
  ⟨⟨⟨[], by simp⟩, fun _ _ h => upd_keep hp h, fun _ _ _ h => upd_keep hp h, fun _ _ h n => ⟨upd_keep hp h, n⟩, fun _ _ h n => ⟨upd_keep hp h, n⟩, fun _ _ h => upd_keep hp h⟩, rfl, fun _ _ _ h => upd_keep hp h⟩
theorem RS.new (R : RS g m H st) (hp : H p = none) : RS g m (upd H p o) st :=
  ⟨R.len, R.nd, fun i c a h1 h2 => by
    have := R.at i c a h1 h2
    cases c with
    | lst ds => obtain ⟨xs, q, r⟩ := this; exact ⟨xs, upd_keep hp q, r.ext (.new hp)⟩
    | dic kvs => obtain ⟨ys, q, e, r⟩ := this; exact ⟨ys, upd_keep hp q, e, r.ext (.new hp)⟩
    | gone => obtain ⟨xs, q⟩ := this; exact ⟨xs, upd_keep hp q⟩, fun a ha => by
    obtain ⟨xs, q⟩ := R.vol a ha
    exact ⟨xs, upd_keep hp q⟩, R.disj, R.lv, fun a ha => ⟨(R.dd a ha).1, (R.dd a ha).2.imp fun xs q => upd_keep hp q⟩⟩
theorem RS.fresh (R : RS g m H st) (hp : H p = none) : p ∉ m.cells := fun h => by
  rcases R.some h with ⟨_, q⟩ | ⟨_, q⟩ <;> (rw [hp] at q; cases q)
theorem RS.undead (R : RS g m H st) (hp : H p = none) : p ∉ m.dead := fun h => by
  obtain ⟨_, _, q⟩ := R.dd p h; rw [hp] at q; cases q
theorem RS.none_not (R : RS g m H st) (hp : H p = none) : m.no p := by
  refine ⟨fun h => absurd h (R.fresh hp), fun h => ?_⟩
  · obtain ⟨_, q⟩ := R.vol p h; rw [hp] at q; cases q
theorem MM.no_add {a : Addr} (n : m.no a) (hp : a ≠ p) : (m.add p).no a := ⟨fun z => (List.mem_append.mp z).elim n.1 fun z => absurd (List.mem_singleton.mp z) hp, n.2⟩
theorem Ext.cell (hp : H p = none) : Ext m H (m.add p) (upd H p o) :=
  ⟨⟨⟨[p], rfl⟩, fun _ _ h => upd_keep hp h, fun _ _ _ h => upd_keep hp h, fun b _ h n => ⟨upd_keep hp h, MM.no_add n (ne_of_none h hp)⟩,
    fun b _ h n => ⟨upd_keep hp h, MM.no_add n (ne_of_none h hp)⟩, fun _ _ h => upd_keep hp h⟩, rfl, fun _ _ _ h => upd_keep hp h⟩
theorem nodup_snoc {l : List Addr} (h : l.Nodup) (hp : p ∉ l) : (l ++ [p]).Nodup := by
  rw [List.nodup_append]
  exact ⟨h, by simp, fun a ha b hb => by rw [List.mem_singleton.mp hb]; exact fun e => hp (e ▸ ha)⟩
theorem lv_snoc {c' c : Cell} {i : Nat} {a : Addr} (R : RS g m H st) (hp : H p = none) (h1 : (st ++ [c'])[i]? = Option.some c) (h2 : (m.add p).cells[i]? = Option.some a) (hc : c ≠ .gone) : a ∉ m.dead := by
  have h2 : (m.cells ++ [p])[i]? = Option.some a := h2
  by_cases hi : i < st.length
  · rw [List.getElem?_append_left hi] at h1
    rw [List.getElem?_append_left (by rw [R.len]; exact hi)] at h2
    exact R.lv i c a h1 h2 hc
  · rw [List.getElem?_append_right (by rw [R.len]; omega)] at h2
    have := List.mem_of_getElem? h2
    rw [List.mem_singleton.mp this]
    exact R.undead hp
theorem RS.cellL (R : RS g m H st) (hp : H p = none) {ds : List D} {xs : List V} (r : RDs g m H ds xs) : RS g (m.add p) (upd H p (.lst xs)) (st ++ [.lst ds]) := by
  refine ⟨by simp [MM.add, R.len], nodup_snoc R.nd (R.fresh hp), fun i c a h1 h2 => ?_, fun a ha => ?_, fun a ha hv => ?_, fun i c a h1 h2 hc => ?_, fun a ha => ⟨(R.dd a ha).1, (R.dd a ha).2.imp fun xs q => upd_keep hp q⟩⟩
  · by_cases hi : i < st.length
    · rw [List.getElem?_append_left hi] at h1
      have h2 : (m.cells ++ [p])[i]? = Option.some a := h2
      rw [List.getElem?_append_left (by rw [R.len]; exact hi)] at h2
      have := R.at i c a h1 h2
      cases c with
      | lst ds => obtain ⟨xs, q, r⟩ := this; exact ⟨xs, upd_keep hp q, r.ext (.cell hp)⟩
      | dic kvs => obtain ⟨ys, q, e, r⟩ := this; exact ⟨ys, upd_keep hp q, e, r.ext (.cell hp)⟩
      | gone => obtain ⟨xs, q⟩ := this; exact ⟨xs, upd_keep hp q⟩
    have hi2 : i = st.length := by
      have := (List.getElem?_eq_some_iff.mp h1).1
      simp at this; omega
    subst hi2
    simp at h1
    subst h1
    have h2 : (m.cells ++ [p])[st.length]? = Option.some a := h2
    rw [← R.len] at h2
    simp at h2
    subst h2
    exact ⟨xs, upd_same, r.ext (.cell hp)⟩
  · obtain ⟨ys, q⟩ := R.vol a ha
    exact ⟨ys, upd_keep hp q⟩
  · rcases List.mem_append.mp ha with ha | ha
    · exact R.disj a ha hv
    · rw [List.mem_singleton.mp ha] at hv; exact (R.none_not hp).2 hv
  · exact lv_snoc (m := m) (g := g) R hp h1 h2 hc
theorem Ext.put (R : RS g m H st) {i : Nat} {a : Addr} (ha : m.cells[i]? = Option.some a) (hl : a ∉ m.dead) : Ext m H m (upd H a o) := by
  have hm : a ∈ m.cells := List.mem_of_getElem? ha
  have hs := R.some hm
  have ne : ∀ b u, H b = Option.some u → (∀ xs, u ≠ .lst xs) → (∀ ys, u ≠ .dK ys) → upd H a o b = Option.some u := fun b u h n1 n2 => by
    rw [upd_ne]
    · exact h
    · rintro rfl
      rcases hs with ⟨_, q⟩ | ⟨_, q⟩
      · rw [h] at q; exact n1 _ (Option.some.inj q)
      · rw [h] at q; exact n2 _ (Option.some.inj q)
  refine ⟨⟨⟨[], by simp⟩, fun b xs h => ne b _ h (fun _ z => nomatch z) (fun _ z => nomatch z), fun b o u h => ne b _ h (fun _ z => nomatch z) (fun _ z => nomatch z), fun b xs h n => ⟨?_, n⟩, fun b xs h n => ⟨?_, n⟩, fun b φ h => ne b _ h (fun _ z => nomatch z) (fun _ z => nomatch z)⟩, rfl, fun b xs hv h => ?_⟩
  · rw [upd_ne (fun (e : b = a) => hl (by rw [← e]; exact n.1 (by rw [e]; exact hm)))]; exact h
  · rw [upd_ne (fun (e : b = a) => hl (by rw [← e]; exact n.1 (by rw [e]; exact hm)))]; exact h
  · rw [upd_ne (fun (e : b = a) => R.disj a hm (by rw [← e]; exact hv))]; exact h
theorem RS.putC (R : RS g m H st) {i : Nat} {a : Addr} (ha : m.cells[i]? = Option.some a) (hl : a ∉ m.dead) {c' : Cell} (hc : CellAt' g m (upd H a o) a c') : RS g m (upd H a o) (st.set i c') := by
  have E := Ext.put (o := o) R ha hl
  refine ⟨by simp [R.len], R.nd, fun j c b h1 h2 => ?_, fun b hb => ?_, R.disj, fun j c b h1 h2 h3 => ?_, fun b hb => ⟨(R.dd b hb).1, (R.dd b hb).2.imp fun ys q => (E.lst b ys q ⟨fun _ => hb, (R.dd b hb).1⟩).1⟩⟩
  rotate_left
  · obtain ⟨ys, q⟩ := R.vol b hb
    exact ⟨ys, E.kept b ys hb q⟩
  · by_cases hj : j = i
    · subst hj; rw [ha] at h2; cases h2; exact hl
    · rw [List.getElem?_set_ne (Ne.symm hj)] at h1; exact R.lv j c b h1 h2 h3
  by_cases hj : j = i
  · subst hj
    rw [ha] at h2
    cases h2
    have hl : j < st.length := by rw [← R.len]; exact (List.getElem?_eq_some_iff.mp ha).1
    rw [List.getElem?_set_self hl] at h1
    cases h1
    exact hc
  · rw [List.getElem?_set_ne (Ne.symm hj)] at h1
    have := R.at j c b h1 h2
    have hb : b ≠ a := by
      rintro rfl
      obtain ⟨l1, e1⟩ := List.getElem?_eq_some_iff.mp h2
      obtain ⟨l2, e2⟩ := List.getElem?_eq_some_iff.mp ha
      exact hj ((List.getElem_inj R.nd).mp (e1.trans e2.symm))
    cases c with
    | lst ds => obtain ⟨xs, q, r⟩ := this; exact ⟨xs, by rw [upd_ne hb]; exact q, r.ext E⟩
    | dic kvs => obtain ⟨ys, q, e, r⟩ := this; exact ⟨ys, by rw [upd_ne hb]; exact q, e, r.ext E⟩
    | gone => obtain ⟨xs, q⟩ := this; exact ⟨xs, by rw [upd_ne hb]; exact q⟩
theorem RS.putL (R : RS g m H st) {i : Nat} {a : Addr} (ha : m.cells[i]? = Option.some a) (hl : a ∉ m.dead) {ds : List D} {xs : List V} (r : RDs g m H ds xs) : RS g m (upd H a (.lst xs)) (st.set i (.lst ds)) :=
  R.putC ha hl ⟨xs, upd_same, r.ext (Ext.put R ha hl)⟩
theorem Ext.freeze (a : Addr) : Ext m H ⟨m.cells, m.vol, a :: m.dead⟩ H :=
  ⟨⟨⟨[], by simp⟩, fun _ _ h => h, fun _ _ _ h => h, fun _ _ h n => ⟨h, fun z => List.mem_cons_of_mem _ (n.1 z), n.2⟩, fun _ _ h n => ⟨h, fun z => List.mem_cons_of_mem _ (n.1 z), n.2⟩, fun _ _ h => h⟩, rfl, fun _ _ _ h => h⟩
theorem RS.freeze (R : RS g m H st) {i : Nat} {a : Addr} (ha : m.cells[i]? = Option.some a) {ds : List D} (hs : st[i]? = Option.some (.lst ds)) :
    RS g ⟨m.cells, m.vol, a :: m.dead⟩ H (st.set i .gone) ∧ ∃ xs, H a = Option.some (.lst xs) ∧ RDs g m H ds xs ∧ MM.no ⟨m.cells, m.vol, a :: m.dead⟩ a := by
  obtain ⟨xs, q, r⟩ := R.at i _ a hs ha
  have hv := R.disj a (List.mem_of_getElem? ha)
  have hne : ∀ j b, j ≠ i → m.cells[j]? = Option.some b → b ≠ a := by
    rintro j b hj h2 rfl
    obtain ⟨l1, e1⟩ := List.getElem?_eq_some_iff.mp h2
    obtain ⟨l2, e2⟩ := List.getElem?_eq_some_iff.mp ha
    exact hj ((List.getElem_inj R.nd).mp (e1.trans e2.symm))
  refine ⟨⟨by simp [R.len], R.nd, fun j c b h1 h2 => ?_, R.vol, R.disj, fun j c b h1 h2 h3 => ?_, fun b hb => ?_⟩, xs, q, r, fun _ => List.mem_cons_self .., hv⟩
  · by_cases hj : j = i
    · subst hj
      have h2 : m.cells[j]? = Option.some b := h2
      rw [ha] at h2
      cases h2
      have hl : j < st.length := (List.getElem?_eq_some_iff.mp hs).1
      rw [List.getElem?_set_self hl] at h1
      cases h1
      exact ⟨xs, q⟩
    · rw [List.getElem?_set_ne (Ne.symm hj)] at h1
      have := R.at j c b h1 h2
      cases c with
      | lst ds => obtain ⟨xs, q, r⟩ := this; exact ⟨xs, q, r.ext (.freeze a)⟩
      | dic kvs => obtain ⟨ys, q, e, r⟩ := this; exact ⟨ys, q, e, r.ext (.freeze a)⟩
      | gone => exact this
  · by_cases hj : j = i
    · subst hj
      rw [List.getElem?_set_self (List.getElem?_eq_some_iff.mp hs).1] at h1
      cases h1
      exact absurd rfl h3
    · rw [List.getElem?_set_ne (Ne.symm hj)] at h1
      intro z
      rcases List.mem_cons.mp z with z | z
      · exact hne j b hj h2 z
      · exact R.lv j c b h1 h2 h3 z
  · rcases List.mem_cons.mp hb with rfl | hb
    · exact ⟨hv, xs, q⟩
    · exact R.dd b hb
end
structure RE (g : GX) (m : MM) (H : Hp) (env : DEnv) (σ : L2.St) : Prop where
  len : env.length = σ.length
  get : ∀ (i : Nat) (d : D), env[i]? = some (some d) → ∃ v, σ[i]? = some (some v) ∧ RD g m H d v
theorem RE.ext {g : GX} {m m' : MM} {H H' : Hp} {env : DEnv} {σ : L2.St} (h : RE g m H env σ) (e : Ext m H m' H') : RE g m' H' env σ := ⟨h.len, fun i d q =>
  let ⟨v, h1, h2⟩ := h.get i d q; ⟨v, h1, h2.ext e⟩⟩
theorem RE.set {g : GX} {m : MM} {H : Hp} {env : DEnv} {σ : L2.St} (h : RE g m H env σ) {d : D} {v : V} (r : RD g m H d v) (i : Nat) : RE g m H (env.set i (some d)) (σ.set i (some v)) := by
  refine ⟨by simp [h.len], fun j e q => ?_⟩
  by_cases hj : j = i
  · subst hj
    by_cases hl : j < env.length
    · rw [List.getElem?_set_self hl] at q
      cases q
      exact ⟨v, by rw [List.getElem?_set_self (by rw [← h.len]; exact hl)], r⟩
    · rw [List.getElem?_eq_none (by simpa using hl)] at q; cases q
  · rw [List.getElem?_set_ne (Ne.symm hj)] at q
    obtain ⟨w, h1, h2⟩ := h.get j e q
    exact ⟨w, by rw [List.getElem?_set_ne (Ne.symm hj)]; exact h1, h2⟩
def RI {α : Type} (g : GX) (EX : XK) (m : MM) (H : Hp) (o : Res α) (Q : α → MM → Hp → Sto → Prop) : Prop :=
  match o with
  | none => False
  | some (.ok d, st') => ∀ m' H', Ext m H m' H' → RS g m' H' st' → Q d m' H' st'
  | some (.ex c, st') => ∀ m' H' C, Ext m H m' H' → RS g m' H' st' → g.cls c = some C → EX (.ref C) none H'
def tI (g : GX) (EX : XK) (f : Sm) : TE := fun σ H Q => ∃ env m st, RE g m H env σ ∧ RS g m H st ∧ RI g EX m H (f env st) fun d m' H' _ => ∀ v, RD g m' H' d v → Q v H'
def tIt (g : GX) (EX : XK) (f : Smt) : TT := fun σ H Q => ∃ env m st, RE g m H env σ ∧ RS g m H st ∧ RI g EX m H (f env st) fun d _ H' _ => Q d H'
def tIa (g : GX) (EX : XK) (f : Sma) : TA := fun σ H Q => ∃ env m st, RE g m H env σ ∧ RS g m H st ∧ RI g EX m H (f env st) fun ds m' H' _ => ∀ vs, RDs g m' H' ds vs → Q vs H'
def bnd {α β : Type} (f : DEnv → Sto → Res α) (k : α → DEnv → Sto → Res β) : DEnv → Sto → Res β := fun env st =>
  match f env st with
  | none => none
  | some (.ok d, st') => k d env st'
  | some (.ex c, st') => some (.ex c, st')
def ret {α : Type} (d : α) : DEnv → Sto → Res α := fun _ st => some (.ok d, st)
def lift {α : Type} (o : Option α) : DEnv → Sto → Res α := fun _ st => o.map fun d => (.ok d, st)
theorem RI.bnd {α β : Type} {g : GX} {EX : XK} {m : MM} {H : Hp} {f : DEnv → Sto → Res α} {k : α → DEnv → Sto → Res β} {env : DEnv} {st : Sto} {Q : β → MM → Hp → Sto → Prop}
    (h : RI g EX m H (I2.bnd f k env st) Q) : RI g EX m H (f env st) fun d m1 H1 st1 => RI g EX m1 H1 (k d env st1) fun b m2 H2 st2 => Q b m2 H2 st2 := by
  unfold I2.bnd at h
  cases e : f env st with
  | none => rw [e] at h; exact h
  | some r =>
    obtain ⟨o, st1⟩ := r
    rw [e] at h
    cases o with
    | ex c => exact h
    | ok d =>
      intro m1 H1 E1 R1
      dsimp only at h
      cases e2 : k d env st1 with
      | none => rw [e2] at h; exact h
      | some r2 =>
        obtain ⟨o2, st2⟩ := r2
        rw [e2] at h
        cases o2 with
        | ex c => exact fun m2 H2 C E2 R2 hc => h m2 H2 C (E1.trans E2) R2 hc
        | ok b => exact fun m2 H2 E2 R2 => h m2 H2 (E1.trans E2) R2
theorem RI.mono {α : Type} {g : GX} {EX : XK} {m : MM} {H : Hp} {o : Res α} {Q Q' : α → MM → Hp → Sto → Prop} (h : RI g EX m H o Q) (hq : ∀ d m' H' st', Ext m H m' H' → RS g m' H' st' → Q d m' H' st' → Q' d m' H' st') : RI g EX m H o Q' := by
  cases o with
  | none => exact h
  | some r =>
    obtain ⟨o, st⟩ := r
    cases o with
    | ex c => exact h
    | ok d => exact fun m' H' E R => hq d m' H' st E R (h m' H' E R)
theorem RI.ret {α : Type} {g : GX} {EX : XK} {m : MM} {H : Hp} {d : α} {env : DEnv} {st : Sto} {Q : α → MM → Hp → Sto → Prop} (h : RI g EX m H (I2.ret d env st) Q) (R : RS g m H st) : Q d m H st := h m H (.refl _ _) R
theorem RI.lift {α : Type} {g : GX} {EX : XK} {m : MM} {H : Hp} {o : Option α} {env : DEnv} {st : Sto} {Q : α → MM → Hp → Sto → Prop} (h : RI g EX m H (I2.lift o env st) Q) : ∃ d, o = some d ∧ ∀ m' H', Ext m H m' H' → RS g m' H' st → Q d m' H' st := by
  cases o with
  | none => exact h.elim
  | some d => exact ⟨d, rfl, h⟩
end I2
set_option Elab.async false
set_option linter.all false
set_option maxRecDepth 100000
set_option maxHeartbeats 4000000
namespace I2
open PySem PySem.Spec PyProof.Rows L2
section
variable {X : Cx} {g : GX} {EX : XK} {a b c : Expr} {pos : Pos} {f h k : Sm}
theorem PE.mono {e : Expr} {t t' : TE} (p : PE X e t) (hm : ∀ σ H Q, t' σ H Q → t σ H Q) : PE X e t' := fun pins s σ H Q I q => p pins s σ H Q I (hm σ H Q q)
theorem PT.mono {e : Expr} {t t' : TT} (p : PT X e t) (hm : ∀ σ H Q, t' σ H Q → t σ H Q) : PT X e t' := fun pins s σ H Q I q => p pins s σ H Q I (hm σ H Q q)
theorem PW.mono {e : Expr} {t t' : TT} (p : PW X e t) (hm : ∀ σ H Q, t' σ H Q → t σ H Q) : PW X e t' := fun wh pins s σ H Q I q => p wh pins s σ H Q I (hm σ H Q q)
theorem PA.mono {es : List Expr} {t t' : TA} (p : PA X es t) (hm : ∀ σ H Q, t' σ H Q → t σ H Q) : PA X es t' := fun po pins s σ H Q I q => p po pins s σ H Q I (hm σ H Q q)
def sVar (i : Nat) : Sm := fun env st => match env[i]? with
  | some (some d) => some (.ok d, st)
  | _ => none
theorem i_var (i : Nat) {x : Str} (p : PE X (.Name x pos) (tVar i)) : PE X (.Name x pos) (tI g EX (sVar i)) := PE.mono p fun σ H Q ⟨env, m, st, re, R, q⟩ => by
  unfold sVar at q
  cases e : env[i]? with
  | none => rw [e] at q; exact q.elim
  | some o =>
    cases o with
    | none => rw [e] at q; exact q.elim
    | some d =>
      rw [e] at q
      obtain ⟨v, h1, h2⟩ := re.get i d e
      exact ⟨v, h1, q m H (.refl _ _) R v h2⟩
def sC (d : D) : Sm := ret d
theorem i_con {d : D} {v : V} {e : Expr} (p : PE X e (tC v)) (hr : ∀ m H, RD g m H d v) : PE X e (tI g EX (sC d)) := PE.mono p fun σ H Q ⟨env, m, st, re, R, q⟩ => q m H (.refl _ _) R v (hr m H)
theorem i_int {i : Int} {j : Nat} : PE X (.Constant (.int i) j pos) (tI g EX (sC (.int i))) := i_con pe_int fun _ _ => .int i
theorem i_bl {i : Bool} {j : Nat} : PE X (.Constant (.bool i) j pos) (tI g EX (sC (.bl i))) := i_con pe_bl fun _ _ => .bl i
theorem i_non {j : Nat} : PE X (.Constant .none j pos) (tI g EX (sC .non)) := i_con pe_non fun _ _ => .non
theorem i_str {x : Str} {j : Nat} : PE X (.Constant (.str x) j pos) (tI g EX (sC (.str x))) := i_con pe_str fun _ _ => .str x
def s2 (op : D → D → Option D) (f h : Sm) : Sm := bnd f fun x => bnd h fun y => lift (op x y)
def s1 (op : D → Option D) (f : Sm) : Sm := bnd f fun x => lift (op x)
def rD (g : GX) (op : D → D → Option D) : R2 := fun x y H Q => ∃ m st dx dy d, RS g m H st ∧ RD g m H dx x ∧ RD g m H dy y ∧ op dx dy = some d ∧ ∀ v m' H', Ext m H m' H' → RS g m' H' st → RD g m' H' d v → Q v H'
theorem tOp_of {op : D → D → Option D} {σ : L2.St} {H : Hp} {Q : VK} (q : tI g EX (s2 op f h) σ H Q) : tOp (rD g op) (tI g EX f) (tI g EX h) σ H Q := by
  obtain ⟨env, m, st, re, R, q⟩ := q
  refine ⟨env, m, st, re, R, q.bnd.mono fun d1 m1 H1 st1 E1 R1 q v1 r1 => ?_⟩
  refine ⟨env, m1, st1, re.ext E1, R1, q.bnd.mono fun d2 m2 H2 st2 E2 R2 q2 v2 r2 => ?_⟩
  obtain ⟨d, e, q3⟩ := q2.lift
  exact ⟨m2, st2, d1, d2, d, R2, r1.ext E2, r2, e, fun v m' H' E R r => q3 m' H' E R v r⟩
theorem i_bin {op : Operator} {o : D → D → Option D} (ho : OpR X (binaryOp op) (rD g o)) (ha : PE X a (tI g EX f)) (hb : PE X b (tI g EX h)) : PE X (.BinOp a op b pos) (tI g EX (s2 o f h)) := PE.mono (pe_op ho ha hb) fun _ _ _ => tOp_of
theorem i_cmp {op : CmpOp} {o : D → D → Option D} (ho : OpR X (compareOp op) (rD g o)) (ha : PE X a (tI g EX f)) (hb : PE X b (tI g EX h)) (hm : behindInMarks op b = false) : PE X (.Compare a [op] [b] pos) (tI g EX (s2 o f h)) := PE.mono (pe_cmpR ho ha hb hm) fun _ _ _ => tOp_of
def isB : D → Option Bool
  | .bl b => some b
  | _ => none
theorem RD.isB {m : MM} {H : Hp} {d : D} {v : V} {b : Bool} (r : RD g m H d v) (e : I2.isB d = some b) : v = .bl b := by
  cases r <;> simp [I2.isB] at e
  subst e; rfl
def sTest (f : Sm) : Smt := bnd f fun d => lift (isB d)
theorem i_cmpT {op : CmpOp} {o : D → D → Option D} (ho : OpR X (compareOp op) (rD g o)) (ha : PE X a (tI g EX f)) (hb : PE X b (tI g EX h)) (hm : behindInMarks op b = false) : PT X (.Compare a [op] [b] pos) (tIt g EX (sTest (s2 o f h))) :=
  PT.mono (pt_cmpR ho ha hb hm) fun σ H Q ⟨env, m, st, re, R, q⟩ => by
    refine tOp_of ⟨env, m, st, re, R, q.bnd.mono fun d1 m1 H1 st1 E1 R1 q v1 r1 => ?_⟩
    obtain ⟨d, e, q3⟩ := q.lift
    exact ⟨d, r1.isB e, q3 m1 H1 (.refl _ _) R1⟩
def sChain (o o' : D → D → Option D) (f h k : Sm) : Sm := bnd f fun x => bnd h fun y => bnd (lift ((o x y).bind isB)) fun t => if t = true then bnd k fun z => lift (o' y z) else ret (.bl false)
theorem tChain_of {o o' : D → D → Option D} {σ : L2.St} {H : Hp} {Q : VK} (q : tI g EX (sChain o o' f h k) σ H Q) : tChain (rD g o) (rD g o') (tI g EX f) (tI g EX h) (tI g EX k) σ H Q := by
  obtain ⟨env, m, st, re, R, q⟩ := q
  refine ⟨env, m, st, re, R, q.bnd.mono fun d1 m1 H1 st1 E1 R1 q v1 r1 => ?_⟩
  refine ⟨env, m1, st1, re.ext E1, R1, q.bnd.mono fun d2 m2 H2 st2 E2 R2 q v2 r2 => ?_⟩
  obtain ⟨t, e, q⟩ := q.bnd.lift
  cases e1 : o d1 d2 with
  | none => rw [e1] at e; cases e
  | some d =>
    rw [e1] at e
    refine ⟨m2, st2, d1, d2, d, R2, r1.ext E2, r2, e1, fun v m3 H3 E3 R3 r3 => ⟨t, r3.isB e, ?_⟩⟩
    have q := q m3 H3 E3 R3
    cases t with
    | false => exact iteF (q m3 H3 (.refl _ _) R3 _ (.bl false))
    | true =>
      refine iteT ⟨env, m3, st2, ((re.ext E1).ext E2).ext E3, R3, q.bnd.mono fun d4 m4 H4 st4 E4 R4 q v4 r4 => ?_⟩
      obtain ⟨d', e', q⟩ := q.lift
      exact ⟨m4, st4, d2, d4, d', R4, (r2.ext E3).ext E4, r4, e', fun v m' H' E R r => q m' H' E R v r⟩
theorem i_chainT {op op' : CmpOp} {o o' : D → D → Option D} (ho : OpR X (compareOp op) (rD g o)) (ho' : OpR X (compareOp op') (rD g o')) (ha : PE X a (tI g EX f)) (hb : PE X b (tI g EX h)) (hc : PE X c (tI g EX k))
    (hm : lastMarks [op, op'] [b, c] = false := by with_unfolding_all rfl) : PT X (.Compare a [op, op'] [b, c] pos) (tIt g EX (sTest (sChain o o' f h k))) :=
  PT.mono (pt_chain ho ho' ha hb hc hm) fun σ H Q ⟨env, m, st, re, R, q⟩ => by
    refine tChain_of ⟨env, m, st, re, R, q.bnd.mono fun d1 m1 H1 st1 E1 R1 q v1 r1 => ?_⟩
    obtain ⟨d, e, q3⟩ := q.lift
    exact ⟨d, r1.isB e, q3 m1 H1 (.refl _ _) R1⟩
def truth : D → Option Bool
  | .non => some false
  | .bl b => some b
  | .int i => some (i != 0)
  | .str x => if x.length ≤ sizeLine then some ((x.length : Int) != 0) else none
  | .tup ds => some (!ds.isEmpty)
  | .lst ds => some (!ds.isEmpty)
  | .dic0 => some false
  | _ => none
def sTru (f : Sm) : Smt := bnd f fun d => lift (truth d)
theorem RDs.empty {m : MM} {H : Hp} {ds : List D} {vs : List V} (r : RDs g m H ds vs) : ds.isEmpty = vs.isEmpty := by cases r <;> rfl
theorem i_tru (hK : X.K = g.K) (ha : PE X a (tI g EX f)) (he : ∀ whole, isTrue a X.env whole = (do let v ← whole; standAt a.pos; holding [v] (truthy v)) := by intro _; rfl) : PT X a (tIt g EX (sTru f)) :=
  PT.mono (pt_truth ha he) fun σ H Q ⟨env, m, st, re, R, q⟩ => by
    refine ⟨env, m, st, re, R, q.bnd.mono fun d1 m1 H1 st1 E1 R1 q v1 r1 => ?_⟩
    obtain ⟨d, e, q3⟩ := q.lift
    refine ⟨d, ?_, q3 m1 H1 (.refl _ _) R1⟩
    rw [hK]
    cases r1 with
    | non => simp only [truth] at e; show d = false; exact (Option.some.inj e).symm
    | bl b => simp only [truth] at e; show d = b; exact (Option.some.inj e).symm
    | int i => simp only [truth] at e; show d = (i != 0); exact (Option.some.inj e).symm
    | str x =>
      simp only [truth] at e
      split at e
      · rename_i hx; exact ⟨hx, (Option.some.inj e).symm⟩
      · cases e
    | tup hs hr => simp only [truth] at e; exact .inr (.inl ⟨_, hs, by rw [← hr.empty]; exact (Option.some.inj e).symm⟩)
    | lst hs hn hr => simp only [truth] at e; exact .inl ⟨_, .of hs, by rw [← hr.empty]; exact (Option.some.inj e).symm⟩
    | scr hs hr => simp [truth] at e
    | dic0 hs hn => simp only [truth] at e; exact .inr (.inr ⟨_, hs, (Option.some.inj e).symm⟩)
    | dcs _ _ _ => simp [truth] at e
    | ref _ => simp [truth] at e
    | exc _ _ => simp [truth] at e
variable {t u : Smt} {rest : List Expr}
def tNotI (t : Smt) : Smt := bnd t fun b => ret (!b)
def tAndI (t u : Smt) : Smt := bnd t fun b => if b = true then u else ret false
def tOrI (t u : Smt) : Smt := bnd t fun b => if b = true then ret true else u
theorem it_not (ha : PT X a (tIt g EX t)) : PT X (.UnaryOp .Not a pos) (tIt g EX (tNotI t)) := PT.mono (pt_not ha) fun σ H Q ⟨env, m, st, re, R, q⟩ =>
  ⟨env, m, st, re, R, q.bnd.mono fun b m1 H1 st1 E1 R1 q => q.ret R1⟩
theorem it_one (ha : PT X a (tIt g EX t)) : PW X (.BoolOp .And [a] pos) (tIt g EX t) := pw_and1 ha
theorem it_oneO (ha : PT X a (tIt g EX t)) : PW X (.BoolOp .Or [a] pos) (tIt g EX t) := pw_or1 ha
theorem it_and (ha : PT X a (tIt g EX t)) (hb : PW X (.BoolOp .And (b :: rest) pos) (tIt g EX u)) : PW X (.BoolOp .And (a :: b :: rest) pos) (tIt g EX (tAndI t u)) := PW.mono (pw_and ha hb) fun σ H Q ⟨env, m, st, re, R, q⟩ => by
  refine ⟨env, m, st, re, R, q.bnd.mono fun b m1 H1 st1 E1 R1 q => ?_⟩
  cases b with
  | true => exact iteT ⟨env, m1, st1, re.ext E1, R1, q⟩
  | false => exact iteF (RI.ret (env := env) q R1)
theorem it_or (ha : PT X a (tIt g EX t)) (hb : PW X (.BoolOp .Or (b :: rest) pos) (tIt g EX u)) : PW X (.BoolOp .Or (a :: b :: rest) pos) (tIt g EX (tOrI t u)) := PW.mono (pw_or ha hb) fun σ H Q ⟨env, m, st, re, R, q⟩ => by
  refine ⟨env, m, st, re, R, q.bnd.mono fun b m1 H1 st1 E1 R1 q => ?_⟩
  cases b with
  | false => exact iteF ⟨env, m1, st1, re.ext E1, R1, q⟩
  | true => exact iteT (RI.ret (env := env) q R1)
def sNotV (f : Sm) : Sm := bnd f fun d => bnd (lift (isB d)) fun b => ret (.bl (!b))
def sAndV (f h : Sm) : Sm := bnd f fun d => bnd (lift (isB d)) fun b => if b = true then h else ret (.bl false)
def sOrV (f h : Sm) : Sm := bnd f fun d => bnd (lift (isB d)) fun b => if b = true then ret (.bl true) else h
theorem i_one {op : BoolOp} (ha : PE X a (tI g EX f)) : PE X (.BoolOp op [a] pos) (tI g EX f) := pe_one ha
theorem i_not (ha : PE X a (tI g EX f)) : PE X (.UnaryOp .Not a pos) (tI g EX (sNotV f)) := PE.mono (pe_not ha) fun σ H Q ⟨env, m, st, re, R, q⟩ => by
  refine ⟨env, m, st, re, R, q.bnd.mono fun d m1 H1 st1 E1 R1 q v r => ?_⟩
  obtain ⟨b, e, q⟩ := q.bnd.lift
  exact ⟨b, r.isB e, (q m1 H1 (.refl _ _) R1).ret R1 _ (.bl _)⟩
theorem i_and (ha : PE X a (tI g EX f)) (hb : PE X (.BoolOp .And (b :: rest) pos) (tI g EX h)) : PE X (.BoolOp .And (a :: b :: rest) pos) (tI g EX (sAndV f h)) := PE.mono (pe_and ha hb) fun σ H Q ⟨env, m, st, re, R, q⟩ => by
  refine ⟨env, m, st, re, R, q.bnd.mono fun d m1 H1 st1 E1 R1 q v r => ?_⟩
  obtain ⟨b, e, q⟩ := q.bnd.lift
  refine ⟨b, r.isB e, ?_⟩
  have q := q m1 H1 (.refl _ _) R1
  cases b with
  | true => exact iteT ⟨env, m1, st1, re.ext E1, R1, q⟩
  | false => exact iteF (RI.ret (env := env) q R1 _ (.bl _))
def sIfE (t : Smt) (f h : Sm) : Sm := bnd t fun b => if b = true then f else h
theorem i_if (hc : PT X c (tIt g EX t)) (ha : PE X a (tI g EX f)) (hb : PE X b (tI g EX h)) : PE X (.IfExp c a b pos) (tI g EX (sIfE t f h)) := PE.mono (pe_ifExp hc ha hb) fun σ H Q ⟨env, m, st, re, R, q⟩ => by
  refine ⟨env, m, st, re, R, q.bnd.mono fun b m1 H1 st1 E1 R1 q => ?_⟩
  cases b with
  | true => exact iteT ⟨env, m1, st1, re.ext E1, R1, q⟩
  | false => exact iteF ⟨env, m1, st1, re.ext E1, R1, q⟩
variable {e : Expr} {es : List Expr} {fs : Sma}
def sNil : Sma := ret []
def sCons (f : Sm) (fs : Sma) : Sma := bnd f fun d => bnd fs fun ds => ret (d :: ds)
theorem ia_nil : PA X [] (tIa g EX sNil) := PA.mono pa_nil fun σ H Q ⟨env, m, st, re, R, q⟩ => q.ret R _ .nil
theorem ia_cons (ha : PE X e (tI g EX f)) (hr : PA X es (tIa g EX fs)) (hs : starEach (e :: es) X.env = (false, eval e X.env) :: starEach es X.env := by rfl) : PA X (e :: es) (tIa g EX (sCons f fs)) :=
  PA.mono (pa_cons ha hr hs) fun σ H Q ⟨env, m, st, re, R, q⟩ =>
    ⟨env, m, st, re, R, q.bnd.mono fun d m1 H1 st1 E1 R1 q v r => ⟨env, m1, st1, re.ext E1, R1, q.bnd.mono fun ds m2 H2 st2 E2 R2 q vs rs => q.ret R2 _ (.cons (r.ext E2) rs)⟩⟩
def small {α : Type} (xs : List α) : Bool := decide (xs.length ≤ sizeLine)
def sTup (fs : Sma) : Sm := bnd fs fun ds => lift (if small ds then some (.tup ds) else none)
def sLst (fs : Sma) : Sm := bnd fs fun ds => lift (if small ds then some (.lst ds) else none)
theorem small_of {α : Type} {xs : List α} {d d' : D} (e : (if small xs then some d else none) = some d') : xs.length ≤ sizeLine ∧ d = d' := by
  split at e
  · rename_i h; exact ⟨of_decide_eq_true h, Option.some.inj e⟩
  · cases e
theorem RD.newT {m : MM} {H : Hp} {p : Addr} {ds : List D} {vs : List V} (r : RDs g m H ds vs) (hp : H p = none) : RD g m (upd H p (.tup vs)) (.tup ds) (.ref p) := .tup (.of upd_same) (r.ext (.new hp))
theorem RD.newL {m : MM} {H : Hp} {p : Addr} {st : Sto} {ds : List D} {vs : List V} (R : RS g m H st) (r : RDs g m H ds vs) (hp : H p = none) : RD g m (upd H p (.lst vs)) (.lst ds) (.ref p) := .lst upd_same (R.none_not hp) (r.ext (.new hp))
theorem i_tup {k : Nat} (p : PA X es (tIa g EX fs)) : PE X (.Tuple es k pos) (tI g EX (sTup fs)) := PE.mono (pe_tup p) fun σ H Q ⟨env, m, st, re, R, q⟩ =>
  ⟨env, m, st, re, R, q.bnd.mono fun ds m1 H1 st1 E1 R1 q vs r => by
    obtain ⟨d, e, q⟩ := q.lift
    obtain ⟨hz, rfl⟩ := small_of e
    exact ⟨by rw [← r.length]; exact hz, fun p hp => q m1 _ (.new hp) (R1.new hp) _ (.newT r hp)⟩⟩
theorem i_lst (p : PA X es (tIa g EX fs)) : PE X (.List es pos) (tI g EX (sLst fs)) := PE.mono (pe_lst p) fun σ H Q ⟨env, m, st, re, R, q⟩ =>
  ⟨env, m, st, re, R, q.bnd.mono fun ds m1 H1 st1 E1 R1 q vs r => by
    obtain ⟨d, e, q⟩ := q.lift
    obtain ⟨hz, rfl⟩ := small_of e
    exact ⟨by rw [← r.length]; exact hz, fun p hp => q m1 _ (.new hp) (R1.new hp) _ (.newL R1 r hp)⟩⟩
def sLstM (fs : Sma) : Sm := bnd fs fun ds => fun _ st => if small ds then some (.ok (.ref st.length), st ++ [.lst ds]) else none
theorem i_lstM (p : PA X es (tIa g EX fs)) : PE X (.List es pos) (tI g EX (sLstM fs)) := PE.mono (pe_lst p) fun σ H Q ⟨env, m, st, re, R, q⟩ =>
  ⟨env, m, st, re, R, q.bnd.mono fun ds m1 H1 st1 E1 R1 q vs r => by
    by_cases hz : small ds = true
    · rw [if_pos hz] at q
      refine ⟨by rw [← r.length]; exact of_decide_eq_true hz, fun p hp => q (m1.add p) _ (.cell hp) (R1.cellL hp r) _ (.ref ?_)⟩
      rw [← R1.len]; simp [MM.add]
    · rw [if_neg hz] at q; exact q.elim⟩
def spF (g : GX) (n : Nat) (F : List D → Sto → Res D) : Sp := fun vs H Q E => ∃ ds m st, ds.length = n ∧ RDs g m H ds vs ∧ RS g m H st ∧ RI g E m H (F ds st) fun d m' H' _ => ∀ v, RD g m' H' d v → Q v H'
def sCall (n : Nat) (F : List D → Sto → Res D) (fs : Sma) : Sm := bnd fs fun ds => fun _ st => if ds.length = n then F ds st else none
theorem tCall_of {F : List D → Sto → Res D} {n : Nat} {σ : L2.St} {H : Hp} {Q : VK} (q : tI g EX (sCall n F fs) σ H Q) : tCall (spF g n F) [] EX (tIa g EX fs) σ H Q := by
  obtain ⟨env, m, st, re, R, q⟩ := q
  refine ⟨env, m, st, re, R, q.bnd.mono fun ds m1 H1 st1 E1 R1 q vs r => ?_⟩
  by_cases hn : ds.length = n
  · rw [if_pos hn] at q
    rw [List.append_nil]
    exact ⟨ds, m1, st1, hn, r, R1, q⟩
  · rw [if_neg hn] at q; exact q.elim
theorem i_call {CX : CXT} {k n : Nat} {F : List D → Sto → Res D} {x : Str} {p : Pos} {fa : Addr} {fd : FuncData} {ps : List Str} (G : FnOk X.prog X.w X.K X.mg X.base CX k fa fd ps (spF g n F)) (hr : Room k X.A) (hg : Gl X x) (hm : X.mg x = some (.ref fa))
    (hk : PySem.W.keepIn X.K (.ref fa) = true) (hb : Binds X.K fd ps []) (hx : Passes CX X EX) (ha : PA X (e :: es) (tIa g EX fs)) (hdb : (x == ("__debug__" : Str)) = false := by decide)
    (he : starEach (e :: es) X.env = (false, eval e X.env) :: starEach es X.env := by rfl) (hpl : (backTo pos (starEach es X.env)).any (·.1) = false := by rfl) : PE X (.Call (.Name x p) (e :: es) [] pos) (tI g EX (sCall n F fs)) :=
  PE.mono (pe_call G hr hg hm hk hb .nil hx ha hdb he hpl) fun _ _ _ => tCall_of
end
end I2
set_option Elab.async false
set_option linter.all false
set_option maxRecDepth 100000
set_option maxHeartbeats 4000000
namespace I2
open PySem PySem.Spec PyProof.Rows L2
def toPy : D → Option PyData
  | .non => some .none
  | .bl b => some (.bool b)
  | .int i => some (.int i)
  | .str x => some (.str x)
  | .tup ds => (toPys ds).map .tuple
  | .lst ds => (toPys ds).map .list
  | _ => none
where toPys : List D → Option (List PyData)
  | [] => some []
  | d :: ds => match toPy d, toPys ds with
    | some p, some ps => some (p :: ps)
    | _, _ => none
mutual
theorem RD.dp {g : GX} {m : MM} {H : Hp} : ∀ {d : D} {v : V} {p : PyData}, RD g m H d v → toPy d = some p → Dp g.K H v p
  | _, _, _, .non, e => by simp only [toPy, Option.some.injEq] at e; subst e; exact .non
  | _, _, _, .bl b, e => by simp only [toPy, Option.some.injEq] at e; subst e; exact .bl b
  | _, _, _, .int i, e => by simp only [toPy, Option.some.injEq] at e; subst e; exact .int i
  | _, _, _, .str x, e => by simp only [toPy, Option.some.injEq] at e; subst e; exact .str x
  | _, _, _, .tup hs hr, e => by
    simp only [toPy, Option.map_eq_some_iff] at e
    obtain ⟨ps, e1, rfl⟩ := e
    exact .tup hs (RDs.dp hr e1)
  | _, _, _, .lst hs hn hr, e => by
    simp only [toPy, Option.map_eq_some_iff] at e
    obtain ⟨ps, e1, rfl⟩ := e
    exact .lst (.of hs) (RDs.dp hr e1)
  | _, _, _, .scr _ _, e => by simp [toPy] at e
  | _, _, _, .dic0 _ _, e => by simp [toPy] at e
  | _, _, _, .dcs _ _ _, e => by simp [toPy] at e
  | _, _, _, .ref _, e => by simp [toPy] at e
  | _, _, _, .exc _ _, e => by simp [toPy] at e
theorem RDs.dp {g : GX} {m : MM} {H : Hp} : ∀ {ds : List D} {vs : List V} {ps : List PyData}, RDs g m H ds vs → toPy.toPys ds = some ps → DpAll g.K H vs ps
  | _, _, _, .nil, e => by simp only [toPy.toPys, Option.some.injEq] at e; subst e; exact .nil
  | d :: ds, _, _, .cons r rs, e => by
    simp only [toPy.toPys] at e
    cases e1 : toPy d with
    | none => rw [e1] at e; cases e
    | some p =>
      cases e2 : toPy.toPys ds with
      | none => rw [e1, e2] at e; cases e
      | some ps =>
        rw [e1, e2] at e
        simp only [Option.some.injEq] at e
        subst e
        exact .cons (RD.dp r e1) (RDs.dp rs e2)
end
def oEq (x y : D) : Option D := match toPy x, toPy y with
  | some p, some q => if SeqAt.shaped p && SeqAt.shaped q then some (.bl (PyData.eqv p q)) else none
  | _, _ => none
def oNe (x y : D) : Option D := match toPy x, toPy y with
  | some p, some q => if SeqAt.shaped p && SeqAt.shaped q then some (.bl (!PyData.eqv p q)) else none
  | _, _ => none
def oLt : D → D → Option D
  | .int i, .int j => some (.bl (decide (i < j)))
  | _, _ => none
def oLe : D → D → Option D
  | .int i, .int j => some (.bl (decide (i ≤ j)))
  | _, _ => none
def oGt : D → D → Option D
  | .int i, .int j => some (.bl (decide (j < i)))
  | _, _ => none
def oGe : D → D → Option D
  | .int i, .int j => some (.bl (decide (j ≤ i)))
  | _, _ => none
def isNon : D → Bool
  | .non => true
  | _ => false
def oSub : D → D → Option D
  | .int i, .int j => some (.int (i - j))
  | _, _ => none
def oAdd : D → D → Option D
  | .int i, .int j => some (.int (i + j))
  | .str x, .str y => if x.length + y.length ≤ sizeLine then some (.str (x ++ y)) else none
  | .lst xs, .lst ys => if xs.length + ys.length ≤ sizeLine then some (.lst (xs ++ ys)) else none
  | .tup xs, .tup ys => if !xs.isEmpty && decide (xs.length + ys.length ≤ sizeLine) then some (.tup (xs ++ ys)) else none
  | _, _ => none
def mulOk (i j : Int) : Bool := decide (i.natAbs < 2 ^ 64) || decide (j.natAbs < 2 ^ 64) || (decide (i.natAbs < 2 ^ 60000) && decide (j.natAbs < 2 ^ 60000))
theorem mulOk_of {i j : Int} (h : mulOk i j = true) : IntMulOk i j := by
  unfold mulOk at h
  simp only [Bool.or_eq_true, Bool.and_eq_true, decide_eq_true_eq] at h
  rcases h with (h | h) | ⟨h1, h2⟩
  · exact .of_left (PySem.intBits_le_iff.mpr h)
  · exact .of_right (PySem.intBits_le_iff.mpr h)
  · exact .of_le (PySem.intBits_le_iff.mpr h1) (PySem.intBits_le_iff.mpr h2) (by decide)
def oMul : D → D → Option D
  | .int i, .int j => if mulOk i j then some (.int (i * j)) else none
  | .lst xs, .int k => if decide (-(2 ^ 63) ≤ k) && decide (k < 2 ^ 63) && decide (xs.length * k.toNat ≤ sizeLine) then some (.lst (List.replicate k.toNat xs).flatten) else none
  | _, _ => none
def oMod : D → D → Option D
  | .int i, .int j => if j = 0 then none else some (.int (i.fmod j))
  | _, _ => none
def oDiv : D → D → Option D
  | .int i, .int j => if j = 0 then none else if decide (j.natAbs < 2 ^ 9000) then some (.int (i.fdiv j)) else none
  | _, _ => none
def oPow : D → D → Option D
  | .int i, .int j => if decide (0 ≤ j) && decide (j ≤ 1000000) && decide (i.natAbs < 2 ^ 64) then some (.int (i ^ j.toNat)) else none
  | _, _ => none
section
variable {X : Cx} {g : GX}
theorem r_eq (hK : X.K = g.K) (hu : X.A.units + 64 < cLine) : OpR X (compareOp .Eq) (rD g oEq) := by
  intro pins s σ H x y v u Q I rx ry ⟨m, st, dx, dy, d, R, r1, r2, e, q⟩
  unfold oEq at e
  cases e1 : toPy dx with
  | none => rw [e1] at e; cases e
  | some p1 =>
    cases e2 : toPy dy with
    | none => rw [e1, e2] at e; cases e
    | some p2 =>
      rw [e1, e2] at e
      dsimp only at e
      split at e
      · rename_i hs
        simp only [Bool.and_eq_true] at hs
        cases e
        refine op_eqD hu pins s σ H x y v u Q I rx ry ⟨p1, p2, ?_, ?_, hs.1, hs.2, q _ m H (.refl _ _) R (.bl _)⟩
        · rw [hK]; exact r1.dp e1
        · rw [hK]; exact r2.dp e2
      · cases e
theorem r_ne (hK : X.K = g.K) (hu : X.A.units + 64 < cLine) : OpR X (compareOp .NotEq) (rD g oNe) := by
  intro pins s σ H x y v u Q I rx ry ⟨m, st, dx, dy, d, R, r1, r2, e, q⟩
  unfold oNe at e
  cases e1 : toPy dx with
  | none => rw [e1] at e; cases e
  | some p1 =>
    cases e2 : toPy dy with
    | none => rw [e1, e2] at e; cases e
    | some p2 =>
      rw [e1, e2] at e
      dsimp only at e
      split at e
      · rename_i hs
        simp only [Bool.and_eq_true] at hs
        cases e
        refine op_neD hu pins s σ H x y v u Q I rx ry ⟨p1, p2, ?_, ?_, hs.1, hs.2, q _ m H (.refl _ _) R (.bl _)⟩
        · rw [hK]; exact r1.dp e1
        · rw [hK]; exact r2.dp e2
      · cases e
theorem ints_of {m : MM} {H : Hp} {o : D → D → Option D} {dx dy d : D} {x y : V} (ho : ∀ a b, (∀ i j, ¬ (a = .int i ∧ b = .int j)) → o a b = none) (r1 : RD g m H dx x) (r2 : RD g m H dy y) (e : o dx dy = some d) :
    ∃ i j, dx = .int i ∧ dy = .int j ∧ x = .int i ∧ y = .int j := by
  cases r1 with
  | int i =>
    cases r2 with
    | int j => exact ⟨i, j, rfl, rfl, rfl, rfl⟩
    | _ => rw [ho _ _ (fun i j ⟨_, z⟩ => nomatch z)] at e; cases e
  | _ => rw [ho _ _ (fun i j ⟨z, _⟩ => nomatch z)] at e; cases e
theorem r_lt : OpR X (compareOp .Lt) (rD g oLt) := by
  intro pins s σ H x y v u Q I rx ry ⟨m, st, dx, dy, d, R, r1, r2, e, q⟩
  obtain ⟨i, j, rfl, rfl, rfl, rfl⟩ := ints_of (fun a b n => by cases a <;> first | rfl | (cases b <;> first | rfl | exact absurd ⟨rfl, rfl⟩ (n _ _))) r1 r2 e
  cases e
  exact op_lt pins s σ H _ _ v u Q I rx ry ⟨i, j, rfl, rfl, q _ m H (.refl _ _) R (.bl _)⟩
theorem r_le : OpR X (compareOp .LtE) (rD g oLe) := by
  intro pins s σ H x y v u Q I rx ry ⟨m, st, dx, dy, d, R, r1, r2, e, q⟩
  obtain ⟨i, j, rfl, rfl, rfl, rfl⟩ := ints_of (fun a b n => by cases a <;> first | rfl | (cases b <;> first | rfl | exact absurd ⟨rfl, rfl⟩ (n _ _))) r1 r2 e
  cases e
  exact op_le pins s σ H _ _ v u Q I rx ry ⟨i, j, rfl, rfl, q _ m H (.refl _ _) R (.bl _)⟩
theorem r_gt : OpR X (compareOp .Gt) (rD g oGt) := by
  intro pins s σ H x y v u Q I rx ry ⟨m, st, dx, dy, d, R, r1, r2, e, q⟩
  obtain ⟨i, j, rfl, rfl, rfl, rfl⟩ := ints_of (fun a b n => by cases a <;> first | rfl | (cases b <;> first | rfl | exact absurd ⟨rfl, rfl⟩ (n _ _))) r1 r2 e
  cases e
  exact op_gt pins s σ H _ _ v u Q I rx ry ⟨i, j, rfl, rfl, q _ m H (.refl _ _) R (.bl _)⟩
theorem r_ge : OpR X (compareOp .GtE) (rD g oGe) := by
  intro pins s σ H x y v u Q I rx ry ⟨m, st, dx, dy, d, R, r1, r2, e, q⟩
  obtain ⟨i, j, rfl, rfl, rfl, rfl⟩ := ints_of (fun a b n => by cases a <;> first | rfl | (cases b <;> first | rfl | exact absurd ⟨rfl, rfl⟩ (n _ _))) r1 r2 e
  cases e
  exact op_ge pins s σ H _ _ v u Q I rx ry ⟨i, j, rfl, rfl, q _ m H (.refl _ _) R (.bl _)⟩
theorem RD.isNon {m : MM} {H : Hp} {d : D} {v : V} (r : RD g m H d v) : decide (v = .non) = I2.isNon d := by cases r <;> simp [I2.isNon]
theorem r_sub : OpR X (binaryOp .Sub) (rD g oSub) := by
  intro pins s σ H x y v u Q I rx ry ⟨m, st, dx, dy, d, R, r1, r2, e, q⟩
  obtain ⟨i, j, rfl, rfl, rfl, rfl⟩ := ints_of (fun a b n => by cases a <;> first | rfl | (cases b <;> first | rfl | exact absurd ⟨rfl, rfl⟩ (n _ _))) r1 r2 e
  cases e
  exact op_sub pins s σ H _ _ v u Q I rx ry ⟨i, j, rfl, rfl, q _ m H (.refl _ _) R (.int _)⟩
theorem r_mod : OpR X (binaryOp .Mod) (rD g oMod) := by
  intro pins s σ H x y v u Q I rx ry ⟨m, st, dx, dy, d, R, r1, r2, e, q⟩
  obtain ⟨i, j, rfl, rfl, rfl, rfl⟩ := ints_of (fun a b n => by cases a <;> first | rfl | (cases b <;> first | rfl | exact absurd ⟨rfl, rfl⟩ (n _ _))) r1 r2 e
  simp only [oMod] at e
  split at e
  · cases e
  · rename_i hj
    cases e
    exact op_modN pins s σ H _ _ v u Q I rx ry ⟨i, j, rfl, rfl, hj, q _ m H (.refl _ _) R (.int _)⟩
theorem op_fdivB : OpR X (binaryOp .FloorDiv) (rI (fun _ j => j ≠ 0 ∧ j.natAbs < 2 ^ 9000) fun i j => .int (i.fdiv j)) := opI fun i j _ _ _ _ _ hc q => floordiv_int hc.1 q (.inl (PyProof.noPylong_of_log2 (by
  rcases Nat.eq_zero_or_pos j.natAbs with h0 | hp
  · rw [h0]; decide
  · exact (Nat.log2_lt (Nat.ne_of_gt hp)).mpr hc.2)))
theorem r_div : OpR X (binaryOp .FloorDiv) (rD g oDiv) := by
  intro pins s σ H x y v u Q I rx ry ⟨m, st, dx, dy, d, R, r1, r2, e, q⟩
  obtain ⟨i, j, rfl, rfl, rfl, rfl⟩ := ints_of (fun a b n => by cases a <;> first | rfl | (cases b <;> first | rfl | exact absurd ⟨rfl, rfl⟩ (n _ _))) r1 r2 e
  simp only [oDiv] at e
  split at e
  · cases e
  · rename_i hj
    split at e
    · rename_i hz
      cases e
      exact op_fdivB pins s σ H _ _ v u Q I rx ry ⟨i, j, rfl, rfl, ⟨hj, of_decide_eq_true hz⟩, q _ m H (.refl _ _) R (.int _)⟩
    · cases e
theorem r_pow : OpR X (binaryOp .Pow) (rD g oPow) := by
  intro pins s σ H x y v u Q I rx ry ⟨m, st, dx, dy, d, R, r1, r2, e, q⟩
  obtain ⟨i, j, rfl, rfl, rfl, rfl⟩ := ints_of (fun a b n => by cases a <;> first | rfl | (cases b <;> first | rfl | exact absurd ⟨rfl, rfl⟩ (n _ _))) r1 r2 e
  simp only [oPow] at e
  split at e
  · rename_i hz
    simp only [Bool.and_eq_true, decide_eq_true_eq] at hz
    cases e
    exact op_pow pins s σ H _ _ v u Q I rx ry ⟨i, j, rfl, rfl, ⟨hz.1.1, hz.1.2, hz.2⟩, q _ m H (.refl _ _) R (.int _)⟩
  · cases e
theorem op_mulB : OpR X (binaryOp .Mult) (rI (fun i j => mulOk i j = true) fun i j => .int (i * j)) := opI fun _ _ _ _ _ _ _ hc q => mul_int q (mulOk_of hc)
theorem r_mul : OpR X (binaryOp .Mult) (rD g oMul) := by
  intro pins s σ H x y v u Q I rx ry ⟨m, st, dx, dy, d, R, r1, r2, e, q⟩
  cases r1 with
  | int i =>
    cases r2 with
    | int j =>
      simp only [oMul] at e
      split at e
      · rename_i hz
        cases e
        exact op_mulB pins s σ H _ _ v u Q I rx ry ⟨i, j, rfl, rfl, hz, q _ m H (.refl _ _) R (.int _)⟩
      · cases e
    | _ => cases e
  | @lst a xs ds hs hn hr =>
    cases r2 with
    | int k =>
      simp only [oMul] at e
      split at e
      · rename_i hz
        simp only [Bool.and_eq_true, decide_eq_true_eq] at hz
        cases e
        refine op_rep pins s σ H _ _ v u Q I rx ry ⟨a, k, xs, rfl, rfl, hs, hz.1.1, hz.1.2, by rw [← hr.length]; exact hz.2, fun p hp => q _ m _ (.new hp) (R.new hp) (.newL R ?_ hp)⟩
        generalize k.toNat = n
        induction n with
        | zero => exact .nil
        | succ n ih => rw [List.replicate_succ, List.replicate_succ, List.flatten_cons, List.flatten_cons]; exact hr.append ih
      · cases e
    | _ => cases e
  | _ => cases e
theorem r_add (hK : X.K = g.K) : OpR X (binaryOp .Add) (rD g oAdd) := by
  intro pins s σ H x y v u Q I rx ry ⟨m, st, dx, dy, d, R, r1, r2, e, q⟩
  cases r1 with
  | int i =>
    cases r2 with
    | int j => cases e; exact op_add pins s σ H _ _ v u Q I rx ry ⟨i, j, rfl, rfl, q _ m H (.refl _ _) R (.int _)⟩
    | _ => cases e
  | str i =>
    cases r2 with
    | str j =>
      simp only [oAdd] at e
      split at e
      · rename_i hz
        cases e
        exact op_add_str pins s σ H _ _ v u Q I rx ry ⟨i, j, rfl, rfl, hz, q _ m H (.refl _ _) R (.str _)⟩
      · cases e
    | _ => cases e
  | @lst a xs ds hs hn hr =>
    cases r2 with
    | @lst b ys es hs' hn' hr' =>
      simp only [oAdd] at e
      split at e
      · rename_i hz
        cases e
        exact op_cat pins s σ H _ _ v u Q I rx ry ⟨a, b, xs, ys, rfl, rfl, hs, hs', by rw [← hr.length, ← hr'.length]; exact hz, fun p hp => q _ m _ (.new hp) (R.new hp) (.newL R (hr.append hr') hp)⟩
      · cases e
    | _ => cases e
  | @tup a xs ds hs hr =>
    cases r2 with
    | @tup b ys es hs' hr' =>
      simp only [oAdd] at e
      split at e
      · rename_i hz
        simp only [Bool.and_eq_true, decide_eq_true_eq, Bool.not_eq_true'] at hz
        cases e
        refine op_catT pins s σ H _ _ v u Q I rx ry ⟨a, b, xs, ys, rfl, rfl, by rw [hK]; exact hs, by rw [hK]; exact hs', ?_, by rw [← hr.length, ← hr'.length]; exact hz.2, fun hy => ?_, fun hy p hp => q _ m _ (.new hp) (R.new hp) (.newT (hr.append hr') hp)⟩
        · intro z; have := hr.empty; rw [hz.1, z] at this; cases this
        · subst hy
          have : es = [] := by cases hr'; rfl
          subst this
          rw [List.append_nil] at q
          exact q _ m H (.refl _ _) R (.tup hs hr)
      · cases e
    | _ => cases e
  | _ => cases e
end
end I2
set_option Elab.async false
set_option linter.all false
set_option maxRecDepth 100000
set_option maxHeartbeats 4000000
namespace I2
open PySem PySem.Spec PyProof.Rows L2
section
variable {X : Cx} {g : GX} {EX : XK} {a b c e : Expr} {es : List Expr} {pos : Pos} {f h k : Sm} {fs : Sma}
def oIx (st : Sto) : D → D → Option D
  | .tup ds, .int k => atI ds k
  | .lst ds, .int k => atI ds k
  | .scr ds, .int k => atI ds k
  | .ref i, .int k => match st[i]? with
    | some (.lst ds) => atI ds k
    | _ => none
  | _, _ => none
def liftS {α : Type} (o : Sto → Option α) : DEnv → Sto → Res α := fun _ st => (o st).map fun d => (.ok d, st)
theorem RI.liftS {α : Type} {m : MM} {H : Hp} {o : Sto → Option α} {env : DEnv} {st : Sto} {Q : α → MM → Hp → Sto → Prop} (q : RI g EX m H (I2.liftS o env st) Q) : ∃ d, o st = some d ∧ ∀ m' H', Ext m H m' H' → RS g m' H' st → Q d m' H' st := by
  unfold I2.liftS at q
  cases e : o st with
  | none => rw [e] at q; exact q.elim
  | some d => rw [e] at q; exact ⟨d, rfl, q⟩
def sIx (f h : Sm) : Sm := bnd f fun x => bnd h fun y => liftS fun st => oIx st x y
theorem RDs.atI {m : MM} {H : Hp} {ds : List D} {vs : List V} {k : Int} {d : D} (r : RDs g m H ds vs) (e : L2.atI ds k = some d) : ∃ v, L2.atI vs k = some v ∧ RD g m H d v := by
  unfold L2.atI at e ⊢
  rw [← r.length]
  cases q : ixN ds.length k with
  | none => rw [q] at e; cases e
  | some j => rw [q] at e; exact r.get e
theorem i_ix (hK : X.K = g.K) (ha : PE X a (tI g EX f)) (hb : PE X b (tI g EX h)) (hs : PlainIx b := by intro _ _; rfl) : PE X (.Subscript a b pos) (tI g EX (sIx f h)) :=
  PE.mono (pe_ix (IxR.or ix_list ix_tup) ha hb hs) fun σ H Q ⟨env, m, st, re, R, q⟩ => by
    refine ⟨env, m, st, re, R, q.bnd.mono fun d1 m1 H1 st1 E1 R1 q v1 r1 => ?_⟩
    refine ⟨env, m1, st1, re.ext E1, R1, q.bnd.mono fun d2 m2 H2 st2 E2 R2 q v2 r2 => ?_⟩
    obtain ⟨d, e, q5⟩ := q.liftS
    rw [hK]
    have r1 := r1.ext E2
    cases r1 with
    | @tup p xs ds hs hr =>
      cases r2 with
      | int k =>
        obtain ⟨v, e2, rv⟩ := hr.atI e
        exact .inr ⟨p, xs, k, v, rfl, rfl, hs, e2, q5 m2 H2 (.refl _ _) R2 v rv⟩
      | _ => cases e
    | @lst p xs ds hs hn hr =>
      cases r2 with
      | int k =>
        obtain ⟨v, e2, rv⟩ := hr.atI e
        exact .inl ⟨p, xs, k, v, rfl, rfl, .of hs, e2, q5 m2 H2 (.refl _ _) R2 v rv⟩
      | _ => cases e
    | @scr p xs ds hs hr =>
      cases r2 with
      | int k =>
        obtain ⟨v, e2, rv⟩ := hr.atI e
        exact .inl ⟨p, xs, k, v, rfl, rfl, hs.sq, e2, q5 m2 H2 (.refl _ _) R2 v rv⟩
      | _ => cases e
    | @ref i p hp =>
      cases r2 with
      | int k =>
        simp only [oIx] at e
        cases e1 : st2[i]? with
        | none => rw [e1] at e; cases e
        | some c =>
          rw [e1] at e
          cases c with
          | dic kvs => cases e
          | gone => cases e
          | lst ds =>
            obtain ⟨xs, hx, hr⟩ := R2.at i _ p e1 hp
            obtain ⟨v, e2, rv⟩ := hr.atI e
            exact .inl ⟨p, xs, k, v, rfl, rfl, .of hx, e2, q5 m2 H2 (.refl _ _) R2 v rv⟩
      | _ => cases e
    | _ => cases e
def cutD {α : Type} (xs : List α) (lo hi : Option Int) : List α := (xs.drop (HT.sIx xs.length 0 lo)).take (HT.sIx xs.length xs.length hi - HT.sIx xs.length 0 lo)
theorem RDs.cut {m : MM} {H : Hp} {ds : List D} {vs : List V} (r : RDs g m H ds vs) (lo hi : Option Int) : RDs g m H (cutD ds lo hi) (cutV vs lo hi) := by
  unfold cutD cutV
  rw [← r.length]
  exact (r.drop _).take _
abbrev Smo := DEnv → Sto → Res (Option Int)
def tIo (g : GX) (EX : XK) (f : Smo) : TO := fun σ H Q => ∃ env m st, RE g m H env σ ∧ RS g m H st ∧ RI g EX m H (f env st) fun d _ H' _ => Q d H'
def sNoPart : Smo := ret none
def isI : D → Option Int
  | .int i => some i
  | _ => none
theorem RD.isI {m : MM} {H : Hp} {d : D} {v : V} {b : Int} (r : RD g m H d v) (e : I2.isI d = some b) : v = .int b := by
  cases r <;> simp [I2.isI] at e
  subst e; rfl
def sPart (f : Sm) : Smo := bnd f fun d => bnd (lift (isI d)) fun i => ret (some i)
theorem PO.mono {o : Option Expr} {t t' : TO} (p : PO X o t) (hm : ∀ σ H Q, t' σ H Q → t σ H Q) : PO X o t' := fun pins s σ H Q I q => p pins s σ H Q I (hm σ H Q q)
theorem io_none : PO X none (tIo g EX sNoPart) := PO.mono po_none fun σ H Q ⟨env, m, st, re, R, q⟩ => RI.ret (env := env) q R
theorem io_some (ha : PE X a (tI g EX f)) : PO X (some a) (tIo g EX (sPart f)) := PO.mono (po_some ha) fun σ H Q ⟨env, m, st, re, R, q⟩ => by
  refine ⟨env, m, st, re, R, q.bnd.mono fun d m1 H1 st1 E1 R1 q v r => ?_⟩
  obtain ⟨i, e, q⟩ := q.bnd.lift
  exact ⟨i, r.isI e, RI.ret (env := env) (q m1 H1 (.refl _ _) R1) R1⟩
def oSl (st : Sto) (lo hi : Option Int) : D → Option D
  | .lst ds => some (.lst (cutD ds lo hi))
  | .scr ds => some (.lst (cutD ds lo hi))
  | .tup ds => if HT.sIx ds.length 0 lo = 0 ∧ HT.sIx ds.length ds.length hi = ds.length then none else some (.tup (cutD ds lo hi))
  | .ref i => match st[i]? with
    | some (.lst ds) => some (.lst (cutD ds lo hi))
    | _ => none
  | _ => none
def rCs (g : GX) (op : Sto → List D → Option D) : List V → Hp → VK → Prop := fun vs H Q => ∃ m st ds d, RS g m H st ∧ RDs g m H ds vs ∧ op st ds = some d ∧ ∀ v m' H', Ext m H m' H' → RS g m' H' st → RD g m' H' d v → Q v H'
def sBs (op : Sto → List D → Option D) (fs : Sma) : Sm := bnd fs fun ds => liftS fun st => op st ds
theorem tCBs_of {op : Sto → List D → Option D} {σ : L2.St} {H : Hp} {Q : VK} (q : tI g EX (sBs op fs) σ H Q) : tCB (rCs g op) (tIa g EX fs) σ H Q := by
  obtain ⟨env, m, st, re, R, q⟩ := q
  refine ⟨env, m, st, re, R, q.bnd.mono fun ds m1 H1 st1 E1 R1 q vs r => ?_⟩
  obtain ⟨d, e, q⟩ := q.liftS
  exact ⟨m1, st1, ds, d, R1, r, e, fun v m' H' E R r => q m' H' E R v r⟩
theorem i_bltnS {op : Sto → List D → Option D} {x : Str} {p : Pos} {id : String} (hc : CallR X (.builtin id) (rCs g op)) (hg : Gl X x) (hm : X.mg x = none) (hv : bootBuiltins x = some (.builtin id)) (ha : PA X (e :: es) (tIa g EX fs)) (hn : x ≠ "__name__" := by decide) (hdb : (x == ("__debug__" : Str)) = false := by decide)
    (he : starEach (e :: es) X.env = (false, eval e X.env) :: starEach es X.env := by rfl) (hpl : (backTo pos (starEach es X.env)).any (·.1) = false := by rfl) : PE X (.Call (.Name x p) (e :: es) [] pos) (tI g EX (sBs op fs)) :=
  PE.mono (pe_callB hc hg hm hv ha hn hdb he hpl) fun _ _ _ => tCBs_of
theorem i_typeS {op : Sto → List D → Option D} {x : Str} {p : Pos} {T : String} (hc : CallR X (.type T) (rCs g op)) (hg : Gl X x) (hm : X.mg x = none) (hv : bootBuiltins x = some (.type T)) (ha : PA X (e :: es) (tIa g EX fs)) (hn : x ≠ "__name__" := by decide) (hdb : (x == ("__debug__" : Str)) = false := by decide)
    (he : starEach (e :: es) X.env = (false, eval e X.env) :: starEach es X.env := by rfl) (hpl : (backTo pos (starEach es X.env)).any (·.1) = false := by rfl) : PE X (.Call (.Name x p) (e :: es) [] pos) (tI g EX (sBs op fs)) :=
  PE.mono (pe_callTy hc hg hm hv ha hn hdb he hpl) fun _ _ _ => tCBs_of
def oLen (st : Sto) : List D → Option D
  | [.tup ds] => some (.int ds.length)
  | [.lst ds] => some (.int ds.length)
  | [.scr ds] => some (.int ds.length)
  | [.str x] => if x.length ≤ sizeLine then some (.int x.length) else none
  | [.ref i] => match st[i]? with
    | some (.lst ds) => some (.int ds.length)
    | _ => none
  | _ => none
def oAbs : List D → Option D
  | [.int i] => some (.int (if i < 0 then -i else i))
  | _ => none
def oInt : List D → Option D
  | [.int i] => some (.int i)
  | [.bl b] => some (.int (if b then 1 else 0))
  | _ => none
def oMax : List D → Option D
  | [.int i, .int j] => some (.int (if j > i then j else i))
  | _ => none
def oMin : List D → Option D
  | [.int i, .int j] => some (.int (if j < i then j else i))
  | _ => none
def oStr : List D → Option D
  | [.int i] => if i.natAbs.log2 < 1920 then some (.str (toString i)) else none
  | _ => none
def oTuple (st : Sto) : List D → Option D
  | [.tup ds] => some (.tup ds)
  | [.lst ds] => some (.tup ds)
  | [.ref i] => match st[i]? with
    | some (.lst ds) => some (.tup ds)
    | _ => none
  | _ => none
def allB : List D → Option (List Bool)
  | [] => some []
  | .bl b :: ds => (allB ds).map (b :: ·)
  | _ => none
def oAll (st : Sto) : List D → Option D
  | [.lst ds] => (allB ds).map fun bs => .bl (bs.all id)
  | _ => none
def oAny (st : Sto) : List D → Option D
  | [.lst ds] => (allB ds).map fun bs => .bl (bs.any id)
  | _ => none
theorem RDs.allB {m : MM} {H : Hp} : ∀ {ds : List D} {vs : List V} {bs : List Bool}, RDs g m H ds vs → I2.allB ds = some bs → vs = bs.map V.bl := by
  intro ds
  induction ds with
  | nil =>
    intro vs bs r e
    cases r
    simp only [I2.allB, Option.some.injEq] at e
    subst e
    rfl
  | cons d ds ih =>
    intro vs bs r e
    have h : ∃ b, d = .bl b := by
      unfold I2.allB at e
      split at e
      · rename_i h; cases h
      · rename_i h; cases h; exact ⟨_, rfl⟩
      · cases e
    obtain ⟨b, rfl⟩ := h
    simp only [I2.allB, Option.map_eq_some_iff] at e
    obtain ⟨bs', e1, rfl⟩ := e
    cases r with
    | cons r1 rs =>
      cases r1
      rw [ih rs e1]
      rfl
theorem one_of {α : Type} {m : MM} {H : Hp} {ds : List D} {vs : List V} {op : List D → Option α} {d : α} (r : RDs g m H ds vs) (e : op ds = some d) (h0 : op [] = none) (h2 : ∀ a b c, op (a :: b :: c) = none) : ∃ x v, ds = [x] ∧ vs = [v] ∧ RD g m H x v := by
  cases r with
  | nil => rw [h0] at e; cases e
  | cons r rs =>
    cases rs with
    | nil => exact ⟨_, _, rfl, rfl, r⟩
    | cons _ _ => rw [h2] at e; cases e
theorem two_of {α : Type} {m : MM} {H : Hp} {ds : List D} {vs : List V} {op : List D → Option α} {d : α} (r : RDs g m H ds vs) (e : op ds = some d) (h0 : op [] = none) (h1 : ∀ a, op [a] = none) (h2 : ∀ a b c r, op (a :: b :: c :: r) = none) :
    ∃ x y v u, ds = [x, y] ∧ vs = [v, u] ∧ RD g m H x v ∧ RD g m H y u := by
  cases r with
  | nil => rw [h0] at e; cases e
  | cons r rs =>
    cases rs with
    | nil => rw [h1] at e; cases e
    | cons r' rs =>
      cases rs with
      | nil => exact ⟨_, _, _, _, rfl, rfl, r, r'⟩
      | cons _ _ => rw [h2] at e; cases e
theorem c_len (hK : X.K = g.K) : CallR X (.builtin "len") (rCs g oLen) := by
  intro pins s σ H xs us Q I r ⟨m, st, ds, d, R, rs, e, q⟩
  obtain ⟨x, v, rfl, rfl, rx⟩ := one_of (op := oLen st) rs e rfl (fun a b c => by cases a <;> rfl)
  cases rx with
  | @tup p ys es hs hr => cases e; exact call_len pins s σ H _ us Q I r ⟨_, es.length, rfl, .inr ⟨ys, by rw [hK]; exact hs, hr.length⟩, q _ m H (.refl _ _) R (.int _)⟩
  | @lst p ys es hs hn hr => cases e; exact call_len pins s σ H _ us Q I r ⟨_, es.length, rfl, .inl ⟨ys, .of hs, hr.length⟩, q _ m H (.refl _ _) R (.int _)⟩
  | @scr p ys es hs hr => cases e; exact call_len pins s σ H _ us Q I r ⟨_, es.length, rfl, .inl ⟨ys, by rw [hK]; exact hs.sq, hr.length⟩, q _ m H (.refl _ _) R (.int _)⟩
  | str x =>
    simp only [oLen] at e
    split at e
    · rename_i hz; cases e; exact call_len pins s σ H _ us Q I r ⟨_, x.length, rfl, ⟨hz, rfl⟩, q _ m H (.refl _ _) R (.int _)⟩
    · cases e
  | @ref i p hp =>
    simp only [oLen] at e
    cases e1 : st[i]? with
    | none => rw [e1] at e; cases e
    | some c =>
      rw [e1] at e
      cases c with
      | dic kvs => cases e
      | gone => cases e
      | lst es =>
        obtain ⟨ys, hx, hr⟩ := R.at i _ p e1 hp
        cases e
        exact call_len pins s σ H _ us Q I r ⟨_, es.length, rfl, .inl ⟨ys, .of hx, hr.length⟩, q _ m H (.refl _ _) R (.int _)⟩
  | _ => cases e
theorem c_abs : CallR X (.builtin "abs") (rCs g fun _ => oAbs) := by
  intro pins s σ H xs us Q I r ⟨m, st, ds, d, R, rs, e, q⟩
  obtain ⟨x, v, rfl, rfl, rx⟩ := one_of (op := oAbs) rs e rfl (fun a b c => by cases a <;> rfl)
  cases rx with
  | int i => cases e; exact call_abs pins s σ H _ us Q I r ⟨i, rfl, q _ m H (.refl _ _) R (.int _)⟩
  | _ => cases e
theorem c_int : CallR X (.type "int") (rCs g fun _ => oInt) := by
  intro pins s σ H xs us Q I r ⟨m, st, ds, d, R, rs, e, q⟩
  obtain ⟨x, v, rfl, rfl, rx⟩ := one_of (op := oInt) rs e rfl (fun a b c => by cases a <;> rfl)
  cases rx with
  | int i => cases e; exact call_int1 pins s σ H _ us Q I r (.inl ⟨i, rfl, q _ m H (.refl _ _) R (.int _)⟩)
  | bl i => cases e; exact call_int1 pins s σ H _ us Q I r (.inr ⟨i, rfl, q _ m H (.refl _ _) R (.int _)⟩)
  | _ => cases e
theorem c_str : CallR X (.type "str") (rCs g fun _ => oStr) := by
  intro pins s σ H xs us Q I r ⟨m, st, ds, d, R, rs, e, q⟩
  obtain ⟨x, v, rfl, rfl, rx⟩ := one_of (op := oStr) rs e rfl (fun a b c => by cases a <;> rfl)
  cases rx with
  | int i =>
    simp only [oStr] at e
    split at e
    · rename_i hz; cases e; exact call_str_int pins s σ H _ us Q I r ⟨i, rfl, hz, q _ m H (.refl _ _) R (.str _)⟩
    · cases e
  | _ => cases e
theorem c_max (hc : X.calm = true) : CallR X (.builtin "max") (rCs g fun _ => oMax) := by
  intro pins s σ H xs us Q I r ⟨m, st, ds, d, R, rs, e, q⟩
  obtain ⟨x, y, v, u, rfl, rfl, rx, ry⟩ := two_of (op := oMax) rs e rfl (fun a => by cases a <;> rfl) (fun a b c r => by cases a <;> first | rfl | (cases b <;> rfl))
  cases rx with
  | int i =>
    cases ry with
    | int j => cases e; exact call_max2 hc pins s σ H _ us Q I r ⟨i, j, rfl, q _ m H (.refl _ _) R (.int _)⟩
    | _ => cases e
  | _ => cases e
theorem c_min (hc : X.calm = true) : CallR X (.builtin "min") (rCs g fun _ => oMin) := by
  intro pins s σ H xs us Q I r ⟨m, st, ds, d, R, rs, e, q⟩
  obtain ⟨x, y, v, u, rfl, rfl, rx, ry⟩ := two_of (op := oMin) rs e rfl (fun a => by cases a <;> rfl) (fun a b c r => by cases a <;> first | rfl | (cases b <;> rfl))
  cases rx with
  | int i =>
    cases ry with
    | int j => cases e; exact call_min2 hc pins s σ H _ us Q I r ⟨i, j, rfl, q _ m H (.refl _ _) R (.int _)⟩
    | _ => cases e
  | _ => cases e
theorem c_tuple (hK : X.K = g.K) : CallR X (.type "tuple") (rCs g oTuple) := by
  intro pins s σ H xs us Q I r ⟨m, st, ds, d, R, rs, e, q⟩
  obtain ⟨x, v, rfl, rfl, rx⟩ := one_of (op := oTuple st) rs e rfl (fun a b c => by cases a <;> rfl)
  cases rx with
  | @tup p ys es hs hr => cases e; exact call_tuple_of pins s σ H _ us Q I r ⟨p, ys, rfl, .inr ⟨by rw [hK]; exact hs, q _ m H (.refl _ _) R (.tup hs hr)⟩⟩
  | @lst p ys es hs hn hr => cases e; exact call_tuple_of pins s σ H _ us Q I r ⟨p, ys, rfl, .inl ⟨.of hs, fun l hl => q _ m _ (.new hl) (R.new hl) (.newT hr hl)⟩⟩
  | @ref i p hp =>
    simp only [oTuple] at e
    cases e1 : st[i]? with
    | none => rw [e1] at e; cases e
    | some c =>
      rw [e1] at e
      cases c with
      | dic kvs => cases e
      | gone => cases e
      | lst es =>
        obtain ⟨ys, hx, hr⟩ := R.at i _ p e1 hp
        cases e
        exact call_tuple_of pins s σ H _ us Q I r ⟨p, ys, rfl, .inl ⟨.of hx, fun l hl => q _ m _ (.new hl) (R.new hl) (.newT hr hl)⟩⟩
  | _ => cases e
theorem c_all (hc : X.calm = true) : CallR X (.builtin "all") (rCs g oAll) := by
  intro pins s σ H xs us Q I r ⟨m, st, ds, d, R, rs, e, q⟩
  obtain ⟨x, v, rfl, rfl, rx⟩ := one_of (op := oAll st) rs e rfl (fun a b c => by cases a <;> rfl)
  cases rx with
  | @lst p ys es hs hn hr =>
    simp only [oAll, Option.map_eq_some_iff] at e
    obtain ⟨bs, e1, rfl⟩ := e
    exact cr_all hc pins s σ H _ us Q I r ⟨p, bs, rfl, by rw [← hr.allB e1]; exact .of hs, q _ m H (.refl _ _) R (.bl _)⟩
  | _ => cases e
theorem c_any (hc : X.calm = true) : CallR X (.builtin "any") (rCs g oAny) := by
  intro pins s σ H xs us Q I r ⟨m, st, ds, d, R, rs, e, q⟩
  obtain ⟨x, v, rfl, rfl, rx⟩ := one_of (op := oAny st) rs e rfl (fun a b c => by cases a <;> rfl)
  cases rx with
  | @lst p ys es hs hn hr =>
    simp only [oAny, Option.map_eq_some_iff] at e
    obtain ⟨bs, e1, rfl⟩ := e
    exact cr_any hc pins s σ H _ us Q I r ⟨p, bs, rfl, by rw [← hr.allB e1]; exact .of hs, q _ m H (.refl _ _) R (.bl _)⟩
  | _ => cases e
end
end I2
set_option Elab.async false
set_option linter.all false
set_option maxRecDepth 100000
set_option maxHeartbeats 4000000
namespace I2
open PySem PySem.Spec PyProof.Rows L2
inductive Fl where
  | nx | rt (d : D) | bk | ct | ex (c : Str)
abbrev ResS := Option (Fl × DEnv × Sto)
abbrev Sms := DEnv → Sto → ResS
def RIs (g : GX) (EX : XK) (m : MM) (H : Hp) (o : ResS) (De : Ends) : Prop :=
  match o with
  | none => False
  | some (.nx, env', st') => ∀ m' H' σ', Ext m H m' H' → RS g m' H' st' → RE g m' H' env' σ' → De.nx σ' H'
  | some (.bk, env', st') => ∀ m' H' σ', Ext m H m' H' → RS g m' H' st' → RE g m' H' env' σ' → De.bk σ' H'
  | some (.ct, env', st') => ∀ m' H' σ', Ext m H m' H' → RS g m' H' st' → RE g m' H' env' σ' → De.ct σ' H'
  | some (.rt d, _, st') => ∀ m' H' v, Ext m H m' H' → RS g m' H' st' → RD g m' H' d v → De.rt v H'
  | some (.ex c, _, st') => ∀ m' H' C, Ext m H m' H' → RS g m' H' st' → g.cls c = some C → EX (.ref C) none H'
def tIs (g : GX) (EX : XK) (f : Sms) : TS := fun De σ H => ∃ env m st, RE g m H env σ ∧ RS g m H st ∧ RIs g EX m H (f env st) De
theorem RIs.ext {g : GX} {EX : XK} {m m1 : MM} {H H1 : Hp} {o : ResS} {De : Ends} (h : RIs g EX m H o De) (E : Ext m H m1 H1) : RIs g EX m1 H1 o De := by
  cases o with
  | none => exact h
  | some r =>
    obtain ⟨fl, env, st⟩ := r
    cases fl with
    | nx => exact fun m' H' σ' E' => h m' H' σ' (E.trans E')
    | bk => exact fun m' H' σ' E' => h m' H' σ' (E.trans E')
    | ct => exact fun m' H' σ' E' => h m' H' σ' (E.trans E')
    | rt d => exact fun m' H' v E' => h m' H' v (E.trans E')
    | ex c => exact fun m' H' C E' => h m' H' C (E.trans E')
section
variable {X : Cx} {g : GX} {EX : XK} {a b c e : Expr} {es : List Expr} {pos : Pos} {f h k : Sm} {fs : Sma} {t : Smt} {u w : Sms} {st0 : Stmt} {rest : List Stmt}
theorem PS.mono {s : Stmt} {t t' : TS} (p : PS X s t) (hm : ∀ De σ H, t' De σ H → t De σ H) : PS X s t' := fun pins s σ H De I q => p pins s σ H De I (hm De σ H q)
theorem PSs.mono {s : List Stmt} {t t' : TS} (p : PSs X s t) (hm : ∀ De σ H, t' De σ H → t De σ H) : PSs X s t' := fun pins s σ H De I q => p pins s σ H De I (hm De σ H q)
def bndS {α : Type} (f : DEnv → Sto → Res α) (k : α → Sms) : Sms := fun env st =>
  match f env st with
  | none => none
  | some (.ok d, st') => k d env st'
  | some (.ex c, st') => some (.ex c, env, st')
theorem RIs.bnd {α : Type} {m : MM} {H : Hp} {f : DEnv → Sto → Res α} {k : α → Sms} {env : DEnv} {st : Sto} {De : Ends} (q : RIs g EX m H (bndS f k env st) De) :
    RI g EX m H (f env st) fun d m1 H1 st1 => RIs g EX m1 H1 (k d env st1) De := by
  unfold bndS at q
  cases e : f env st with
  | none => rw [e] at q; exact q
  | some r =>
    obtain ⟨o, st1⟩ := r
    rw [e] at q
    cases o with
    | ex c => exact q
    | ok d => exact fun m1 H1 E1 R1 => q.ext E1
def go (fl : Fl) : Sms := fun env st => some (fl, env, st)
def sNop : Sms := go .nx
def sSeq (u w : Sms) : Sms := fun env st =>
  match u env st with
  | some (.nx, env', st') => w env' st'
  | o => o
theorem is_nil : PSs X [] (tIs g EX sNop) := PSs.mono pss_nil fun De σ H ⟨env, m, st, re, R, q⟩ => q m H σ (.refl _ _) R re
theorem is_cons (h1 : PS X st0 (tIs g EX u)) (h2 : PSs X rest (tIs g EX w)) : PSs X (st0 :: rest) (tIs g EX (sSeq u w)) := PSs.mono (pss_cons h1 h2) fun De σ H ⟨env, m, st, re, R, q⟩ => by
  refine ⟨env, m, st, re, R, ?_⟩
  unfold sSeq at q
  cases e : u env st with
  | none => rw [e] at q; exact q
  | some r =>
    obtain ⟨fl, env', st'⟩ := r
    rw [e] at q
    cases fl with
    | nx => exact fun m' H' σ' E' R' re' => ⟨env', m', st', re', R', RIs.ext q E'⟩
    | bk => exact q
    | ct => exact q
    | rt d => exact q
    | ex c => exact q
theorem is_one (h1 : PS X st0 (tIs g EX u)) : PSs X [st0] (tIs g EX u) := pss_one h1
def sRet (f : Sm) : Sms := bndS f fun d => go (.rt d)
theorem is_ret (ha : PE X a (tI g EX f)) : PS X (.Return (some a) pos) (tIs g EX (sRet f)) := PS.mono (ps_ret ha) fun De σ H ⟨env, m, st, re, R, q⟩ =>
  ⟨env, m, st, re, R, q.bnd.mono fun d m1 H1 st1 E1 R1 q v r => q m1 H1 v (.refl _ _) R1 r⟩
def sExp (f : Sm) : Sms := bndS f fun _ => go .nx
theorem is_exp (ha : PE X a (tI g EX f)) (hs : swapsWith a none pos.line X.env = pure false := by rfl) : PS X (.Expr a pos) (tIs g EX (sExp f)) := PS.mono (ps_expr ha hs) fun De σ H ⟨env, m, st, re, R, q⟩ =>
  ⟨env, m, st, re, R, q.bnd.mono fun d m1 H1 st1 E1 R1 q v r => q m1 H1 σ (.refl _ _) R1 (re.ext E1)⟩
def sIf (t : Smt) (u w : Sms) : Sms := bndS t fun b => if b = true then u else w
theorem is_if {ss ss' : List Stmt} (hc : PT X c (tIt g EX t)) (ha : PSs X ss (tIs g EX u)) (hb : PSs X ss' (tIs g EX w)) : PS X (.If c ss ss' pos) (tIs g EX (sIf t u w)) := PS.mono (ps_if hc ha hb) fun De σ H ⟨env, m, st, re, R, q⟩ => by
  refine ⟨env, m, st, re, R, q.bnd.mono fun b m1 H1 st1 E1 R1 q => ?_⟩
  cases b with
  | true => exact iteT ⟨env, m1, st1, re.ext E1, R1, q⟩
  | false => exact iteF ⟨env, m1, st1, re.ext E1, R1, q⟩
def sSet (i : Nat) (f : Sm) : Sms := bndS f fun d => fun env st => some (.nx, env.set i (some d), st)
theorem is_set {i : Nat} {x : Str} {pos' : Pos} (hN : X.N.Nodup) (hi : X.N[i]? = some x) (hx : Loc X.env.scope x) (ha : PE X a (tI g EX f)) (hs : swapsWith a (some (.Name x pos')) pos.line X.env = pure false := by rfl)
    (hf : X.fn x = true ∨ X.env.scope.names.lookup x = some .local := by first | exact .inl rfl | exact .inr rfl | assumption) : PS X (.Assign [.Name x pos'] a pos) (tIs g EX (sSet i f)) :=
  PS.mono (ps_set hN hi hx ha hs hf) fun De σ H ⟨env, m, st, re, R, q⟩ =>
    ⟨env, m, st, re, R, q.bnd.mono fun d m1 H1 st1 E1 R1 q v r => q m1 H1 _ (.refl _ _) R1 ((re.ext E1).set r i)⟩
abbrev Bd := D → DEnv → Option DEnv
def tIg (g : GX) (b : Bd) : TG := fun v σ H Q => ∃ env m st d env', RE g m H env σ ∧ RS g m H st ∧ RD g m H d v ∧ b d env = some env' ∧ ∀ σ', RE g m H env' σ' → Q σ' H
def bName (i : Nat) : Bd := fun d env => some (env.set i (some d))
theorem PG.mono {e : Expr} {t t' : TG} (p : PG X e t) (hm : ∀ v σ H Q, t' v σ H Q → t v σ H Q) : PG X e t' := fun pins s σ H v u Q I r q => p pins s σ H v u Q I r (hm v σ H Q q)
theorem ig_name {i : Nat} {x : Str} (p : PG X (.Name x pos) (gName i)) : PG X (.Name x pos) (tIg g (bName i)) := PG.mono p fun v σ H Q ⟨env, m, st, d, env', re, R, r, e, q⟩ => by
  cases e
  exact q _ (re.set r i)
def setAll {α : Type} : List Nat → List α → List (Option α) → List (Option α)
  | i :: is, d :: ds, env => setAll is ds (env.set i (some d))
  | _, _, env => env
def gNames : List Nat → TGs
  | [] => gNil
  | i :: is => gCons (gName i) (gNames is)
theorem gNames_of {is : List Nat} : ∀ {vs : List V} {σ : L2.St} {H : Hp} {Q : L2.St → Hp → Prop}, vs.length = is.length → Q (setAll is vs σ) H → gNames is vs σ H Q := by
  induction is with
  | nil =>
    intro vs σ H Q hl q
    cases vs with
    | nil => exact ⟨rfl, q⟩
    | cons _ _ => cases hl
  | cons i is ih =>
    intro vs σ H Q hl q
    cases vs with
    | nil => cases hl
    | cons v vs => exact ⟨v, vs, rfl, ih (by simpa using hl) q⟩
theorem RE.setAll {m : MM} {H : Hp} : ∀ {is : List Nat} {ds : List D} {vs : List V} {env : DEnv} {σ : L2.St}, RE g m H env σ → RDs g m H ds vs → RE g m H (I2.setAll is ds env) (I2.setAll is vs σ)
  | [], _, _, _, _, re, _ => re
  | _ :: _, _, _, _, _, re, .nil => re
  | i :: is, _, _, _, _, re, .cons r rs => RE.setAll (is := is) (re.set r i) rs
def bTup (is : List Nat) : Bd := fun d env => match d with
  | .tup ds => if ds.length = is.length then some (setAll is ds env) else none
  | _ => none
theorem ig_tup {is : List Nat} {k : Nat} (hK : X.K = g.K) (hc : X.calm = true) (p : PGs X es (gNames is)) (hn : (assignEach es X.env).length = is.length := by rfl) (hst : (assignEach es X.env).findIdx? (·.1) = none := by rfl) : PG X (.Tuple es k pos) (tIg g (bTup is)) :=
  PG.mono (pg_tup hc p hn hst) fun v σ H Q ⟨env, m, st, d, env', re, R, r, e, q⟩ => by
    cases r with
    | @tup p xs ds hs hr =>
      simp only [bTup] at e
      split at e
      · rename_i hl
        cases e
        exact ⟨p, xs, rfl, by rw [hK]; exact hs, by rw [← hr.length]; exact hl, gNames_of (by rw [← hr.length]; exact hl) (q _ (re.setAll hr))⟩
      · cases e
    | _ => cases e
def sAsg (b : Bd) (f : Sm) : Sms := bndS f fun d => fun env st => (b d env).map fun env' => (.nx, env', st)
theorem is_asg {tg : Expr} {bd : Bd} (ha : PE X a (tI g EX f)) (hg : PG X tg (tIg g bd)) (hs : swapsWithSole [tg] a pos.line X.env = pure false := by rfl) (hw : swappedStores [tg] a X.env = pure none := by rfl)
    (h1 : (assignEach [tg] X.env).map (·.2) = [assign tg X.env] := by rfl) : PS X (.Assign [tg] a pos) (tIs g EX (sAsg bd f)) := PS.mono (ps_asg ha hg hs hw h1) fun De σ H ⟨env, m, st, re, R, q⟩ =>
  ⟨env, m, st, re, R, q.bnd.mono fun d m1 H1 st1 E1 R1 q v r => by
    cases e : bd d env with
    | none => rw [e] at q; exact q.elim
    | some env' => rw [e] at q; exact ⟨env, m1, st1, d, env', re.ext E1, R1, r, e, fun σ' re' => q m1 H1 σ' (.refl _ _) R1 re'⟩⟩
def sPar (i j : Nat) (fs : Sma) : Sms := bndS fs fun ds => fun env st => match ds with
  | [x, y] => some (.nx, (env.set i (some x)).set j (some y), st)
  | _ => none
theorem is_par {i j : Nat} {x y : Str} {px py pt : Pos} {kt k2 pt2} (hc : X.calm = true) (hN : X.N.Nodup) (hi : X.N[i]? = some x) (hj : X.N[j]? = some y) (hij : i ≠ j)
    (hx : X.env.scope.names.lookup x = some .local) (hy : X.env.scope.names.lookup y = some .local) (ha : PA X [a, b] (tIa g EX fs))
    (hw : swappedStores [.Tuple [.Name x px, .Name y py] kt pt] (.Tuple [a, b] k2 pt2) X.env = pure (some [x, y]))
    (hs : swapsWithSole [.Tuple [.Name x px, .Name y py] kt pt] (.Tuple [a, b] k2 pt2) pos.line X.env = pure false := by rfl) :
    PS X (.Assign [.Tuple [.Name x px, .Name y py] kt pt] (.Tuple [a, b] k2 pt2) pos) (tIs g EX (sPar i j fs)) := PS.mono (ps_par hc hN hi hj hij hx hy ha hw hs) fun De σ H ⟨env, m, st, re, R, q⟩ =>
  ⟨env, m, st, re, R, q.bnd.mono fun ds m1 H1 st1 E1 R1 q vs r => by
    cases r with
    | nil => exact q.elim
    | cons r rs =>
      cases rs with
      | nil => exact q.elim
      | cons r' rs =>
        cases rs with
        | nil => exact ⟨_, _, rfl, q m1 H1 _ (.refl _ _) R1 (((re.ext E1).set r i).set r' j)⟩
        | cons _ _ => exact q.elim⟩
def sPut (f h k : Sm) : Sms := bndS f fun v => bndS h fun o => bndS k fun j => fun env st => match o, j with
  | .ref i, .int z => match st[i]? with
    | some (.lst ds) => match ixN ds.length z with
      | some n => some (.nx, env, st.set i (.lst (ds.set n v)))
      | none => none
    | _ => none
  | _, _ => none
theorem is_put {o i : Expr} {spos : Pos} (ha : PE X a (tI g EX f)) (ho : PE X o (tI g EX h)) (hi : PE X i (tI g EX k))
    (hq : ∀ v, assign (.Subscript o i spos) X.env v = (do
      let ov ← holding [v] (eval o X.env)
      let iv ← holding [v, ov] (eval i X.env)
      standAt spos
      holding [v, ov, iv] (setItem ov iv v)
      release [v, ov, iv] []) := by intro _; rfl)
    (hs : swapsWithSole [.Subscript o i spos] a pos.line X.env = pure false := by rfl) (hw : swappedStores [.Subscript o i spos] a X.env = pure none := by rfl)
    (h1 : (assignEach [.Subscript o i spos] X.env).map (·.2) = [assign (.Subscript o i spos) X.env] := by rfl) : PS X (.Assign [.Subscript o i spos] a pos) (tIs g EX (sPut f h k)) :=
  PS.mono (ps_asg ha (pg_sub ho hi set_list hq) hs hw h1) fun De σ H ⟨env, m, st, re, R, q⟩ => by
    refine ⟨env, m, st, re, R, q.bnd.mono fun dv m1 H1 st1 E1 R1 q v1 r1 => ?_⟩
    refine ⟨env, m1, st1, re.ext E1, R1, q.bnd.mono fun do2 m2 H2 st2 E2 R2 q v2 r2 => ?_⟩
    refine ⟨env, m2, st2, (re.ext E1).ext E2, R2, q.bnd.mono fun di m3 H3 st3 E3 R3 q v3 r3 => ?_⟩
    have r1 := (r1.ext E2).ext E3
    have re3 := ((re.ext E1).ext E2).ext E3
    have r2 := r2.ext E3
    cases r2 with
    | @ref n p hp =>
      cases r3 with
      | int z =>
        dsimp only at q
        cases e1 : st3[n]? with
        | none => rw [e1] at q; exact q.elim
        | some cl =>
          rw [e1] at q
          cases cl with
          | dic kvs => exact q.elim
          | gone => exact q.elim
          | lst ds =>
            obtain ⟨xs, hx, hr⟩ := R3.at n _ p e1 hp
            dsimp only at q
            cases e2 : ixN ds.length z with
            | none => rw [e2] at q; exact q.elim
            | some j =>
              rw [e2] at q
              exact ⟨p, xs, z, j, rfl, rfl, hx, by rw [← hr.length]; exact e2, q m3 _ σ (Ext.put R3 hp (R3.lv _ _ _ e1 hp (by simp))) (R3.putL hp (R3.lv _ _ _ e1 hp (by simp)) (hr.set r1 j)) (re3.ext (Ext.put R3 hp (R3.lv _ _ _ e1 hp (by simp))))⟩
      | _ => exact q.elim
    | _ => exact q.elim
def isCL (st : Sto) : D → Option Nat
  | .ref i => match st[i]? with
    | some (.lst _) => some i
    | _ => none
  | _ => none
def sApp (f h : Sm) : Sm := bnd f fun o => bnd (liftS fun st => isCL st o) fun i => bnd h fun v => fun env st => match st[i]? with
  | some (.lst ds) => if ds.length < sizeLine then some (.ok .non, st.set i (.lst (ds ++ [v]))) else none
  | _ => none
def iterW (t : Smt) (u : Sms) : Nat → Sms
  | 0 => fun _ _ => none
  | n + 1 => bndS t fun b => if b = true then (fun env st => match u env st with
      | some (.nx, env', st') => iterW t u n env' st'
      | some (.ct, env', st') => iterW t u n env' st'
      | some (.bk, env', st') => some (.nx, env', st')
      | o => o) else go .nx
open Classical in
noncomputable def sWhile (t : Smt) (u : Sms) : Sms := fun env st => if h : ∃ n, (iterW t u n env st).isSome then iterW t u h.choose env st else none
theorem iterW_mono {t : Smt} {u : Sms} : ∀ {n k : Nat} {env : DEnv} {st : Sto} {r : Fl × DEnv × Sto}, iterW t u n env st = some r → n ≤ k → iterW t u k env st = some r
  | 0, _, _, _, _, h, _ => by cases h
  | n + 1, 0, _, _, _, _, h => by omega
  | n + 1, k + 1, env, st, r, h, hk => by
    unfold iterW bndS at h ⊢
    cases e : t env st with
    | none => rw [e] at h; cases h
    | some o =>
      obtain ⟨o, st'⟩ := o
      rw [e] at h
      cases o with
      | ex c => exact h
      | ok b =>
        cases b with
        | false => exact h
        | true =>
          simp only [if_true] at h ⊢
          cases e2 : u env st' with
          | none => rw [e2] at h; cases h
          | some r2 =>
            obtain ⟨fl, env2, st2⟩ := r2
            rw [e2] at h
            cases fl with
            | nx => exact iterW_mono (n := n) h (by omega)
            | ct => exact iterW_mono (n := n) h (by omega)
            | bk => exact h
            | rt d => exact h
            | ex c => exact h
theorem sWhile_of {t : Smt} {u : Sms} {n : Nat} {env : DEnv} {st : Sto} {r : Fl × DEnv × Sto} (h : iterW t u n env st = some r) : sWhile t u env st = some r := by
  have hex : ∃ n, (iterW t u n env st).isSome := ⟨n, by rw [h]; rfl⟩
  unfold sWhile
  rw [dif_pos hex]
  have h2 := hex.choose_spec
  cases e : iterW t u hex.choose env st with
  | none => rw [e] at h2; cases h2
  | some r' =>
    have a1 := iterW_mono e (Nat.le_max_left hex.choose n)
    have a2 := iterW_mono h (Nat.le_max_right hex.choose n)
    rw [a1] at a2
    exact a2
theorem sWhile_iff {t : Smt} {u : Sms} {env : DEnv} {st : Sto} {r : Fl × DEnv × Sto} (h : sWhile t u env st = some r) : ∃ n, iterW t u n env st = some r := by
  unfold sWhile at h
  split at h
  · rename_i hex; exact ⟨_, h⟩
  · cases h
theorem is_while {body : List Stmt} (hp : PassesOwn (model X.prog X.w) X.A X.env X.xe) (hc : PT X c (tIt g EX t)) (hb : PSs X body (tIs g EX u)) : PS X (.While c body [] pos) (tIs g EX (sWhile t u)) :=
  PS.mono (ps_while hp hc hb) fun De σ H ⟨env, m, st, re, R, q⟩ => by
    cases e : sWhile t u env st with
    | none => rw [e] at q; exact q.elim
    | some r =>
      rw [e] at q
      obtain ⟨n, e⟩ := sWhile_iff e
      refine ⟨fun n σ1 H1 => ∃ env1 m1 st1, RE g m1 H1 env1 σ1 ∧ RS g m1 H1 st1 ∧ RIs g EX m1 H1 (iterW t u n env1 st1) De, ⟨n, env, m, st, re, R, by rw [e]; exact q⟩, ?_⟩
      rintro n σ1 H1 ⟨env1, m1, st1, re1, R1, q1⟩
      cases n with
      | zero => exact q1.elim
      | succ n =>
        refine ⟨env1, m1, st1, re1, R1, ?_⟩
        unfold iterW at q1
        refine RI.mono q1.bnd fun b m2 H2 st2 E2 R2 q2 => ?_
        cases b with
        | false => exact iteF (q2 m2 H2 σ1 (.refl _ _) R2 (re1.ext E2))
        | true =>
          refine iteT ⟨fun σ' H' => ∃ env1 m1 st1, RE g m1 H' env1 σ' ∧ RS g m1 H' st1 ∧ RIs g EX m1 H' (iterW t u n env1 st1) De, fun σ' H' hn => ⟨n, Nat.lt_succ_self n, hn⟩, env1, m2, st2, re1.ext E2, R2, ?_⟩
          simp only [if_true] at q2
          cases e2 : u env1 st2 with
          | none => rw [e2] at q2; exact q2
          | some r2 =>
            obtain ⟨fl, env3, st3⟩ := r2
            rw [e2] at q2
            cases fl with
            | nx => exact fun m' H' σ' E' R' re' => ⟨env3, m', st3, re', R', RIs.ext q2 E'⟩
            | ct => exact fun m' H' σ' E' R' re' => ⟨env3, m', st3, re', R', RIs.ext q2 E'⟩
            | bk => exact q2
            | rt d => exact q2
            | ex c => exact q2
def forL (bd : Bd) (u : Sms) : List D → Sms
  | [] => go .nx
  | d :: ds => fun env st => match bd d env with
    | none => none
    | some env1 => match u env1 st with
      | some (.nx, env', st') => forL bd u ds env' st'
      | some (.ct, env', st') => forL bd u ds env' st'
      | some (.bk, env', st') => some (.nx, env', st')
      | o => o
theorem forL_step {bd : Bd} {d : D} {ds : List D} {env : DEnv} {st : Sto} {m : MM} {H : Hp} {σ : L2.St} {v : V} {De : Ends} {N : L2.St → Hp → Prop} (re : RE g m H env σ) (R : RS g m H st) (r : RD g m H d v) (q : RIs g EX m H (forL bd u (d :: ds) env st) De)
    (hN : ∀ env' m' st' H' σ', Ext m H m' H' → RE g m' H' env' σ' → RS g m' H' st' → RIs g EX m' H' (forL bd u ds env' st') De → N σ' H') :
    tIg g bd v σ H fun σ2 H2 => tIs g EX u { De with nx := N, ct := N, bk := De.nx } σ2 H2 := by
  unfold forL at q
  cases e : bd d env with
  | none => rw [e] at q; exact q.elim
  | some env1 =>
    rw [e] at q
    refine ⟨env, m, st, d, env1, re, R, r, e, fun σ' re' => ⟨env1, m, st, re', R, ?_⟩⟩
    dsimp only at q
    cases e2 : u env1 st with
    | none => rw [e2] at q; exact q
    | some r2 =>
      obtain ⟨fl, env3, st3⟩ := r2
      rw [e2] at q
      cases fl with
      | nx => exact fun m' H' σ' E' R' re' => hN env3 m' st3 H' σ' E' re' R' (RIs.ext q E')
      | ct => exact fun m' H' σ' E' R' re' => hN env3 m' st3 H' σ' E' re' R' (RIs.ext q E')
      | bk => exact q
      | rt d => exact q
      | ex c => exact q
def seqOf : D → Option (List D)
  | .tup ds => some ds
  | .lst ds => some ds
  | .scr ds => some ds
  | _ => none
def iSeq (K : PySem.W.Frag) (tl : TE) : TI := fun σ H R => tl σ H fun x H1 => ∃ a, x = .ref a ∧ (((∃ xs, SqL K H1 a xs) ∧ R (Itl K a) H1) ∨ ((∃ xs, SqT K H1 a xs) ∧ R (Itt K a) H1))
theorem pi_seq {tg l : Expr} {tl : TE} (hl : PE X l tl) : PI X tg l (iSeq X.K tl) := by
  intro pins s σ H R I h
  refine thn (hl pins s σ H _ I h) fun v s1 ⟨x, H1, I1, r1, q1⟩ => ?_
  obtain ⟨a, e, q1⟩ := q1
  subst e
  cases r1
  rcases q1 with ⟨⟨xs, hq⟩, q⟩ | ⟨⟨xs, hq⟩, q⟩
  · obtain ⟨its, rv, p, hz⟩ := I1.list hq
    refine wpAny_pyIter_list p.isList ?_
    refine ⟨s1.heap.objs.size, [s1.heap.objs.size], _, _, H1, rfl, I1.kept (t' := s1.toks) fun b o e => Heap.get?_push_of_some _ e, turn_list a _, ⟨_, Heap.get?_push_size _ rfl, rfl, rfl⟩, fun b hb => ?_, q⟩
    have e : b = s1.heap.objs.size := by simpa using hb
    subst e
    exact I1.fpOk (Nat.le_refl _) (I1.hok.fresh (Nat.le_refl _))
  · obtain ⟨its, rv, p, hz⟩ := I1.tuple hq
    refine wpAny_pyIter_tuple (show s1.heap.IsTuple a its.toArray from p) ?_
    refine ⟨s1.heap.objs.size, [s1.heap.objs.size], _, _, H1, rfl, I1.kept (t' := s1.toks) fun b o e => Heap.get?_push_of_some _ e, turn_tuple a _, ⟨_, Heap.get?_push_size _ rfl, rfl, rfl⟩, fun b hb => ?_, q⟩
    have e : b = s1.heap.objs.size := by simpa using hb
    subst e
    exact I1.fpOk (Nat.le_refl _) (I1.hok.fresh (Nat.le_refl _))
def sFor (bd : Bd) (f : Sm) (u : Sms) : Sms := bndS f fun d => bndS (lift (seqOf d)) fun ds => forL bd u ds
theorem drop_cons {α : Type} {xs : List α} {i : Nat} {x : α} (h : xs[i]? = some x) : xs.drop i = x :: xs.drop (i + 1) := by
  obtain ⟨hl, rfl⟩ := List.getElem?_eq_some_iff.mp h
  exact List.drop_eq_getElem_cons hl
theorem is_for {tg : Expr} {bd : Bd} {body : List Stmt} (hK : X.K = g.K) (hp : PassesOwn (model X.prog X.w) X.A X.env X.xe) (hc : X.calm = true) (ha : PE X a (tI g EX f)) (hg : PG X tg (tIg g bd)) (hb : PSs X body (tIs g EX u))
    (hs : ∀ x, foldedSetIterable a X.env x = pure x := by intro _; rfl) : PS X (.For tg a body [] pos) (tIs g EX (sFor bd f u)) :=
  PS.mono (ps_for hp hc (pi_seq ha) hg hb hs) fun De σ H ⟨env, m, st, re, R, q⟩ => by
    refine ⟨env, m, st, re, R, q.bnd.mono fun d m1 H1 st1 E1 R1 q v r => ?_⟩
    obtain ⟨ds, e, q⟩ := q.bnd.lift
    have q := q m1 H1 (.refl _ _) R1
    rw [hK]
    cases r with
    | @tup p xs es hs hr =>
      cases e
      refine ⟨p, rfl, .inr ⟨⟨xs, hs⟩, for_tup (K := g.K) (a := p) (xs := xs) (fun i σ2 H2 => ∃ env2 m2 st2, Ext m1 H1 m2 H2 ∧ RE g m2 H2 env2 σ2 ∧ RS g m2 H2 st2 ∧ RIs g EX m2 H2 (forL bd u (ds.drop i) env2 st2) De)
        ⟨env, m1, st1, .refl _ _, re.ext E1, R1, q⟩ (fun i σ2 H2 _ ⟨env2, m2, st2, E2, _⟩ => E2.sqT hs) ?_ ?_⟩⟩
      · rintro i x σ2 H2 hi ⟨env2, m2, st2, E2, re2, R2, q2⟩
        obtain ⟨d, hd, rd⟩ := hr.get' hi
        rw [drop_cons hd] at q2
        exact forL_step re2 R2 (rd.ext E2) q2 fun env' m' st' H' σ' E' re' R' q' => ⟨env', m', st', E2.trans E', re', R', q'⟩
      · rintro σ2 H2 ⟨env2, m2, st2, E2, re2, R2, q2⟩
        rw [← hr.length, List.drop_length] at q2
        exact q2 m2 H2 σ2 (.refl _ _) R2 re2
    | @lst p xs es hs hn hr =>
      cases e
      refine ⟨p, rfl, .inl ⟨⟨xs, .of hs⟩, for_list (K := g.K) (a := p) (xs := xs) (fun i σ2 H2 => ∃ env2 m2 st2, Ext m1 H1 m2 H2 ∧ RE g m2 H2 env2 σ2 ∧ RS g m2 H2 st2 ∧ RIs g EX m2 H2 (forL bd u (ds.drop i) env2 st2) De)
        ⟨env, m1, st1, .refl _ _, re.ext E1, R1, q⟩ (fun i σ2 H2 _ ⟨env2, m2, st2, E2, _⟩ => .of (E2.lst _ _ hs hn).1) ?_ ?_⟩⟩
      · rintro i x σ2 H2 hi ⟨env2, m2, st2, E2, re2, R2, q2⟩
        obtain ⟨d, hd, rd⟩ := hr.get' hi
        rw [drop_cons hd] at q2
        exact forL_step re2 R2 (rd.ext E2) q2 fun env' m' st' H' σ' E' re' R' q' => ⟨env', m', st', E2.trans E', re', R', q'⟩
      · rintro σ2 H2 ⟨env2, m2, st2, E2, re2, R2, q2⟩
        rw [← hr.length, List.drop_length] at q2
        exact q2 m2 H2 σ2 (.refl _ _) R2 re2
    | @scr p xs es hs hr =>
      cases e
      refine ⟨p, rfl, .inl ⟨⟨xs, hs.sq⟩, for_list (K := g.K) (a := p) (xs := xs) (fun i σ2 H2 => ∃ env2 m2 st2, Ext m1 H1 m2 H2 ∧ RE g m2 H2 env2 σ2 ∧ RS g m2 H2 st2 ∧ RIs g EX m2 H2 (forL bd u (ds.drop i) env2 st2) De)
        ⟨env, m1, st1, .refl _ _, re.ext E1, R1, q⟩ (fun i σ2 H2 _ ⟨env2, m2, st2, E2, _⟩ => (E2.sf hs).sq) ?_ ?_⟩⟩
      · rintro i x σ2 H2 hi ⟨env2, m2, st2, E2, re2, R2, q2⟩
        obtain ⟨d, hd, rd⟩ := hr.get' hi
        rw [drop_cons hd] at q2
        exact forL_step re2 R2 (rd.ext E2) q2 fun env' m' st' H' σ' E' re' R' q' => ⟨env', m', st', E2.trans E', re', R', q'⟩
      · rintro σ2 H2 ⟨env2, m2, st2, E2, re2, R2, q2⟩
        rw [← hr.length, List.drop_length] at q2
        exact q2 m2 H2 σ2 (.refl _ _) R2 re2
    | _ => cases e
def rngL (lo : Int) : Nat → List D
  | 0 => []
  | n + 1 => .int lo :: rngL (lo + 1) n
theorem rngL_drop (lo : Int) (n i : Nat) (h : i < n) : (rngL lo n).drop i = .int (lo + i) :: (rngL lo n).drop (i + 1) := by
  induction n generalizing lo i with
  | zero => omega
  | succ n ih =>
    cases i with
    | zero => simp [rngL]
    | succ i =>
      show (rngL (lo + 1) n).drop i = _
      rw [ih (lo + 1) i (by omega)]
      have e : lo + 1 + (i : Int) = lo + ((i + 1 : Nat) : Int) := by omega
      rw [e]; rfl
theorem rngL_length (lo : Int) (n : Nat) : (rngL lo n).length = n := by
  induction n generalizing lo with
  | zero => rfl
  | succ n ih => simp [rngL, ih]
def rngOf : List D → Option (List D)
  | [.int j] => if -(2 ^ 62) ≤ j ∧ j < 2 ^ 62 then some (rngL 0 j.toNat) else none
  | _ => none
def sForR (bd : Bd) (fs : Sma) (u : Sms) : Sms := bndS fs fun ds => bndS (lift (rngOf ds)) fun ds => forL bd u ds
theorem is_forR {tg : Expr} {bd : Bd} {body : List Stmt} {p p' : Pos} (hp : PassesOwn (model X.prog X.w) X.A X.env X.xe) (hc : X.calm = true) (hgl : Gl X "range") (hmg : X.mg "range" = none) (ha : PA X [a] (tIa g EX fs)) (hg : PG X tg (tIg g bd)) (hb : PSs X body (tIs g EX u))
    (hst : starEach [a] X.env = [(false, eval a X.env)] := by rfl) (hs : ∀ x, foldedSetIterable (.Call (.Name "range" p) [a] [] p') X.env x = pure x := by intro _; rfl) : PS X (.For tg (.Call (.Name "range" p) [a] [] p') body [] pos) (tIs g EX (sForR bd fs u)) :=
  PS.mono (ps_for hp hc (pi_range1 hgl hmg ha hst) hg hb hs) fun De σ H ⟨env, m, st, re, R, q⟩ => by
    refine ⟨env, m, st, re, R, q.bnd.mono fun d m1 H1 st1 E1 R1 q v r => ?_⟩
    obtain ⟨ds, e, q⟩ := q.bnd.lift
    have q := q m1 H1 (.refl _ _) R1
    obtain ⟨x, v, rfl, rfl, rx⟩ := one_of (op := rngOf) r e rfl (fun a b c => by cases a <;> rfl)
    cases rx with
    | int j =>
      simp only [rngOf] at e
      split at e
      · rename_i hj
        cases e
        refine ⟨j, rfl, hj.1, hj.2, for_range (lo := 0) (n := j.toNat) (fun i σ2 H2 => ∃ env2 m2 st2, Ext m1 H1 m2 H2 ∧ RE g m2 H2 env2 σ2 ∧ RS g m2 H2 st2 ∧ RIs g EX m2 H2 (forL bd u ((rngL 0 j.toNat).drop i) env2 st2) De)
          ⟨env, m1, st1, .refl _ _, re.ext E1, R1, q⟩ ?_ ?_⟩
        · rintro i σ2 H2 hi ⟨env2, m2, st2, E2, re2, R2, q2⟩
          rw [rngL_drop 0 _ i hi] at q2
          exact forL_step re2 R2 (.int _) q2 fun env' m' st' H' σ' E' re' R' q' => ⟨env', m', st', E2.trans E', re', R', q'⟩
        · rintro σ2 H2 ⟨env2, m2, st2, E2, re2, R2, q2⟩
          rw [List.drop_eq_nil_of_le (by rw [rngL_length]; exact Nat.le_refl _)] at q2
          exact q2 m2 H2 σ2 (.refl _ _) R2 re2
      · cases e
    | _ => cases e
end
end I2
set_option Elab.async false
set_option linter.all false
set_option maxRecDepth 100000
set_option maxHeartbeats 4000000
namespace I2
open PySem PySem.Spec PyProof.Rows L2
theorem wipe_get (σ : L2.St) (vs : List Nat) (j : Nat) : (wipe σ vs)[j]? = if j ∈ vs then (if j < σ.length then some none else none) else σ[j]? := by
  induction vs with
  | nil => simp [wipe]
  | cons v vs ih =>
    unfold wipe
    by_cases hv : j = v
    · subst hv
      by_cases hl : j < σ.length
      · rw [List.getElem?_set_self (by rw [wipe_length]; exact hl)]; simp [hl]
      · rw [List.getElem?_eq_none (by rw [List.length_set, wipe_length]; omega)]; simp [hl]
    · rw [List.getElem?_set_ne (Ne.symm hv), ih]; simp [hv]
theorem wipe_idem (σ : L2.St) (vs : List Nat) : wipe (wipe σ vs) vs = wipe σ vs := by
  refine List.ext_getElem? fun j => ?_
  rw [wipe_get, wipe_get, wipe_length]
  split <;> simp_all
theorem wipe_set (σ : L2.St) (vs : List Nat) (i : Nat) (x : Option V) (h : i ∈ vs) : wipe (σ.set i x) vs = wipe σ vs := by
  refine List.ext_getElem? fun j => ?_
  rw [wipe_get, wipe_get, List.length_set]
  by_cases hj : j ∈ vs
  · rw [if_pos hj, if_pos hj]
  · rw [if_neg hj, if_neg hj, List.getElem?_set_ne (fun (e : i = j) => hj (e ▸ h))]
theorem wipe_setAll (vs : List Nat) : ∀ (is : List Nat) (xs : List V) (σ : L2.St), (∀ i ∈ is, i ∈ vs) → wipe (setAll is xs σ) vs = wipe σ vs
  | [], _, _, _ => rfl
  | i :: is, [], _, _ => rfl
  | i :: is, x :: xs, σ, h => by
    unfold setAll
    rw [wipe_setAll vs is xs _ fun j hj => h j (List.mem_cons_of_mem _ hj), wipe_set σ vs i _ (h i List.mem_cons_self)]
def wipeD (env : DEnv) : List Nat → DEnv
  | [] => env
  | v :: vs => (wipeD env vs).set v none
theorem RE.unset' {g : GX} {m : MM} {H : Hp} {env : DEnv} {σ : L2.St} (re : RE g m H env σ) (i : Nat) : RE g m H (env.set i none) (σ.set i none) := by
  refine ⟨by simp [re.len], fun j d e => ?_⟩
  by_cases hj : j = i
  · subst hj
    by_cases hl : j < env.length
    · rw [List.getElem?_set_self hl] at e; cases e
    · rw [List.getElem?_eq_none (by simpa using hl)] at e; cases e
  · rw [List.getElem?_set_ne (Ne.symm hj)] at e ⊢
    exact re.get j d e
theorem RE.wipe {g : GX} {m : MM} {H : Hp} {env : DEnv} {σ : L2.St} (re : RE g m H env σ) : ∀ vs : List Nat, RE g m H (wipeD env vs) (L2.wipe σ vs)
  | [] => re
  | v :: vs => (RE.wipe re vs).unset' v
inductive Tgt where
  | name (i : Nat)
  | tup (is : List Nat)
def Tgt.tg (K : PySem.W.Frag) : Tgt → TG
  | .name i => gName i
  | .tup is => gTup K is.length (gNames is)
def Tgt.bd : Tgt → Bd
  | .name i => bName i
  | .tup is => bTup is
def Tgt.all (vs : List Nat) : Tgt → Prop
  | .name i => i ∈ vs
  | .tup is => ∀ i ∈ is, i ∈ vs
theorem Tgt.run {g : GX} {m : MM} {H : Hp} {env env' : DEnv} {σ : L2.St} {d : D} {v : V} {Q : L2.St → Hp → Prop} {vs : List Nat} (T : Tgt) (re : RE g m H env σ) (r : RD g m H d v) (e : T.bd d env = some env') (ha : T.all vs) (q : ∀ σ', RE g m H env' σ' → wipe σ' vs = wipe σ vs → Q σ' H) : T.tg g.K v σ H Q := by
  cases T with
  | name i => cases e; exact q _ (re.set r i) (wipe_set σ vs i _ ha)
  | tup is =>
    cases r with
    | @tup p xs ds hs hr =>
      simp only [Tgt.bd, bTup] at e
      split at e
      · rename_i hl
        cases e
        exact ⟨p, xs, rfl, hs, by rw [← hr.length]; exact hl, gNames_of (by rw [← hr.length]; exact hl) (q _ (re.setAll hr) (wipe_setAll vs is xs σ ha))⟩
      · cases e
    | _ => cases e
def compL (bd : Bd) (t : Smt) (h : Sm) (env : DEnv) : List D → Sto → Option (List D × Sto)
  | [], st => some ([], st)
  | d :: ds, st => match bd d env with
    | none => none
    | some env1 => match t env1 st with
      | some (.ok true, st1) => match h env1 st1 with
        | some (.ok y, st2) => (compL bd t h env ds st2).map fun r => (y :: r.1, r.2)
        | _ => none
      | some (.ok false, st1) => compL bd t h env ds st1
      | _ => none
def compR (T : Tgt) (t : Smt) (h : Sm) (vs : List Nat) (ds : List D) : Sm := fun env st => match compL T.bd t h (wipeD env vs) ds st with
  | some (ys, st') => if small ys then some (.ok (.lst ys), st') else none
  | none => none
def sComp (T : Tgt) (f : Sm) (t : Smt) (h : Sm) (vs : List Nat) : Sm := bnd f fun d => bnd (lift (seqOf d)) fun ds => compR T t h vs ds
section
variable {g : GX} {m m1 m2 m4 : MM} {H H1 H4 : Hp} {st : Sto} {D' : Addr}
theorem RS.fill (R : RS g m H st) (hp : H D' = none) : RS g (m.fill D') (upd H D' (.lst [])) st := by
  have e0 : Ext0 m H (m.fill D') (upd H D' (.lst [])) := ⟨⟨[], by simp [MM.fill]⟩, fun _ _ h => upd_keep hp h, fun _ _ _ h => upd_keep hp h, fun b _ h n => ⟨upd_keep hp h, n.1, fun z => (List.mem_cons.mp z).elim (fun z => ne_of_none h hp z) n.2⟩,
    fun b _ h n => ⟨upd_keep hp h, n.1, fun z => (List.mem_cons.mp z).elim (fun z => ne_of_none h hp z) n.2⟩, fun _ _ h => upd_keep hp h⟩
  refine ⟨R.len, R.nd, fun i c a h1 h2 => ?_, fun a ha => ?_, fun a ha hv => ?_, R.lv, fun a ha => ⟨fun z => ?_, (R.dd a ha).2.imp fun xs q => upd_keep hp q⟩⟩
  · have := R.at i c a h1 h2
    cases c with
    | lst ds => obtain ⟨xs, q, r⟩ := this; exact ⟨xs, upd_keep hp q, r.ext0 e0⟩
    | dic kvs => obtain ⟨ys, q, e, r⟩ := this; exact ⟨ys, upd_keep hp q, e, r.ext0 e0⟩
    | gone => obtain ⟨xs, q⟩ := this; exact ⟨xs, upd_keep hp q⟩
  · rcases List.mem_cons.mp ha with rfl | ha
    · exact ⟨[], upd_same⟩
    · obtain ⟨xs, q⟩ := R.vol a ha; exact ⟨xs, upd_keep hp q⟩
  · rcases List.mem_cons.mp hv with rfl | hv
    · exact R.fresh hp ha
    · exact R.disj a ha hv
  · rcases List.mem_cons.mp z with rfl | z
    · exact R.undead hp ha
    · exact (R.dd a ha).1 z
theorem Ext0.filled {xs ys : List V} (hD : H D' = some (.lst xs)) : Ext0 (m.fill D') H (m.fill D') (upd H D' (.lst ys)) := by
  have ne : ∀ b u, H b = some u → u ≠ .lst xs → upd H D' (.lst ys) b = some u := fun b u h n => by
    rw [upd_ne]; exact h
    rintro rfl; rw [hD] at h; exact n (Option.some.inj h).symm
  refine ⟨⟨[], by simp⟩, fun b _ h => ne b _ h (fun z => nomatch z), fun b _ _ h => ne b _ h (fun z => nomatch z), fun b zs h n => ⟨?_, n⟩, fun b _ h n => ⟨ne b _ h (fun z => nomatch z), n⟩, fun b _ h => ne b _ h (fun z => nomatch z)⟩
  rw [upd_ne (fun e => n.2 (by rw [e]; exact List.mem_cons_self ..))]; exact h
theorem RS.filled {xs ys : List V} (R : RS g (m.fill D') H st) (hD : H D' = Option.some (.lst xs)) : RS g (m.fill D') (upd H D' (.lst ys)) st := by
  have ne : ∀ a ∈ (m.fill D').cells, a ≠ D' := fun a ha e => R.disj a ha (by rw [e]; exact List.mem_cons_self ..)
  refine ⟨R.len, R.nd, fun i c a h1 h2 => ?_, fun a ha => ?_, R.disj, R.lv, fun a ha => ⟨(R.dd a ha).1, (R.dd a ha).2.imp fun xs q => ?_⟩⟩
  · have hn := ne a (List.mem_of_getElem? h2)
    have := R.at i c a h1 h2
    cases c with
    | lst ds => obtain ⟨xs, q, r⟩ := this; exact ⟨xs, by rw [upd_ne hn]; exact q, r.ext0 (.filled hD)⟩
    | dic kvs => obtain ⟨ys, q, e, r⟩ := this; exact ⟨ys, by rw [upd_ne hn]; exact q, e, r.ext0 (.filled hD)⟩
    | gone => obtain ⟨xs, q⟩ := this; exact ⟨xs, by rw [upd_ne hn]; exact q⟩
  · by_cases hb : a = D'
    · subst hb; exact ⟨ys, upd_same⟩
    · obtain ⟨zs, q⟩ := R.vol a ha; exact ⟨zs, by rw [upd_ne hb]; exact q⟩
  · rw [upd_ne (fun e => (R.dd a ha).1 (by rw [e]; exact List.mem_cons_self ..))]; exact q
theorem Ext.step (e1 : Ext m1 H1 m2 H) (hD : H1 D' = none) (E : Ext (m2.fill D') H m4 H4) (o : HO) : Ext m1 H1 ⟨m4.cells, m2.vol, m4.dead⟩ (upd H4 D' o) := by
  have ne : ∀ b u, H1 b = some u → b ≠ D' := fun b u h => ne_of_none h hD
  refine ⟨⟨?_, fun b xs h => ?_, fun b o u h => ?_, fun b xs h n => ?_, fun b kvs h n => ?_, fun b φ h => ?_⟩, e1.vols, fun b xs hv h => ?_⟩
  · obtain ⟨r, q⟩ := e1.pre
    obtain ⟨r', q'⟩ := E.pre
    exact ⟨r ++ r', by show m4.cells = _; rw [q', MM.fill, q, List.append_assoc]⟩
  · rw [upd_ne (ne b _ h)]; exact E.tup b xs (e1.tup b xs h)
  · rw [upd_ne (ne b _ h)]; exact E.frz b o u (e1.frz b o u h)
  · obtain ⟨h1, n1⟩ := e1.lst b xs h n
    obtain ⟨h2, n2⟩ := E.lst b xs h1 ⟨n1.1, fun z => (List.mem_cons.mp z).elim (ne b _ h) n1.2⟩
    exact ⟨by rw [upd_ne (ne b _ h)]; exact h2, n2.1, n1.2⟩
  · obtain ⟨h1, n1⟩ := e1.dic b kvs h n
    obtain ⟨h2, n2⟩ := E.dic b kvs h1 ⟨n1.1, fun z => (List.mem_cons.mp z).elim (ne b _ h) n1.2⟩
    exact ⟨by rw [upd_ne (ne b _ h)]; exact h2, n2.1, n1.2⟩
  · rw [upd_ne (ne b _ h)]; exact E.ext b φ (e1.ext b φ h)
  · rw [upd_ne (ne b _ h)]
    exact E.kept b xs (List.mem_cons_of_mem _ (by rw [e1.vols]; exact hv)) (e1.kept b xs hv h)
theorem Ext.step0 (e1 : Ext m1 H1 m2 H) (hD : H1 D' = none) (E : Ext (m2.fill D') H m4 H4) : Ext m1 H1 ⟨m4.cells, m2.vol, m4.dead⟩ H4 := by
  have ne : ∀ b u, H1 b = some u → b ≠ D' := fun b u h => ne_of_none h hD
  refine ⟨⟨?_, fun b xs h => E.tup b xs (e1.tup b xs h), fun b o u h => E.frz b o u (e1.frz b o u h), fun b xs h n => ?_, fun b kvs h n => ?_, fun b φ h => E.ext b φ (e1.ext b φ h)⟩, e1.vols, fun b xs hv h => E.kept b xs (List.mem_cons_of_mem _ (by rw [e1.vols]; exact hv)) (e1.kept b xs hv h)⟩
  · obtain ⟨r, q⟩ := e1.pre
    obtain ⟨r', q'⟩ := E.pre
    exact ⟨r ++ r', by show m4.cells = _; rw [q', MM.fill, q, List.append_assoc]⟩
  · obtain ⟨h1, n1⟩ := e1.lst b xs h n
    obtain ⟨h2, n2⟩ := E.lst b xs h1 ⟨n1.1, fun z => (List.mem_cons.mp z).elim (ne b _ h) n1.2⟩
    exact ⟨h2, n2.1, n1.2⟩
  · obtain ⟨h1, n1⟩ := e1.dic b kvs h n
    obtain ⟨h2, n2⟩ := E.dic b kvs h1 ⟨n1.1, fun z => (List.mem_cons.mp z).elim (ne b _ h) n1.2⟩
    exact ⟨h2, n2.1, n1.2⟩
theorem refill (E : Ext (m2.fill D') H m4 H4) : (⟨m4.cells, m2.vol, m4.dead⟩ : MM).fill D' = m4 := by
  obtain ⟨c, v, dl⟩ := m4
  have : v = D' :: m2.vol := E.vols
  subst this; rfl
theorem Ext0.unfill : Ext0 (m.fill D') H m H := ⟨⟨[], by simp [MM.fill]⟩, fun _ _ h => h, fun _ _ _ h => h, fun _ _ h n => ⟨h, n.1, fun z => n.2 (List.mem_cons_of_mem _ z)⟩, fun _ _ h n => ⟨h, n.1, fun z => n.2 (List.mem_cons_of_mem _ z)⟩, fun _ _ h => h⟩
theorem RS.unfill (R : RS g (m.fill D') H st) : RS g m H st := by
  refine ⟨R.len, R.nd, fun i c a h1 h2 => ?_, fun a ha => R.vol a (List.mem_cons_of_mem _ ha), fun a ha hv => R.disj a ha (List.mem_cons_of_mem _ hv), R.lv, fun a ha => ⟨fun z => (R.dd a ha).1 (List.mem_cons_of_mem _ z), (R.dd a ha).2⟩⟩
  have := R.at i c a h1 h2
  cases c with
  | lst ds => obtain ⟨xs, q, r⟩ := this; exact ⟨xs, q, r.ext0 .unfill⟩
  | dic kvs => obtain ⟨ys, q, e, r⟩ := this; exact ⟨ys, q, e, r.ext0 .unfill⟩
  | gone => exact this
structure Turns (g : GX) (m1 : MM) (H1 : Hp) (D' : Addr) (bd : Bd) (t : Smt) (h : Sm) (env : DEnv) (tot : List D) (stF : Sto) (rest : List D) (H : Hp) : Prop where
  ex : ∃ m2 st2 acc accD ys, Ext m1 H1 m2 H ∧ RS g (m2.fill D') H st2 ∧ H D' = some (.lst acc) ∧ RDs g (m2.fill D') H accD acc ∧ compL bd t h env rest st2 = some (ys, stF) ∧ accD ++ ys = tot
theorem turn_one {T : Tgt} {t : Smt} {h : Sm} {env : DEnv} {σ : L2.St} {vs : List Nat} {tot : List D} {stF : Sto} {d : D} {rest : List D} {x : V} {te : TE} {tt : TT} (hte : te = tI g (fun _ _ _ => False) h) (htt : tt = tIt g (fun _ _ _ => False) t) (hD : H1 D' = none) (hz : tot.length ≤ sizeLine) (ha : T.all vs)
    (re : RE g m1 H1 env (wipe σ vs)) (hx : ∀ m2 H2, Ext m1 H1 m2 H2 → RD g (m2.fill D') H2 d x) (P : Turns g m1 H1 D' T.bd t h env tot stF (d :: rest) H) :
    T.tg g.K x (wipe σ vs) H fun σ2 H2 => wipe σ2 vs = wipe σ vs ∧ tt σ2 H2 fun b H3 =>
      if b = true then te σ2 H3 fun y H4 => ∃ acc, H4 D' = some (.lst acc) ∧ acc.length < sizeLine ∧ Turns g m1 H1 D' T.bd t h env tot stF rest (upd H4 D' (.lst (acc ++ [y]))) else Turns g m1 H1 D' T.bd t h env tot stF rest H3 := by
  subst hte htt
  obtain ⟨m2, st2, acc, accD, ys, E1, R, hd, ra, ec, et⟩ := P.ex
  have e0 : Ext0 m1 H1 (m2.fill D') H := by
    refine ⟨E1.pre, E1.tup, E1.frz, fun b xs q n => ?_, fun b xs q n => ?_, E1.ext⟩
    · obtain ⟨q1, n1⟩ := E1.lst b xs q n
      exact ⟨q1, n1.1, fun z => (List.mem_cons.mp z).elim (ne_of_none q hD) n1.2⟩
    · obtain ⟨q1, n1⟩ := E1.dic b xs q n
      exact ⟨q1, n1.1, fun z => (List.mem_cons.mp z).elim (ne_of_none q hD) n1.2⟩
  have re2 : RE g (m2.fill D') H env (wipe σ vs) := ⟨re.len, fun i d q => let ⟨v, h1, h2⟩ := re.get i d q; ⟨v, h1, h2.ext0 e0⟩⟩
  unfold compL at ec
  cases e1 : T.bd d env with
  | none => rw [e1] at ec; cases ec
  | some env1 =>
    rw [e1] at ec
    dsimp only at ec
    refine T.run (vs := vs) re2 (hx m2 H E1) e1 ha fun σ' re' hw => ⟨by rw [hw, wipe_idem], env1, m2.fill D', st2, re', R, ?_⟩
    cases e2 : t env1 st2 with
    | none => rw [e2] at ec; cases ec
    | some r =>
      obtain ⟨o, st3⟩ := r
      rw [e2] at ec
      cases o with
      | ex c => cases ec
      | ok b =>
        cases b with
        | false =>
          intro m3 H3 E3 R3
          have hd3 := E3.kept D' acc (List.mem_cons_self ..) hd
          refine iteF ⟨⟨m3.cells, m2.vol, m3.dead⟩, st3, acc, accD, ys, E1.step0 hD E3, by rw [refill E3]; exact R3, hd3, by rw [refill E3]; exact ra.ext E3, ec, et⟩
        | true =>
          dsimp only at ec
          intro m3 H3 E3 R3
          refine iteT ⟨env1, m3, st3, re'.ext E3, R3, ?_⟩
          cases e3 : h env1 st3 with
          | none => rw [e3] at ec; cases ec
          | some r =>
            obtain ⟨o, st4⟩ := r
            rw [e3] at ec
            cases o with
            | ex c => cases ec
            | ok y =>
              dsimp only at ec
              rw [Option.map_eq_some_iff] at ec
              obtain ⟨⟨ys', sF⟩, ec, ey⟩ := ec
              cases ey
              intro m4 H4 E4 R4 v r4
              have E34 := E3.trans E4
              have hd4 := E34.kept D' acc (List.mem_cons_self ..) hd
              have hm4 := refill E34
              have hlen : acc.length < sizeLine := by
                rw [← ra.length]
                have : tot.length = accD.length + (ys'.length + 1) := by rw [← et]; simp
                omega
              refine ⟨acc, hd4, hlen, ⟨⟨m4.cells, m2.vol, m4.dead⟩, st4, acc ++ [v], accD ++ [y], ys', E1.step hD E34 (.lst (acc ++ [v])), ?_, upd_same, ?_, ec, by rw [← et]; simp⟩⟩
              · rw [← hm4] at R4
                exact R4.filled hd4
              · have ra4 := (ra.ext E34)
                rw [← hm4] at ra4 r4
                exact (ra4.append (.cons r4 .nil)).ext0 (.filled hd4)
theorem turns_end {bd : Bd} {t : Smt} {h : Sm} {env : DEnv} {tot : List D} {stF : Sto} (R1 : RS g m1 H1 st) (hD : H1 D' = none) (P : Turns g m1 H1 D' bd t h env tot stF [] H) : ∃ m2, Ext m1 H1 m2 H ∧ RS g m2 H stF ∧ RD g m2 H (.lst tot) (.ref D') := by
  obtain ⟨m2, st2, acc, accD, ys, E1, R, hd, ra, ec, et⟩ := P.ex
  cases ec
  rw [List.append_nil] at et
  subst et
  refine ⟨m2, E1, R.unfill, .lst hd ⟨fun z => absurd (List.mem_cons_self ..) (R.disj D' z), fun z => ?_⟩ (ra.ext0 .unfill)⟩
  rw [E1.vols] at z
  exact (R1.none_not hD).2 z
theorem turns_start {bd : Bd} {t : Smt} {h : Sm} {env : DEnv} {ds tot : List D} {stF : Sto} (R1 : RS g m1 H1 st) (hD : H1 D' = none) (e : compL bd t h env ds st = some (tot, stF)) : Turns g m1 H1 D' bd t h env tot stF ds (upd H1 D' (.lst [])) :=
  ⟨m1, st, [], [], tot, .new hD, R1.fill hD, upd_same, .nil, e, rfl⟩
end
theorem compR_of {g : GX} {EX : XK} {m : MM} {H : Hp} {T : Tgt} {t : Smt} {h : Sm} {vs : List Nat} {ds : List D} {env : DEnv} {st : Sto} {Q : D → MM → Hp → Sto → Prop} (q : RI g EX m H (compR T t h vs ds env st) Q) :
    ∃ ys st', compL T.bd t h (wipeD env vs) ds st = some (ys, st') ∧ ys.length ≤ sizeLine ∧ ∀ m' H', Ext m H m' H' → RS g m' H' st' → Q (.lst ys) m' H' st' := by
  unfold compR at q
  cases e : compL T.bd t h (wipeD env vs) ds st with
  | none => rw [e] at q; exact q.elim
  | some r =>
    obtain ⟨ys, st'⟩ := r
    rw [e] at q
    dsimp only at q
    by_cases hz : small ys = true
    · rw [if_pos hz] at q; exact ⟨ys, st', rfl, of_decide_eq_true hz, q⟩
    · rw [if_neg hz] at q; exact q.elim
section
variable {X : Cx} {g : GX} {EX : XK} {elt tg iter : Expr} {ifs : List Expr} {scope : Scope} {own : List (Str × Nat)} {pos : Pos} {f h : Sm} {t : Smt} {T : Tgt} {fs : Sma}
abbrev E00 : XK := fun _ _ _ => False
theorem i_comp (hK : X.K = g.K) (hc : X.calm = true) (hN : X.N.Nodup) (ha : PE X iter (tI g EX f)) (ok : BlkOk X.N X.env.scope scope own) (hall : T.all (own.map (·.2)))
    (hg : ∀ (s : Shared) (H : Hp) (C : Addr) (cl : List (Str × Addr)) (fp : List Addr), PG (X.blk s H scope (compEnvC scope cl C X.env) fp) tg (T.tg X.K)) (ht : ∀ (s : Shared) (H : Hp) (C : Addr) (cl : List (Str × Addr)) (fp : List Addr), PTs (X.blk s H scope (compEnvC scope cl C X.env) fp) ifs (tIt g E00 t))
    (he : ∀ (s : Shared) (H : Hp) (C : Addr) (cl : List (Str × Addr)) (fp : List Addr), PE (X.blk s H scope (compEnvC scope cl C X.env) fp) elt (tI g E00 h)) (hs : ∀ x, foldedSetIterable iter X.env x = pure x := by intro _; rfl) :
    PE X (.ListComp elt [⟨tg, iter, ifs, 0⟩] scope pos) (tI g EX (sComp T f t h (own.map (·.2)))) := PE.mono (pe_lc hc hN (pi_seq ha) ok hg ht he hs) fun σ H Q ⟨env, m, st, re, R, q⟩ => by
  refine ⟨env, m, st, re, R, q.bnd.mono fun d m1 H1 st1 E1 R1 q v r => ?_⟩
  obtain ⟨ds, e, q⟩ := q.bnd.lift
  obtain ⟨ys, stF, ec, hz, q⟩ := compR_of (q m1 H1 (.refl _ _) R1)
  have re1 := (re.ext E1).wipe (own.map (·.2))
  have hend : ∀ D', H1 D' = none → ∀ H2, Turns g m1 H1 D' T.bd t h (wipeD env (own.map (·.2))) ys stF [] H2 → Q (.ref D') H2 := fun D' hD H2 P => by
    obtain ⟨m2, e2, R2, r2⟩ := turns_end R1 hD P
    exact q m2 H2 e2 R2 _ r2
  have hdx : ∀ D', H1 D' = none → ∀ d x, RD g m1 H1 d x → ∀ m2 H2, Ext m1 H1 m2 H2 → RD g (m2.fill D') H2 d x := fun D' hD d x r m2 H2 E => by
    refine RD.ext0 (m' := m2.fill D') ⟨E.pre, E.tup, E.frz, fun b xs q n => ?_, fun b xs q n => ?_, E.ext⟩ r
    · obtain ⟨q1, n1⟩ := E.lst b xs q n
      exact ⟨q1, n1.1, fun z => (List.mem_cons.mp z).elim (ne_of_none q hD) n1.2⟩
    · obtain ⟨q1, n1⟩ := E.dic b xs q n
      exact ⟨q1, n1.1, fun z => (List.mem_cons.mp z).elim (ne_of_none q hD) n1.2⟩
  rw [hK]
  cases r with
  | @tup p xs es hs hr =>
    cases e
    refine ⟨p, rfl, .inr ⟨⟨xs, hs⟩, fun D' hD => lc_tup (K := g.K) (a := p) (xs := xs) (fun i H2 => Turns g m1 H1 D' T.bd t h (wipeD env (own.map (·.2))) ys stF (ds.drop i) H2) (turns_start R1 hD ec) (fun i H2 _ P => ?_) (fun i x H2 hi P => ?_) (fun H2 P => hend D' hD H2 (by rw [← hr.length, List.drop_length] at P; exact P))⟩⟩
    · obtain ⟨m2, _, _, _, _, E2, _⟩ := P.ex; exact E2.sqT hs
    · obtain ⟨d, hd, rd⟩ := hr.get' hi
      rw [drop_cons hd] at P
      exact turn_one rfl rfl hD hz hall re1 (hdx D' hD d x rd) P
  | @lst p xs es hs hn hr =>
    cases e
    refine ⟨p, rfl, .inl ⟨⟨xs, .of hs⟩, fun D' hD => lc_list (K := g.K) (a := p) (xs := xs) (fun i H2 => Turns g m1 H1 D' T.bd t h (wipeD env (own.map (·.2))) ys stF (ds.drop i) H2) (turns_start R1 hD ec) (fun i H2 _ P => ?_) (fun i x H2 hi P => ?_) (fun H2 P => hend D' hD H2 (by rw [← hr.length, List.drop_length] at P; exact P))⟩⟩
    · obtain ⟨m2, _, _, _, _, E2, _⟩ := P.ex; exact .of (E2.lst _ _ hs hn).1
    · obtain ⟨d, hd, rd⟩ := hr.get' hi
      rw [drop_cons hd] at P
      exact turn_one rfl rfl hD hz hall re1 (hdx D' hD d x rd) P
  | @scr p xs es hs hr =>
    cases e
    refine ⟨p, rfl, .inl ⟨⟨xs, hs.sq⟩, fun D' hD => lc_list (K := g.K) (a := p) (xs := xs) (fun i H2 => Turns g m1 H1 D' T.bd t h (wipeD env (own.map (·.2))) ys stF (ds.drop i) H2) (turns_start R1 hD ec) (fun i H2 _ P => ?_) (fun i x H2 hi P => ?_) (fun H2 P => hend D' hD H2 (by rw [← hr.length, List.drop_length] at P; exact P))⟩⟩
    · obtain ⟨m2, _, _, _, _, E2, _⟩ := P.ex; exact (E2.sf hs).sq
    · obtain ⟨d, hd, rd⟩ := hr.get' hi
      rw [drop_cons hd] at P
      exact turn_one rfl rfl hD hz hall re1 (hdx D' hD d x rd) P
  | _ => cases e
def sYes : Smt := ret true
theorem its_nil {X : Cx} {EX : XK} : PTs X [] (tIt g EX sYes) := fun pins s σ H Q I ⟨env, m, st, re, R, q⟩ => pts_nil pins s σ H Q I (RI.ret (env := env) q R)
end
section
variable {X : Cx} {g : GX} {EX : XK} {o e : Expr} {es : List Expr} {apos cpos : Pos} {f h : Sm} {fs : Sma}
def rM (g : GX) (op : D → List D → Option D) : V → List V → Hp → VK → Prop := fun x vs H Q => ∃ m st dx ds d, RS g m H st ∧ RD g m H dx x ∧ RDs g m H ds vs ∧ op dx ds = some d ∧ ∀ v m' H', Ext m H m' H' → RS g m' H' st → RD g m' H' d v → Q v H'
theorem i_app (ho : PE X o (tI g EX f)) (ha : PE X e (tI g EX h))
    (hbase : attributeBase o "append" X.env (eval o X.env) = eval o X.env := by rfl)
    (hfew : ((backTo cpos (starEach [e] X.env)).all (fun x => !x.1) && (backToKw cpos (keywordEach [] X.env)).all (fun x => x.1.isSome)
      && decide ([e].length + ([] : List Keyword).length + (if ([] : List Keyword).isEmpty then 0 else 1) < 30)) = true := by rfl)
    (hline : (apos.endLine == cpos.line) = true := by rfl) (hs : starEach [e] X.env = (false, eval e X.env) :: starEach [] X.env := by rfl) :
    PE X (.Call (.Attribute o "append" apos) [e] [] cpos) (tI g EX (sApp f h)) := PE.mono (pe_bm PySem.F.plainAttrs_list PySem.F.slot_list_append PySem.F.type_list_append mt_append ho (pa_cons ha pa_nil hs) hbase hfew hline hs rfl) fun σ H Q ⟨env, m, st, re, R, q⟩ => by
  refine ⟨env, m, st, re, R, q.bnd.mono fun dx m1 H1 st1 E1 R1 q v1 r1 => ?_⟩
  obtain ⟨i, e1, q2⟩ := q.bnd.liftS
  have q2 := q2 m1 H1 (.refl _ _) R1
  cases r1 with
  | @ref j p hp =>
    simp only [isCL] at e1
    cases ec : st1[j]? with
    | none => rw [ec] at e1; cases e1
    | some c =>
      rw [ec] at e1
      cases c with
      | dic kvs => cases e1
      | gone => cases e1
      | lst ds0 =>
        obtain rfl : j = i := Option.some.inj e1
        obtain ⟨xs, hx, _⟩ := R1.at j _ p ec hp
        refine ⟨.inl ⟨rfl, _, .of hx⟩, env, m1, st1, re.ext E1, R1, q2.bnd.mono fun dy m2 H2 st2 E2 R2 q3 v2 r2 => ?_⟩
        have hp2 := E2.toExt0.at hp
        cases ec2 : st2[j]? with
        | none => rw [ec2] at q3; exact q3.elim
        | some c2 =>
          rw [ec2] at q3
          cases c2 with
          | dic kvs => exact q3.elim
          | gone => exact q3.elim
          | lst ds =>
            obtain ⟨ys, hy, ry⟩ := R2.at j _ p ec2 hp2
            dsimp only at q3
            by_cases hz : ds.length < sizeLine
            · rw [if_pos hz] at q3
              exact ⟨p, ys, v2, rfl, rfl, hy, by rw [← ry.length]; exact hz, q3 m2 _ (Ext.put R2 hp2 (R2.lv _ _ _ ec2 hp2 (by simp))) (R2.putL hp2 (R2.lv _ _ _ ec2 hp2 (by simp)) (ry.append (.cons r2 .nil))) _ .non⟩
            · rw [if_neg hz] at q3; exact q3.elim
  | _ => cases e1
def isBv (b : Bool) : D → Bool
  | .bl a => a == b
  | _ => false
def oIs (x y : D) : Option D := match y with
  | .non => some (.bl (isNon x))
  | .bl b => some (.bl (isBv b x))
  | _ => none
theorem is_val {m : MM} {H : Hp} {d : D} {x : V} {v : Value} (r : RD g m H d x) (rx : RelV x v) (b : Bool) : plainIs v (.bool b) = true ∧ (v == Value.bool b) = isBv b d := by
  cases r with
  | non => cases rx; exact ⟨rfl, rfl⟩
  | bl a => cases rx; exact ⟨rfl, by cases a <;> cases b <;> rfl⟩
  | int i => obtain ⟨t, rfl⟩ := rx; exact ⟨rfl, rfl⟩
  | str i => obtain ⟨t, rfl⟩ := rx; exact ⟨rfl, rfl⟩
  | tup _ _ => cases rx; exact ⟨rfl, rfl⟩
  | lst _ _ _ => cases rx; exact ⟨rfl, rfl⟩
  | scr _ _ => cases rx; exact ⟨rfl, rfl⟩
  | dic0 _ _ => cases rx; exact ⟨rfl, rfl⟩
  | dcs _ _ _ => cases rx; exact ⟨rfl, rfl⟩
  | ref _ => cases rx; exact ⟨rfl, rfl⟩
  | exc _ _ => cases rx; exact ⟨rfl, rfl⟩
theorem r_is : OpR X (compareOp .Is) (rD g oIs) := by
  intro pins s σ H x y v u Q I rx ry ⟨m, st, dx, dy, d, R, r1, r2, e, q⟩
  cases r2 with
  | non =>
    cases e
    refine op_isN pins s σ H x _ v u Q I rx ry ⟨rfl, ?_⟩
    rw [r1.isNon]
    exact q _ m H (.refl _ _) R (.bl _)
  | bl b =>
    cases e
    cases ry
    obtain ⟨h1, h2⟩ := is_val r1 rx b
    exact wpAny_is_plain h1 (by rw [h2]; exact ⟨.bl _, H, I, rfl, q _ m H (.refl _ _) R (.bl _)⟩)
  | _ => cases e
end
end I2
set_option Elab.async false
set_option linter.all false
set_option maxRecDepth 100000
set_option maxHeartbeats 4000000
namespace I2
open PySem PySem.Spec PyProof.Rows L2
structure Flies (outer : List Env) (H' : Hp) (h0 : Heap) (a C : Addr) (h : Heap) : Prop where
  ex : ∃ (t : Addr) (B : Heap), Heap.FlyingW B outer a (.ref C) (.ref t) h ∧ ∀ b o, h.get? b = some o → (H' b ≠ none ∨ ∃ o', h0.get? b = some o') → b ∉ frs outer → B.get? b = some o
  no : H' a = none
  new : h0.get? a = none
def CXe (P : Program) (w : World) : CXT := fun outer H s E e s' => ∃ (a C : Addr) (H' : Hp), e = .ref a ∧ s'.os = s.os ∧ AllBare s'.gens ∧ Un (frs outer) [] H H' s.heap s'.heap ∧ HOk P w H' s'.heap ∧ Flies outer H' s.heap a C s'.heap ∧ E (.ref C) none H'
theorem HOk.there {P : Program} {w : World} {H : Hp} {h : Heap} (ok : HOk P w H h) {a : Addr} {o : HO} (e : H a = some o) : ∃ ob, h.get? a = some ob := by
  have x := ok a o e
  cases o with
  | lst xs => obtain ⟨_, _, _, _, e⟩ := x; exact ⟨_, e⟩
  | tup xs => obtain ⟨_, _, _, ob, e, _⟩ := x; exact ⟨_, e⟩
  | dK kvs => obtain ⟨_, _, _, _, o, _, _, e, _⟩ := x; exact ⟨_, e⟩
  | dT kvs => obtain ⟨_, _, _, _, o, _, _, e, _⟩ := x; exact ⟨_, e⟩
  | set S n => obtain ⟨o, _, _, _, e, _⟩ := x; exact ⟨_, e⟩
  | ins C dx fs => obtain ⟨_, _, _, e, _⟩ := x; exact ⟨_, e⟩
  | own y => obtain ⟨_, e⟩ := x; exact ⟨_, e⟩
  | xd fs => obtain ⟨_, ⟨_, _, _, e, _⟩, _⟩ := x; exact ⟨_, e⟩
  | rng lo hi => obtain ⟨_, _, _, e⟩ := x; exact ⟨_, e⟩
  | frz ob u => obtain ⟨e, _⟩ := x; exact ⟨_, e⟩
  | tbl ps => exact ⟨_, x⟩
  | met f y => exact ⟨_, x⟩
  | ext φ => obtain ⟨_, ⟨_, e⟩, _⟩ := x; exact ⟨_, e⟩
theorem HOk.keptT {P : Program} {w : World} {H : Hp} {h h' : Heap} (ok : HOk P w H h) (k : ∀ b u, H b ≠ none → h.get? b = some u → h'.get? b = some u) : HOk P w H h' := fun a o e =>
  (ok a o e).stay (fun b u hb q => k b u (by rcases hb with rfl | hb <;> simp_all) q) (fun _ q => q) fun _ _ q => q
section
variable {P : Program} {w : World}
theorem leaves_made {CX : CXT} {K : PySem.W.Frag} {mg : Str → Option Value} {base : Heap} {N : List Str} {qual : Str} {scope : Scope} {f : Addr} {cd : Value} {A : Around} {outer : List Env} {s₀ : Shared} {H₀ : Hp} {E : XK}
    {pins : List (Addr × Obj)} {σ : L2.St} {H : Hp} {s : Shared} {h1 : Heap} {e C : Addr} {vs : List Value}
    (I : Inv (cxOf (CXe P w) P w K mg base N qual scope f cd A outer s₀ H₀ E) pins σ H s) (hx : Heap.MadeExcOf s.heap h1 e (.ref C) vs) (hE : E (.ref C) none H) :
    (cxOf (CXe P w) P w K mg base N qual scope f cd A outer s₀ H₀ E).xe (.ref e) { s with heap := h1 } := by
  have hst : s.heap.FunFrames base (envOfC qual scope s₀.heap.objs.size f cd :: outer) := I.stack
  have hfree : ∀ b ∈ frs (envOfC qual scope s₀.heap.objs.size f cd :: outer), H b = none := I.stkFree
  have hin : ∀ env ∈ (envOfC qual scope s₀.heap.objs.size f cd :: outer), ∀ b, env.frame = some b → b ∈ frs (envOfC qual scope s₀.heap.objs.size f cd :: outer) := fun env he b hb => List.mem_filterMap.mpr ⟨env, he, hb⟩
  have hB : ∀ b o, s.heap.get? b = some o → b ∉ frs (envOfC qual scope s₀.heap.objs.size f cd :: outer) → (PySem.W.hideAll s.heap (frs (envOfC qual scope s₀.heap.objs.size f cd :: outer))).get? b = some o := fun b o q n => PySem.W.hideAll_get _ q n
  refine wpAny_leaves_madeW (s := { s with heap := h1 }) I.ok.frames rfl (fun b o q => PySem.W.of_hideAll _ q) (PySem.W.funFrames_hide hst hin) hx fun h' t fl _ _ up => ?_
  have stay := fl.1
  have keep : ∀ b o, s.heap.get? b = some o → b ∉ frs (envOfC qual scope s₀.heap.objs.size f cd :: outer) → h'.get? b = some o := fun b o q n => stay b o (hB b o q n)
  have notL : ∀ b o, s₀.heap.get? b = some o → b ∉ frs outer → b ∉ frs (envOfC qual scope s₀.heap.objs.size f cd :: outer) := fun b o q n z => by
    have z' : b ∈ s₀.heap.objs.size :: frs outer := z
    rcases List.mem_cons.mp z' with z' | z'
    · rw [z'] at q; exact absurd (Heap.lt_size q) (Nat.lt_irrefl _)
    · exact n z'
  have ubase : Un (frs outer) [] H₀ H s₀.heap s.heap := I.base
  have slotK : ∀ b o, s.heap.get? b = some o → b ∈ frs outer → ∃ sl, h'.get? b = some { o with slots := sl } := fun b o q hb => by
    obtain ⟨_, o', q', nf⟩ := hst.mem (show b ∈ (envOfC qual scope s₀.heap.objs.size f cd :: outer).filterMap (·.frame) from List.mem_cons_of_mem _ hb)
    rw [q] at q'; cases q'
    exact up b o (hx.keeps b o q) nf
  have hnew : H e = none := by
    cases q : H e with
    | none => rfl
    | some o => obtain ⟨ob, z⟩ := HOk.there I.hok q; rw [hx.new] at z; cases z
  have trk : ∀ b, H b ≠ none → b ∉ frs (envOfC qual scope s₀.heap.objs.size f cd :: outer) := fun b hb z => hb (hfree b z)
  have old : ∀ b o, s₀.heap.get? b = some o → ∃ o', s.heap.get? b = some o' := fun b o q => ubase.there b o q (by simp)
  refine ⟨e, C, H, rfl, I.os, I.bare, ⟨fun b o q n hb _ => keep b o (ubase.keep b o q n hb (by simp)) (notL b o q hb), fun b o q n hb _ => ?_, ubase.free, fun b o q _ => ?_, ubase.tups, ubase.frzs, ubase.tbls⟩,
    HOk.keptT I.hok fun b u hb q => keep b u q (trk b hb), ⟨⟨t, _, fl, fun b o q hb hf => ?_⟩, hnew, ?_⟩, hE⟩
  · obtain ⟨sl, q1⟩ := ubase.slot b o q n hb (by simp)
    obtain ⟨sl', q2⟩ := slotK b _ q1 hb
    exact ⟨sl', q2⟩
  · obtain ⟨o', q1⟩ := old b o q
    by_cases hb : b ∈ frs outer
    · obtain ⟨sl, q2⟩ := slotK b o' q1 hb; exact ⟨_, q2⟩
    · exact ⟨o', keep b o' q1 (notL b o q hb)⟩
  · have hs : ∃ o', s.heap.get? b = some o' ∧ b ∉ frs (envOfC qual scope s₀.heap.objs.size f cd :: outer) := by
      rcases hb with hb | ⟨o', hb⟩
      · cases z : H b with
        | none => exact absurd z hb
        | some u => obtain ⟨ob, z2⟩ := HOk.there I.hok z; exact ⟨ob, z2, trk b hb⟩
      · obtain ⟨o2, q2⟩ := old b o' hb; exact ⟨o2, q2, notL b o' hb hf⟩
    obtain ⟨o', q1, n⟩ := hs
    have := keep b o' q1 n
    rw [q] at this; cases this
    exact hB b o q1 n
  · cases z : s₀.heap.get? e with
    | none => rfl
    | some o => obtain ⟨o', z2⟩ := old e o z; rw [hx.new] at z2; cases z2
theorem leaves_on {K : PySem.W.Frag} {mg : Str → Option Value} {base : Heap} {N : List Str} {qual : Str} {scope : Scope} {f : Addr} {cd : Value} {A : Around} {outer : List Env} {s₀ : Shared} {H₀ : Hp} {E : XK} :
    Passes (CXe P w) (cxOf (CXe P w) P w K mg base N qual scope f cd A outer s₀ H₀ E) E := by
  intro pins σ H s e s' I h
  obtain ⟨a, C, H', rfl, os, bare, un, hok, ⟨⟨t, B, fl, cov⟩, no, new⟩, hE⟩ := h
  have hst : s.heap.FunFrames base (envOfC qual scope s₀.heap.objs.size f cd :: outer) := I.stack
  have hfree : ∀ b ∈ frs (envOfC qual scope s₀.heap.objs.size f cd :: outer), H b = none := I.stkFree
  have ubase : Un (frs outer) [] H₀ H s₀.heap s.heap := I.base
  have un : Un (frs (envOfC qual scope s₀.heap.objs.size f cd :: outer)) [] H H' s.heap s'.heap := un
  have fl : Heap.FlyingW B (envOfC qual scope s₀.heap.objs.size f cd :: outer) a (.ref C) (.ref t) s'.heap := fl
  have notL : ∀ b o, s₀.heap.get? b = some o → b ∉ frs outer → b ∉ frs (envOfC qual scope s₀.heap.objs.size f cd :: outer) := fun b o q n z => by
    have z' : b ∈ s₀.heap.objs.size :: frs outer := z
    rcases List.mem_cons.mp z' with z' | z'
    · rw [z'] at q; exact absurd (Heap.lt_size q) (Nat.lt_irrefl _)
    · exact n z'
  have hfr' : ∀ b ∈ frs (envOfC qual scope s₀.heap.objs.size f cd :: outer), H' b = none := fun b hb => by
    obtain ⟨_, o, q, _⟩ := hst.mem hb
    exact un.free b o q (hfree b hb) (by simp)
  have trk : ∀ b, H' b ≠ none → b ∉ frs (envOfC qual scope s₀.heap.objs.size f cd :: outer) := fun b hb z => hb (hfr' b z)
  have old : ∀ b o, s₀.heap.get? b = some o → ∃ o', s.heap.get? b = some o' := fun b o q => ubase.there b o q (by simp)
  refine wpAny_leaves_onW (s := s') I.ok.frames rfl fl fun h'' fl2 up => ?_
  have keep : ∀ b o, s'.heap.get? b = some o → (H' b ≠ none ∨ ∃ o', s.heap.get? b = some o') → b ∉ frs (envOfC qual scope s₀.heap.objs.size f cd :: outer) → h''.get? b = some o := fun b o q hb n => fl2.1 b o (cov b o q hb n)
  have slotK : ∀ b o, s'.heap.get? b = some o → b ∈ frs outer → ∃ sl, h''.get? b = some { o with slots := sl } := fun b o q hb => by
    obtain ⟨_, o', q', nf⟩ := fl.2.2.1.mem (show b ∈ (envOfC qual scope s₀.heap.objs.size f cd :: outer).filterMap (·.frame) from List.mem_cons_of_mem _ hb)
    rw [q] at q'; cases q'
    exact up b o q nf
  refine ⟨a, C, H', rfl, os.trans I.os, bare, ⟨fun b o q n hb _ => ?_, fun b o q n hb _ => ?_, fun b o q n _ => ?_, fun b o q _ => ?_, fun b xs q => un.tups b xs (ubase.tups b xs q), fun b o u q => un.frzs b o u (ubase.frzs b o u q), fun b ps q => ?_⟩,
    HOk.keptT hok fun b u hb q => keep b u q (.inl hb) (trk b hb), ⟨⟨t, B, fl2, fun b o q hb hf => ?_⟩, no, ?_⟩, hE⟩
  · have q1 := ubase.keep b o q n hb (by simp)
    exact keep b o (un.keep b o q1 (ubase.free b o q n (by simp)) (notL b o q hb) (by simp)) (.inr ⟨o, q1⟩) (notL b o q hb)
  · obtain ⟨sl, q1⟩ := ubase.slot b o q n hb (by simp)
    obtain ⟨sl1, q2⟩ := un.slot b _ q1 (ubase.free b o q n (by simp)) (List.mem_cons_of_mem _ hb) (by simp)
    obtain ⟨sl', q3⟩ := slotK b _ q2 hb
    exact ⟨sl', q3⟩
  · obtain ⟨o', q1⟩ := old b o q
    exact un.free b o' q1 (ubase.free b o q n (by simp)) (by simp)
  · obtain ⟨o', q1⟩ := old b o q
    obtain ⟨o2, q2⟩ := un.there b o' q1 (by simp)
    by_cases hb : b ∈ frs outer
    · obtain ⟨sl, q3⟩ := slotK b o2 q2 hb; exact ⟨_, q3⟩
    · exact ⟨o2, keep b o2 q2 (.inr ⟨o', q1⟩) (notL b o q hb)⟩
  · obtain ⟨m1, e1⟩ := ubase.tbls b ps q
    obtain ⟨m2, e2⟩ := un.tbls b _ e1
    exact ⟨m1 ++ m2, by rw [e2, Array.append_assoc]⟩
  · have hs : ∃ o', s'.heap.get? b = some o' ∧ (H' b ≠ none ∨ ∃ o', s.heap.get? b = some o') ∧ b ∉ frs (envOfC qual scope s₀.heap.objs.size f cd :: outer) := by
      rcases hb with hb | ⟨o', hb⟩
      · cases z : H' b with
        | none => exact absurd z hb
        | some u => obtain ⟨ob, z2⟩ := HOk.there hok z; exact ⟨ob, z2, .inl (by simp), trk b hb⟩
      · obtain ⟨o1, q1⟩ := old b o' hb
        obtain ⟨o2, q2⟩ := un.there b o1 q1 (by simp)
        exact ⟨o2, q2, .inr ⟨o1, q1⟩, notL b o' hb hf⟩
    obtain ⟨o', q1, c1, n⟩ := hs
    have := keep b o' q1 c1 n
    rw [q] at this; cases this
    exact cov b o q1 c1 n
  · cases z : s₀.heap.get? a with
    | none => rfl
    | some o => obtain ⟨o', z2⟩ := old a o z; rw [new] at z2; cases z2
end
end I2
set_option Elab.async false
set_option linter.all false
set_option maxRecDepth 100000
set_option maxHeartbeats 4000000
namespace I2
open PySem PySem.Spec PyProof.Rows L2
abbrev bmV : List Value := [.type "ValueError", .type "Exception", .type "BaseException", .type "object"]
theorem own_of {K : PySem.W.Frag} {h₀ : Heap} {mg : Str → Option Value} {x : Str} {C : Addr} {bmB : List Value} {newId : String} (X : K.In h₀) (hm : mg x = some (.ref C)) (q : PySem.W.excIn K C bmB newId = true) : OwnCls x C bmB newId mg h₀ := by
  refine ⟨hm, ?_⟩
  unfold PySem.W.excIn at q
  split at q
  · rename_i dd cd sl ho
    split at q
    · rename_i C' bm k0 k1 k2 k3 n k5 hm hs
      simp only [Bool.and_eq_true, beq_iff_eq, Bool.not_eq_true'] at q
      obtain ⟨⟨⟨⟨⟨rfl, rfl⟩, hdel⟩, ht⟩, hok⟩, hni⟩ := q
      obtain ⟨nm, bs, mro, ns, qn, hd, sn, sub, ab, col, del⟩ := cd
      dsimp only at hm hdel hok hni
      subst hm hdel
      have hsl : sl = #[k0, k1, k2, k3, some (.builtin n), k5] := by
        obtain ⟨l⟩ := sl
        simp only at hs
        rw [hs]
      subst hsl
      exact ⟨bm, ns, nm, qn, bs, hd, sn, sub, ab, col, dd, k0, k1, k2, k3, k5, _, X _ _ ho, .of_isNs (PySem.W.isNs_of_in X hok), PySem.W.nsMap_none_of_in X hok hni, PySem.W.tail_of_in X ht⟩
    · cases q
  · cases q
section
variable {X : Cx} {g : GX} {EX : XK} {x : Str} {C : Addr} {np cpos pos : Pos} {e₀ : Expr} {rest : List Expr} {t : TA} {fs : Sma}
def MadeOk (X : Cx) (EX : XK) : Prop := ∀ (pins : List (Addr × Obj)) (σ : L2.St) (H : Hp) (s : Shared) (h1 : Heap) (e C : Addr) (vs : List Value), Inv X pins σ H s → Heap.MadeExcOf s.heap h1 e (.ref C) vs → EX (.ref C) none H → X.xe (.ref e) { s with heap := h1 }
theorem ps_raise (hq : PySem.W.excIn X.K C bmV "ValueError.__new__" = true) (hg : Gl X x) (hm : X.mg x = some (.ref C)) (hc : X.calm = true) (hM : MadeOk X EX) (ha : PA X (e₀ :: rest) t) (hd : (x == ("__debug__" : Str)) = false := by decide)
    (he : starEach (e₀ :: rest) X.env = (false, eval e₀ X.env) :: starEach rest X.env := by rfl) (hplain : (backTo cpos (starEach rest X.env)).any (·.1) = false := by rfl) :
    PS X (.Raise (some (.Call (.Name x np) (e₀ :: rest) [] cpos)) none pos) (fun _ σ H => t σ H fun vs H1 => vs.length ≤ sizeLine ∧ EX (.ref C) none H1) := by
  intro pins s σ H De I h
  have O : OwnCls x C bmV "ValueError.__new__" X.mg X.base := own_of I.mod.kin hm hq
  obtain ⟨tl, N, nm, q, bs, hdct, sn, sub, ab, col, dd, k0, k1, k2, k3, k5, mN, hC, hN, hni, T⟩ := O.obj
  refine wpAny_Raise_call_subT (C := C) (nm := nm) (q := q) (N := N) (bs := bs) (bm := tl) (hdct := hdct) (sn := sn) (sub := sub) (ab := ab) (col := col) (dd := dd) (k0 := k0) (k1 := k1) (k2 := k2) (k3 := k3) (k5 := k5)
    PySem.F.excBase_ValueError (mN := mN) (T.hasType PySem.F.excBase_ValueError.hasBase) (I.ok.hd hc) (by rw [he]; show (false || (backTo cpos (starEach rest X.env)).any (·.1)) = false; rw [hplain]; rfl) hni (ld_glob I hg hm ⟨rfl, ?_⟩ hd)
  have h1 := ha cpos pins s σ H _ I h
  rw [he] at h1 ⊢
  refine Calls.evalArgs_plain (thn h1 fun us s2 ⟨vs, H2, I2, r, hz, q⟩ => ⟨rfl, by rw [← r.length]; exact hz, I2.bk _ _ hC, hN.keeps I2.bk, T.keeps I2.bk, fun h' e hx => hM pins σ H2 s2 h' e C us I2 hx q⟩)
def sRaise (c : Str) (fs : Sma) : Sms := bndS fs fun ds => if small ds then go (.ex c) else fun _ _ => none
theorem is_raise {c : Str} (hq : PySem.W.excIn X.K C bmV "ValueError.__new__" = true) (hcl : g.cls c = some C) (hg : Gl X x) (hm : X.mg x = some (.ref C)) (hc : X.calm = true) (hM : MadeOk X EX) (ha : PA X (e₀ :: rest) (tIa g EX fs)) (hd : (x == ("__debug__" : Str)) = false := by decide)
    (he : starEach (e₀ :: rest) X.env = (false, eval e₀ X.env) :: starEach rest X.env := by rfl) (hplain : (backTo cpos (starEach rest X.env)).any (·.1) = false := by rfl) :
    PS X (.Raise (some (.Call (.Name x np) (e₀ :: rest) [] cpos)) none pos) (tIs g EX (sRaise c fs)) := PS.mono (ps_raise hq hg hm hc hM ha hd he hplain) fun De σ H ⟨env, m, st, re, R, q⟩ =>
  ⟨env, m, st, re, R, q.bnd.mono fun ds m1 H1 st1 E1 R1 q vs r => by
    by_cases hz : small ds = true
    · rw [if_pos hz] at q
      exact ⟨by rw [← r.length]; exact of_decide_eq_true hz, q m1 H1 C (.refl _ _) R1 hcl⟩
    · rw [if_neg hz] at q; exact q.elim⟩
end
def dlt (k : Nat) : D → Bool
  | .tup ds => dlts k ds
  | .lst ds => dlts k ds
  | .scr ds => dlts k ds
  | .dcs _ ds => dlts k ds
  | .ref i => decide (i < k)
  | _ => true
where dlts (k : Nat) : List D → Bool
  | [] => true
  | d :: ds => dlt k d && dlts k ds
def clt (k : Nat) : Cell → Bool
  | .lst ds => dlt.dlts k ds
  | .dic kvs => dlt.dlts k (kvs.map (·.2))
  | .gone => true
mutual
theorem RD.trim {g : GX} {m : MM} {H : Hp} {k : Nat} : ∀ {d : D} {v : V}, RD g m H d v → dlt k d = true → RD g (m.take k) H d v
  | _, _, .non, _ => .non
  | _, _, .bl b, _ => .bl b
  | _, _, .int i, _ => .int i
  | _, _, .str x, _ => .str x
  | _, _, .tup h hs, e => .tup h (RDs.trim hs (by simpa only [dlt] using e))
  | _, _, .lst h n hs, e => .lst h ⟨fun z => n.1 (List.mem_of_mem_take z), n.2⟩ (RDs.trim hs (by simpa only [dlt] using e))
  | _, _, .scr h hs, e => .scr h (RDs.trim hs (by simpa only [dlt] using e))
  | _, _, .dcs h ek hs, e => .dcs h ek (RDs.trim hs (by simpa only [dlt] using e))
  | _, _, .dic0 h n, _ => .dic0 h ⟨fun z => n.1 (List.mem_of_mem_take z), n.2⟩
  | _, _, .ref (i := i) h, e => .ref (by show (m.cells.take k)[i]? = _; rw [List.getElem?_take_of_lt (by simpa only [dlt, decide_eq_true_eq] using e)]; exact h)
  | _, _, .exc h1 h2, _ => .exc h1 h2
theorem RDs.trim {g : GX} {m : MM} {H : Hp} {k : Nat} : ∀ {ds : List D} {vs : List V}, RDs g m H ds vs → dlt.dlts k ds = true → RDs g (m.take k) H ds vs
  | _, _, .nil, _ => .nil
  | _, _, .cons r rs, e => by
    simp only [dlt.dlts, Bool.and_eq_true] at e
    exact .cons (RD.trim r e.1) (RDs.trim rs e.2)
end
theorem RS.trim {g : GX} {m : MM} {H : Hp} {st : Sto} {k : Nat} (R : RS g m H st) (hc : (st.take k).all (clt k) = true) : RS g (m.take k) H (st.take k) := by
  refine ⟨by simp [MM.take, R.len], R.nd.sublist (List.take_sublist _ _), fun i c a h1 h2 => ?_, R.vol, fun a ha => R.disj a (List.mem_of_mem_take ha), fun i c a h1 h2 => ?_, R.dd⟩
  rotate_left
  · have h2 : (m.cells.take k)[i]? = Option.some a := h2
    have hi : i < k := by
      have := (List.getElem?_eq_some_iff.mp h1).1
      rw [List.length_take] at this; omega
    rw [List.getElem?_take_of_lt hi] at h1 h2
    exact R.lv i c a h1 h2
  have h2 : (m.cells.take k)[i]? = Option.some a := h2
  have hi : i < k := by
    have := (List.getElem?_eq_some_iff.mp h1).1
    rw [List.length_take] at this; omega
  have hcl := List.all_eq_true.mp hc c (List.mem_of_getElem? h1)
  rw [List.getElem?_take_of_lt hi] at h1 h2
  have := R.at i c a h1 h2
  cases c with
  | lst ds => obtain ⟨xs, q, r⟩ := this; exact ⟨xs, q, r.trim hcl⟩
  | dic kvs => obtain ⟨ys, q, e, r⟩ := this; exact ⟨ys, q, e, r.trim hcl⟩
  | gone => exact this
def trimS (k : Nat) (d : D) (s : Sto) : Sto := if dlt k d && (s.take k).all (clt k) then s.take k else s
def fnRes (k : Nat) : ResS → Res D
  | some (.rt d, _, s) => some (.ok d, trimS k d s)
  | some (.nx, _, s) => some (.ok .non, trimS k .non s)
  | some (.ex c, _, s) => some (.ex c, trimS k .non s)
  | _ => none
def env0 (n nl : Nat) (ds : List D) : DEnv := ds.map some ++ List.replicate (nl - n) none
def fnOf (n nl : Nat) (body : Sms) : List D → Sto → Res D := fun ds st => if ds.length = n then fnRes st.length (body (env0 n nl ds) st) else none
theorem trim_end {g : GX} {m m' : MM} {H H' : Hp} {st st' : Sto} {d : D} {v : V} (R : RS g m H st) (E : Ext m H m' H') (R' : RS g m' H' st') (r : RD g m' H' d v) : ∃ m'', Ext m H m'' H' ∧ RS g m'' H' (trimS st.length d st') ∧ RD g m'' H' d v := by
  unfold trimS
  split
  · rename_i hc
    simp only [Bool.and_eq_true] at hc
    refine ⟨m'.take st.length, ⟨⟨?_, E.tup, E.frz, fun b xs h n => ⟨(E.lst b xs h n).1, fun z => (E.lst b xs h n).2.1 (List.mem_of_mem_take z), (E.lst b xs h n).2.2⟩, fun b xs h n => ⟨(E.dic b xs h n).1, fun z => (E.dic b xs h n).2.1 (List.mem_of_mem_take z), (E.dic b xs h n).2.2⟩, E.ext⟩, E.vols, E.kept⟩, R'.trim hc.2, r.trim hc.1⟩
    obtain ⟨rr, e⟩ := E.pre
    refine ⟨[], ?_⟩
    show m'.cells.take st.length = _
    rw [e, ← R.len, List.take_left, List.append_nil]
  · exact ⟨m', E, R', r⟩
theorem RE.starts {g : GX} {m : MM} {H : Hp} {N : List Str} {n : Nat} {ds : List D} {vs : List V} (r : RDs g m H ds vs) (hn : ds.length = n) : RE g m H (env0 n N.length ds) (L2.start N vs) := by
  have hv : vs.length = n := by rw [← r.length]; exact hn
  refine ⟨by simp [env0, L2.start, hn, hv], fun i d e => ?_⟩
  unfold env0 at e
  unfold L2.start
  have hi : i < ds.length := by
    apply Classical.byContradiction
    intro hi
    rw [List.getElem?_append_right (by simpa using hi), List.getElem?_replicate] at e
    split at e <;> cases e
  rw [List.getElem?_append_left (by simpa using hi), List.getElem?_map] at e
  cases q : ds[i]? with
  | none => rw [q] at e; cases e
  | some d' =>
    rw [q] at e
    cases e
    obtain ⟨v, h1, h2⟩ := r.get q
    exact ⟨v, by rw [List.getElem?_append_left (by rw [List.length_map, hv, ← hn]; exact hi), List.getElem?_map, h1]; rfl, h2⟩
theorem fnRes_of {g : GX} {E : XK} {m : MM} {H : Hp} {st : Sto} {r : ResS} {Q : VK} (R : RS g m H st) (q : RI g E m H (fnRes st.length r) fun d m' H' _ => ∀ v, RD g m' H' d v → Q v H') : RIs g E m H r { nx := fun _ H' => Q .non H', rt := Q } := by
  cases r with
  | none => exact q
  | some r =>
    obtain ⟨fl, env, s⟩ := r
    cases fl with
    | nx =>
      intro m' H' σ' E' R' re'
      have := q
      obtain ⟨m'', e1, e2, e3⟩ := trim_end R E' R' (d := .non) (v := .non) .non
      exact q m'' H' e1 e2 _ e3
    | rt d =>
      intro m' H' v E' R' r
      obtain ⟨m'', e1, e2, e3⟩ := trim_end R E' R' r
      exact q m'' H' e1 e2 _ e3
    | ex c =>
      intro m' H' C E' R' hc
      obtain ⟨m'', e1, e2, e3⟩ := trim_end R E' R' (d := .non) (v := .non) .non
      exact q m'' H' C e1 e2 hc
    | bk => exact q.elim
    | ct => exact q.elim
section
variable {P : Program} {w : World} {K : PySem.W.Frag} {mg : Str → Option Value} {base : Heap} {g : GX}
theorem fn_I {x qual : Str} {st : Stmt} {f : Addr} {fd : FuncData} {N ps : List Str} {k : Nat} {body : Sms} (F : Fun K x qual st f fd) (S : FnScope N ps (defScope st))
    (hb : ∀ (cdv : Value) (A : Around) (outer : List Env) (s : Shared) (H : Hp) (E : XK), Room k (A.deeper (envOfC qual (defScope st) s.heap.objs.size f cdv)) → PSs (cxOf (CXe P w) P w K mg base N qual (defScope st) f cdv A outer s H E) (defBody st) (tIs g E body)) :
    FnOk P w K mg base (CXe P w) (k + 1) f fd ps (spF g ps.length (fnOf ps.length N.length body)) := by
  obtain ⟨oc, od, kV, doc, pm, an, cdv, ct, osl, rfl, lk, hcd⟩ := F.ex
  refine fn_of lk hcd S (fun vs H Q E ⟨ds, m, st, hn, r, _⟩ => by rw [← r.length]; exact hn) fun A outer s H vs Q E hr ⟨ds, m, st, hn, r, R, q⟩ => ?_
  refine ⟨_, hb cdv A outer s H E hr, env0 ps.length N.length ds, m, st, RE.starts r hn, R, ?_⟩
  unfold fnOf at q
  rw [if_pos hn] at q
  exact fnRes_of R q
theorem made_def {N : List Str} {qual : Str} {scope : Scope} {f : Addr} {cd : Value} {A : Around} {outer : List Env} {s₀ : Shared} {H₀ : Hp} {E : XK} : MadeOk (cxOf (CXe P w) P w K mg base N qual scope f cd A outer s₀ H₀ E) E :=
  fun _ _ _ _ _ _ _ _ I hx hE => leaves_made (CX := CXe P w) I hx hE
theorem own_def {N : List Str} {qual : Str} {scope : Scope} {f : Addr} {cd : Value} {A : Around} {outer : List Env} {s₀ : Shared} {H₀ : Hp} {E : XK} :
    PassesOwn (model (cxOf (CXe P w) P w K mg base N qual scope f cd A outer s₀ H₀ E).prog (cxOf (CXe P w) P w K mg base N qual scope f cd A outer s₀ H₀ E).w) (cxOf (CXe P w) P w K mg base N qual scope f cd A outer s₀ H₀ E).A (cxOf (CXe P w) P w K mg base N qual scope f cd A outer s₀ H₀ E).env (cxOf (CXe P w) P w K mg base N qual scope f cd A outer s₀ H₀ E).xe := PassesOwn.leaving
end
end I2
set_option Elab.async false
set_option linter.all false
set_option maxRecDepth 100000
set_option maxHeartbeats 4000000
namespace I2
open PySem PySem.Spec PyProof.Rows L2
section
variable {prog : Program} {w : World} {A : Around} {E : Value → Shared → Prop} {h : Heap} {g : Array GenState} {d : Drawn} {t : Nat} {os : OsState} {a : Addr} {o : Obj} {K : PySem.W.Frag} {C : Addr}
structure XCls (K : PySem.W.Frag) (C : Addr) : Prop where
  exc : PySem.W.excIn K C bmV "ValueError.__new__" = true
  ga : PySem.W.findIn K (.ref C) "__getattribute__" = some (some (.builtin "BaseException.__getattribute__"))
  gt : PySem.W.findIn K (.ref C) "__getattr__" = some none
  cl : PySem.W.findIn K (.ref C) "__class__" = some (some (.builtin "object.__class__"))
theorem XCls.obj (x : XCls K C) (X : K.In h) : ∃ bm N nm q bs hdct sn sub ab col dd k0 k1 k2 k3 k5, h.get? C = some (excClassObj nm q C N bs bm hdct sn sub ab col dd k0 k1 k2 k3 k5 "ValueError.__new__") ∧ OwnTail h bmV bm := by
  obtain ⟨bm, N, nm, q, bs, hdct, sn, sub, ab, col, dd, k0, k1, k2, k3, k5, mN, hC, hN, hni, T⟩ := (own_of (mg := fun _ => some (.ref C)) (x := "x") X rfl x.exc).obj
  exact ⟨bm, N, nm, q, bs, hdct, sn, sub, ab, col, dd, k0, k1, k2, k3, k5, hC, T⟩
end
end I2
set_option Elab.async false
set_option linter.all false
set_option maxRecDepth 100000
set_option maxHeartbeats 4000000
namespace I2
open PySem PySem.Spec PyProof.Rows L2
structure GXok (g : GX) : Prop where
  xc : ∀ c C, g.cls c = some C → XCls g.K C
  isx : ∀ c T b C tv, g.isx c T = some b → g.cls c = some C → g.tyv T = some tv → PySem.W.kitOne g.K (.ref C) tv = some b
def tyName : D → Option String
  | .non => some "NoneType"
  | .bl _ => some "bool"
  | .int _ => some "int"
  | .str _ => some "str"
  | .tup _ => some "tuple"
  | .lst _ => some "list"
  | .dic0 => some "dict"
  | _ => none
def tyOk : List String := ["int", "bool", "tuple", "str", "list", "dict"]
def isiT (T tn : String) : Bool := T == tn || (T == "int" && tn == "bool")
def oIsiB (T : String) (d : D) : Option D := match tyName d with
  | some tn => if tyOk.contains T then some (.bl (isiT T tn)) else none
  | none => none
def tyNames : List String := ["NoneType", "bool", "int", "str", "tuple", "list", "dict"]
theorem kit_tt (K : PySem.W.Frag) : ∀ T ∈ tyOk, ∀ tn ∈ tyNames, PySem.W.kitOne K (.type tn) (.type T) = some (isiT T tn) := by
  intro T hT tn htn
  simp only [tyOk, tyNames, List.mem_cons, List.not_mem_nil, or_false] at hT htn
  rcases hT with rfl | rfl | rfl | rfl | rfl | rfl <;> rcases htn with rfl | rfl | rfl | rfl | rfl | rfl | rfl <;> rfl
section
variable {X : Cx} {g : GX} {EX : XK} {pins : List (Addr × Obj)} {σ : L2.St} {H : Hp} {s : Shared} {m : MM}
theorem isi_run {A : Around} {E : Value → Shared → Prop} {Q : Value → Shared → Prop} {d : D} {x : V} {u c : Value} {tn : String} {b : Bool} (hK : X.K = g.K) (I : Inv X pins σ H s) (r : RD g m H d x) (rx : RelV x u) (ht : tyName d = some tn) (e : PySem.W.kitOne X.K (.type tn) c = some b) (h : ∀ tk, Q (.bool b) { s with toks := tk }) :
    wpAny (model X.prog X.w) A (call (.builtin "isinstance") [u, c]) Q E s := by
  cases r with
  | non => cases ht; cases (show u = Value.none from rx); exact PySem.W.kia_one PySem.W.kitx_none I.kIn True.intro e (fun z => nomatch z) h
  | bl y => cases ht; cases (show u = Value.bool y from rx); exact PySem.W.kia_one PySem.W.kitx_bool I.kIn True.intro e (fun z => nomatch z) h
  | int i => cases ht; obtain ⟨t, q⟩ := (show ∃ t, u = Value.int i t from rx); cases q; exact PySem.W.kia_one PySem.W.kitx_int I.kIn True.intro e (fun z => nomatch z) h
  | str y => cases ht; obtain ⟨t, q⟩ := (show ∃ t, u = Value.str y t from rx); cases q; exact PySem.W.kia_one PySem.W.kitx_str I.kIn True.intro e (fun z => nomatch z) h
  | @tup a xs ds hs hr =>
    cases ht
    cases (show u = Value.ref a from rx)
    obtain ⟨its, rv, ⟨o, h1, h2, _⟩, _⟩ := I.tuple (by rw [hK]; exact hs)
    exact PySem.W.kia_one PySem.W.kitx_tuple I.kIn ⟨o, h1, h2⟩ e (fun z => nomatch z) h
  | @lst a xs ds hs hn hr =>
    cases ht
    cases (show u = Value.ref a from rx)
    obtain ⟨its, rv, ⟨o, n, h1, h2, _⟩, _⟩ := I.list (.of hs)
    exact PySem.W.kia_one PySem.W.kitx_list I.kIn ⟨o, h1, h2⟩ e (fun z => nomatch z) h
  | @dic0 a hs hn =>
    cases ht
    cases (show u = Value.ref a from rx)
    obtain ⟨_, _, vs, _, p⟩ := (show ObjOk X.prog X.w H s.heap a (.dK []) from I.hok a _ hs)
    obtain ⟨o, es, ep, h1, h2, _⟩ := p
    exact PySem.W.kia_one PySem.W.kitx_dict I.kIn ⟨o, h1, h2.1⟩ e (fun z => nomatch z) h
  | scr _ _ => cases ht
  | dcs _ _ _ => cases ht
  | ref _ => cases ht
  | exc _ _ => cases ht
variable {a b c e : Expr} {pos p p2 : Pos} {f : Sm}
theorem i_isiB {T : String} (hK : X.K = g.K) (hg : Gl X "isinstance") (hm : X.mg "isinstance" = none) (hgT : Gl X (Str.ofString T)) (hmT : X.mg (Str.ofString T) = none) (hbT : bootBuiltins (Str.ofString T) = some (.type T)) (ha : PE X e (tI g EX f))
    (hnT : Str.ofString T ≠ "__name__" := by decide) (hdT : (Str.ofString T == ("__debug__" : Str)) = false := by decide)
    (he : starEach (e :: [.Name (Str.ofString T) p2]) X.env = (false, eval e X.env) :: starEach [.Name (Str.ofString T) p2] X.env := by rfl) :
    PE X (.Call (.Name "isinstance" p) [e, .Name (Str.ofString T) p2] [] pos) (tI g EX (s1 (oIsiB T) f)) := by
  have hv : bootBuiltins "isinstance" = some (.builtin "isinstance") := by decide +kernel
  refine PE.mono (pe_callB (r := fun xs H Q => ∃ m st d dd x, RS g m H st ∧ RD g m H d x ∧ xs = [x, .ty T] ∧ oIsiB T d = some dd ∧ ∀ v m' H', Ext m H m' H' → RS g m' H' st → RD g m' H' dd v → Q v H') ?_ hg hm hv (pa_cons ha (pa_cons (pe_bltn hgT hmT hbT (v := .ty T) rfl hnT hdT) pa_nil) he) (by decide) (by decide) he) ?_
  · intro pins s σ H xs us Q I r ⟨m, st, d, dd, x, R, rd, ex, e1, q⟩
    subst ex
    obtain ⟨u, u2, rfl, r1, r2⟩ := vals2 r
    cases r2
    unfold oIsiB at e1
    cases e2 : tyName d with
    | none => rw [e2] at e1; cases e1
    | some tn =>
      rw [e2] at e1
      dsimp only at e1
      split at e1
      · rename_i hc
        cases e1
        have htn : tn ∈ tyNames := by cases d <;> simp [tyName] at e2 <;> subst e2 <;> decide
        refine isi_run hK I rd r1 e2 (kit_tt X.K T (by simpa using hc) tn htn) fun tk => ⟨.bl _, H, I.tok _, rfl, q _ m H (.refl _ _) R (.bl _)⟩
      · cases e1
  · intro σ H Q ⟨env, m, st, re, R, q⟩
    refine ⟨env, m, st, re, R, q.bnd.mono fun d1 m1 H1 st1 E1 R1 q v1 r1 => ?_⟩
    obtain ⟨d, e, q3⟩ := q.lift
    exact ⟨m1, st1, d1, d, v1, R1, r1, rfl, e, fun v m' H' E R r => q3 m' H' E R v r⟩
end
end I2
set_option Elab.async false
set_option linter.all false
set_option maxRecDepth 100000
set_option maxHeartbeats 4000000
namespace I2
open PySem PySem.Spec PyProof.Rows L2
structure RoomH (k : Nat) (A : Around) : Prop where
  dp : A.depth + 3 * k + 5 < recursionLimit
  un : A.units + 16 * k + 200 < cLine
theorem RoomH.mono {j k : Nat} {A : Around} (r : RoomH k A) (h : j ≤ k) : RoomH j A := ⟨by have := r.dp; omega, by have := r.un; omega⟩
theorem RoomH.deeper {k : Nat} {A : Around} (r : RoomH (k + 1) A) (env : Env) : RoomH k (A.deeper env) :=
  ⟨by have := r.dp; show A.depth + 1 + 3 * k + 5 < _; omega, by have := r.un; show A.units + 3 + 16 * k + 200 < _; omega⟩
theorem RoomH.depth {k : Nat} {A : Around} (r : RoomH k A) : A.depth < recursionLimit := by have := r.dp; omega
theorem RoomH.units {k : Nat} {A : Around} (r : RoomH k A) : A.units + 64 < cLine := by have := r.un; omega
theorem RoomH.of {k : Nat} {A : Around} (r : Room k A) (h : Option Value) : RoomH k (A.mark h) := ⟨r.dp, r.un⟩
structure FnOkH (P : Program) (w : World) (K : PySem.W.Frag) (mg : Str → Option Value) (base : Heap) (CX : CXT) (k : Nat) (f : Addr) (fd : FuncData) (ps : List Str) (sp : Sp) : Prop where
  len : ∀ vs H Q E, sp vs H Q E → vs.length = ps.length
  run : ∀ (A : Around) (outer : List Env) (s : Shared) (H : Hp) (args : Args) (us : List Value) (vs : List V) (Q : VK) (E : XK), RoomH k A → Env0 P w K mg base A outer s H → BindsTo s fd args (ps.zip us) → Vals vs us → sp vs H Q E →
    codeAny (model P w) A (.call (.ref f) args) (CR CX outer P w H s Q E) s
section
variable {P : Program} {w : World} {K : PySem.W.Frag} {mg : Str → Option Value} {base : Heap} {g : GX}
theorem FnOkH.out {CX : CXT} {k : Nat} {f : Addr} {fd : FuncData} {ps : List Str} {sp : Sp} (F : FnOkH P w K mg base CX k f fd ps sp) : FnOk P w K mg base CX k f fd ps sp :=
  ⟨F.len, fun A outer s H args us vs Q E hr => F.run A outer s H args us vs Q E ⟨hr.dp, hr.un⟩⟩
end
end I2
set_option Elab.async false
set_option linter.all false
set_option maxRecDepth 100000
set_option maxHeartbeats 4000000
namespace I2
open PySem PySem.Spec PyProof.Rows L2
section
variable {P : Program} {w : World} {K : PySem.W.Frag} {mg : Str → Option Value} {base : Heap} {N : List Str} {qual : Str} {scope : Scope} {f : Addr} {cd : Value} {A : Around} {outer : List Env} {s₀ : Shared} {H₀ : Hp} {E : XK} {g : GX}
abbrev Cx.tr (X : Cx) (XT : Value → Shared → Prop) (pn : List (Addr × Obj)) : Cx := { X with xe := XT, pn := pn }
abbrev Cx.ha (X : Cx) (a : Addr) (pn : List (Addr × Obj)) : Cx := { X with A := X.A.mark (some (.ref a)), calm := false, xe := fun _ _ => False, pn := pn }
end
end I2
set_option Elab.async false
set_option linter.all false
set_option maxRecDepth 100000
set_option maxHeartbeats 4000000
namespace I2
open PySem PySem.Spec PyProof.Rows L2
def noStar : Expr → Bool
  | .Starred _ _ => false
  | _ => true
theorem star_cons {e : Expr} {es : List Expr} {env : Env} (h : noStar e = true) : starEach (e :: es) env = (false, eval e env) :: starEach es env := by
  cases e <;> first | (cases h; done) | (rw [starEach]; done) | (rw [starEach]; intro _ _ z; cases z) | simp [starEach]
def noStars (es : List Expr) : Bool := es.all noStar
theorem star_any {pos : Pos} {env : Env} : ∀ {es : List Expr}, noStars es = true → (backTo pos (starEach es env)).any (·.1) = false
  | [], _ => by rw [starEach]; rfl
  | e :: es, h => by
    simp only [noStars, List.all_cons, Bool.and_eq_true] at h
    rw [star_cons h.1]
    show (false || (backTo pos (starEach es env)).any (·.1)) = false
    rw [star_any h.2]; rfl
theorem star_all {pos : Pos} {env : Env} : ∀ {es : List Expr}, noStars es = true → (backTo pos (starEach es env)).all (fun x => !x.1) = true
  | [], _ => by rw [starEach]; rfl
  | e :: es, h => by
    simp only [noStars, List.all_cons, Bool.and_eq_true] at h
    rw [star_cons h.1]
    show (true && (backTo pos (starEach es env)).all (fun x => !x.1)) = true
    rw [star_all h.2]; rfl
theorem kw_nil {pos : Pos} {env : Env} : (backToKw pos (keywordEach [] env)).all (fun x => x.1.isSome) = true := by rw [keywordEach]; rfl
def noComp : Expr → Bool
  | .ListComp _ _ _ _ => false
  | .SetComp _ _ _ _ => false
  | .DictComp _ _ _ _ _ => false
  | _ => true
theorem noSwap {e : Expr} {t : Option Expr} {l : Nat} {env : Env} (h : noComp e = true) : swapsWith e t l env = pure false := by
  cases e <;> first | (cases h; done) | rfl
def plainT : Expr → Bool
  | .UnaryOp .Not _ _ => false
  | .BoolOp _ _ _ => false
  | .IfExp _ _ _ _ => false
  | .Compare _ _ _ _ => false
  | _ => true
theorem plainT_of {e : Expr} {env : Env} (h : plainT e = true) : ∀ whole, isTrue e env whole = (do let v ← whole; standAt e.pos; holding [v] (truthy v)) := by
  intro whole
  cases e with
  | UnaryOp op x p =>
    cases op with
    | Not => cases h
    | _ => rfl
  | BoolOp _ _ _ => cases h
  | IfExp _ _ _ _ => cases h
  | Compare _ _ _ _ => cases h
  | _ => rfl
def noSet : Expr → Bool
  | .Set _ _ _ => false
  | _ => true
theorem noSet_of {e : Expr} {env : Env} (h : noSet e = true) : ∀ x, foldedSetIterable e env x = pure x := by
  intro x
  cases e <;> first | (cases h; done) | rfl
def plainBase : Expr → Bool
  | .Call _ [] _ _ => false
  | _ => true
theorem base_of {o : Expr} {name : Str} {env : Env} (h : plainBase o = true) : attributeBase o name env (eval o env) = eval o env := by
  cases o with
  | Call f args kws pos =>
    cases args with
    | nil => cases h
    | cons a as => cases f <;> rfl
  | _ => rfl
def noSlice : Expr → Bool
  | .Slice _ _ _ _ => false
  | _ => true
theorem plainIx_of {b : Expr} (h : noSlice b = true) : PlainIx b := by
  intro o i
  cases b <;> first | (cases h; done) | rfl
section
variable {X : Cx} {g : GX} {EX : XK} {a b c e o : Expr} {es : List Expr} {pos p p2 apos cpos : Pos} {f h k : Sm} {fs : Sma} {t : Smt} {u w : Sms}
theorem ja_cons (ha : PE X e (tI g EX f)) (hr : PA X es (tIa g EX fs)) (hs : noStar e = true := by rfl) : PA X (e :: es) (tIa g EX (sCons f fs)) := ia_cons ha hr (star_cons hs)
theorem j_call {CX : CXT} {k n : Nat} {F : List D → Sto → Res D} {x : Str} {fa : Addr} {fd : FuncData} {ps : List Str} (G : FnOk X.prog X.w X.K X.mg X.base CX k fa fd ps (spF g n F)) (hr : Room k X.A) (hg : Gl X x) (hm : X.mg x = some (.ref fa))
    (hk : PySem.W.keepIn X.K (.ref fa) = true) (hb : Binds X.K fd ps []) (hx : Passes CX X EX) (ha : PA X (e :: es) (tIa g EX fs)) (hdb : (x == ("__debug__" : Str)) = false := by decide) (hs : noStars (e :: es) = true := by rfl) : PE X (.Call (.Name x p) (e :: es) [] pos) (tI g EX (sCall n F fs)) :=
  have h1 : noStar e = true ∧ noStars es = true := by simpa [noStars] using hs
  i_call G hr hg hm hk hb hx ha hdb (star_cons h1.1) (star_any h1.2)
theorem j_bltnS {op : Sto → List D → Option D} {x : Str} {id : String} (hc : CallR X (.builtin id) (rCs g op)) (hg : Gl X x) (hm : X.mg x = none) (hv : bootBuiltins x = some (.builtin id)) (ha : PA X (e :: es) (tIa g EX fs)) (hn : x ≠ "__name__" := by decide) (hdb : (x == ("__debug__" : Str)) = false := by decide) (hs : noStars (e :: es) = true := by rfl) : PE X (.Call (.Name x p) (e :: es) [] pos) (tI g EX (sBs op fs)) :=
  have h1 : noStar e = true ∧ noStars es = true := by simpa [noStars] using hs
  i_bltnS hc hg hm hv ha hn hdb (star_cons h1.1) (star_any h1.2)
theorem j_typeS {op : Sto → List D → Option D} {x : Str} {T : String} (hc : CallR X (.type T) (rCs g op)) (hg : Gl X x) (hm : X.mg x = none) (hv : bootBuiltins x = some (.type T)) (ha : PA X (e :: es) (tIa g EX fs)) (hn : x ≠ "__name__" := by decide) (hdb : (x == ("__debug__" : Str)) = false := by decide) (hs : noStars (e :: es) = true := by rfl) : PE X (.Call (.Name x p) (e :: es) [] pos) (tI g EX (sBs op fs)) :=
  have h1 : noStar e = true ∧ noStars es = true := by simpa [noStars] using hs
  i_typeS hc hg hm hv ha hn hdb (star_cons h1.1) (star_any h1.2)
theorem j_isiB {T : String} (hK : X.K = g.K) (hg : Gl X "isinstance") (hm : X.mg "isinstance" = none) (hgT : Gl X (Str.ofString T)) (hmT : X.mg (Str.ofString T) = none) (hbT : bootBuiltins (Str.ofString T) = some (.type T)) (ha : PE X e (tI g EX f))
    (hnT : Str.ofString T ≠ "__name__" := by decide) (hdT : (Str.ofString T == ("__debug__" : Str)) = false := by decide) (hs : noStar e = true := by rfl) : PE X (.Call (.Name "isinstance" p) [e, .Name (Str.ofString T) p2] [] pos) (tI g EX (s1 (oIsiB T) f)) :=
  i_isiB hK hg hm hgT hmT hbT ha hnT hdT (star_cons hs)
theorem j_app (ho : PE X o (tI g EX f)) (ha : PE X e (tI g EX h)) (hb : plainBase o = true := by rfl) (hs : noStar e = true := by rfl) (hline : (apos.endLine == cpos.line) = true := by rfl) : PE X (.Call (.Attribute o "append" apos) [e] [] cpos) (tI g EX (sApp f h)) :=
  i_app ho ha (base_of hb) (by rw [star_all (by simp [noStars, hs]), kw_nil]; rfl) hline (star_cons hs)
theorem j_tru (hK : X.K = g.K) (ha : PE X a (tI g EX f)) (he : plainT a = true := by rfl) : PT X a (tIt g EX (sTru f)) := i_tru hK ha (plainT_of he)
theorem j_ix (hK : X.K = g.K) (ha : PE X a (tI g EX f)) (hb : PE X b (tI g EX h)) (hs : noSlice b = true := by rfl) : PE X (.Subscript a b pos) (tI g EX (sIx f h)) := i_ix hK ha hb (plainIx_of hs)
theorem js_set {i : Nat} {x : Str} {pos' : Pos} (hN : X.N.Nodup) (hi : X.N[i]? = some x) (hx : Loc X.env.scope x) (ha : PE X a (tI g EX f)) (hs : noComp a = true := by rfl)
    (hf : X.fn x = true ∨ X.env.scope.names.lookup x = some .local := by first | exact .inl rfl | exact .inr rfl | assumption) : PS X (.Assign [.Name x pos'] a pos) (tIs g EX (sSet i f)) := is_set hN hi hx ha (noSwap hs) hf
theorem js_exp (ha : PE X a (tI g EX f)) (hs : noComp a = true := by rfl) : PS X (.Expr a pos) (tIs g EX (sExp f)) := is_exp ha (noSwap hs)
theorem js_asg {tg : Expr} {bd : Bd} (ha : PE X a (tI g EX f)) (hg : PG X tg (tIg g bd)) (hs : noComp a = true := by rfl) (hw : swappedStores [tg] a X.env = pure none := by rfl)
    (h1 : (assignEach [tg] X.env).map (·.2) = [assign tg X.env] := by rfl) : PS X (.Assign [tg] a pos) (tIs g EX (sAsg bd f)) := is_asg ha hg (noSwap hs) hw h1
theorem js_put {o i : Expr} {spos : Pos} (ha : PE X a (tI g EX f)) (ho : PE X o (tI g EX h)) (hi : PE X i (tI g EX k)) (hs : noComp a = true := by rfl)
    (hq : ∀ v, assign (.Subscript o i spos) X.env v = (do
      let ov ← holding [v] (eval o X.env)
      let iv ← holding [v, ov] (eval i X.env)
      standAt spos
      holding [v, ov, iv] (setItem ov iv v)
      release [v, ov, iv] []) := by intro _; rfl)
    (hw : swappedStores [.Subscript o i spos] a X.env = pure none := by rfl) (h1 : (assignEach [.Subscript o i spos] X.env).map (·.2) = [assign (.Subscript o i spos) X.env] := by rfl) : PS X (.Assign [.Subscript o i spos] a pos) (tIs g EX (sPut f h k)) :=
  is_put ha ho hi hq (by unfold swapsWithSole; exact noSwap hs) hw h1
theorem js_for {tg : Expr} {bd : Bd} {body : List Stmt} (hK : X.K = g.K) (hp : PassesOwn (model X.prog X.w) X.A X.env X.xe) (hc : X.calm = true) (ha : PE X a (tI g EX f)) (hg : PG X tg (tIg g bd)) (hb : PSs X body (tIs g EX u)) (hs : noSet a = true := by rfl) : PS X (.For tg a body [] pos) (tIs g EX (sFor bd f u)) :=
  is_for hK hp hc ha hg hb (noSet_of hs)
theorem js_forR {tg : Expr} {bd : Bd} {body : List Stmt} (hp : PassesOwn (model X.prog X.w) X.A X.env X.xe) (hc : X.calm = true) (hgl : Gl X "range") (hmg : X.mg "range" = none) (ha : PA X [a] (tIa g EX fs)) (hg : PG X tg (tIg g bd)) (hb : PSs X body (tIs g EX u)) (hs : noStar a = true := by rfl) :
    PS X (.For tg (.Call (.Name "range" p) [a] [] p2) body [] pos) (tIs g EX (sForR bd fs u)) := is_forR hp hc hgl hmg ha hg hb (by rw [star_cons hs, starEach]) (noSet_of rfl)
theorem js_raise {x : Str} {C : Addr} {np : Pos} {cn : Str} (hq : PySem.W.excIn X.K C bmV "ValueError.__new__" = true) (hcl : g.cls cn = some C) (hg : Gl X x) (hm : X.mg x = some (.ref C)) (hc : X.calm = true) (hM : MadeOk X EX) (ha : PA X (e :: es) (tIa g EX fs)) (hd : (x == ("__debug__" : Str)) = false := by decide) (hs : noStars (e :: es) = true := by rfl) :
    PS X (.Raise (some (.Call (.Name x np) (e :: es) [] cpos)) none pos) (tIs g EX (sRaise cn fs)) :=
  have h1 : noStar e = true ∧ noStars es = true := by simpa [noStars] using hs
  is_raise hq hcl hg hm hc hM ha hd (star_cons h1.1) (star_any h1.2)
end
section
variable {X : Cx} {g : GX} {EX : XK} {elt tg iter : Expr} {ifs : List Expr} {scope : Scope} {own : List (Str × Nat)} {pos : Pos} {f h : Sm} {t : Smt} {T : Tgt} {fs : Sma} {vs : List Nat}
theorem j_comp (hK : X.K = g.K) (hc : X.calm = true) (hN : X.N.Nodup) (ha : PE X iter (tI g EX f)) (ok : BlkOk X.N X.env.scope scope own) (hv : own.map (·.2) = vs) (hall : T.all vs)
    (hg : ∀ (s : Shared) (H : Hp) (C : Addr) (cl : List (Str × Addr)) (fp : List Addr), PG (X.blk s H scope (compEnvC scope cl C X.env) fp) tg (T.tg X.K)) (ht : ∀ (s : Shared) (H : Hp) (C : Addr) (cl : List (Str × Addr)) (fp : List Addr), PTs (X.blk s H scope (compEnvC scope cl C X.env) fp) ifs (tIt g E00 t))
    (he : ∀ (s : Shared) (H : Hp) (C : Addr) (cl : List (Str × Addr)) (fp : List Addr), PE (X.blk s H scope (compEnvC scope cl C X.env) fp) elt (tI g E00 h)) (hs : noSet iter = true := by rfl) :
    PE X (.ListComp elt [⟨tg, iter, ifs, 0⟩] scope pos) (tI g EX (sComp T f t h vs)) := by subst hv; exact i_comp hK hc hN ha ok hall hg ht he (noSet_of hs)
end
theorem bb_len : bootBuiltins "len" = some (.builtin "len") := by decide +kernel
theorem bb_abs : bootBuiltins "abs" = some (.builtin "abs") := by decide +kernel
theorem bb_max : bootBuiltins "max" = some (.builtin "max") := by decide +kernel
theorem bb_min : bootBuiltins "min" = some (.builtin "min") := by decide +kernel
theorem bb_all : bootBuiltins "all" = some (.builtin "all") := by decide +kernel
theorem bb_any : bootBuiltins "any" = some (.builtin "any") := by decide +kernel
theorem bb_int : bootBuiltins "int" = some (.type "int") := by decide +kernel
theorem bb_str : bootBuiltins "str" = some (.type "str") := by decide +kernel
theorem bb_tuple : bootBuiltins "tuple" = some (.type "tuple") := by decide +kernel
theorem bb_bool : bootBuiltins "bool" = some (.type "bool") := by decide +kernel
theorem pass_E0 {P : Program} {w : World} {X : Cx} : Passes (CXe P w) X E00 := fun _ _ _ _ _ _ _ ⟨_, _, _, _, _, _, _, _, _, h⟩ => h.elim
end I2
set_option Elab.async false
set_option linter.all false
set_option maxRecDepth 100000
set_option maxHeartbeats 4000000
namespace I2
open PySem PySem.Spec PyProof.Rows L2
theorem RD.top {g : GX} {m : MM} {H : Hp} {z : Addr} {od : Option Addr} {its : Array Value} {n : Nat} {sl : Array (Option Value)} {xs : List V} {ds : List D} (hl : g.K.lookup z = some ⟨.type "tuple", od, .seq its n, sl⟩) (hz : its.size ≤ sizeLine) (hv : Vals xs its.toList) (hr : RDs g m H ds xs) : RD g m H (.tup ds) (.ref z) :=
  .tup (.inr ⟨_, its, n, hl, rfl, rfl, hz, hv⟩) hr
theorem gok_of {K : PySem.W.Frag} {cl : List (Str × Addr)} {tb : List (Str × List (Str × Bool))} {ty : List (Str × Value)} (hx : ∀ e ∈ cl, XCls K e.2)
    (hk : ∀ e ∈ cl, ∀ l, tb.lookup e.1 = some l → ∀ p ∈ l, ∀ tv, ty.lookup p.1 = some tv → PySem.W.kitOne K (.ref e.2) tv = some p.2) :
    GXok ⟨K, fun c => cl.lookup c, fun c t => (tb.lookup c).bind fun l => l.lookup t, fun t => ty.lookup t⟩ := by
  refine ⟨fun c C h => hx _ (PySem.mem_of_lookup h), fun c T b C tv h1 h2 h3 => ?_⟩
  have h1 : ((tb.lookup c).bind fun l => l.lookup T) = some b := h1
  have h2 : cl.lookup c = some C := h2
  have h3 : ty.lookup T = some tv := h3
  cases e : tb.lookup c with
  | none => rw [e] at h1; cases h1
  | some l =>
    rw [e] at h1
    exact hk (c, C) (PySem.mem_of_lookup h2) l e (T, b) (PySem.mem_of_lookup h1) tv h3
end I2
set_option Elab.async false
set_option linter.all false
set_option maxRecDepth 100000
set_option maxHeartbeats 4000000
namespace I2
open PySem PySem.Spec PyProof.Rows L2
theorem noFill_tuple_mul : fillsNumberSlot (.type "tuple") "mul" = pure false :=
  PySem.fillsNumberSlot_seq (id := "tuple.__mul__") (r := some (.builtin "tuple.__rmul__")) F.slot_tuple_mul.lookup (by decide +kernel) F.slot_tuple_rmul.lookup (by decide +kernel)
theorem repeat_tuple : seqRepeat? (.type "tuple") = pure (some (.builtin "tuple.__mul__")) := by
  unfold seqRepeat?
  rw [PySem.seqSlot_of (T := "tuple") (name := "__mul__") (id := "tuple.__mul__") F.slot_tuple_mul.lookup (by decide +kernel), PySem.seqSlot_of (T := "tuple") (name := "__rmul__") (id := "tuple.__rmul__") F.slot_tuple_rmul.lookup (by decide +kernel)]
  rfl
theorem int_rmul_tup (a : Int) (t : Tok) (l : Addr) (items : Array Value) (n : Nat) (od : Option Addr) (sl : Array (Option Value)) :
    Meets (Builtin.«int.__rmul__» ⟨[.int a t, .ref l], []⟩) (fun _ R s => s.heap.get? l = some { cls := .type "tuple", dict := od, data := .seq items n, slots := sl } ∧ R (.ok (.ret Value.notImplemented)) s) :=
  .of_wp fun prog w A R s h => by obtain ⟨hp, g, d, tk, os⟩ := s; obtain ⟨hl, h⟩ := h; wp_walk; exact ⟨_, rfl, h⟩
theorem tup_mul (l : Addr) (items : Array Value) (n : Nat) (od : Option Addr) (sl : Array (Option Value)) (x : Int) (u : Tok) (h2 : 2 ≤ x) (h63 : x < 2 ^ 63) (hne : items.isEmpty = false) (hc1 : ¬(items.size : Int) * x > (2 ^ 63 - 1) / 8) (hc2 : Builtin.Tuple.tupleTooMany ((items.size : Int) * x) = false) (hsz : ((List.replicate x.toNat items).foldl (· ++ ·) #[]).size ≤ sizeLine) :
    Meets (Builtin.«tuple.__mul__» ⟨[.ref l, .int x u], []⟩) (fun _ R s => s.heap.get? l = some { cls := .type "tuple", dict := od, data := .seq items n, slots := sl } ∧ R (.ok (.ret (Value.ref s.heap.objs.size))) { s with heap := s.heap.push { cls := Value.type "tuple", data := .seq ((List.replicate x.toNat items).foldl (· ++ ·) #[]) } }) :=
  .of_wp fun prog w A R s h => by
    obtain ⟨hp, g, d, tk, os⟩ := s; obtain ⟨hl, h⟩ := h
    wp_walk
    refine wpAny_ite_false (by simp; omega) ?_
    wp_walk
    refine wpAny_ite_false (by rw [hne]; simp; omega) ?_
    wp_walk
    refine wpAny_ite_false (by rw [hne]; simp; omega) ?_
    wp_walk
    refine wpAny_ite_false (by first | exact hc1 | simp; omega) ?_
    wp_walk
    exact ⟨_, rfl, h⟩
theorem foldl_rep' (its : List Value) : ∀ (k : Nat) (a : List Value), List.foldl (fun x1 x2 => x1 ++ x2) a.toArray (List.replicate k its.toArray) = (a ++ (List.replicate k its).flatten).toArray
  | 0, a => by simp
  | k + 1, a => by
    rw [List.replicate_succ, List.foldl_cons, List.replicate_succ, List.flatten_cons]
    have e : a.toArray ++ its.toArray = (a ++ its).toArray := by simp
    rw [e, foldl_rep' its k (a ++ its), List.append_assoc]
def rRepT (K : PySem.W.Frag) : R2 := fun x y H Q => ∃ a k xs, x = .ref a ∧ y = .int k ∧ SqT K H a xs ∧ xs ≠ [] ∧ 2 ≤ k ∧ k < 2 ^ 63 ∧ xs.length * k.toNat ≤ sizeLine ∧
  ∀ p, H p = none → Q (.ref p) (upd H p (.tup (List.replicate k.toNat xs).flatten))
theorem op_repT {X : Cx} : OpR X (binaryOp .Mult) (rRepT X.K) := by
  intro pins s σ H x y v u Q I rx ry h
  obtain ⟨l, k, xs, rfl, rfl, hx, hne, h2, h63, hz, q⟩ := h
  cases rx
  obtain ⟨t, rfl⟩ := ry
  obtain ⟨its, r, ht, _⟩ := I.tuple hx
  obtain ⟨⟨cls, dd, data, sl⟩, ho, hc, n, hd⟩ := id ht
  simp only at hc hd
  subst hc hd
  have hlen : its.length = xs.length := r.length.symm
  have hsl : (sizeLine : Nat) ≤ (2 ^ 63 - 1) / 8 := by decide
  have hk : (k.toNat : Int) = k := by omega
  have hmul : ((its.toArray.size : Int) * k) = ((xs.length * k.toNat : Nat) : Int) := by rw [List.size_toArray, hlen, Int.natCast_mul, hk]
  have hnew : List.foldl (fun x1 x2 => x1 ++ x2) #[] (List.replicate k.toNat its.toArray) = (List.replicate k.toNat its).flatten.toArray := by
    have := foldl_rep' its k.toNat []
    rw [List.nil_append] at this
    exact this
  refine wpAny_binaryOp_repeat_ref (T := "tuple") (U := "int") (by decide) ⟨_, ho, rfl⟩ (fun s' => typeIs_int s' k t) noFill_tuple_mul F.fills_int_mul F.slot_int_rmul repeat_tuple F.slot_int_index.lookup
    (call_meets F.slot_int_rmul (typeIs_int s k t) F.entry_int_rmul (F.args_int_rmul_2 _ _) (int_rmul_tup k t l its.toArray n dd sl)
      ⟨ho, rfl, ⟨_, ho, rfl⟩, call_meets F.slot_tuple_mul ⟨_, ho, rfl⟩ F.entry_tuple_mul (F.args_tuple_mul_2 _ _) (tup_mul l its.toArray n dd sl k t h2 h63 ?_ ?_ ?_ ?_) ⟨ho, ?_⟩⟩)
  · cases its with
    | nil => exact absurd (List.eq_nil_of_length_eq_zero (by simpa using hlen.symm)) hne
    | cons a r => rfl
  · rw [hmul]; omega
  · rw [hmul]; unfold Builtin.Tuple.tupleTooMany; exact decide_eq_false (by omega)
  · rw [hnew, List.size_toArray, len_rep, hlen, Nat.mul_comm]; exact hz
  · rw [hnew]
    refine ⟨.ref s.heap.objs.size, _, I.laid (t' := s.toks) (o := .tup (List.replicate k.toNat xs).flatten) (fun b ob q => Heap.get?_push_of_some _ q) (Nat.le_refl _) ?_, rfl, q _ (I.hok.fresh (Nat.le_refl _))⟩
    exact ⟨by rw [len_rep, Nat.mul_comm]; exact hz, _, r.rep k.toNat, IsTup.new _ _⟩
def oMulX : D → D → Option D
  | .tup xs, .int k => if !xs.isEmpty && decide (2 ≤ k) && decide (k < 2 ^ 63) && decide (xs.length * k.toNat ≤ sizeLine) then some (.tup (List.replicate k.toNat xs).flatten) else none
  | x, y => oMul x y
theorem oMulX_tup {xs : List D} {k : Int} : oMulX (.tup xs) (.int k) = if !xs.isEmpty && decide (2 ≤ k) && decide (k < 2 ^ 63) && decide (xs.length * k.toNat ≤ sizeLine) then some (.tup (List.replicate k.toNat xs).flatten) else none := rfl
theorem r_mulX {X : Cx} {g : GX} (hK : X.K = g.K) : OpR X (binaryOp .Mult) (rD g oMulX) := by
  intro pins s σ H x y v u Q I rx ry ⟨m, st, dx, dy, d, R, r1, r2, e, q⟩
  cases r1 with
  | @tup a xs ds hs hr =>
    cases r2 with
    | int k =>
      rw [oMulX_tup] at e
      split at e
      · rename_i hz
        simp only [Bool.and_eq_true, decide_eq_true_eq, Bool.not_eq_true'] at hz
        cases e
        refine op_repT pins s σ H _ _ v u Q I rx ry ⟨a, k, xs, rfl, rfl, by rw [hK]; exact hs, ?_, hz.1.1.2, hz.1.2, by rw [← hr.length]; exact hz.2, fun p hp => q _ m _ (.new hp) (R.new hp) (.newT ?_ hp)⟩
        · intro z; have := hr.empty; rw [hz.1.1.1, z] at this; cases this
        generalize k.toNat = n
        induction n with
        | zero => exact .nil
        | succ n ih => rw [List.replicate_succ, List.replicate_succ, List.flatten_cons, List.flatten_cons]; exact hr.append ih
      · cases e
    | _ => simp [oMulX, oMul] at e
  | _ => exact r_mul pins s σ H _ _ v u Q I rx ry ⟨m, st, _, dy, d, R, by first | exact .non | exact .bl _ | exact .int _ | exact .str _ | exact .lst ‹_› ‹_› ‹_› | exact .scr ‹_› ‹_› | exact .dic0 ‹_› ‹_› | exact .dcs ‹_› ‹_› ‹_› | exact .ref ‹_› | exact .exc ‹_› ‹_›, r2, by simpa only [oMulX] using e, q⟩
section
variable {prog : Program} {w : World} {A : Around} {E : Value → Shared → Prop} {s : Shared}
open HT in
theorem getItem_tuple_whole {t sl : Addr} {items : Array Value} {vl vu : Value} {lo hi : Option Int} {Q : Value → Shared → Prop} (ht : IsTup s.heap t items) (hs : s.heap.IsSliceOf sl vl vu .none) (pl : IsPart vl lo) (pu : IsPart vu hi)
    (hw : HT.sIx items.size 0 lo = 0 ∧ HT.sIx items.size items.size hi = items.size) (h : Q (.ref t) s) : wpAny (model prog w) A (getItem (.ref t) (.ref sl)) Q E s := by
  obtain ⟨os, hos, hcs, hds⟩ := id hs
  have hTs : s.TypeIs (.ref sl) "slice" := ⟨os, hos, hcs⟩
  unfold getItem
  try with_reducible refine wpAny_holding ?_
  first | refine wpAny_bind (wpAny_pure ?_) | skip
  refine wpAny_bind (wpAny_sequenceKey ht.typeIs (by decide) ?_)
  refine wpAny_bind (wpAny_callSpecial?_slot (name := Str.ofString "__getitem__") ht.typeIs PyProof.Rows.slot_tuple_getitem
    (wpAny_call_entry PyProof.Rows.slot_tuple_getitem ht.typeIs entry_tuple_getitem ?_ (args_tuple_getitem _ _)))
  show wpAny _ _ (Builtin.Tuple.tupleItemsOf (.ref t) >>= _) _ _ s
  refine wpAny_bind (tupleItemsOf_ ht ?_)
  refine wpAny_bind (wpAny_typeOf hTs ?_)
  rw [if_pos (by decide)]
  refine wpAny_bind (HT.sliceApplied_gen hs pl pu ?_)
  have hyes : ((((HT.sIx items.size 0 lo : Nat) : Int) == 0 && (1 : Int) == 1 && (HT.sIx items.size items.size hi - HT.sIx items.size 0 lo) == items.size) = true) := by
    rw [hw.1, hw.2]; simp
  show wpAny _ _ (if (((HT.sIx items.size 0 lo : Nat) : Int) == 0 && (1 : Int) == 1 && (HT.sIx items.size items.size hi - HT.sIx items.size 0 lo) == items.size) = true then _ else _) _ _ s
  rw [if_pos hyes]
  unfold Builtin.Tuple.tupleIsExact
  refine wpAny_bind (wpAny_bind (wpAny_typeOf ht.typeIs (wpAny_pure ?_)))
  rw [if_pos (by decide)]
  exact wpAny_bind (wpAny_rule (wpAny_pure ⟨_, rfl, wpAny_pure h⟩))
end
def rSlW (K : PySem.W.Frag) : V → Option Int → Option Int → Hp → VK → Prop := fun x lo hi H Q => ∃ a xs, x = .ref a ∧ SqT K H a xs ∧ (HT.sIx xs.length 0 lo = 0 ∧ HT.sIx xs.length xs.length hi = xs.length) ∧ Q (.ref a) H
theorem sl_whole {X : Cx} : SlR X (rSlW X.K) := by
  intro pins s σ H x v vl vu lo hi sl Q I rx hs pl pu h
  obtain ⟨a, xs, rfl, hx, hw, q⟩ := h
  cases rx
  obtain ⟨its, r, ht, hz⟩ := I.tuple hx
  have hlen : its.toArray.size = xs.length := by rw [List.size_toArray]; exact r.length.symm
  refine ⟨"tuple", _, PyProof.Rows.slot_tuple_getitem.lookup, ht.typeIs, ?_⟩
  exact getItem_tuple_whole ht hs pl pu (by rw [hlen]; exact hw) ⟨.ref a, H, I, rfl, q⟩
def oSlX (st : Sto) (lo hi : Option Int) : D → Option D
  | .tup ds => some (.tup (cutD ds lo hi))
  | x => oSl st lo hi x
def sSlX (f : Sm) (l u : Smo) : Sm := bnd f fun x => bnd l fun lo => bnd u fun hi => liftS fun st => oSlX st lo hi x
theorem i_slX {X : Cx} {g : GX} {EX : XK} {a : Expr} {pos : Pos} {f : Sm} {lo hi : Option Expr} {p2 : Pos} {l u : Smo} (hK : X.K = g.K) (ha : PE X a (tI g EX f)) (hl : PO X lo (tIo g EX l)) (hu : PO X hi (tIo g EX u)) : PE X (.Subscript a (.Slice lo hi none p2) pos) (tI g EX (sSlX f l u)) :=
  PE.mono (pe_slice (SlR.or sl_whole (SlR.or sl_list sl_tup)) ha hl hu) fun σ H Q ⟨env, m, st, re, R, q⟩ => by
    refine ⟨env, m, st, re, R, q.bnd.mono fun d1 m1 H1 st1 E1 R1 q v1 r1 => ?_⟩
    refine ⟨env, m1, st1, re.ext E1, R1, q.bnd.mono fun lo m2 H2 st2 E2 R2 q => ?_⟩
    refine ⟨env, m2, st2, (re.ext E1).ext E2, R2, q.bnd.mono fun hi m3 H3 st3 E3 R3 q => ?_⟩
    obtain ⟨d, e, q⟩ := q.liftS
    rw [hK]
    have r1 := (r1.ext E2).ext E3
    cases r1 with
    | @lst p xs ds hs hn hr => cases e; exact .inr (.inl ⟨p, xs, rfl, .of hs, fun p hp => q m3 _ (.new hp) (R3.new hp) _ (.newL R3 (hr.cut lo hi) hp)⟩)
    | @scr p xs ds hs hr => cases e; exact .inr (.inl ⟨p, xs, rfl, hs.sq, fun p hp => q m3 _ (.new hp) (R3.new hp) _ (.newL R3 (hr.cut lo hi) hp)⟩)
    | @tup p xs ds hs hr =>
      cases e
      by_cases hw : HT.sIx ds.length 0 lo = 0 ∧ HT.sIx ds.length ds.length hi = ds.length
      · refine .inl ⟨p, xs, rfl, hs, by rw [← hr.length]; exact hw, q m3 H3 (.refl _ _) R3 _ ?_⟩
        have : cutD ds lo hi = ds := by unfold cutD; rw [hw.1, hw.2]; simp
        rw [this]
        exact .tup hs hr
      · exact .inr (.inr ⟨p, xs, rfl, hs, by rw [← hr.length]; exact hw, fun p hp => q m3 _ (.new hp) (R3.new hp) _ (.newT (hr.cut lo hi) hp)⟩)
    | @ref i p hp =>
      simp only [oSlX, oSl] at e
      cases e1 : st3[i]? with
      | none => rw [e1] at e; cases e
      | some c =>
        rw [e1] at e
        cases c with
        | dic kvs => cases e
        | gone => cases e
        | lst ds =>
          obtain ⟨xs, hx, hr⟩ := R3.at i _ p e1 hp
          cases e
          exact .inr (.inl ⟨p, xs, rfl, .of hx, fun p hp => q m3 _ (.new hp) (R3.new hp) _ (.newL R3 (hr.cut lo hi) hp)⟩)
    | _ => cases e
end I2
set_option Elab.async false
set_option linter.all false
set_option maxRecDepth 100000
set_option maxHeartbeats 4000000
namespace I2
open PySem PySem.Spec PyProof.Rows L2
section
variable {prog : Program} {w : World} {A : Around} {E : Value → Shared → Prop} {s : Shared}
theorem sliceApplied_rev {sl : Addr} {u : Tok} {n : Nat} {Q : Int × Int × Nat → Shared → Prop} (hs : s.heap.IsSliceOf sl .none .none (.int (-1) u)) (h : Q ((n : Int) - 1, -1, n) s) : wpAny (model prog w) A (Builtin.Slice.sliceApplied (.ref sl) (pure (n : Int))) Q E s := by
  obtain ⟨os, hos, hcs, hds⟩ := id hs
  unfold Builtin.Slice.sliceApplied Builtin.Slice.sliceFields
  refine wpAny_bind (wpAny_bind (wpAny_field hos hds (x := .none) rfl (wpAny_bind (wpAny_field hos hds (x := .none) rfl (wpAny_bind (wpAny_field hos hds (x := .int (-1) u) rfl (wpAny_pure ?_)))))))
  refine wpAny_bind (slicePart_int ?_)
  show wpAny _ _ (if ((-1 : Int) == 0) = true then _ else _) _ _ s
  rw [if_neg (by decide)]
  refine wpAny_bind (slicePart_none (wpAny_bind (slicePart_none (wpAny_bind (wpAny_pure ?_)))))
  show wpAny _ _ (match Builtin.Slice.sliceAdjust none none (-1) (n : Int) with | (lo, hi) => pure (lo, (-1 : Int), Builtin.Slice.slicePlaces lo hi (-1))) _ _ s
  have e : Builtin.Slice.sliceAdjust none none (-1) (n : Int) = ((n : Int) - 1, -1) := by
    unfold Builtin.Slice.sliceAdjust
    simp
  rw [e]
  show wpAny _ _ (pure ((n : Int) - 1, (-1 : Int), Builtin.Slice.slicePlaces ((n : Int) - 1) (-1) (-1))) _ _ s
  have e2 : Builtin.Slice.slicePlaces ((n : Int) - 1) (-1) (-1) = n := by
    unfold Builtin.Slice.slicePlaces
    rw [if_neg (by decide)]
    split
    · have : -(-1 : Int) = 1 := by decide
      rw [this, Int.ediv_one]; omega
    · omega
  rw [e2]
  exact wpAny_pure h
theorem fm_map {α β : Type} {f : α → Option β} {g : α → β} : ∀ (l : List α), (∀ a ∈ l, f a = some (g a)) → l.filterMap f = l.map g
  | [], _ => rfl
  | a :: l, h => by rw [List.filterMap_cons, h a (by simp), List.map_cons, fm_map l fun x hx => h x (List.mem_cons_of_mem _ hx)]
theorem pick_rev (xs : Array Value) : ((List.range xs.size).filterMap fun (k : Nat) => xs[(((xs.size : Nat) : Int) - 1 + (k : Int) * (-1)).toNat]?).toArray = xs.toList.reverse.toArray := by
  congr 1
  rw [fm_map (g := fun k => xs.toList.getD (xs.size - 1 - k) .none)]
  · apply List.ext_getElem
    · simp
    · intro i h1 h2
      simp at h1 h2
      simp
      rw [Array.getElem?_eq_getElem (by omega)]
      simp
  · intro k hk
    rw [List.mem_range] at hk
    have : (((xs.size : Nat) : Int) - 1 + (k : Int) * (-1)).toNat = xs.size - 1 - k := by omega
    rw [this]
    have h : xs.size - 1 - k < xs.size := by omega
    simp [h]
theorem getItem_tuple_rev {t sl : Addr} {items : Array Value} {u : Tok} {Q : Value → Shared → Prop} (ht : IsTup s.heap t items) (hs : s.heap.IsSliceOf sl .none .none (.int (-1) u))
    (h : Q (.ref s.heap.objs.size) { s with heap := s.heap.push { cls := .type "tuple", data := .seq items.toList.reverse.toArray } }) (hsz : items.size ≤ sizeLine) : wpAny (model prog w) A (getItem (.ref t) (.ref sl)) Q E s := by
  have htake : sizeOk (.seq items.toList.reverse.toArray) := by
    show items.toList.reverse.toArray.size ≤ sizeLine
    simpa using hsz
  obtain ⟨os, hos, hcs, hds⟩ := id hs
  have hTs : s.TypeIs (.ref sl) "slice" := ⟨os, hos, hcs⟩
  unfold getItem
  try with_reducible refine wpAny_holding ?_
  first | refine wpAny_bind (wpAny_pure ?_) | skip
  refine wpAny_bind (wpAny_sequenceKey ht.typeIs (by decide) ?_)
  refine wpAny_bind (wpAny_callSpecial?_slot (name := Str.ofString "__getitem__") ht.typeIs PyProof.Rows.slot_tuple_getitem
    (wpAny_call_entry PyProof.Rows.slot_tuple_getitem ht.typeIs entry_tuple_getitem ?_ (args_tuple_getitem _ _)))
  show wpAny _ _ (Builtin.Tuple.tupleItemsOf (.ref t) >>= _) _ _ s
  refine wpAny_bind (tupleItemsOf_ ht ?_)
  refine wpAny_bind (wpAny_typeOf hTs ?_)
  rw [if_pos (by decide)]
  refine wpAny_bind (sliceApplied_rev hs ?_)
  have hno : ¬ (((((items.size : Nat) : Int) - 1) == 0 && (-1 : Int) == 1 && items.size == items.size) = true) := by
    intro q
    rw [Bool.and_eq_true, Bool.and_eq_true] at q
    exact absurd q.1.2 (by decide)
  show wpAny _ _ (if ((((items.size : Nat) : Int) - 1) == 0 && (-1 : Int) == 1 && items.size == items.size) = true then _ else _) _ _ s
  rw [if_neg hno, pick_rev]
  first
    | exact wpAny_bind (m := Builtin.Tuple.tupleExact _) (wpAny_newObj_type (wpAny_pure ⟨_, rfl, wpAny_pure h⟩) htake)
    | exact wpAny_bind (m := Builtin.Tuple.tupleExact _) (wpAny_newObj_type (wpAny_bind (wpAny_pure (wpAny_pure ⟨_, rfl, wpAny_pure h⟩))) htake)
    | exact wpAny_bind (wpAny_bind (m := Builtin.Tuple.tupleExact _) (wpAny_newObj_type (wpAny_pure (wpAny_pure ⟨_, rfl, wpAny_pure h⟩)) htake))
    | exact wpAny_bind (wpAny_bind (m := Builtin.Tuple.tupleExact _) (wpAny_newObj_type (wpAny_pure ⟨_, rfl, wpAny_pure h⟩) htake))
end
section
variable {X : Cx} {g : GX} {EX : XK} {a : Expr} {pos p2 : Pos} {f : Sm}
def tRev (K : PySem.W.Frag) (te : TE) : TE := fun σ H Q => te σ H fun x H1 => ∃ a xs, x = .ref a ∧ SqT K H1 a xs ∧ ∀ p, H1 p = none → Q (.ref p) (upd H1 p (.tup xs.reverse))
theorem pe_rev {te : TE} {st : Expr} (he : PE X a te) (hst : PE X st (tC (.int (-1)))) : PE X (.Subscript a (.Slice none none (some st) p2) pos) (tRev X.K te) := by
  intro pins s σ H Q I h
  refine Subscript_ (thn (he pins s σ H _ I h) fun v s1 ⟨x, H1, I1, r1, q1⟩ => ?_)
  obtain ⟨t, xs, rfl, hx, q⟩ := q1
  cases r1
  refine wpAny_Slice ?_
  rw [evalPart_none]
  refine wpAny_pure (wpAny_pure ?_)
  rw [evalPart_some]
  refine thn (hst pins s1 σ H1 (fun y H' => y = .int (-1) ∧ H' = H1) I1 ⟨rfl, rfl⟩) fun u s3 ⟨y, H3, I3, ry, ey, eH⟩ => ?_
  subst ey eH
  obtain ⟨tk, rfl⟩ := ry
  have I4 : Inv X pins σ H3 { s3 with heap := s3.heap.push { cls := .type "slice", data := .fields #[.none, .none, .int (-1) tk] } } := I3.kept (t' := s3.toks) fun b ob q => Heap.get?_push_of_some _ q
  obtain ⟨its, r, ht, hz⟩ := I4.tuple hx
  have hlen : its.toArray.size = xs.length := by rw [List.size_toArray]; exact r.length.symm
  show wpAny (model X.prog X.w) X.A (subscriptTail a (.Slice none none (some st) p2) (.ref t) (.ref s3.heap.objs.size)) (EP X pins σ Q) X.xe { s3 with heap := s3.heap.push { cls := .type "slice", data := .fields #[.none, .none, .int (-1) tk] } }
  refine tail_any (ops := [.ref t, .ref s3.heap.objs.size]) ht.typeIs PyProof.Rows.slot_tuple_getitem.lookup ?_ (by with_unfolding_all rfl)
  refine getItem_tuple_rev ht (Heap.IsSliceOf.new ..) ?_ (by rw [hlen]; exact hz)
  refine ⟨.ref _, _, I4.laid (t' := s3.toks) (o := .tup xs.reverse) (fun b ob q => Heap.get?_push_of_some _ q) (Nat.le_refl _) ?_, rfl, q _ (I4.hok.fresh (Nat.le_refl _))⟩
  exact ⟨by rw [List.length_reverse]; exact hz, _, r.reverse, IsTup.new _ _⟩
theorem pe_neg1 {j : Nat} {p p' : Pos} : PE X (.UnaryOp .USub (.Constant (.int 1) j p) p') (tC (.int (-1))) := PE.mono (pe_un un_neg pe_int) fun σ H Q q => ⟨1, rfl, q⟩
def oRev : D → Option D
  | .tup ds => some (.tup ds.reverse)
  | _ => none
def sRev (f : Sm) : Sm := s1 oRev f
theorem RDs.rev {m : MM} {H : Hp} : ∀ {ds : List D} {vs : List V}, RDs g m H ds vs → RDs g m H ds.reverse vs.reverse
  | _, _, .nil => .nil
  | _, _, .cons r t => by rw [List.reverse_cons, List.reverse_cons]; exact (RDs.rev t).append (.cons r .nil)
theorem i_rev {j : Nat} {p p' : Pos} (hK : X.K = g.K) (ha : PE X a (tI g EX f)) : PE X (.Subscript a (.Slice none none (some (.UnaryOp .USub (.Constant (.int 1) j p) p')) p2) pos) (tI g EX (sRev f)) :=
  PE.mono (pe_rev ha pe_neg1) fun σ H Q q => by
    obtain ⟨env, m, st, re, R, q⟩ := q
    refine ⟨env, m, st, re, R, q.bnd.mono fun d1 m1 H1 st1 E1 R1 q v1 r1 => ?_⟩
    obtain ⟨d, e, q⟩ := q.lift
    cases r1 with
    | @tup p xs ds hs hr =>
      cases e
      exact ⟨p, xs, rfl, by rw [hK]; exact hs, fun p hp => q m1 _ (.new hp) (R1.new hp) _ (.newT hr.rev hp)⟩
    | _ => cases e
theorem tuple_addW0 (l b : Addr) (items items2 : Array Value) (n n2 : Nat) (dd dd2 : Option Addr) (sl sl2 : Array (Option Value)) (hc0 : items.isEmpty = true) :
    Meets (Builtin.«tuple.__add__» ⟨[.ref l, .ref b], []⟩) (fun _ R s => s.heap.get? l = some { cls := .type "tuple", dict := dd, data := .seq items n, slots := sl } ∧ s.heap.get? b = some { cls := .type "tuple", dict := dd2, data := .seq items2 n2, slots := sl2 } ∧ R (.ok (.ret (Value.ref b))) { s with heap := s.heap, toks := s.toks }) :=
  .of_wp fun prog w A R s h => by obtain ⟨hp, g, d, tk, os⟩ := s; obtain ⟨hl, hb, h⟩ := h; have f1 := AutoSeq1.idx_int; have f2 := AutoSeq1.sub_tuple_tuple; have f3 := AutoSeq1.sub_list_list; have f4 := AutoSeq1.sub_tuple_list; have f5 := AutoSeq1.sub_list_tuple; wp_walk using wpAny_loadPart' hl, wpAny_loadPart' hb; exact ⟨_, rfl, h⟩
theorem op_catT0 : OpR X (binaryOp .Add) (fun x y H Q => ∃ a b ys, x = .ref a ∧ y = .ref b ∧ SqT X.K H a [] ∧ SqT X.K H b ys ∧ Q (.ref b) H) := by
  intro pins s σ H x y v u Q I rx ry h
  obtain ⟨t, b, ys, rfl, rfl, ha, hb, q⟩ := h
  cases rx
  cases ry
  obtain ⟨its, r1, p1, _⟩ := I.tuple ha
  obtain ⟨its2, r2, p2, _⟩ := I.tuple hb
  have e0 : its = [] := r1.nil_iff.mpr rfl
  subst e0
  obtain ⟨⟨cls, dd, data, sl⟩, ho, hc, n, hd⟩ := id p1
  obtain ⟨⟨cls2, dd2, data2, sl2⟩, ho2, hc2, n2, hd2⟩ := id p2
  simp only at hc hd hc2 hd2
  subst hc hd hc2 hd2
  exact PySem.concat_meets ⟨_, ho, rfl⟩ ⟨_, ho2, rfl⟩ PySem.noFill_tuple_add PySem.seq_tuple_add PySem.F.slot_tuple_add PySem.F.entry_tuple_add (PySem.F.args_tuple_add_2 _ _)
      (tuple_addW0 t b #[] its2.toArray n n2 dd dd2 sl sl2 rfl) ⟨ho, ho2, ⟨.ref b, H, I, rfl, q⟩⟩
def oAddX : D → D → Option D
  | .tup [], .tup ys => some (.tup ys)
  | x, y => oAdd x y
theorem r_addX (hK : X.K = g.K) : OpR X (binaryOp .Add) (rD g oAddX) := by
  intro pins s σ H x y v u Q I rx ry ⟨m, st, dx, dy, d, R, r1, r2, e, q⟩
  by_cases h : ∃ ys, dx = .tup [] ∧ dy = .tup ys
  · obtain ⟨ys, rfl, rfl⟩ := h
    cases e
    cases r1 with
    | @tup a xs ds hs hr =>
      cases hr
      cases r2 with
      | @tup b us es hs' hr' => exact op_catT0 pins s σ H _ _ v u Q I rx ry ⟨a, b, us, rfl, rfl, by rw [hK]; exact hs, by rw [hK]; exact hs', q _ m H (.refl _ _) R (.tup hs' hr')⟩
  · have e' : oAdd dx dy = some d := by
      unfold oAddX at e
      split at e
      · exact absurd ⟨_, rfl, rfl⟩ h
      · exact e
    exact r_add hK pins s σ H x y v u Q I rx ry ⟨m, st, dx, dy, d, R, r1, r2, e', q⟩
end
end I2
set_option Elab.async false
set_option linter.all false
set_option maxRecDepth 100000
set_option maxHeartbeats 4000000
namespace I2
open PySem PySem.Spec PyProof.Rows L2
theorem fn_none {P : Program} {w : World} {K : PySem.W.Frag} {mg : Str → Option Value} {base : Heap} {CX : CXT} {k n : Nat} {f : Addr} {fd : FuncData} {ps : List Str} {g : GX} (hn : ps.length = n) : FnOk P w K mg base CX k f fd ps (spF g n fun _ _ => none) :=
  ⟨fun vs H Q E ⟨ds, m, st, h, r, _⟩ => by rw [← r.length, h, hn], fun A outer s H args us vs Q E _ _ _ _ ⟨ds, m, st, h, r, _, q⟩ => q.elim⟩
end I2
set_option Elab.async false
set_option linter.all false
set_option maxRecDepth 100000
set_option maxHeartbeats 4000000
namespace I2
open PySem PySem.Spec PyProof.Rows L2
end I2
set_option Elab.async false
set_option linter.all false
set_option maxRecDepth 100000
set_option maxHeartbeats 4000000
namespace I2
open PySem PySem.Spec PyProof.Rows L2
section
variable {g : GX} {m m1 m2 m4 : MM} {H H1 H4 : Hp} {st : Sto} {D' : Addr}
theorem Turns.new {bd : Bd} {t : Smt} {h : Sm} {env : DEnv} {tot : List D} {stF : Sto} {rest : List D} {T : Addr} {o : HO} (P : Turns g m1 H1 D' bd t h env tot stF rest H) (hT : H T = none) : Turns g m1 H1 D' bd t h env tot stF rest (upd H T o) := by
  obtain ⟨m2, st2, acc, accD, ys, E1, R, hd, ra, ec, et⟩ := P.ex
  exact ⟨m2, st2, acc, accD, ys, E1.trans (.new hT), R.new hT, upd_keep hT hd, ra.ext (.new hT), ec, et⟩
end
end I2
set_option Elab.async false
set_option linter.all false
set_option maxRecDepth 100000
set_option maxHeartbeats 4000000
namespace I2
open PySem PySem.Spec PyProof.Rows L2
def getZ (kvs : List (Int × D)) (k : Int) : Option D := (kvs.find? fun kv => decide (kv.1 = k)).map (·.2)
def putZ (kvs : List (Int × D)) (k : Int) (v : D) : List (Int × D) :=
  if (kvs.any fun kv => decide (kv.1 = k)) = true then kvs.map (fun kv => if kv.1 = k then (kv.1, v) else kv) else kvs ++ [(k, v)]
inductive KR (g : GX) (m : MM) (H : Hp) : List (Int × D) → List (Key × V) → Prop
  | nil : KR g m H [] []
  | cons {k : Int} {d : D} {v : V} {kvs : List (Int × D)} {ys : List (Key × V)} : RD g m H d v → KR g m H kvs ys → KR g m H ((k, d) :: kvs) ((Sum.inl k, v) :: ys)
section
variable {g : GX} {m : MM} {H : Hp}
theorem KR.of : ∀ {kvs : List (Int × D)} {ys : List (Key × V)}, ys.map (·.1) = kvs.map (fun p => Sum.inl p.1) → RDs g m H (kvs.map (·.2)) (ys.map (·.2)) → KR g m H kvs ys
  | [], [], _, _ => .nil
  | [], _ :: _, e, _ => by simp at e
  | _ :: _, [], e, _ => by simp at e
  | (k, d) :: kvs, (k', v) :: ys, e, r => by
    simp only [List.map_cons, List.cons.injEq] at e
    obtain ⟨e1, e2⟩ := e
    subst e1
    cases r with
    | cons r t => exact .cons r (KR.of e2 t)
theorem KR.keys : ∀ {kvs : List (Int × D)} {ys : List (Key × V)}, KR g m H kvs ys → ys.map (·.1) = kvs.map (fun p => Sum.inl p.1)
  | _, _, .nil => rfl
  | _, _, .cons _ t => by simp [KR.keys t]
theorem KR.vals : ∀ {kvs : List (Int × D)} {ys : List (Key × V)}, KR g m H kvs ys → RDs g m H (kvs.map (·.2)) (ys.map (·.2))
  | _, _, .nil => .nil
  | _, _, .cons r t => .cons r (KR.vals t)
theorem KR.length : ∀ {kvs : List (Int × D)} {ys : List (Key × V)}, KR g m H kvs ys → kvs.length = ys.length
  | _, _, .nil => rfl
  | _, _, .cons r t => by simp [KR.length t]
theorem inl_iff {a b : Int} : (Sum.inl a : Key) = Sum.inl b ↔ a = b := ⟨fun e => Sum.inl.inj e, fun e => by rw [e]⟩
theorem KR.get : ∀ {kvs : List (Int × D)} {ys : List (Key × V)} {k : Int} {d : D}, KR g m H kvs ys → getZ kvs k = some d → ∃ v, valV ys (Sum.inl k) = some v ∧ RD g m H d v
  | _, _, _, _, .nil, e => by simp [getZ] at e
  | _, _, k, d, .cons (k := j) (d := d0) (v := v0) r t, e => by
    by_cases h : j = k
    · subst h
      simp [getZ] at e
      subst e
      exact ⟨_, valV_pos rfl, r⟩
    · rw [valV_neg (fun z => h (inl_iff.mp z))]
      exact KR.get t (by simpa [getZ, List.find?_cons, h] using e)
theorem KR.any : ∀ {kvs : List (Int × D)} {ys : List (Key × V)} (k : Int), KR g m H kvs ys → (ys.any fun kv => decide (kv.1 = (Sum.inl k : Key))) = kvs.any fun kv => decide (kv.1 = k)
  | _, _, _, .nil => rfl
  | _, _, k, .cons (k := j) r t => by
    rw [List.any_cons, List.any_cons, KR.any k t]
    congr 1
    exact decide_eq_decide.mpr inl_iff
theorem KR.repl {d : D} {v : V} (r0 : RD g m H d v) (k : Int) : ∀ {kvs : List (Int × D)} {ys : List (Key × V)}, KR g m H kvs ys →
    KR g m H (kvs.map fun kv => if kv.1 = k then (kv.1, d) else kv) (ys.map fun kv => if kv.1 = (Sum.inl k : Key) then (kv.1, v) else kv)
  | _, _, .nil => .nil
  | _, _, .cons (k := j) r t => by
    rw [List.map_cons, List.map_cons]
    by_cases h : j = k
    · rw [if_pos h, if_pos (inl_iff.mpr h)]; exact .cons r0 (KR.repl r0 k t)
    · rw [if_neg h, if_neg (fun z => h (inl_iff.mp z))]; exact .cons r (KR.repl r0 k t)
theorem KR.snoc {d : D} {v : V} (r0 : RD g m H d v) (k : Int) : ∀ {kvs : List (Int × D)} {ys : List (Key × V)}, KR g m H kvs ys → KR g m H (kvs ++ [(k, d)]) (ys ++ [(Sum.inl k, v)])
  | _, _, .nil => .cons r0 .nil
  | _, _, .cons r t => .cons r (KR.snoc r0 k t)
theorem KR.put {d : D} {v : V} (r0 : RD g m H d v) (k : Int) {kvs : List (Int × D)} {ys : List (Key × V)} (h : KR g m H kvs ys) : KR g m H (putZ kvs k d) (putK ys (Sum.inl k) v) := by
  unfold putZ putK
  rw [h.any k]
  split
  · exact h.repl r0 k
  · exact h.snoc r0 k
theorem KR.ext {m' : MM} {H' : Hp} (e : Ext m H m' H') : ∀ {kvs : List (Int × D)} {ys : List (Key × V)}, KR g m H kvs ys → KR g m' H' kvs ys
  | _, _, .nil => .nil
  | _, _, .cons r t => .cons (r.ext e) (KR.ext e t)
end
section
variable {X : Cx} {g : GX} {EX : XK} {a b e : Expr} {es : List Expr} {pos p2 : Pos} {f h k : Sm} {fs : Sma}
theorem rds_ints {m : MM} {H : Hp} : ∀ ns : List Int, RDs g m H (ns.map D.int) (ns.map V.int)
  | [] => .nil
  | n :: ns => .cons (.int n) (rds_ints ns)
end
end I2
set_option Elab.async false
set_option linter.all false
set_option maxRecDepth 100000
set_option maxHeartbeats 4000000
namespace I2
open PySem PySem.Spec PyProof.Rows L2
end I2
set_option Elab.async false
set_option linter.all false
set_option maxRecDepth 100000
set_option maxHeartbeats 4000000
namespace I2
open PySem PySem.Spec PyProof.Rows L2
section
variable {X : Cx} {g : GX} {EX : XK}
def dV : D → Option V
  | .non => some .non
  | .bl b => some (.bl b)
  | .int i => some (.int i)
  | .str x => some (.str x)
  | _ => none
theorem RD.dV {m : MM} {H : Hp} {d : D} {v w : V} (r : RD g m H d v) (e : I2.dV d = some w) : v = w ∧ flatV v = true := by
  cases r <;> simp [I2.dV] at e <;> subst e <;> exact ⟨rfl, rfl⟩
end
section
variable {X : Cx} {g : GX} {EX : XK} {o e : Expr} {es : List Expr} {apos cpos : Pos} {f h : Sm} {fs : Sma}
def isS : D → Option Unit
  | .str _ => some ()
  | _ => none
def sMS (op : D → List D → Option D) (f : Sm) (fs : Sma) : Sm := bnd f fun x => bnd (lift (isS x)) fun _ => bnd fs fun ds => lift (op x ds)
theorem i_methS {name : Str} {id : String} {op : D → List D → Option D} (slot : Slot "str" name id) (hty : typeOf (.builtin id) = pure (.type "method_descriptor")) (hm : MtR X id (rM g op)) (ho : PE X o (tI g EX f)) (ha : PA X (e :: es) (tIa g EX fs))
    (hbase : attributeBase o name X.env (eval o X.env) = eval o X.env)
    (hfew : ((backTo cpos (starEach (e :: es) X.env)).all (fun x => !x.1) && (backToKw cpos (keywordEach [] X.env)).all (fun x => x.1.isSome)
      && decide ((e :: es).length + ([] : List Keyword).length + (if ([] : List Keyword).isEmpty then 0 else 1) < 30)) = true)
    (hline : (apos.endLine == cpos.line) = true) (hs : starEach (e :: es) X.env = (false, eval e X.env) :: starEach es X.env) (hplain : (backTo cpos (starEach es X.env)).any (·.1) = false) :
    PE X (.Call (.Attribute o name apos) (e :: es) [] cpos) (tI g EX (sMS op f fs)) := PE.mono (pe_bm PySem.F.plainAttrs_str slot hty hm ho ha hbase hfew hline hs hplain) fun σ H Q ⟨env, m, st, re, R, q⟩ => by
  refine ⟨env, m, st, re, R, q.bnd.mono fun dx m1 H1 st1 E1 R1 q v1 r1 => ?_⟩
  obtain ⟨_, e1, q2⟩ := q.bnd.lift
  have q2 := q2 m1 H1 (.refl _ _) R1
  have r1' := r1
  cases r1 with
  | str z =>
    refine ⟨rfl, env, m1, st1, re.ext E1, R1, q2.bnd.mono fun ds m2 H2 st2 E2 R2 q vs rs => ?_⟩
    obtain ⟨d, e2, q⟩ := q.lift
    exact ⟨m2, st2, _, ds, d, R2, r1'.ext E2, rs, e2, fun v m' H' E R r => q m' H' E R v r⟩
  | _ => cases e1
theorem j_methS {name : Str} {id : String} {op : D → List D → Option D} (slot : Slot "str" name id) (hty : typeOf (.builtin id) = pure (.type "method_descriptor")) (hm : MtR X id (rM g op)) (ho : PE X o (tI g EX f)) (ha : PA X (e :: es) (tIa g EX fs))
    (hb : plainBase o = true := by rfl) (hs : noStars (e :: es) = true := by rfl) (hfew : decide ((e :: es).length < 30) = true := by rfl) (hline : (apos.endLine == cpos.line) = true := by rfl) : PE X (.Call (.Attribute o name apos) (e :: es) [] cpos) (tI g EX (sMS op f fs)) :=
  have h1 : noStar e = true ∧ noStars es = true := by simpa [noStars] using hs
  i_methS slot hty hm ho ha (base_of hb) (by rw [star_all hs, kw_nil]; simpa using hfew) hline (star_cons h1.1) (star_any h1.2)
def oStarts : D → List D → Option D
  | .str a, [.str b] => some (.bl (Txt.startswith a b))
  | _, _ => none
theorem m_startswith : MtR X "str.startswith" (rM g oStarts) := by
  intro pins s σ H x xs v us Q I rx rxs ⟨m, st, dx, ds, d, R, r1, r2, e, q⟩
  cases r1 with
  | str z =>
    obtain ⟨y, vy, rfl, rfl, ry⟩ := one_of (op := oStarts (.str z)) r2 e rfl (fun a b c => by cases a <;> rfl)
    cases ry with
    | str k => cases e; exact mt_startswith pins s σ H _ _ v us Q I rx rxs ⟨z, k, rfl, rfl, q _ m H (.refl _ _) R (.bl _)⟩
    | _ => cases e
  | _ => cases e
end
end I2
set_option Elab.async false
set_option linter.all false
set_option maxRecDepth 100000
set_option maxHeartbeats 4000000
namespace I2
open PySem PySem.Spec PyProof.Rows L2
end I2
set_option Elab.async false
set_option linter.all false
set_option maxRecDepth 100000
set_option maxHeartbeats 4000000
namespace I2
open PySem PySem.Spec PyProof.Rows L2
end I2
set_option Elab.async false
set_option linter.all false
set_option maxRecDepth 100000
set_option maxHeartbeats 4000000
namespace I2
open PySem PySem.Spec PyProof.Rows L2
end I2
set_option Elab.async false
set_option linter.all false
set_option maxRecDepth 100000
set_option maxHeartbeats 4000000
namespace I2
open PySem PySem.Spec PyProof.Rows L2
end I2
set_option Elab.async false
set_option linter.all false
set_option maxRecDepth 100000
set_option maxHeartbeats 4000000
namespace I2
open PySem PySem.Spec PyProof.Rows L2
end I2
set_option Elab.async false
set_option linter.all false
set_option maxRecDepth 100000
set_option maxHeartbeats 4000000
namespace I2
open PySem PySem.Spec PyProof.Rows L2
end I2
set_option Elab.async false
set_option linter.all false
set_option maxRecDepth 100000
set_option maxHeartbeats 4000000
namespace I2
open PySem PySem.Spec PyProof.Rows L2
section
variable {X : Cx} {g : GX} {EX : XK} {a b : Expr} {pos : Pos} {f h : Sm}
def fzD (d : D) : Sm := fun _ st => match d with
  | .ref i => match st[i]? with
    | some (.lst ds) => some (.ok (.lst ds), st.set i .gone)
    | _ => none
  | d => some (.ok d, st)
def sFz (f : Sm) : Sm := bnd f fzD
theorem i_fz (ha : PE X a (tI g EX f)) : PE X a (tI g EX (sFz f)) :=
  PE.mono ha fun σ H Q ⟨env, m, st, re, R, q⟩ => by
    refine ⟨env, m, st, re, R, q.bnd.mono fun d m1 H1 st1 E1 R1 q v r => ?_⟩
    cases r with
    | @ref i p hp =>
      simp only [fzD] at q
      cases e1 : st1[i]? with
      | none => rw [e1] at q; exact q.elim
      | some c =>
        rw [e1] at q
        cases c with
        | lst ds =>
          obtain ⟨R2, xs, hx, hr, hn⟩ := R1.freeze hp e1
          exact q _ H1 (.freeze p) R2 _ (.lst hx hn (hr.ext (.freeze p)))
        | dic kvs => exact q.elim
        | gone => exact q.elim
    | non => exact q m1 H1 (.refl _ _) R1 _ .non
    | bl b => exact q m1 H1 (.refl _ _) R1 _ (.bl b)
    | int i => exact q m1 H1 (.refl _ _) R1 _ (.int i)
    | str x => exact q m1 H1 (.refl _ _) R1 _ (.str x)
    | tup h1 h2 => exact q m1 H1 (.refl _ _) R1 _ (.tup h1 h2)
    | lst h1 h2 h3 => exact q m1 H1 (.refl _ _) R1 _ (.lst h1 h2 h3)
    | scr h1 h2 => exact q m1 H1 (.refl _ _) R1 _ (.scr h1 h2)
    | dic0 h1 h2 => exact q m1 H1 (.refl _ _) R1 _ (.dic0 h1 h2)
    | dcs h1 h2 h3 => exact q m1 H1 (.refl _ _) R1 _ (.dcs h1 h2 h3)
    | exc h1 h2 => exact q m1 H1 (.refl _ _) R1 _ (.exc h1 h2)
end
end I2
set_option Elab.async false
set_option linter.all false
set_option maxRecDepth 100000
set_option maxHeartbeats 4000000
namespace I2
open PySem PySem.Spec PyProof.Rows L2
end I2
set_option Elab.async false
set_option linter.all false
set_option maxRecDepth 100000
set_option maxHeartbeats 4000000
namespace I2
open PySem PySem.Spec PyProof.Rows L2
end I2
set_option Elab.async false
set_option linter.all false
set_option maxRecDepth 100000
set_option maxHeartbeats 4000000
namespace I2
open PySem PySem.Spec PyProof.Rows L2
theorem RI.at {α : Type} {g : GX} {EX : XK} {m m' : MM} {H H' : Hp} {o : Res α} {Q : α → MM → Hp → Sto → Prop} (h : RI g EX m H o Q) (E : Ext m H m' H') : RI g EX m' H' o Q := by
  match o, h with
  | none, h => exact h
  | some (.ok d, st'), h => exact fun m2 H2 E2 R2 => h m2 H2 (E.trans E2) R2
  | some (.ex c, st'), h => exact fun m2 H2 C E2 R2 hc => h m2 H2 C (E.trans E2) R2 hc
end I2
set_option Elab.async false
set_option linter.all false
set_option maxRecDepth 100000
set_option maxHeartbeats 4000000
namespace I2
open PySem PySem.Spec PyProof.Rows L2
end I2
set_option Elab.async false
set_option linter.all false
set_option maxRecDepth 100000
set_option maxHeartbeats 4000000
namespace I2
open PySem PySem.Spec PyProof.Rows L2
end I2
set_option Elab.async false
set_option linter.all false
set_option maxRecDepth 100000
set_option maxHeartbeats 4000000
namespace I2
open PySem PySem.Spec PyProof.Rows L2
end I2
set_option Elab.async false
set_option linter.all false
set_option maxRecDepth 100000
set_option maxHeartbeats 4000000
namespace I2
open PySem PySem.Spec PyProof.Rows L2
end I2
set_option Elab.async false
set_option linter.all false
set_option maxRecDepth 100000
set_option maxHeartbeats 4000000
namespace I2
open PySem PySem.Spec PyProof.Rows L2
end I2
set_option Elab.async false
set_option linter.all false
set_option maxRecDepth 100000
set_option maxHeartbeats 4000000
namespace I2
open PySem PySem.Spec PyProof.Rows L2
end I2
set_option Elab.async false
set_option linter.all false
set_option maxRecDepth 100000
set_option maxHeartbeats 4000000
namespace I2
open PySem PySem.Spec PyProof.Rows L2
end I2
set_option Elab.async false
set_option linter.all false
set_option maxRecDepth 100000
set_option maxHeartbeats 4000000
namespace I2
open PySem PySem.Spec PyProof.Rows L2
def consO (y : D) : Res (List D) → Res (List D)
  | some (.ok ys, s) => some (.ok (y :: ys), s)
  | some (.ex c, s) => some (.ex c, s)
  | none => none
def compX (bd : Bd) (t : Smt) (h : Sm) (env : DEnv) : List D → Sto → Res (List D)
  | [], st => some (.ok [], st)
  | d :: ds, st => match bd d env with
    | none => none
    | some env1 => match t env1 st with
      | some (.ok true, st1) => match h env1 st1 with
        | some (.ok y, st2) => consO y (compX bd t h env ds st2)
        | some (.ex c, st2) => some (.ex c, st2)
        | none => none
      | some (.ok false, st1) => compX bd t h env ds st1
      | _ => none
def joinO (xs : List D) : Out (List D) → Out (List D)
  | .ok ys => .ok (xs ++ ys)
  | .ex c => .ex c
section
variable {g : GX} {m m1 m2 m4 : MM} {H H1 H4 : Hp} {st : Sto} {D' : Addr} {EX : XK}
structure TurnsX (g : GX) (m1 : MM) (H1 : Hp) (D' : Addr) (bd : Bd) (t : Smt) (h : Sm) (env : DEnv) (tot : Out (List D)) (stF : Sto) (rest : List D) (H : Hp) : Prop where
  ex : ∃ m2 st2 acc accD o, Ext m1 H1 m2 H ∧ RS g (m2.fill D') H st2 ∧ H D' = some (.lst acc) ∧ RDs g (m2.fill D') H accD acc ∧ compX bd t h env rest st2 = some (o, stF) ∧ joinO accD o = tot ∧ accD.length + rest.length ≤ sizeLine
end
end I2
set_option Elab.async false
set_option linter.all false
set_option maxRecDepth 100000
set_option maxHeartbeats 4000000
namespace I2
open PySem PySem.Spec PyProof.Rows L2
end I2
set_option Elab.async false
set_option linter.all false
set_option maxRecDepth 100000
set_option maxHeartbeats 4000000
namespace I2
open PySem PySem.Spec PyProof.Rows L2
def oIntT : List D → Option D
  | [.str a] => if a.length ≤ 640 then (intText? a).map .int else none
  | ds => oInt ds
section
variable {X : Cx} {g : GX} {EX : XK} {a b c : Expr} {pos p p2 : Pos} {fs : Sma} {u : Sms}
theorem c_intT : CallR X (.type "int") (rCs g fun _ => oIntT) := by
  intro pins s σ H xs us Q I r ⟨m, st, ds, d, R, rs, e, q⟩
  by_cases h : ∃ a, ds = [.str a]
  · obtain ⟨a, rfl⟩ := h
    cases rs with
    | cons r1 r2 =>
      cases r2
      cases r1
      simp only [oIntT] at e
      split at e
      · rename_i hl
        rw [Option.map_eq_some_iff] at e
        obtain ⟨n, hn, rfl⟩ := e
        exact call_int_str pins s σ H _ us Q I r ⟨a, n, rfl, hn, hl, q _ m H (.refl _ _) R (.int _)⟩
      · cases e
  · have e' : oInt ds = some d := by
      have e : oIntT ds = some d := e
      unfold oIntT at e
      split at e
      · exact absurd ⟨_, rfl⟩ h
      · exact e
    exact c_int pins s σ H xs us Q I r ⟨m, st, ds, d, R, rs, e', q⟩
end
end I2
namespace Law
theorem us1 {α : Type} {us : List α} (h : us.length = 1) : ∃ a0, us = [a0] := by
  cases us with
  | nil => cases h
  | cons a r =>
    have e := List.eq_nil_of_length_eq_zero (Nat.succ.inj h)
    subst e
    exact ⟨a, rfl⟩
theorem us2 {α : Type} {us : List α} (h : us.length = 2) : ∃ a0 a1, us = [a0, a1] := by
  cases us with
  | nil => cases h
  | cons a r =>
    obtain ⟨b0, e⟩ := us1 (Nat.succ.inj h)
    subst e
    exact ⟨a, b0, rfl⟩
end Law
set_option Elab.async false
set_option linter.all false
set_option maxRecDepth 100000
set_option maxHeartbeats 4000000
namespace I2
open PySem PySem.Spec PyProof.Rows L2
def strsOf : List D → Option (List Str)
  | [] => some []
  | .str x :: ds => (strsOf ds).map (x :: ·)
  | _ => none
theorem RDs.strs {g : GX} {m : MM} {H : Hp} : ∀ {ds : List D} {vs : List V} {ys : List Str}, RDs g m H ds vs → strsOf ds = some ys → vs = ys.map V.str := by
  intro ds
  induction ds with
  | nil =>
    intro vs ys r e
    cases r
    simp only [strsOf, Option.some.injEq] at e
    subst e
    rfl
  | cons d ds ih =>
    intro vs ys r e
    have h : ∃ b, d = .str b := by
      unfold strsOf at e
      split at e
      · rename_i h; cases h
      · rename_i h; cases h; exact ⟨_, rfl⟩
      · cases e
    obtain ⟨b, rfl⟩ := h
    simp only [strsOf, Option.map_eq_some_iff] at e
    obtain ⟨bs', e1, rfl⟩ := e
    cases r with
    | cons r1 rs =>
      cases r1
      rw [ih rs e1]
      rfl
theorem rds_strs {g : GX} {m : MM} {H : Hp} : ∀ ys : List Str, RDs g m H (ys.map D.str) (ys.map V.str)
  | [] => .nil
  | y :: ys => .cons (.str y) (rds_strs ys)
def oJoin : D → List D → Option D
  | .str a, [.lst ds] => (strsOf ds).bind fun ys => if decide ((ys.map (·.length)).sum + ys.length * a.length ≤ 16777216) then some (.str (Txt.join a ys)) else none
  | _, _ => none
def oSplit : D → List D → Option D
  | .str a, [.str b] => if (!(b.length == 0)) && decide (a.length + 2 ≤ sizeLine) then some (.lst ((Txt.split a b).map D.str)) else none
  | _, _ => none
def oPart : D → List D → Option D
  | .str a, [.str b] => if (!(b.length == 0)) && decide (a.length ≤ sizeLine) then some (.tup [.str (Txt.partition a b).1, .str (Txt.partition a b).2.1, .str (Txt.partition a b).2.2]) else none
  | _, _ => none
section
variable {X : Cx} {g : GX}
theorem m_join (hK : X.K = g.K) : MtR X "str.join" (rM g oJoin) := by
  intro pins s σ H x xs v us Q I rx rxs ⟨m, st, dx, ds, d, R, r1, r2, e, q⟩
  cases r1 with
  | str z =>
    obtain ⟨y, vy, rfl, rfl, ry⟩ := one_of (op := oJoin (.str z)) r2 e rfl (fun a b c => by cases a <;> rfl)
    cases ry with
    | @lst p xs es hs hn hr =>
      simp only [oJoin] at e
      rw [Option.bind_eq_some_iff] at e
      obtain ⟨ys, ey, e⟩ := e
      split at e
      · rename_i hz
        cases e
        have ev := hr.strs ey
        subst ev
        exact mt_join pins s σ H _ _ v us Q I rx rxs ⟨z, p, ys, rfl, rfl, .inl (.of hs), of_decide_eq_true hz, q _ m H (.refl _ _) R (.str _)⟩
      · cases e
    | _ => cases e
  | _ => simp [oJoin] at e
theorem m_split : MtR X "str.split" (rM g oSplit) := by
  intro pins s σ H x xs v us Q I rx rxs ⟨m, st, dx, ds, d, R, r1, r2, e, q⟩
  cases r1 with
  | str z =>
    obtain ⟨y, vy, rfl, rfl, ry⟩ := one_of (op := oSplit (.str z)) r2 e rfl (fun a b c => by cases a <;> rfl)
    cases ry with
    | str k =>
      simp only [oSplit] at e
      split at e
      · rename_i hz
        cases e
        rw [Bool.and_eq_true] at hz
        exact mt_split pins s σ H _ _ v us Q I rx rxs ⟨z, k, rfl, rfl, by simpa using hz.1, of_decide_eq_true hz.2, fun p hp => q _ m _ (.new hp) (R.new hp) (.newL R (rds_strs _) hp)⟩
      · cases e
    | _ => cases e
  | _ => simp [oSplit] at e
theorem m_partition : MtR X "str.partition" (rM g oPart) := by
  intro pins s σ H x xs v us Q I rx rxs ⟨m, st, dx, ds, d, R, r1, r2, e, q⟩
  cases r1 with
  | str z =>
    obtain ⟨y, vy, rfl, rfl, ry⟩ := one_of (op := oPart (.str z)) r2 e rfl (fun a b c => by cases a <;> rfl)
    cases ry with
    | str k =>
      simp only [oPart] at e
      split at e
      · rename_i hz
        cases e
        rw [Bool.and_eq_true] at hz
        exact mt_partition pins s σ H _ _ v us Q I rx rxs ⟨z, k, rfl, rfl, by simpa using hz.1, of_decide_eq_true hz.2, fun p hp => q _ m _ (.new hp) (R.new hp) (.newT (rds_strs [_, _, _]) hp)⟩
      · cases e
    | _ => cases e
  | _ => simp [oPart] at e
end
def fmtV : V → Option Str
  | .str x => if decide (x.length ≤ sizeLine) then some x else none
  | .int i => if i.natAbs.log2 < 1920 then some (toString i) else none
  | _ => none
def fmtS : D → Option Str
  | .str x => if decide (x.length ≤ sizeLine) then some x else none
  | .int i => if i.natAbs.log2 < 1920 then some (toString i) else none
  | _ => none
def tFmt (te : TE) : TE := fun σ H Q => te σ H fun x H1 => ∃ y, fmtV x = some y ∧ Q (.str y) H1
def tJ : Str → List TE → TE
  | out, [] => fun σ H Q => out.length ≤ sizeLine ∧ Q (.str out) H
  | out, t :: ts => fun σ H Q => t σ H fun x H1 => ∃ y, x = .str y ∧ (out ++ y).length ≤ sizeLine ∧ tJ (out ++ y) ts σ H1 Q
inductive PEs (X : Cx) : List Expr → List TE → Prop
  | nil : PEs X [] []
  | cons {e : Expr} {es : List Expr} {t : TE} {ts : List TE} : PE X e t → PEs X es ts → PEs X (e :: es) (t :: ts)
inductive PIs (X : Cx) (g : GX) (EX : XK) : List Expr → List Sm → Prop
  | nil : PIs X g EX [] []
  | cons {e : Expr} {es : List Expr} {f : Sm} {fs : List Sm} : PE X e (tI g EX f) → PIs X g EX es fs → PIs X g EX (e :: es) (f :: fs)
theorem PIs.pes {X : Cx} {g : GX} {EX : XK} {es : List Expr} {fs : List Sm} (h : PIs X g EX es fs) : PEs X es (fs.map (tI g EX)) := by
  induction h with
  | nil => exact .nil
  | cons a _ ih => exact .cons a ih
def sFmt (f : Sm) : Sm := bnd f fun d => lift ((fmtS d).map D.str)
def sJ : Str → List Sm → Sm
  | out, [] => lift (if decide (out.length ≤ sizeLine) then some (.str out) else none)
  | out, f :: fs => bnd f fun d => match d with
    | .str y => if decide ((out ++ y).length ≤ sizeLine) then sJ (out ++ y) fs else lift none
    | _ => lift none
section
variable {X : Cx} {g : GX} {EX : XK} {e e1 e2 : Expr} {es : List Expr} {te : TE} {ts : List TE} {f f1 f2 : Sm} {fs : List Sm} {pos : Pos}
theorem pe_fmt (he : PE X e te) : PE X (.FormattedValue e (-1) none pos) (tFmt te) := by
  intro pins s σ H Q I h
  refine FormattedValue_plain (thn (he pins s σ H _ I h) fun v s1 ⟨x, H1, I1, r1, y, ey, q1⟩ => ?_)
  cases x with
  | str z =>
    obtain ⟨t, rfl⟩ := r1
    simp only [fmtV] at ey
    split at ey
    · rename_i hz
      cases ey
      exact formatField_str (fun t' tk => ⟨.str _, H1, I1.tok _, ⟨_, rfl⟩, q1⟩) (of_decide_eq_true hz)
    · cases ey
  | int i =>
    obtain ⟨t, rfl⟩ := r1
    simp only [fmtV] at ey
    split at ey
    · rename_i hz
      cases ey
      exact formatField_int_small hz ⟨.str _, H1, I1.tok _, ⟨_, rfl⟩, q1⟩
    · cases ey
  | _ => cases ey
theorem jp_ok (h : PEs X es ts) : ∀ (out : Str) (pins : List (Addr × Obj)) (s : Shared) (σ : L2.St) (H : Hp) (Q : VK), Inv X pins σ H s → tJ out ts σ H Q → wpAny (model X.prog X.w) X.A (joinParts out (evalEach es X.env)) (EP X pins σ Q) X.xe s := by
  induction h with
  | nil => exact fun out pins s σ H Q I h => joinParts_nilE (joinParts_nil ⟨.str out, H, I.tok _, ⟨_, rfl⟩, h.2⟩ h.1)
  | cons he _ ih =>
    intro out pins s σ H Q I h
    refine joinParts_consE (joinParts_cons (thn (he pins s σ H _ I h) fun v s1 ⟨x, H1, I1, r1, y, ey, hl, q1⟩ => ?_))
    subst ey
    obtain ⟨t, rfl⟩ := r1
    exact ⟨hl, ih _ _ _ _ _ _ I1 q1⟩
theorem tj_of : ∀ (fs : List Sm) (out : Str) (σ : L2.St) (H : Hp) (Q : VK), tI g EX (sJ out fs) σ H Q → tJ out (fs.map (tI g EX)) σ H Q
  | [], out, σ, H, Q => fun ⟨env, m, st, re, R, q⟩ => by
    obtain ⟨d, e, q⟩ := q.lift
    split at e
    · rename_i hz
      cases e
      exact ⟨of_decide_eq_true hz, q m H (.refl _ _) R _ (.str _)⟩
    · cases e
  | f :: fs, out, σ, H, Q => fun ⟨env, m, st, re, R, q⟩ => by
    refine ⟨env, m, st, re, R, q.bnd.mono fun d m1 H1 st1 E1 R1 q v r => ?_⟩
    cases r with
    | str y =>
      dsimp only at q
      by_cases hl : decide ((out ++ y).length ≤ sizeLine) = true
      · rw [if_pos hl] at q
        exact ⟨y, rfl, of_decide_eq_true hl, tj_of fs _ _ _ _ ⟨env, m1, st1, re.ext E1, R1, q⟩⟩
      · rw [if_neg hl] at q
        obtain ⟨_, e, _⟩ := q.lift
        cases e
    | _ =>
      obtain ⟨_, e, _⟩ := q.lift
      cases e
theorem i_fmt (he : PE X e (tI g EX f)) : PE X (.FormattedValue e (-1) none pos) (tI g EX (sFmt f)) :=
  PE.mono (pe_fmt he) fun σ H Q ⟨env, m, st, re, R, q⟩ => by
    refine ⟨env, m, st, re, R, q.bnd.mono fun d m1 H1 st1 E1 R1 q v r => ?_⟩
    obtain ⟨d', e, q2⟩ := q.lift
    rw [Option.map_eq_some_iff] at e
    obtain ⟨y, ey, rfl⟩ := e
    have q3 := q2 m1 H1 (.refl _ _) R1 _ (.str _)
    cases r with
    | str z => exact ⟨y, ey, q3⟩
    | int i => exact ⟨y, ey, q3⟩
    | _ => cases ey
theorem i_fstr1 (he : PE X e (tI g EX f)) : PE X (.JoinedStr [e] pos) (tI g EX f) := fun pins s σ H Q I h => JoinedStr_one (he pins s σ H Q I h)
theorem i_fstr (h : PIs X g EX (e1 :: e2 :: es) fs) : PE X (.JoinedStr (e1 :: e2 :: es) pos) (tI g EX (sJ Str.empty fs)) :=
  fun pins s σ H Q I q => JoinedStr_many (jp_ok h.pes _ _ _ _ _ _ I (tj_of fs _ _ _ _ q))
end
end I2
set_option Elab.async false
set_option linter.all false
set_option maxRecDepth 100000
set_option maxHeartbeats 4000000
namespace I2
open PySem PySem.Spec PyProof.Rows L2
theorem lc_text {z : Str} {g : TG} {tt : TT} {te : TE} {vs : List Nat} {σ : L2.St} {H1 : Hp} {D : Addr} {Qd : Hp → Prop} (Pv : Nat → Hp → Prop) (h0 : Pv 0 (upd H1 D (.lst [])))
    (hs : ∀ i c H, z.cps[i]? = some c → Pv i H → g (.str ⟨#[c]⟩) (wipe σ vs) H fun σ2 H2 => wipe σ2 vs = wipe σ vs ∧ tt σ2 H2 fun b H3 =>
      if b = true then te σ2 H3 fun y H4 => ∃ acc, H4 D = some (.lst acc) ∧ acc.length < sizeLine ∧ Pv (i + 1) (upd H4 D (.lst (acc ++ [y]))) else Pv (i + 1) H3) (hd : ∀ H, Pv z.cps.size H → Qd H) :
    ∃ W : Nat → Nat → Hp → Prop, (∃ m, W 0 m (upd H1 D (.lst []))) ∧ ∀ i m H, W i m H →
      ((Its z).stop i H ∧ Qd H) ∨ ((Its z).go i H ∧ ∃ Nx : Hp → Prop, (∀ H', Nx H' → ∃ m', m' < m ∧ W (i + 1) m' H') ∧ ∀ x H', (Its z).yld i H x H' → g x (wipe σ vs) H' fun σ2 H2 => wipe σ2 vs = wipe σ vs ∧ tt σ2 H2 fun b H3 =>
        if b = true then te σ2 H3 fun y H4 => ∃ acc, H4 D = some (.lst acc) ∧ acc.length < sizeLine ∧ Nx (upd H4 D (.lst (acc ++ [y]))) else Nx H3) := by
  refine ⟨fun i m H => m = z.cps.size - i ∧ i ≤ z.cps.size ∧ Pv i H, ⟨z.cps.size, by simp, Nat.zero_le _, h0⟩, ?_⟩
  rintro i m H ⟨rfl, hi, p⟩
  by_cases hlt : i < z.cps.size
  · refine .inr ⟨hlt, Pv (i + 1), fun H' p' => ⟨z.cps.size - (i + 1), by omega, rfl, hlt, p'⟩, fun x H' y => ?_⟩
    obtain ⟨e, c, hc, y⟩ := y
    subst e y
    exact hs i c _ hc p
  · have e : i = z.cps.size := by omega
    subst e
    exact .inl ⟨Nat.le_refl _, hd H p⟩
def signsOf : D → Option (List D)
  | .str x => some (x.cps.toList.map fun c => D.str ⟨#[c]⟩)
  | _ => none
def sCompS (T : Tgt) (f : Sm) (t : Smt) (h : Sm) (vs : List Nat) : Sm := bnd f fun d => bnd (I2.lift (signsOf d)) fun ds => compR T t h vs ds
section
variable {X : Cx} {g : GX} {EX : XK} {iter elt tg : Expr} {ifs : List Expr} {pos : Pos} {f h : Sm} {t : Smt} {T : Tgt} {own : List (Str × Nat)} {scope : Scope} {vs : List Nat}
theorem i_compS (hK : X.K = g.K) (hc : X.calm = true) (hN : X.N.Nodup) (ha : PE X iter (tI g EX f)) (ok : BlkOk X.N X.env.scope scope own) (hall : T.all (own.map (·.2)))
    (hg : ∀ (s : Shared) (H : Hp) (C : Addr) (cl : List (Str × Addr)) (fp : List Addr), PG (X.blk s H scope (compEnvC scope cl C X.env) fp) tg (T.tg X.K)) (ht : ∀ (s : Shared) (H : Hp) (C : Addr) (cl : List (Str × Addr)) (fp : List Addr), PTs (X.blk s H scope (compEnvC scope cl C X.env) fp) ifs (tIt g E00 t))
    (he : ∀ (s : Shared) (H : Hp) (C : Addr) (cl : List (Str × Addr)) (fp : List Addr), PE (X.blk s H scope (compEnvC scope cl C X.env) fp) elt (tI g E00 h)) (hs : ∀ x, foldedSetIterable iter X.env x = pure x := by intro _; rfl) :
    PE X (.ListComp elt [⟨tg, iter, ifs, 0⟩] scope pos) (tI g EX (sCompS T f t h (own.map (·.2)))) := PE.mono (pe_lc hc hN (pi_str ha) ok hg ht he hs) fun σ H Q ⟨env, m, st, re, R, q⟩ => by
  refine ⟨env, m, st, re, R, q.bnd.mono fun d m1 H1 st1 E1 R1 q v r => ?_⟩
  obtain ⟨ds, e, q⟩ := q.bnd.lift
  obtain ⟨ys, stF, ec, hz, q9⟩ := compR_of (q m1 H1 (.refl _ _) R1)
  have re1 := (re.ext E1).wipe (own.map (·.2))
  rw [hK]
  cases r with
  | str z =>
    cases e
    refine ⟨z, rfl, fun D' hD => lc_text (z := z) (fun i H2 => Turns g m1 H1 D' T.bd t h (wipeD env (own.map (·.2))) ys stF ((z.cps.toList.map fun c => D.str ⟨#[c]⟩).drop i) H2) (turns_start R1 hD ec) (fun i c H2 hi P => ?_) (fun H2 P => ?_)⟩
    · have hd : (z.cps.toList.map fun c => D.str ⟨#[c]⟩)[i]? = some (D.str ⟨#[c]⟩) := by
        rw [List.getElem?_map, Array.getElem?_toList, hi]; rfl
      rw [drop_cons hd] at P
      exact turn_one rfl rfl hD hz hall re1 (fun _ _ _ => .str _) P
    · rw [List.drop_eq_nil_of_le (by rw [List.length_map, Array.length_toList]; exact Nat.le_refl _)] at P
      obtain ⟨m2, e2, R2, r2⟩ := turns_end R1 hD P
      exact q9 m2 H2 e2 R2 _ r2
  | _ => cases e
theorem j_compS (hK : X.K = g.K) (hc : X.calm = true) (hN : X.N.Nodup) (ha : PE X iter (tI g EX f)) (ok : BlkOk X.N X.env.scope scope own) (hv : own.map (·.2) = vs) (hall : T.all vs)
    (hg : ∀ (s : Shared) (H : Hp) (C : Addr) (cl : List (Str × Addr)) (fp : List Addr), PG (X.blk s H scope (compEnvC scope cl C X.env) fp) tg (T.tg X.K)) (ht : ∀ (s : Shared) (H : Hp) (C : Addr) (cl : List (Str × Addr)) (fp : List Addr), PTs (X.blk s H scope (compEnvC scope cl C X.env) fp) ifs (tIt g E00 t))
    (he : ∀ (s : Shared) (H : Hp) (C : Addr) (cl : List (Str × Addr)) (fp : List Addr), PE (X.blk s H scope (compEnvC scope cl C X.env) fp) elt (tI g E00 h)) (hs : noSet iter = true := by rfl) :
    PE X (.ListComp elt [⟨tg, iter, ifs, 0⟩] scope pos) (tI g EX (sCompS T f t h vs)) := by subst hv; exact i_compS hK hc hN ha ok hall hg ht he (noSet_of hs)
end
def oSign : Bool → D → D → Option D
  | ng, .str x, .str z => match x.cps.toList with
    | [c] => some (.bl (if ng then !decide (c ∈ z.cps.toList) else decide (c ∈ z.cps.toList)))
    | _ => none
  | _, _, _ => none
theorem oSign_of {ng : Bool} {dx dy d : D} (e : oSign ng dx dy = some d) : ∃ c z, dx = .str ⟨#[c]⟩ ∧ dy = .str z ∧ d = .bl (if ng then !decide (c ∈ z.cps.toList) else decide (c ∈ z.cps.toList)) := by
  unfold oSign at e
  split at e
  · rename_i x z
    split at e
    · rename_i c hc
      cases e
      obtain ⟨⟨l⟩⟩ := x
      cases hc
      exact ⟨c, z, rfl, rfl, rfl⟩
    · cases e
  · cases e
section
variable {X : Cx} {g : GX}
theorem r_signNotIn : OpR X (compareOp .NotIn) (rD g (oSign true)) := fun pins s σ H x y v u Q I rx ry h => by
  obtain ⟨m, st, dx, dy, d, R, r1, r2, e, q⟩ := h
  obtain ⟨c, z, rfl, rfl, rfl⟩ := oSign_of e
  cases r1
  cases r2
  exact op_notIn_sign pins s σ H _ _ v u Q I rx ry ⟨c, z, rfl, rfl, q _ m H (.refl _ _) R (.bl _)⟩
def sNever : Sms := fun _ _ => none
theorem js_never {EX : XK} {s : Stmt} : PS X s (tIs g EX sNever) := fun _ _ _ _ _ _ ⟨_, _, _, _, _, q⟩ => q.elim
end
end I2
set_option Elab.async false
set_option linter.all false
set_option maxRecDepth 100000
set_option maxHeartbeats 4000000
namespace I2
open PySem PySem.Spec PyProof.Rows L2
end I2
set_option Elab.async false
set_option linter.all false
set_option maxRecDepth 100000
set_option maxHeartbeats 4000000
namespace I2
open PySem PySem.Spec PyProof.Rows L2
end I2
set_option Elab.async false
set_option linter.all false
set_option maxRecDepth 100000
set_option maxHeartbeats 4000000
namespace I2
open PySem PySem.Spec PyProof.Rows L2
open Classical in
noncomputable def compLC (i : Nat) (src : List D) (bd : Bd) (t : Smt) (h : Sm) (env : DEnv) : List D → Sto → Option (List D × Sto)
  | [], st => if st[i]? = some (.lst src) then some ([], st) else none
  | d :: ds, st => if st[i]? = some (.lst src) then (match bd d env with
    | none => none
    | some env1 => match t env1 st with
      | some (.ok true, st1) => (match h env1 st1 with
        | some (.ok y, st2) => (compLC i src bd t h env ds st2).map fun r => (y :: r.1, r.2)
        | _ => none)
      | some (.ok false, st1) => compLC i src bd t h env ds st1
      | _ => none) else none
structure TurnsC (g : GX) (m1 : MM) (H1 : Hp) (D' : Addr) (bd : Bd) (t : Smt) (h : Sm) (env : DEnv) (i : Nat) (src : List D) (tot : List D) (stF : Sto) (rest : List D) (H : Hp) : Prop where
  ex : ∃ m2 st2 acc accD ys, Ext m1 H1 m2 H ∧ RS g (m2.fill D') H st2 ∧ H D' = some (.lst acc) ∧ RDs g (m2.fill D') H accD acc ∧ compLC i src bd t h env rest st2 = some (ys, stF) ∧ accD ++ ys = tot
end I2
set_option Elab.async false
set_option linter.all false
set_option maxRecDepth 100000
set_option maxHeartbeats 4000000
namespace I2
open PySem PySem.Spec PyProof.Rows L2
end I2
set_option Elab.async false
set_option linter.all false
set_option maxRecDepth 100000
set_option maxHeartbeats 4000000
namespace I2
open PySem PySem.Spec PyProof.Rows L2
def enumD (k : Nat) : List D → List D
  | [] => []
  | x :: xs => .tup [.int (k : Int), x] :: enumD (k + 1) xs
theorem enumD_len : ∀ {xs : List D} {k : Nat}, (enumD k xs).length = xs.length
  | [], _ => rfl
  | _ :: xs, k => by simp [enumD, enumD_len (xs := xs)]
theorem enumD_get : ∀ {xs : List D} {k i : Nat} {x : D}, xs[i]? = some x → (enumD k xs)[i]? = some (.tup [.int ((k + i : Nat) : Int), x])
  | [], k, i, x, h => by simp at h
  | y :: xs, k, 0, x, h => by
    simp at h
    subst h; rfl
  | y :: xs, k, i + 1, x, h => by
    simp only [List.getElem?_cons_succ] at h
    have := enumD_get (k := k + 1) h
    rw [show k + 1 + i = k + (i + 1) by omega] at this
    show (enumD (k + 1) xs)[i]? = _
    exact this
end I2
set_option Elab.async false
set_option linter.all false
set_option maxRecDepth 100000
set_option maxHeartbeats 4000000
namespace I2
open PySem PySem.Spec PyProof.Rows L2
end I2
set_option Elab.async false
set_option linter.all false
set_option maxRecDepth 100000
set_option maxHeartbeats 4000000
namespace I2
open PySem PySem.Spec PyProof.Rows L2
open AutoSeq1 (wpAny_loadPart')
abbrev kwOne (t : Tok) : List (Str × Value) := [("start", .int 1 t)]
theorem en_kc (v : Value) (t : Tok) : checkTypeCall "enumerate" ⟨[v], kwOne t⟩ = pure () := by kernel_rfl
theorem en_kn (v : Value) (t : Tok) : checkBuiltinCall "enumerate.__new__" ⟨[.type "enumerate", v], kwOne t⟩ = pure () := by kernel_rfl
theorem en_ki (o v : Value) (t : Tok) : argsOk "object.__init__" ⟨[o, v], kwOne t⟩ := by
  unfold argsOk
  kernel_rfl
theorem en_mk (l : Addr) (its : Array Value) (t : Tok) (o : Obj) :
    Meets (Builtin.«enumerate.__new__» ⟨[.type "enumerate", .ref l], kwOne t⟩) (fun _ R s => (s.heap.IsList l its ∧ s.heap.get? l = some o) ∧
      R (.ok (.ret (.ref (s.heap.objs.size + 1)))) { s with heap := (s.heap.push { cls := .type "list_iterator", data := .fields #[.ref l, .int 0 0] }).push { cls := .type "enumerate", data := .fields #[.none, .bool false, .ref s.heap.objs.size, rawInt 1, .none, .none] } }) := .of_wp fun prog w A R s h => by
  obtain ⟨hp, gg, dd, kk, oo⟩ := s
  obtain ⟨⟨hL, ho⟩, h⟩ := h
  have sub := sub_enumerate
  have fin : Heap.IsList (Shared.heap ⟨hp, gg, dd, kk, oo⟩) l its := hL
  wp_walk using wpAny_loadPart' ho
  refine wpAny_stack_any fun fr => wpAny_pure ?_
  have sz1 : (hp.push { cls := .type "list_iterator", data := .fields #[.ref l, .int 0 0] }).objs.size = hp.objs.size + 1 := Heap.size_push ..
  have done : ∀ v : Value, v = .ref (hp.push { cls := .type "list_iterator", data := .fields #[.ref l, .int 0 0] }).objs.size → R (.ok (.ret v)) { heap := (hp.push { cls := .type "list_iterator", data := .fields #[.ref l, .int 0 0] }).push { cls := .type "enumerate", data := .fields #[.none, .bool false, .ref hp.objs.size, rawInt 1, .none, .none] }, gens := gg, drawn := dd, toks := kk, os := oo } := fun v e => by rw [e, sz1]; exact h
  split
  · rename_i cc _ _ _ _ _
    cases (cc == Value.type "enumerate") <;> ((wp_walk using wpAny_loadPart' ho, wpAny_pyIter_list fin); exact ⟨_, rfl, done _ rfl⟩)
  · (wp_walk using wpAny_loadPart' ho, wpAny_pyIter_list fin); exact ⟨_, rfl, done _ rfl⟩
section
variable {prog : Program} {w : World} {A : Around} {E : Value → Shared → Prop} {s : Shared}
theorem en_init {a : Value} {us : List Value} {t : Tok} : Meets (Builtin.«object.__init__» ⟨a :: us, kwOne t⟩) (fun _ R s => s.TypeIs a "enumerate" ∧ R (.ok (.ret .none)) s) := by
  have hl := F.called_enumerate.init.lookup
  have hm := F.called_enumerate.made
  have hne : (some "enumerate.__new__" != some "object.__new__") = true := by decide
  refine .of_wp fun prog w A R s z => ?_
  obtain ⟨hT, z⟩ := z
  cases us <;> (repeat (any_goals (first | assumption | wp_step))) <;> exact ⟨_, rfl, z⟩
theorem en_call {l : Addr} {its : Array Value} {t : Tok} {o : Obj} {Q : Value → Shared → Prop} (hL : s.heap.IsList l its) (ho : s.heap.get? l = some o)
    (h : ∀ h', IsEnum h' (s.heap.objs.size + 1) s.heap.objs.size 1 .none → h'.IsListIter s.heap.objs.size l 0 → h'.objs.size = s.heap.objs.size + 2 → (∀ b ob, s.heap.get? b = some ob → h'.get? b = some ob) → Q (.ref (s.heap.objs.size + 1)) { s with heap := h' }) :
    wpAny (model prog w) A (call (.type "enumerate") [.ref l] (kwOne t)) Q E s := by
  obtain ⟨c0, cs, mro⟩ := F.called_enumerate.mro
  have mk := F.called_enumerate.made
  have sb := F.called_enumerate.sub
  have nt := F.called_enumerate.notType
  have cn := F.called_enumerate.canCreate
  have tc := en_kc (.ref l) t
  refine wpAny_call (codeAny_of_tree (show wpAny _ _ (callAny (.type "enumerate") _) _ _ _ from wpAny_pure ⟨Code.quiet_builtin _ (by decide +kernel), codeAny_builtin F.entry_type_call ?_⟩))
  rw [Around.under_plain (weight_type_call_type "enumerate" [.ref l] (kwOne t)) rfl]
  repeat (any_goals (first | assumption | wp_step))
  have zs : (s.heap.push { cls := .type "list_iterator", data := .fields #[.ref l, .int 0 0] }).objs.size = s.heap.objs.size + 1 := Heap.size_push ..
  have at1 : IsEnum ((s.heap.push { cls := .type "list_iterator", data := .fields #[.ref l, .int 0 0] }).push { cls := .type "enumerate", data := .fields #[.none, .bool false, .ref s.heap.objs.size, rawInt 1, .none, .none] }) (s.heap.objs.size + 1) s.heap.objs.size 1 .none := by
    have z := Heap.get?_push_size (s.heap.push { cls := .type "list_iterator", data := .fields #[.ref l, .int 0 0] }) (o := { cls := .type "enumerate", data := .fields #[.none, .bool false, .ref s.heap.objs.size, rawInt 1, .none, .none] }) rfl
    rw [zs] at z; exact z
  generalize hh1 : (s.heap.push { cls := .type "list_iterator", data := .fields #[.ref l, .int 0 0] }).push { cls := .type "enumerate", data := .fields #[.none, .bool false, .ref s.heap.objs.size, rawInt 1, .none, .none] } = h1 at at1
  obtain ⟨R1, hR1⟩ : ∃ R1 : Result → Shared → Prop, R1 = fun r s1 => r = .ok (.ret (.ref (s.heap.objs.size + 1))) ∧ s1 = { s with heap := h1 } := ⟨_, rfl⟩
  obtain ⟨R2, hR2⟩ : ∃ R2 : Result → Shared → Prop, R2 = fun r s1 => r = .ok (.ret .none) ∧ s1 = { s with heap := h1 } := ⟨_, rfl⟩
  have G := en_mk l its t o prog w A.in1 R1 s ⟨⟨hL, ho⟩, by rw [hR1]; exact ⟨rfl, by rw [← hh1]⟩⟩
  have q1 : Q (.ref (s.heap.objs.size + 1)) { s with heap := h1 } := h h1 at1 (by rw [← hh1]; exact ⟨_, Heap.get?_push_of_some _ (Heap.get?_push_size _ rfl), rfl, rfl⟩) (by rw [← hh1, Heap.size_push, zs]) fun b ob z => by rw [← hh1]; exact Heap.get?_push_of_some _ (Heap.get?_push_of_some _ z)
  refine codeAny_mono (codeAny_call_builtin (R := R1) F.called_enumerate.plain F.entry_enumerate_new (wpAny_of_eq (en_kn (.ref l) t) G)) fun r s1 hr => ?_
  rw [hR1] at hr
  obtain ⟨rfl, rfl⟩ := hr
  have ty : Shared.TypeIs { s with heap := h1 } (.ref (s.heap.objs.size + 1)) "enumerate" := ⟨_, at1, rfl⟩
  have il := F.called_enumerate.init.lookup
  have ib := F.called_enumerate.init.bind (.ref (s.heap.objs.size + 1))
  repeat (any_goals (first | assumption | wp_step))
  have J := en_init (a := .ref (s.heap.objs.size + 1)) (us := [.ref l]) (t := t) prog w A.in1 R2 { s with heap := h1 } ⟨ty, by rw [hR2]; exact ⟨rfl, rfl⟩⟩
  refine codeAny_mono (codeAny_call_builtin (R := R2) F.called_enumerate.init.plain F.entry_object_init (F.called_enumerate.init.check _ _ _ _ _ _ _ _ ty (en_ki _ _ _) J)) fun r2 s2 hr => ?_
  rw [hR2] at hr
  obtain ⟨rfl, rfl⟩ := hr
  repeat (any_goals (first | assumption | wp_step))
theorem en_with {M : Model} {A : Around} {E : Value → Shared → Prop} {s : Shared} {env : Env} {pos : Pos} {T : String} {e : Expr} {ks : List Keyword} {Q : Value → Shared → Prop}
    (h : wpAny M A (spliced (backTo pos (starEach [e] env))) (fun us s1 => wpAny M A (evalAll ((backToKw pos (keywordEach ks env)).map (·.2))) (fun kus s2 => wpAny M A (call (.type T) us (((backToKw pos (keywordEach ks env)).filterMap (·.1)).zip kus)) Q E s2) E s1) E s)
    (st : starEach [e] env = [(false, eval e env)]) (hall : (backToKw pos (keywordEach ks env)).all (·.1.isSome) = true) (hno : (backToKw pos (keywordEach ks env)).any (·.1.isNone) = false) :
    wpAny M A (callWith pos (.type T) [] (backTo pos (starEach [e] env)) (backToKw pos (keywordEach ks env))) Q E s := by
  rw [st] at h ⊢
  generalize backToKw pos (keywordEach ks env) = kk at *
  have w : wpAny M A (evalArgs (.type T) true (backTo pos [(false, eval e env)]) kk) (fun us s1 => wpAny M A (call (.type T) ([] ++ us.pos) us.kw) Q E s1) E s := evalArgs_kwB hall h
  unfold callWith
  refine wpAny_bind (wpAny_holding (wpAny_mono w (fun us s1 z => wpAny_bind (wpAny_standAt ?_)) fun _ _ z => z))
  have pl : (backTo pos [(false, eval e env)]).any (·.1) = false := rfl
  simp only [pl, hno, Bool.or_false]
  exact wpAny_bind (wpAny_pure (wpAny_bind (wpAny_mono z (fun _ _ y => wpAny_bind (wpAny_holding (wpAny_point (wpAny_pure y)))) fun _ _ y => y)))
theorem en_draws {prog : Program} {w : World} {A : Around} (hh : A.handled = none) (it l : Addr) (hne : l ≠ it) (its : Array Value) :
    Draws prog w A it [it, l] (its.size + 1) (fun j x => ∃ i, j = i + 1 ∧ its[i]? = some x) (fun j h => ∃ i, j = i + 1 ∧ h.IsListIter it l i ∧ h.IsList l its) where
  live := fun j h ⟨i, _, ⟨o, ho, _⟩, _⟩ => ⟨o, ho⟩
  frame := fun j h h' ⟨i, e, hi, ⟨o, ho, r⟩⟩ k => ⟨i, e, hi.at fun o q => k it (by simp) o q, ⟨o, k l (by simp) o ho, r⟩⟩
  item := fun j s Q E hj ⟨i, e, hi, hl⟩ hQ => by
    have lt : i < its.size := by omega
    refine wpAny_nextOf_list_item hi hl (x := its[i]) (by simp [lt]) fun h' hi' sb => hQ _ h' s.toks ⟨i, e, by simp [lt]⟩ ⟨i + 1, by omega, hi', ?_⟩ sb
    obtain ⟨o, ho, r⟩ := hl
    exact ⟨o, (sb.2 l hne).trans ho, r⟩
  done := fun s Q E ⟨i, e, hi, hl⟩ hE => wpAny_nextOf_list_end hh hi hl (by simp; omega) hE
end
def Ite1 (K : PySem.W.Frag) (a : Addr) : It :=
  ⟨fun i H => ∃ (xs : List V) (x : V), SqL K H a xs ∧ xs[i]? = some x, fun i H v H' => ∃ T x, v = .ref T ∧ H T = none ∧ H' = upd H T (.tup [.int ((i + 1 : Nat) : Int), x]) ∧ ∀ xs, SqL K H a xs → xs[i]? = some x, fun i H => ∃ xs : List V, SqL K H a xs ∧ xs.length ≤ i⟩
theorem turn_enum1 {P : Program} {w : World} {K : PySem.W.Frag} {elts : List Expr} {kk : Nat} {tpos : Pos} (a e it : Addr) (hia : it ≠ a) :
    Turn P w K (.Tuple elts kk tpos) (Ite1 K a) [e, it] e (fun i h => (∃ old, IsEnum h e it ((i + 1 : Nat) : Int) old) ∧ h.IsListIter it a i ∧ e ≠ it ∧ e ≠ a) where
  mem := by simp
  obj := fun i h ⟨⟨old, he⟩, ⟨o, ho, hc, hd⟩, _⟩ b hb => by
    rcases (by simpa using hb : b = e ∨ b = it) with z | z
    · rw [z]; exact ⟨_, he, fun v q => nomatch q⟩
    · rw [z]; exact ⟨o, ho, fun v q => by rw [hd] at q; cases q⟩
  keep := fun i h h' ⟨⟨old, he⟩, hi, n1, n2⟩ k => ⟨⟨old, k e (by simp) _ he⟩, hi.at fun o q => k it (by simp) o q, n1, n2⟩
  item := by
    intro X hP hw hK hc i pins s σ H E I hf st hg
    subst hP hw hK
    obtain ⟨⟨old, he⟩, hit, n1, n2⟩ := st
    obtain ⟨xs, x, hq, hx⟩ := hg
    obtain ⟨its, rv, p, hz⟩ := I.list hq
    obtain ⟨u, hu, ru⟩ := rv.get hx
    have hl1 : s.heap.IsList a its.toArray := p.isList
    have lt : i < its.length := (List.getElem?_eq_some_iff.mp hu).1
    have hel : e < s.heap.objs.size := Heap.lt_size he
    have hil : it < s.heap.objs.size := by obtain ⟨_, q, _⟩ := hit; exact Heap.lt_size q
    have DR := en_draws (prog := X.prog) (w := X.w) (A := X.A.in1) (by simp [I.ok.hd hc]) it a (Ne.symm hia) its.toArray
    refine wpAny_pyNext_enum_itemD (i := i + 1) DR he ⟨i, rfl, hit, hl1⟩ (by simp; exact lt) n1 (by simp [n1, n2]) fun x' h' tk hP ho hst hT hsz hk => ?_
    obtain ⟨i', e', hx'⟩ := hP
    have : i' = i := by omega
    subst this
    have ux : x' = u := by
      rw [List.getElem?_toArray] at hx'
      rw [hu] at hx'
      exact (Option.some.inj hx').symm
    subst ux
    obtain ⟨i2, e2, hit', _⟩ := hst
    have : i2 = i' + 1 := by omega
    subst this
    refine ⟨_, rfl, wpAny_letOwnedTupleGo_enum (s := { s with heap := h', toks := tk + 1 }) ho fun h'' he' sb => ?_⟩
    have hT2 : h''.get? s.heap.objs.size = some { cls := .type "tuple", data := .seq #[.int ((i' + 1 : Nat) : Int) tk, x'] } := (sb.2 _ (Nat.ne_of_gt hel)).trans hT
    have new : ObjOk X.prog X.w (upd H s.heap.objs.size (.tup [.int ((i' + 1 : Nat) : Int), x])) h'' s.heap.objs.size (.tup [.int ((i' + 1 : Nat) : Int), x]) :=
      ⟨by show 2 ≤ sizeLine; decide, [.int ((i' + 1 : Nat) : Int) tk, x'], .cons ⟨_, rfl⟩ (.cons ru .nil), ⟨_, hT2, rfl, _, rfl⟩⟩
    have I1 : Inv X pins σ (upd H s.heap.objs.size (.tup [.int ((i' + 1 : Nat) : Int), x])) { s with heap := h'', toks := tk + 1 } :=
      I.turnedNew (ch := [e, it]) (fun b ob hb q => (sb.2 b (fun z => hb (by simp [z]))).trans (hk b ob (fun z => hb (by simp [z])) (fun z => hb (by simp [z])) q)) hf (Nat.le_refl _) new
    refine ⟨.ref s.heap.objs.size, _, I1, rfl, ⟨_, x, rfl, I.hok.fresh (Nat.le_refl _), rfl, fun ys hy => by rw [I.list_inj hy hq]; exact hx⟩, ⟨⟨x', he'⟩, hit'.at fun o q => (sb.2 it (Ne.symm n1)).trans q, n1, n2⟩, fun b hb => ?_⟩
    have hb' : b < s.heap.objs.size := by
      rcases (by simpa using hb : b = e ∨ b = it) with z | z
      · rw [z]; exact hel
      · rw [z]; exact hil
    rw [upd_ne (Nat.ne_of_lt hb')]
    exact (hf b hb).1
  done := by
    intro X hP hw hK hc i pins s σ H E I hf st hg
    subst hP hw hK
    obtain ⟨⟨old, he⟩, hit, n1, n2⟩ := st
    obtain ⟨xs, hq, hx⟩ := hg
    obtain ⟨its, rv, p, hz⟩ := I.list hq
    obtain ⟨f0, f1, f2, f3, f4, f5⟩ := hf it (by simp)
    have hl := rv.length
    have hd := I.ok.hd hc
    have T : s.TypeIs (.ref e) "enumerate" := ⟨_, he, rfl⟩
    have en : its.toArray[i]? = none := by simp; omega
    unfold pyNext
    refine wpAny_bind (wpAny_attempt (wpAny_callSpecial?_slot (name := Str.ofString "__next__") T F.slot_enumerate_next (wpAny_call_entry F.slot_enumerate_next T F.entry_enumerate_next ?_ (F.args_enumerate_next_1 _))))
    show wpAny _ _ (field (.ref e) 2 >>= _) _ _ _
    refine wpAny_bind (wpAny_field he rfl (x := .ref it) rfl (wpAny_bind (wpAny_nextOf_list_end (by simp [hd]) hit p.isList en fun h' y eb ⟨oy, hy, cy⟩ => ?_)))
    refine wpAny_bind (wpAny_isInstance (T := "StopIteration") (b := true) ⟨oy, hy, cy⟩ isSubtype_stop (wpAny_pure ?_))
    exact ⟨rfl, I.turned (t' := s.toks) (fun b o hb q => eb b o hb q) f0 f1 f3 f4 f5⟩
  self := fun A i s Q E ⟨⟨_, he⟩, _⟩ h => wpAny_pyIter_enum he h
def iEnum1 (K : PySem.W.Frag) (ta : TA) : TI := fun σ H R => ta σ H fun vs H1 => ∃ a xs, vs = [.ref a] ∧ SqL K H1 a xs ∧ R (Ite1 K a) H1
theorem pi_enum1 {X : Cx} {e : Expr} {ta : TA} {p p1 p2 pos tpos : Pos} {k1 : Nat} {elts : List Expr} {kk : Nat} (hg : Gl X "enumerate") (hm : X.mg "enumerate" = none) (ha : PA X [e] ta) (hs : starEach [e] X.env = [(false, eval e X.env)]) :
    PI X (.Tuple elts kk tpos) (.Call (.Name "enumerate" p) [e] [⟨some "start", .Constant (.int 1) k1 p1, p2⟩] pos) (iEnum1 X.K ta) := by
  intro pins s σ H R I h
  have ev : eval (.Call (.Name "enumerate" p) [e] [⟨some "start", .Constant (.int 1) k1 p1, p2⟩] pos) X.env = (do callWith pos (← eval (.Name "enumerate" p) X.env) [] (backTo pos (starEach [e] X.env)) (backToKw pos (keywordEach [⟨some "start", .Constant (.int 1) k1 p1, p2⟩] X.env))) := rfl
  rw [ev]
  refine wpAny_bind (ld_blt I hg hm (show bootBuiltins "enumerate" = some (.type "enumerate") by decide +kernel) (en_with (thn (ha pos pins s σ H _ I h) fun us s1 ⟨vs, H1, I1, r1, q1⟩ => ?_) hs rfl rfl))
  obtain ⟨a, xs, ex, hq, q⟩ := q1
  subst ex
  cases r1 with
  | cons r rr =>
    cases rr
    cases r
    refine kws_cons (wpAny_Constant_int (kws_nil ?_))
    obtain ⟨its, rv, p', hz⟩ := I1.list hq
    obtain ⟨o, n, hget, hcls, hdict, hdat⟩ := p'
    have p2 : s1.heap.IsList a its.toArray := ⟨o, hget, hcls, n, hdat⟩
    have alt : a < s1.heap.objs.size := Heap.lt_size hget
    refine en_call (s := { s1 with toks := s1.toks + 1 }) p2 hget fun h' he hit hsz hk => wpAny_pyIter_enum he ?_
    have I2 : Inv X pins σ H1 { s1 with heap := h', toks := s1.toks + 1 } := I1.kept (t' := s1.toks + 1) hk
    refine ⟨s1.heap.objs.size + 1, [s1.heap.objs.size + 1, s1.heap.objs.size], _, _, H1, rfl, I2, turn_enum1 a (s1.heap.objs.size + 1) s1.heap.objs.size (Nat.ne_of_gt alt), ⟨⟨.none, he⟩, hit, Nat.succ_ne_self _, Nat.ne_of_gt (Nat.lt_succ_of_lt alt)⟩, fun b hb => ?_, q⟩
    have hle : s1.heap.objs.size ≤ b := by
      rcases (by simpa using hb : b = s1.heap.objs.size + 1 ∨ b = s1.heap.objs.size) with z | z
      · rw [z]; exact Nat.le_succ _
      · rw [z]; exact Nat.le_refl _
    exact I1.fpOk hle (I1.hok.fresh hle)
theorem for_enum1 {K : PySem.W.Frag} {a : Addr} {xs : List V} {g : TG} {tb : TS} {D : Ends} {σ : L2.St} {H : Hp} (Pv : Nat → L2.St → Hp → Prop) (h0 : Pv 0 σ H) (hl : ∀ i σ H, Pv i σ H → SqL K H a xs)
    (hs : ∀ i x σ H T, xs[i]? = some x → Pv i σ H → H T = none → g (.ref T) σ (upd H T (.tup [.int ((i + 1 : Nat) : Int), x])) fun σ2 H2 => tb { D with nx := Pv (i + 1), ct := Pv (i + 1), bk := D.nx } σ2 H2) (hd : ∀ σ H, Pv xs.length σ H → D.nx σ H) :
    ∃ W : Nat → Nat → L2.St → Hp → Prop, (∃ m, W 0 m σ H) ∧ ∀ i m σ H, W i m σ H →
      ((Ite1 K a).stop i H ∧ D.nx σ H) ∨ ((Ite1 K a).go i H ∧ ∃ N : L2.St → Hp → Prop, (∀ σ' H', N σ' H' → ∃ m', m' < m ∧ W (i + 1) m' σ' H') ∧ ∀ x H', (Ite1 K a).yld i H x H' → g x σ H' fun σ2 H2 => tb { D with nx := N, ct := N, bk := D.nx } σ2 H2) := by
  refine ⟨fun i m σ H => m = xs.length - i ∧ i ≤ xs.length ∧ Pv i σ H, ⟨xs.length, by simp, Nat.zero_le _, h0⟩, ?_⟩
  rintro i m σ H ⟨rfl, hi, p⟩
  have q1 := hl i σ H p
  rcases Nat.lt_or_ge i xs.length with lt | ge
  · refine .inr ⟨⟨xs, xs[i], q1, by simp [lt]⟩, Pv (i + 1), fun σ' H' p' => ⟨xs.length - (i + 1), by omega, rfl, lt, p'⟩, fun x H' y => ?_⟩
    obtain ⟨T, u, rfl, hT, rfl, y1⟩ := y
    exact hs i u σ _ T (y1 xs q1) p hT
  · have e : i = xs.length := by omega
    subst e
    exact .inl ⟨⟨xs, q1, Nat.le_refl _⟩, hd σ H p⟩
def enumOf1 : List D → Option (List D)
  | [.lst xs] => some (enumD 1 xs)
  | _ => none
def sForE1 (bd : Bd) (fs : Sma) (u : Sms) : Sms := bndS fs fun ds => bndS (lift (enumOf1 ds)) fun ds => forL bd u ds
section
variable {X : Cx} {g : GX} {EX : XK} {a : Expr} {p p1 p2 p' tpos pos : Pos} {k1 kk : Nat} {elts : List Expr} {body : List Stmt} {bd : Bd} {fs : Sma} {u : Sms}
theorem js_forE1 (hK : X.K = g.K) (hp : PassesOwn (model X.prog X.w) X.A X.env X.xe) (hc : X.calm = true) (hgl : Gl X "enumerate") (hmg : X.mg "enumerate" = none) (ha : PA X [a] (tIa g EX fs)) (hg : PG X (.Tuple elts kk tpos) (tIg g bd)) (hb : PSs X body (tIs g EX u)) (hs : noStar a = true := by rfl) :
    PS X (.For (.Tuple elts kk tpos) (.Call (.Name "enumerate" p) [a] [⟨some "start", .Constant (.int 1) k1 p1, p2⟩] p') body [] pos) (tIs g EX (sForE1 bd fs u)) :=
  PS.mono (ps_for hp hc (pi_enum1 hgl hmg ha (star_cons hs)) hg hb (noSet_of rfl)) fun De σ H ⟨env, m, st, re, R, q⟩ => by
    refine ⟨env, m, st, re, R, q.bnd.mono fun d m1 H1 st1 E1 R1 q v r => ?_⟩
    obtain ⟨ds, e, q⟩ := q.bnd.lift
    have q := q m1 H1 (.refl _ _) R1
    obtain ⟨x, v, rfl, rfl, rx⟩ := one_of (op := enumOf1) r e rfl (fun a b c => by cases a <;> rfl)
    rw [hK]
    cases rx with
    | @lst a xs es hsx hnx hrx =>
      cases e
      refine ⟨a, xs, rfl, .of hsx, for_enum1 (fun i σ2 H2 => ∃ env2 m2 st2, Ext m1 H1 m2 H2 ∧ RE g m2 H2 env2 σ2 ∧ RS g m2 H2 st2 ∧ RIs g EX m2 H2 (forL bd u ((enumD 1 es).drop i) env2 st2) De)
        ⟨env, m1, st1, .refl _ _, re.ext E1, R1, q⟩ (fun i σ2 H2 ⟨env2, m2, st2, E2, _⟩ => .of (E2.lst _ _ hsx hnx).1) (fun i x σ2 H2 T hx ⟨env2, m2, st2, E2, re2, R2, q2⟩ hT => ?_) (fun σ2 H2 ⟨env2, m2, st2, E2, re2, R2, q2⟩ => ?_)⟩
      · obtain ⟨dx, hdx, rdx⟩ := hrx.get' hx
        have hd := enumD_get (k := 1) hdx
        rw [show 1 + i = i + 1 by omega] at hd
        rw [drop_cons hd] at q2
        have N : Ext m2 H2 m2 (upd H2 T (.tup [.int ((i + 1 : Nat) : Int), x])) := .new hT
        exact forL_step (re2.ext N) (R2.new hT) (.tup (.inl (.inl upd_same)) (.cons (.int _) (.cons (rdx.ext (E2.trans N)) .nil))) (RIs.ext q2 N) fun env' m' st' H' σ' E' re' R' q' => ⟨env', m', st', (E2.trans N).trans E', re', R', q'⟩
      · rw [List.drop_eq_nil_of_le (by rw [enumD_len, hrx.length]; exact Nat.le_refl _)] at q2
        exact q2 m2 H2 σ2 (.refl _ _) R2 re2
    | _ => cases e
theorem sForE1_ap {envS : DEnv} {st : Sto} : sForE1 bd fs u envS st = bndS fs (fun ds => bndS (lift (enumOf1 ds)) fun ds => forL bd u ds) envS st := rfl
end
end I2
set_option Elab.async false
set_option linter.all false
set_option maxRecDepth 100000
set_option maxHeartbeats 4000000
namespace Law
open PySem PySem.Spec PyProof.Rows L2 I2
def top (i : Nat) : Stmt := PySem.Challenge.pw_earthends_k05_cables_as_texts.main.body.getD i (.Pass ⟨0, 0, 0, 0⟩)
abbrev s_is_whole : Stmt := top 5
abbrev s_is_tuple_of : Stmt := top 6
abbrev s_common_divisor : Stmt := top 7
abbrev s_is_small : Stmt := top 14
abbrev s_show_fraction : Stmt := top 22
abbrev s_read_number : Stmt := top 24
abbrev s_l_cell : Stmt := top 31
abbrev s_l_purse : Stmt := top 32
abbrev s_l_pick : Stmt := top 33
abbrev s_l_whole : Stmt := top 34
abbrev s_l_low : Stmt := top 35
abbrev s_l_fraction_text : Stmt := top 36
abbrev s_is_fraction : Stmt := top 8
abbrev s_l_text : Stmt := top 37
abbrev s_l_small : Stmt := top 38
abbrev s_is_from_zero : Stmt := top 9
abbrev s_is_above_zero : Stmt := top 10
abbrev s_read_fraction : Stmt := top 25
abbrev s_l_cable : Stmt := top 39
abbrev s_is_length : Stmt := top 15
abbrev s_is_back : Stmt := top 16
abbrev s_is_cable : Stmt := top 17
abbrev s_read_back : Stmt := top 26
abbrev s_read_length : Stmt := top 27
abbrev s_need_cable : Stmt := top 18
abbrev s_read_lengths : Stmt := top 28
abbrev s_show_cable : Stmt := top 23
abbrev s_read_cable : Stmt := top 29
abbrev s_l_pure : Stmt := top 40
abbrev s_l_right : Stmt := top 41
abbrev s_law : Stmt := top 42
set_option genInjectivity false
structure Ad where
  K : PySem.W.Frag
  f_is_whole : Addr
  fd_is_whole : FuncData
  f_is_tuple_of : Addr
  fd_is_tuple_of : FuncData
  f_common_divisor : Addr
  fd_common_divisor : FuncData
  f_is_small : Addr
  fd_is_small : FuncData
  f_show_fraction : Addr
  fd_show_fraction : FuncData
  f_read_number : Addr
  fd_read_number : FuncData
  f_l_cell : Addr
  fd_l_cell : FuncData
  f_l_purse : Addr
  fd_l_purse : FuncData
  f_l_pick : Addr
  fd_l_pick : FuncData
  f_l_whole : Addr
  fd_l_whole : FuncData
  f_l_low : Addr
  fd_l_low : FuncData
  f_l_fraction_text : Addr
  fd_l_fraction_text : FuncData
  f_is_fraction : Addr
  fd_is_fraction : FuncData
  f_l_text : Addr
  fd_l_text : FuncData
  f_l_small : Addr
  fd_l_small : FuncData
  f_is_from_zero : Addr
  fd_is_from_zero : FuncData
  f_is_above_zero : Addr
  fd_is_above_zero : FuncData
  f_read_fraction : Addr
  fd_read_fraction : FuncData
  f_l_cable : Addr
  fd_l_cable : FuncData
  f_is_length : Addr
  fd_is_length : FuncData
  f_is_back : Addr
  fd_is_back : FuncData
  f_is_cable : Addr
  fd_is_cable : FuncData
  f_read_back : Addr
  fd_read_back : FuncData
  f_read_length : Addr
  fd_read_length : FuncData
  f_need_cable : Addr
  fd_need_cable : FuncData
  f_read_lengths : Addr
  fd_read_lengths : FuncData
  f_show_cable : Addr
  fd_show_cable : FuncData
  f_read_cable : Addr
  fd_read_cable : FuncData
  f_l_pure : Addr
  fd_l_pure : FuncData
  f_l_right : Addr
  fd_l_right : FuncData
  f_law : Addr
  fd_law : FuncData
  c_EarthError : Addr
  c_NoCable : Addr
  c_NoText : Addr
def clsT (a : Ad) : List (Str × Addr) := [("NoCable", a.c_NoCable)]
def tabT : List (Str × List (Str × Bool)) := [("NoCable", [])]
def tyT (a : Ad) : List (Str × Value) := [("EarthError", Value.ref a.c_EarthError), ("NoCable", Value.ref a.c_NoCable), ("NoText", Value.ref a.c_NoText), ("ValueError", Value.type "ValueError")]
def gx (a : Ad) : GX := ⟨a.K, fun c => (clsT a).lookup c, fun c t => (tabT.lookup c).bind fun l => l.lookup t, fun t => (tyT a).lookup t⟩
def N_is_whole : List Str := ["x"]
noncomputable def b_is_whole : Sms := (sRet (sAndV (s1 (oIsiB "int") (sVar 0)) (sNotV (s1 (oIsiB "bool") (sVar 0)))))
noncomputable def F_is_whole : List D → Sto → Res D := fnOf 1 1 (b_is_whole)
def N_is_tuple_of : List Str := ["x", "many"]
noncomputable def b_is_tuple_of : Sms := (sRet (sAndV (s1 (oIsiB "tuple") (sVar 0)) (s2 oEq (sBs oLen (sCons (sVar 0) sNil)) (sVar 1))))
noncomputable def F_is_tuple_of : List D → Sto → Res D := fnOf 2 2 (b_is_tuple_of)
def N_common_divisor : List Str := ["one", "other"]
noncomputable def b_common_divisor : Sms := (sSeq (sWhile (sTest (s2 oNe (sVar 1) (sC (.int 0)))) (sPar 0 1 (sCons (sVar 1) (sCons (s2 oMod (sVar 0) (sVar 1)) sNil)))) (sRet (sBs (fun _ => oAbs) (sCons (sVar 0) sNil))))
noncomputable def F_common_divisor : List D → Sto → Res D := fnOf 2 2 (b_common_divisor)
def N_is_small : List Str := ["x"]
noncomputable def b_is_small : Sms := (sRet (sAndV (s2 oLe (sIx (sVar 0) (sC (.int 0))) (sC (.int 999))) (s2 oLe (sIx (sVar 0) (sC (.int 1))) (sC (.int 999)))))
noncomputable def F_is_small : List D → Sto → Res D := fnOf 1 1 (b_is_small)
def N_show_fraction : List Str := ["x"]
noncomputable def b_show_fraction : Sms := (sRet (sIfE (sTest (s2 oEq (sIx (sVar 0) (sC (.int 1))) (sC (.int 1)))) (sFmt (sIx (sVar 0) (sC (.int 0)))) (sJ Str.empty [(sFmt (sIx (sVar 0) (sC (.int 0)))), (sC (.str "/")), (sFmt (sIx (sVar 0) (sC (.int 1))))])))
noncomputable def F_show_fraction : List D → Sto → Res D := fnOf 1 1 (b_show_fraction)
def N_read_number : List Str := ["word", "most", "sign"]
noncomputable def b_read_number : Sms := (sSeq (sIf (tOrI (tNotI (sTest (sChain oLe oLe (sC (.int 1)) (sBs oLen (sCons (sVar 0) sNil)) (sVar 1)))) (sTru (sBs oAny (sCons (sCompS (Tgt.name 2) (sVar 0) sYes (s2 (oSign true) (sVar 2) (sC (.str "0123456789"))) [2]) sNil)))) (sRet (sC .non)) sNop) (sSeq (sIf (tAndI (sTru (sMS oStarts (sVar 0) (sCons (sC (.str "0")) sNil))) (sTest (s2 oNe (sVar 0) (sC (.str "0"))))) (sRet (sC .non)) sNop) (sRet (sBs (fun _ => oIntT) (sCons (sVar 0) sNil)))))
noncomputable def F_read_number : List D → Sto → Res D := fnOf 2 3 (b_read_number)
def N_l_cell : List Str := ["_law_script", "_law_k", "_law_state", "_law_cell_here"]
noncomputable def b_l_cell : Sms := (sSeq (sIf (sTest (s2 oLt (sVar 1) (sBs oLen (sCons (sVar 0) sNil)))) (sRet (sIx (sVar 0) (sVar 1))) sNop) (sSeq (sSet 2 (s2 oMod (s2 oMul (sC (.int 70001)) (s2 oAdd (s2 oAdd (s2 oMul (sVar 1) (sVar 1)) (s2 oMul (sC (.int 11)) (sVar 1))) (sC (.int 5)))) (sC (.int 1000000021)))) (sSeq (sFor (bName 3) (sSlX (sVar 0) sNoPart (sPart (sC (.int 4)))) (sSet 2 (s2 oMod (s2 oAdd (s2 oMul (sVar 2) (sC (.int 20011))) (sVar 3)) (sC (.int 1000000021))))) (sRet (sVar 2)))))
noncomputable def F_l_cell : List D → Sto → Res D := fnOf 2 4 (b_l_cell)
def N_l_purse : List Str := ["_law_cell_here"]
noncomputable def b_l_purse : Sms := (sRet (sLstM (sCons (s2 oAdd (s2 oMul (s2 oMod (sVar 0) (sC (.int 999999893))) (sC (.int 6007))) (sC (.int 2503))) (sCons (sIx (sLst (sCons (sC (.int 0)) (sCons (sVar 0) sNil))) (sBs (fun _ => oInt) (sCons (s2 oGe (sVar 0) (s2 oPow (sC (.int 10)) (sC (.int 18)))) sNil))) (sCons (sC (.int 0)) sNil)))))
noncomputable def F_l_purse : List D → Sto → Res D := fnOf 1 1 (b_l_purse)
def N_l_pick : List Str := ["_law_purse_here", "_law_many", "_law_state", "_law_taken"]
noncomputable def b_l_pick : Sms := (sSeq (sPut (s2 oAdd (sIx (sVar 0) (sC (.int 2))) (sC (.int 1))) (sVar 0) (sC (.int 2))) (sSeq (sSet 2 (s2 oMod (sIx (sVar 0) (sC (.int 0))) (sC (.int 999999893)))) (sSeq (sPut (s2 oAdd (s2 oMul (sVar 2) (s2 oAdd (s2 oMod (sVar 2) (sC (.int 40009))) (sC (.int 10007)))) (s2 oMul (sC (.int 80021)) (sIx (sVar 0) (sC (.int 2))))) (sVar 0) (sC (.int 0))) (sSeq (sIf (sTest (s2 oGt (sIx (sVar 0) (sC (.int 1))) (sC (.int 0)))) (sSeq (sSet 3 (s2 oMod (sIx (sVar 0) (sC (.int 1))) (sVar 1))) (sSeq (sPut (s2 oDiv (sIx (sVar 0) (sC (.int 1))) (sVar 1)) (sVar 0) (sC (.int 1))) (sRet (sVar 3)))) sNop) (sRet (s2 oMod (s2 oDiv (s2 oMod (sIx (sVar 0) (sC (.int 0))) (sC (.int 999999893))) (sC (.int 16))) (sVar 1)))))))
noncomputable def F_l_pick : List D → Sto → Res D := fnOf 2 4 (b_l_pick)
def N_l_whole : List Str := ["_law_thing"]
noncomputable def b_l_whole : Sms := (sRet (sAndV (s1 (oIsiB "int") (sVar 0)) (sNotV (s1 (oIsiB "bool") (sVar 0)))))
noncomputable def F_l_whole : List D → Sto → Res D := fnOf 1 1 (b_l_whole)
def N_l_low : List Str := ["_law_top", "_law_bottom", "_law_one", "_law_other"]
noncomputable def b_l_low : Sms := (sSeq (sIf (sTest (s2 oLt (sVar 1) (sC (.int 0)))) (sPar 0 1 (sCons (s2 oSub (sC (.int 0)) (sVar 0)) (sCons (s2 oSub (sC (.int 0)) (sVar 1)) sNil))) sNop) (sSeq (sPar 2 3 (sCons (sBs (fun _ => oAbs) (sCons (sVar 0) sNil)) (sCons (sVar 1) sNil))) (sSeq (sWhile (sTest (s2 oGt (sVar 3) (sC (.int 0)))) (sPar 2 3 (sCons (sVar 3) (sCons (s2 oMod (sVar 2) (sVar 3)) sNil)))) (sRet (sTup (sCons (s2 oDiv (sVar 0) (sVar 2)) (sCons (s2 oDiv (sVar 1) (sVar 2)) sNil)))))))
noncomputable def F_l_low : List D → Sto → Res D := fnOf 2 4 (b_l_low)
def N_l_fraction_text : List Str := ["_law_a"]
noncomputable def b_l_fraction_text : Sms := (sRet (s2 oAdd (sBs (fun _ => oStr) (sCons (sIx (sVar 0) (sC (.int 0))) sNil)) (sIx (sLst (sCons (s2 oAdd (sC (.str "/")) (sBs (fun _ => oStr) (sCons (sIx (sVar 0) (sC (.int 1))) sNil))) (sCons (sC (.str "")) sNil))) (sBs (fun _ => oInt) (sCons (s2 oEq (sIx (sVar 0) (sC (.int 1))) (sC (.int 1))) sNil)))))
noncomputable def F_l_fraction_text : List D → Sto → Res D := fnOf 1 1 (b_l_fraction_text)
def N_is_fraction : List Str := ["x"]
noncomputable def b_is_fraction : Sms := (sSeq (sIf (tOrI (tNotI (sTru (sCall 2 F_is_tuple_of (sCons (sVar 0) (sCons (sC (.int 2)) sNil))))) (tOrI (tNotI (sTru (sCall 1 F_is_whole (sCons (sIx (sVar 0) (sC (.int 0))) sNil)))) (tNotI (sTru (sCall 1 F_is_whole (sCons (sIx (sVar 0) (sC (.int 1))) sNil)))))) (sRet (sC (.bl false))) sNop) (sRet (sAndV (s2 oGt (sIx (sVar 0) (sC (.int 1))) (sC (.int 0))) (s2 oEq (sCall 2 F_common_divisor (sCons (sIx (sVar 0) (sC (.int 0))) (sCons (sIx (sVar 0) (sC (.int 1))) sNil))) (sC (.int 1))))))
noncomputable def F_is_fraction : List D → Sto → Res D := fnOf 1 1 (b_is_fraction)
def N_l_text : List Str := ["_law_cable_here", "_law_rows", "_law_steps", "_law_drag"]
noncomputable def b_l_text : Sms := (sSeq (sSet 1 (sLstM (sCons (s2 oAdd (sC (.str "back ")) (sCall 1 F_l_fraction_text (sCons (sIx (sVar 0) (sC (.int 1))) sNil))) sNil))) (sSeq (sFor (bTup [2, 3]) (sIx (sVar 0) (sC (.int 0))) (sExp (sApp (sVar 1) (s2 oAdd (s2 oAdd (sBs (fun _ => oStr) (sCons (sVar 2) sNil)) (sC (.str " x "))) (sCall 1 F_l_fraction_text (sCons (sVar 3) sNil)))))) (sRet (sMS oJoin (sC (.str "\n")) (sCons (sFz (sVar 1)) sNil)))))
noncomputable def F_l_text : List D → Sto → Res D := fnOf 1 4 (b_l_text)
def N_l_small : List Str := ["_law_purse_here", "_law_least", "_law_top", "_law_bottom"]
noncomputable def b_l_small : Sms := (sSeq (sSet 2 (sIx (sLst (sCons (sVar 1) (sCons (sC (.int 999)) (sCons (s2 oAdd (sVar 1) (sCall 2 F_l_pick (sCons (sVar 0) (sCons (sC (.int 9)) sNil)))) (sCons (s2 oAdd (sVar 1) (sCall 2 F_l_pick (sCons (sVar 0) (sCons (sC (.int 999)) sNil)))) sNil))))) (sCall 2 F_l_pick (sCons (sVar 0) (sCons (sC (.int 4)) sNil))))) (sSeq (sSet 3 (sIx (sLst (sCons (sC (.int 1)) (sCons (sC (.int 1)) (sCons (sC (.int 999)) (sCons (s2 oAdd (sC (.int 1)) (sCall 2 F_l_pick (sCons (sVar 0) (sCons (sC (.int 9)) sNil)))) (sCons (s2 oAdd (sC (.int 1)) (sCall 2 F_l_pick (sCons (sVar 0) (sCons (sC (.int 999)) sNil)))) sNil)))))) (sCall 2 F_l_pick (sCons (sVar 0) (sCons (sC (.int 5)) sNil))))) (sRet (sCall 2 F_l_low (sCons (sVar 2) (sCons (sVar 3) sNil))))))
noncomputable def F_l_small : List D → Sto → Res D := fnOf 2 4 (b_l_small)
def N_is_from_zero : List Str := ["x"]
noncomputable def b_is_from_zero : Sms := (sRet (sAndV (sCall 1 F_is_fraction (sCons (sVar 0) sNil)) (s2 oGe (sIx (sVar 0) (sC (.int 0))) (sC (.int 0)))))
noncomputable def F_is_from_zero : List D → Sto → Res D := fnOf 1 1 (b_is_from_zero)
def N_is_above_zero : List Str := ["x"]
noncomputable def b_is_above_zero : Sms := (sRet (sAndV (sCall 1 F_is_fraction (sCons (sVar 0) sNil)) (s2 oGt (sIx (sVar 0) (sC (.int 0))) (sC (.int 0)))))
noncomputable def F_is_above_zero : List D → Sto → Res D := fnOf 1 1 (b_is_above_zero)
def N_read_fraction : List Str := ["word", "most", "made", "top", "slash", "bottom"]
noncomputable def b_read_fraction : Sms := (sSeq (sAsg (bTup [3, 4, 5]) (sMS oPart (sVar 0) (sCons (sC (.str "/")) sNil))) (sSeq (sIf (sTest (s2 oEq (sVar 4) (sC (.str "")))) (sSet 5 (sC (.str "1"))) (sIf (sTest (s2 oEq (sVar 5) (sC (.str "1")))) (sRet (sC .non)) sNop)) (sSeq (sSet 2 (sTup (sCons (sCall 2 F_read_number (sCons (sVar 3) (sCons (sVar 1) sNil))) (sCons (sCall 2 F_read_number (sCons (sVar 5) (sCons (sVar 1) sNil))) sNil)))) (sRet (sIfE (sTru (sCall 1 F_is_fraction (sCons (sVar 2) sNil))) (sVar 2) (sC .non))))))
noncomputable def F_read_fraction : List D → Sto → Res D := fnOf 2 6 (b_read_fraction)
def N_l_cable : List Str := ["_law_purse_here", "_law_many", "_law_lengths", "_law_k", "_law_steps"]
noncomputable def b_l_cable : Sms := (sSeq (sSet 2 (sLstM sNil)) (sSeq (sForR (bName 3) (sCons (sVar 1) sNil) (sSeq (sSet 4 (sIx (sLst (sCons (sC (.int 1)) (sCons (sC (.int 999)) (sCons (s2 oAdd (sC (.int 1)) (sCall 2 F_l_pick (sCons (sVar 0) (sCons (sC (.int 9)) sNil)))) (sCons (s2 oAdd (sC (.int 1)) (sCall 2 F_l_pick (sCons (sVar 0) (sCons (sC (.int 999)) sNil)))) sNil))))) (sCall 2 F_l_pick (sCons (sVar 0) (sCons (sC (.int 4)) sNil))))) (sExp (sApp (sVar 2) (sTup (sCons (sVar 4) (sCons (sCall 2 F_l_small (sCons (sVar 0) (sCons (sC (.int 1)) sNil))) sNil))))))) (sRet (sTup (sCons (sBs oTuple (sCons (sVar 2) sNil)) (sCons (sCall 2 F_l_small (sCons (sVar 0) (sCons (sC (.int 0)) sNil))) sNil))))))
noncomputable def F_l_cable : List D → Sto → Res D := fnOf 2 5 (b_l_cable)
def N_is_length : List Str := ["x"]
noncomputable def b_is_length : Sms := (sSeq (sIf (tOrI (tNotI (sTru (sCall 2 F_is_tuple_of (sCons (sVar 0) (sCons (sC (.int 2)) sNil))))) (tOrI (tNotI (sTru (sCall 1 F_is_whole (sCons (sIx (sVar 0) (sC (.int 0))) sNil)))) (tNotI (sTest (sChain oLe oLe (sC (.int 1)) (sIx (sVar 0) (sC (.int 0))) (sC (.int 999))))))) (sRet (sC (.bl false))) sNop) (sRet (sAndV (sCall 1 F_is_above_zero (sCons (sIx (sVar 0) (sC (.int 1))) sNil)) (sCall 1 F_is_small (sCons (sIx (sVar 0) (sC (.int 1))) sNil)))))
noncomputable def F_is_length : List D → Sto → Res D := fnOf 1 1 (b_is_length)
def N_is_back : List Str := ["x"]
noncomputable def b_is_back : Sms := (sRet (sAndV (sCall 1 F_is_from_zero (sCons (sVar 0) sNil)) (sCall 1 F_is_small (sCons (sVar 0) sNil))))
noncomputable def F_is_back : List D → Sto → Res D := fnOf 1 1 (b_is_back)
def N_is_cable : List Str := ["x", "length"]
noncomputable def b_is_cable : Sms := (sSeq (sIf (tOrI (tNotI (sTru (sCall 2 F_is_tuple_of (sCons (sVar 0) (sCons (sC (.int 2)) sNil))))) (tOrI (tNotI (sTru (s1 (oIsiB "tuple") (sIx (sVar 0) (sC (.int 0)))))) (tNotI (sTest (sChain oLe oLe (sC (.int 1)) (sBs oLen (sCons (sIx (sVar 0) (sC (.int 0))) sNil)) (sC (.int 12))))))) (sRet (sC (.bl false))) sNop) (sRet (sAndV (sBs oAll (sCons (sComp (Tgt.name 1) (sIx (sVar 0) (sC (.int 0))) sYes (sCall 1 F_is_length (sCons (sVar 1) sNil)) [1]) sNil)) (sCall 1 F_is_back (sCons (sIx (sVar 0) (sC (.int 1))) sNil)))))
noncomputable def F_is_cable : List D → Sto → Res D := fnOf 1 2 (b_is_cable)
def N_read_back : List Str := ["row", "words", "back"]
noncomputable def b_read_back : Sms := (sSeq (sSet 1 (sMS oSplit (sVar 0) (sCons (sC (.str " ")) sNil))) (sSeq (sIf (tOrI (sTest (s2 oNe (sBs oLen (sCons (sVar 1) sNil)) (sC (.int 2)))) (sTest (s2 oNe (sIx (sVar 1) (sC (.int 0))) (sC (.str "back"))))) (sRet (sC .non)) sNop) (sSeq (sSet 2 (sCall 2 F_read_fraction (sCons (sIx (sVar 1) (sC (.int 1))) (sCons (sC (.int 3)) sNil)))) (sRet (sIfE (sTru (sCall 1 F_is_back (sCons (sVar 2) sNil))) (sVar 2) (sC .non))))))
noncomputable def F_read_back : List D → Sto → Res D := fnOf 1 3 (b_read_back)
def N_read_length : List Str := ["row", "words", "length"]
noncomputable def b_read_length : Sms := (sSeq (sSet 1 (sMS oSplit (sVar 0) (sCons (sC (.str " ")) sNil))) (sSeq (sIf (tOrI (sTest (s2 oNe (sBs oLen (sCons (sVar 1) sNil)) (sC (.int 3)))) (sTest (s2 oNe (sIx (sVar 1) (sC (.int 1))) (sC (.str "x"))))) (sRet (sC .non)) sNop) (sSeq (sSet 2 (sTup (sCons (sCall 2 F_read_number (sCons (sIx (sVar 1) (sC (.int 0))) (sCons (sC (.int 3)) sNil))) (sCons (sCall 2 F_read_fraction (sCons (sIx (sVar 1) (sC (.int 2))) (sCons (sC (.int 3)) sNil))) sNil)))) (sRet (sIfE (sTru (sCall 1 F_is_length (sCons (sVar 2) sNil))) (sVar 2) (sC .non))))))
noncomputable def F_read_length : List D → Sto → Res D := fnOf 1 3 (b_read_length)
def N_need_cable : List Str := ["cable"]
noncomputable def b_need_cable : Sms := (sIf (tNotI (sTru (sCall 1 F_is_cable (sCons (sVar 0) sNil)))) (sRaise "NoCable" (sCons (sC (.str "not a cable")) sNil)) sNop)
noncomputable def F_need_cable : List D → Sto → Res D := fnOf 1 1 (b_need_cable)
def N_read_lengths : List Str := ["rows", "lengths", "at", "row", "length"]
noncomputable def b_read_lengths : Sms := (sSeq (sSet 1 (sLstM sNil)) (sSeq (sForE1 (bTup [2, 3]) (sCons (sVar 0) sNil) (sSeq (sSet 4 (sCall 1 F_read_length (sCons (sVar 3) sNil))) (sSeq (sIf (tOrI (sTest (s2 oIs (sVar 4) (sC .non))) (sTest (s2 oGt (sVar 2) (sC (.int 12))))) sNever sNop) (sExp (sApp (sVar 1) (sVar 4)))))) (sRet (sBs oTuple (sCons (sVar 1) sNil)))))
noncomputable def F_read_lengths : List D → Sto → Res D := fnOf 1 5 (b_read_lengths)
def N_show_cable : List Str := ["cable", "rows", "steps", "each"]
noncomputable def b_show_cable : Sms := (sSeq (sExp (sCall 1 F_need_cable (sCons (sVar 0) sNil))) (sSeq (sSet 1 (sLstM (sCons (sJ Str.empty [(sC (.str "back ")), (sFmt (sCall 1 F_show_fraction (sCons (sIx (sVar 0) (sC (.int 1))) sNil)))]) sNil))) (sSeq (sFor (bTup [2, 3]) (sIx (sVar 0) (sC (.int 0))) (sExp (sApp (sVar 1) (sJ Str.empty [(sFmt (sVar 2)), (sC (.str " x ")), (sFmt (sCall 1 F_show_fraction (sCons (sVar 3) sNil)))])))) (sRet (sMS oJoin (sC (.str "\n")) (sCons (sFz (sVar 1)) sNil))))))
noncomputable def F_show_cable : List D → Sto → Res D := fnOf 1 4 (b_show_cable)
def N_read_cable : List Str := ["text", "rows", "back"]
noncomputable def b_read_cable : Sms := (sSeq (sIf (tNotI (sTru (s1 (oIsiB "str") (sVar 0)))) sNever sNop) (sSeq (sSet 1 (sMS oSplit (sVar 0) (sCons (sC (.str "\n")) sNil))) (sSeq (sSet 2 (sCall 1 F_read_back (sCons (sIx (sVar 1) (sC (.int 0))) sNil))) (sSeq (sIf (sTest (s2 oIs (sVar 2) (sC .non))) sNever sNop) (sSeq (sIf (sTest (s2 oEq (sBs oLen (sCons (sVar 1) sNil)) (sC (.int 1)))) sNever sNop) (sRet (sTup (sCons (sCall 1 F_read_lengths (sCons (sSlX (sVar 1) (sPart (sC (.int 1))) sNoPart) sNil)) (sCons (sVar 2) sNil)))))))))
noncomputable def F_read_cable : List D → Sto → Res D := fnOf 1 3 (b_read_cable)
def N_l_pure : List Str := ["_law_thing", "_law_part"]
noncomputable def b_l_pure (Fr : List D → Sto → Res D) : Sms := (sSeq (sIf (sTru (s1 (oIsiB "tuple") (sVar 0))) (sRet (sBs oAll (sCons (sComp (Tgt.name 1) (sVar 0) sYes (sCall 1 Fr (sCons (sVar 1) sNil)) [1]) sNil))) sNop) (sRet (sCall 1 F_l_whole (sCons (sVar 0) sNil))))
noncomputable def R_l_pure : Nat → List D → Sto → Res D
  | 0 => fun _ _ => none
  | m + 1 => fnOf 1 2 (b_l_pure (R_l_pure m))
noncomputable def F_l_pure : List D → Sto → Res D := R_l_pure 8
def N_l_right : List Str := ["_law_cable_here", "_law_other", "_law_one", "_law_text_here", "_law_told"]
noncomputable def b_l_right : Sms := (sSeq (sFor (bName 2) (sLst (sCons (sVar 0) (sCons (sVar 1) (sCons (sVar 0) sNil)))) (sSeq (sSet 3 (sCall 1 F_show_cable (sCons (sVar 2) sNil))) (sSeq (sIf (tOrI (tNotI (sTru (s1 (oIsiB "str") (sVar 3)))) (sTest (s2 oNe (sVar 3) (sCall 1 F_l_text (sCons (sVar 2) sNil))))) (sRet (sC (.bl false))) sNop) (sSeq (sSet 4 (sCall 1 F_read_cable (sCons (sCall 1 F_l_text (sCons (sVar 2) sNil)) sNil))) (sIf (tOrI (tNotI (sTru (s1 (oIsiB "tuple") (sVar 4)))) (tOrI (tNotI (sTru (sCall 1 F_l_pure (sCons (sVar 4) sNil)))) (sTest (s2 oNe (sVar 4) (sVar 2))))) (sRet (sC (.bl false))) sNop))))) (sRet (s2 oEq (s2 oEq (sCall 1 F_show_cable (sCons (sVar 0) sNil)) (sCall 1 F_show_cable (sCons (sVar 1) sNil))) (s2 oEq (sVar 0) (sVar 1)))))
noncomputable def F_l_right : List D → Sto → Res D := fnOf 2 5 (b_l_right)
def N_law : List Str := ["_law_script", "_law_ahead", "_law_k", "_law_purse_here", "_law_cable_here"]
noncomputable def b_law : Sms := (sSeq (sSet 1 (sTup (sCons (s2 oAddX (s2 oMulX (sTup (sCons (sTup (sCons (sC (.int 1)) (sCons (sTup (sCons (sC (.int 1)) (sCons (sC (.int 1)) sNil))) sNil))) sNil)) (sC (.int 11))) (sTup (sCons (sTup (sCons (sC (.int 999)) (sCons (sTup (sCons (sC (.int 999)) (sCons (sC (.int 998)) sNil))) sNil))) sNil))) (sCons (sTup (sCons (sC (.int 999)) (sCons (sC (.int 998)) sNil))) sNil)))) (sSeq (sForR (bName 2) (sCons (sBs (fun _ => oMax) (sCons (sC (.int 2)) (sCons (sBs (fun _ => oMin) (sCons (sC (.int 8)) (sCons (sBs oLen (sCons (sVar 0) sNil)) sNil))) sNil))) sNil) (sSeq (sSet 3 (sCall 1 F_l_purse (sCons (sCall 2 F_l_cell (sCons (sVar 0) (sCons (sVar 2) sNil))) sNil))) (sSeq (sSet 4 (sCall 2 F_l_cable (sCons (sVar 3) (sCons (sIx (sLst (sCons (sC (.int 1)) (sCons (sC (.int 2)) (sCons (sC (.int 3)) (sCons (sC (.int 4)) (sCons (sC (.int 5)) (sCons (sIx (sLst (sCons (sC (.int 2)) (sCons (sC (.int 12)) sNil))) (sBs (fun _ => oInt) (sCons (s2 oLt (sVar 2) (sC (.int 2))) sNil))) (sCons (sIx (sLst (sCons (sC (.int 1)) (sCons (sC (.int 11)) sNil))) (sBs (fun _ => oInt) (sCons (s2 oLt (sVar 2) (sC (.int 2))) sNil))) (sCons (sC (.int 1)) sNil))))))))) (sCall 2 F_l_pick (sCons (sVar 3) (sCons (sC (.int 8)) sNil)))) sNil)))) (sSeq (sIf (tOrI (tNotI (sTru (sCall 2 F_l_right (sCons (sVar 4) (sCons (sVar 1) sNil))))) (tNotI (sTru (sCall 2 F_l_right (sCons (sVar 4) (sCons (sTup (sCons (sRev (sIx (sVar 4) (sC (.int 0)))) (sCons (sIx (sVar 4) (sC (.int 1))) sNil))) sNil)))))) (sRet (sC (.bl false))) sNop) (sSet 1 (sVar 4)))))) (sRet (sC (.bl true)))))
noncomputable def F_law : List D → Sto → Res D := fnOf 1 5 (b_law)
structure Tx (mg : Str → Option Value) (a : Ad) : Prop where
  F_is_whole : Fun a.K "is_whole" "is_whole" s_is_whole a.f_is_whole a.fd_is_whole
  m_is_whole : mg "is_whole" = some (.ref a.f_is_whole)
  b_is_whole : Binds a.K a.fd_is_whole ["x"] []
  F_is_tuple_of : Fun a.K "is_tuple_of" "is_tuple_of" s_is_tuple_of a.f_is_tuple_of a.fd_is_tuple_of
  m_is_tuple_of : mg "is_tuple_of" = some (.ref a.f_is_tuple_of)
  b_is_tuple_of : Binds a.K a.fd_is_tuple_of ["x", "many"] []
  F_common_divisor : Fun a.K "common_divisor" "common_divisor" s_common_divisor a.f_common_divisor a.fd_common_divisor
  m_common_divisor : mg "common_divisor" = some (.ref a.f_common_divisor)
  b_common_divisor : Binds a.K a.fd_common_divisor ["one", "other"] []
  F_is_small : Fun a.K "is_small" "is_small" s_is_small a.f_is_small a.fd_is_small
  m_is_small : mg "is_small" = some (.ref a.f_is_small)
  b_is_small : Binds a.K a.fd_is_small ["x"] []
  F_show_fraction : Fun a.K "show_fraction" "show_fraction" s_show_fraction a.f_show_fraction a.fd_show_fraction
  m_show_fraction : mg "show_fraction" = some (.ref a.f_show_fraction)
  b_show_fraction : Binds a.K a.fd_show_fraction ["x"] []
  F_read_number : Fun a.K "read_number" "read_number" s_read_number a.f_read_number a.fd_read_number
  m_read_number : mg "read_number" = some (.ref a.f_read_number)
  b_read_number : Binds a.K a.fd_read_number ["word", "most"] []
  F_l_cell : Fun a.K "_law_cell" "_law_cell" s_l_cell a.f_l_cell a.fd_l_cell
  m_l_cell : mg "_law_cell" = some (.ref a.f_l_cell)
  b_l_cell : Binds a.K a.fd_l_cell ["_law_script", "_law_k"] []
  F_l_purse : Fun a.K "_law_purse" "_law_purse" s_l_purse a.f_l_purse a.fd_l_purse
  m_l_purse : mg "_law_purse" = some (.ref a.f_l_purse)
  b_l_purse : Binds a.K a.fd_l_purse ["_law_cell_here"] []
  F_l_pick : Fun a.K "_law_pick" "_law_pick" s_l_pick a.f_l_pick a.fd_l_pick
  m_l_pick : mg "_law_pick" = some (.ref a.f_l_pick)
  b_l_pick : Binds a.K a.fd_l_pick ["_law_purse_here", "_law_many"] []
  F_l_whole : Fun a.K "_law_whole" "_law_whole" s_l_whole a.f_l_whole a.fd_l_whole
  m_l_whole : mg "_law_whole" = some (.ref a.f_l_whole)
  b_l_whole : Binds a.K a.fd_l_whole ["_law_thing"] []
  F_l_low : Fun a.K "_law_low" "_law_low" s_l_low a.f_l_low a.fd_l_low
  m_l_low : mg "_law_low" = some (.ref a.f_l_low)
  b_l_low : Binds a.K a.fd_l_low ["_law_top", "_law_bottom"] []
  F_l_fraction_text : Fun a.K "_law_fraction_text" "_law_fraction_text" s_l_fraction_text a.f_l_fraction_text a.fd_l_fraction_text
  m_l_fraction_text : mg "_law_fraction_text" = some (.ref a.f_l_fraction_text)
  b_l_fraction_text : Binds a.K a.fd_l_fraction_text ["_law_a"] []
  F_is_fraction : Fun a.K "is_fraction" "is_fraction" s_is_fraction a.f_is_fraction a.fd_is_fraction
  m_is_fraction : mg "is_fraction" = some (.ref a.f_is_fraction)
  b_is_fraction : Binds a.K a.fd_is_fraction ["x"] []
  F_l_text : Fun a.K "_law_text" "_law_text" s_l_text a.f_l_text a.fd_l_text
  m_l_text : mg "_law_text" = some (.ref a.f_l_text)
  b_l_text : Binds a.K a.fd_l_text ["_law_cable_here"] []
  F_l_small : Fun a.K "_law_small" "_law_small" s_l_small a.f_l_small a.fd_l_small
  m_l_small : mg "_law_small" = some (.ref a.f_l_small)
  b_l_small : Binds a.K a.fd_l_small ["_law_purse_here", "_law_least"] []
  F_is_from_zero : Fun a.K "is_from_zero" "is_from_zero" s_is_from_zero a.f_is_from_zero a.fd_is_from_zero
  m_is_from_zero : mg "is_from_zero" = some (.ref a.f_is_from_zero)
  b_is_from_zero : Binds a.K a.fd_is_from_zero ["x"] []
  F_is_above_zero : Fun a.K "is_above_zero" "is_above_zero" s_is_above_zero a.f_is_above_zero a.fd_is_above_zero
  m_is_above_zero : mg "is_above_zero" = some (.ref a.f_is_above_zero)
  b_is_above_zero : Binds a.K a.fd_is_above_zero ["x"] []
  F_read_fraction : Fun a.K "read_fraction" "read_fraction" s_read_fraction a.f_read_fraction a.fd_read_fraction
  m_read_fraction : mg "read_fraction" = some (.ref a.f_read_fraction)
  b_read_fraction : Binds a.K a.fd_read_fraction ["word", "most"] []
  F_l_cable : Fun a.K "_law_cable" "_law_cable" s_l_cable a.f_l_cable a.fd_l_cable
  m_l_cable : mg "_law_cable" = some (.ref a.f_l_cable)
  b_l_cable : Binds a.K a.fd_l_cable ["_law_purse_here", "_law_many"] []
  F_is_length : Fun a.K "is_length" "is_length" s_is_length a.f_is_length a.fd_is_length
  m_is_length : mg "is_length" = some (.ref a.f_is_length)
  b_is_length : Binds a.K a.fd_is_length ["x"] []
  F_is_back : Fun a.K "is_back" "is_back" s_is_back a.f_is_back a.fd_is_back
  m_is_back : mg "is_back" = some (.ref a.f_is_back)
  b_is_back : Binds a.K a.fd_is_back ["x"] []
  F_is_cable : Fun a.K "is_cable" "is_cable" s_is_cable a.f_is_cable a.fd_is_cable
  m_is_cable : mg "is_cable" = some (.ref a.f_is_cable)
  b_is_cable : Binds a.K a.fd_is_cable ["x"] []
  F_read_back : Fun a.K "read_back" "read_back" s_read_back a.f_read_back a.fd_read_back
  m_read_back : mg "read_back" = some (.ref a.f_read_back)
  b_read_back : Binds a.K a.fd_read_back ["row"] []
  F_read_length : Fun a.K "read_length" "read_length" s_read_length a.f_read_length a.fd_read_length
  m_read_length : mg "read_length" = some (.ref a.f_read_length)
  b_read_length : Binds a.K a.fd_read_length ["row"] []
  F_need_cable : Fun a.K "need_cable" "need_cable" s_need_cable a.f_need_cable a.fd_need_cable
  m_need_cable : mg "need_cable" = some (.ref a.f_need_cable)
  b_need_cable : Binds a.K a.fd_need_cable ["cable"] []
  F_read_lengths : Fun a.K "read_lengths" "read_lengths" s_read_lengths a.f_read_lengths a.fd_read_lengths
  m_read_lengths : mg "read_lengths" = some (.ref a.f_read_lengths)
  b_read_lengths : Binds a.K a.fd_read_lengths ["rows"] []
  F_show_cable : Fun a.K "show_cable" "show_cable" s_show_cable a.f_show_cable a.fd_show_cable
  m_show_cable : mg "show_cable" = some (.ref a.f_show_cable)
  b_show_cable : Binds a.K a.fd_show_cable ["cable"] []
  F_read_cable : Fun a.K "read_cable" "read_cable" s_read_cable a.f_read_cable a.fd_read_cable
  m_read_cable : mg "read_cable" = some (.ref a.f_read_cable)
  b_read_cable : Binds a.K a.fd_read_cable ["text"] []
  F_l_pure : Fun a.K "_law_pure" "_law_pure" s_l_pure a.f_l_pure a.fd_l_pure
  m_l_pure : mg "_law_pure" = some (.ref a.f_l_pure)
  b_l_pure : Binds a.K a.fd_l_pure ["_law_thing"] []
  F_l_right : Fun a.K "_law_right" "_law_right" s_l_right a.f_l_right a.fd_l_right
  m_l_right : mg "_law_right" = some (.ref a.f_l_right)
  b_l_right : Binds a.K a.fd_l_right ["_law_cable_here", "_law_other"] []
  F_law : Fun a.K "law" "law" s_law a.f_law a.fd_law
  m_law : mg "law" = some (.ref a.f_law)
  b_law : Binds a.K a.fd_law ["_law_script"] []
  n_abs : mg "abs" = none
  n_all : mg "all" = none
  n_any : mg "any" = none
  n_bool : mg "bool" = none
  n_enumerate : mg "enumerate" = none
  n_int : mg "int" = none
  n_isinstance : mg "isinstance" = none
  n_len : mg "len" = none
  n_max : mg "max" = none
  n_min : mg "min" = none
  n_range : mg "range" = none
  n_str : mg "str" = none
  n_tuple : mg "tuple" = none
  k_MOST_LENGTHS : ∃ t, mg "MOST_LENGTHS" = some (.int 12 t)
  k_MOST_NUMBER : ∃ t, mg "MOST_NUMBER" = some (.int 999 t)
  k_MOST_FIGURES : ∃ t, mg "MOST_FIGURES" = some (.int 3 t)
  k_FIGURES : ∃ t, mg "FIGURES" = some (.str "0123456789" t)
  c_EarthError : mg "EarthError" = some (.ref a.c_EarthError)
  tv_EarthError : (gx a).tyv "EarthError" = some (.ref a.c_EarthError)
  c_NoCable : mg "NoCable" = some (.ref a.c_NoCable)
  tv_NoCable : (gx a).tyv "NoCable" = some (.ref a.c_NoCable)
  c_NoText : mg "NoText" = some (.ref a.c_NoText)
  tv_NoText : (gx a).tyv "NoText" = some (.ref a.c_NoText)
  tv_ValueError : (gx a).tyv "ValueError" = some (.type "ValueError")
  x_NoCable : XCls a.K a.c_NoCable
  cl_NoCable : (gx a).cls "NoCable" = some a.c_NoCable
  gok : GXok (gx a)
section
variable {P : Program} {w : World} {mg : Str → Option Value} {base : Heap} {a : Ad}
theorem pass_E00 {X : Cx} : Passes (CXe P w) X E00 := pass_E0
theorem sc_is_whole : FnScope N_is_whole ["x"] (defScope s_is_whole) := ⟨rfl, rfl, rfl, by decide +kernel, rfl, by decide +kernel, by decide +kernel⟩
theorem ok_is_whole (T : Tx mg a) : FnOk P w a.K mg base (CXe P w) 1 a.f_is_whole a.fd_is_whole ["x"] (spF (gx a) 1 (F_is_whole)) := by
  refine fn_I (g := gx a) (N := N_is_whole) (body := b_is_whole) T.F_is_whole sc_is_whole fun cdv A outer s H E hr => ?_
  have hu := hr.units
  refine is_one ?_
  refine is_ret ?_
  refine i_and ?_ ?_
  refine j_isiB (T := "int") rfl rfl T.n_isinstance rfl T.n_int bb_int ?_
  exact i_var 0 (pv 0)
  refine i_one ?_
  refine i_not ?_
  refine j_isiB (T := "bool") rfl rfl T.n_isinstance rfl T.n_bool bb_bool ?_
  exact i_var 0 (pv 0)
theorem sc_is_tuple_of : FnScope N_is_tuple_of ["x", "many"] (defScope s_is_tuple_of) := ⟨rfl, rfl, rfl, by decide +kernel, rfl, by decide +kernel, by decide +kernel⟩
theorem ok_is_tuple_of (T : Tx mg a) : FnOk P w a.K mg base (CXe P w) 1 a.f_is_tuple_of a.fd_is_tuple_of ["x", "many"] (spF (gx a) 2 (F_is_tuple_of)) := by
  refine fn_I (g := gx a) (N := N_is_tuple_of) (body := b_is_tuple_of) T.F_is_tuple_of sc_is_tuple_of fun cdv A outer s H E hr => ?_
  have hu := hr.units
  refine is_one ?_
  refine is_ret ?_
  refine i_and ?_ ?_
  refine j_isiB (T := "tuple") rfl rfl T.n_isinstance rfl T.n_tuple bb_tuple ?_
  exact i_var 0 (pv 0)
  refine i_one ?_
  refine i_cmp (r_eq rfl hu) ?_ ?_ (nomark _)
  refine j_bltnS (c_len rfl) rfl T.n_len bb_len ?_
  refine ja_cons ?_ ?_
  exact i_var 0 (pv 0)
  exact ia_nil
  exact i_var 1 (pv 1)
theorem sc_common_divisor : FnScope N_common_divisor ["one", "other"] (defScope s_common_divisor) := ⟨rfl, rfl, rfl, by decide +kernel, rfl, by decide +kernel, by decide +kernel⟩
theorem ok_common_divisor (T : Tx mg a) : FnOk P w a.K mg base (CXe P w) 1 a.f_common_divisor a.fd_common_divisor ["one", "other"] (spF (gx a) 2 (F_common_divisor)) := by
  refine fn_I (g := gx a) (N := N_common_divisor) (body := b_common_divisor) T.F_common_divisor sc_common_divisor fun cdv A outer s H E hr => ?_
  have hu := hr.units
  refine is_cons ?_ ?_
  · refine is_while own_def ?_ ?_
    refine i_cmpT (r_ne rfl hu) ?_ ?_ (nomark _)
    exact i_var 1 (pv 1)
    exact i_int
    refine is_one ?_
    refine is_par (i := 0) (j := 1) rfl sc_common_divisor.nd rfl rfl (by decide) rfl rfl ?_ rfl
    refine ja_cons ?_ ?_
    exact i_var 1 (pv 1)
    refine ja_cons ?_ ?_
    refine i_bin r_mod ?_ ?_
    exact i_var 0 (pv 0)
    exact i_var 1 (pv 1)
    exact ia_nil
  refine is_one ?_
  refine is_ret ?_
  refine j_bltnS c_abs rfl T.n_abs bb_abs ?_
  refine ja_cons ?_ ?_
  exact i_var 0 (pv 0)
  exact ia_nil
theorem sc_is_small : FnScope N_is_small ["x"] (defScope s_is_small) := ⟨rfl, rfl, rfl, by decide +kernel, rfl, by decide +kernel, by decide +kernel⟩
theorem ok_is_small (T : Tx mg a) : FnOk P w a.K mg base (CXe P w) 1 a.f_is_small a.fd_is_small ["x"] (spF (gx a) 1 (F_is_small)) := by
  refine fn_I (g := gx a) (N := N_is_small) (body := b_is_small) T.F_is_small sc_is_small fun cdv A outer s H E hr => ?_
  have hu := hr.units
  refine is_one ?_
  refine is_ret ?_
  refine i_and ?_ ?_
  refine i_cmp r_le ?_ ?_ (nomark _)
  refine j_ix (hK := ?xK1) (ha := ?xa1) (hb := ?xb1) (hs := ?xs1)
  case xK1 => rfl
  case xs1 => rfl
  exact i_var 0 (pv 0)
  exact i_int
  exact i_con (pe_glob (v := .int 999) rfl T.k_MOST_NUMBER.choose_spec ⟨_, rfl⟩) fun _ _ => .int _
  refine i_one ?_
  refine i_cmp r_le ?_ ?_ (nomark _)
  refine j_ix (hK := ?xK2) (ha := ?xa2) (hb := ?xb2) (hs := ?xs2)
  case xK2 => rfl
  case xs2 => rfl
  exact i_var 0 (pv 0)
  exact i_int
  exact i_con (pe_glob (v := .int 999) rfl T.k_MOST_NUMBER.choose_spec ⟨_, rfl⟩) fun _ _ => .int _
theorem sc_show_fraction : FnScope N_show_fraction ["x"] (defScope s_show_fraction) := ⟨rfl, rfl, rfl, by decide +kernel, rfl, by decide +kernel, by decide +kernel⟩
theorem ok_show_fraction (T : Tx mg a) : FnOk P w a.K mg base (CXe P w) 1 a.f_show_fraction a.fd_show_fraction ["x"] (spF (gx a) 1 (F_show_fraction)) := by
  refine fn_I (g := gx a) (N := N_show_fraction) (body := b_show_fraction) T.F_show_fraction sc_show_fraction fun cdv A outer s H E hr => ?_
  have hu := hr.units
  refine is_one ?_
  refine is_ret ?_
  refine i_if ?_ ?_ ?_
  refine i_cmpT (r_eq rfl hu) ?_ ?_ (nomark _)
  refine j_ix (hK := ?xK3) (ha := ?xa3) (hb := ?xb3) (hs := ?xs3)
  case xK3 => rfl
  case xs3 => rfl
  exact i_var 0 (pv 0)
  exact i_int
  exact i_int
  refine i_fstr1 ?_
  refine i_fmt ?_
  refine j_ix (hK := ?xK4) (ha := ?xa4) (hb := ?xb4) (hs := ?xs4)
  case xK4 => rfl
  case xs4 => rfl
  exact i_var 0 (pv 0)
  exact i_int
  exact i_fstr (PIs.cons (i_fmt (j_ix rfl (i_var 0 (pv 0)) i_int)) (PIs.cons i_str (PIs.cons (i_fmt (j_ix rfl (i_var 0 (pv 0)) i_int)) PIs.nil)))
theorem sc_read_number : FnScope N_read_number ["word", "most"] (defScope s_read_number) := ⟨rfl, rfl, rfl, by decide +kernel, rfl, by decide +kernel, by decide +kernel⟩
theorem ok_read_number (T : Tx mg a) : FnOk P w a.K mg base (CXe P w) 1 a.f_read_number a.fd_read_number ["word", "most"] (spF (gx a) 2 (F_read_number)) := by
  refine fn_I (g := gx a) (N := N_read_number) (body := b_read_number) T.F_read_number sc_read_number fun cdv A outer s H E hr => ?_
  have hu := hr.units
  refine is_cons ?_ ?_
  · refine is_if ?_ ?_ ?_
    refine PW.pt ?_
    refine it_or ?_ ?_
    refine it_not ?_
    refine i_chainT r_le r_le ?_ ?_ ?_
    exact i_int
    refine j_bltnS (c_len rfl) rfl T.n_len bb_len ?_
    refine ja_cons ?_ ?_
    exact i_var 0 (pv 0)
    exact ia_nil
    exact i_var 1 (pv 1)
    refine it_oneO ?_
    refine j_tru rfl ?_
    refine j_bltnS (c_any rfl) rfl T.n_any bb_any ?_
    refine ja_cons ?_ ?_
    refine j_compS (T := (Tgt.name 2)) (own := [("sign", 2)]) rfl rfl sc_read_number.nd ?_ (blkOk_by (own := [("sign", 2)]) (N := N_read_number) (sc := defScope s_read_number) (by decide +kernel)) rfl (show (2 : Nat) ∈ ([2] : List Nat) from by decide) (fun _ _ _ _ _ => pg_name (i := 2) sc_read_number.nd rfl (Or.inl rfl)) (fun _ _ _ _ _ => its_nil) (fun _ _ _ _ _ => (i_cmp r_signNotIn (i_var 2 (pv 2)) (i_con (pe_glob (v := .str "0123456789") rfl T.k_FIGURES.choose_spec ⟨_, rfl⟩) fun _ _ => .str _) rfl))
    exact i_var 0 (pv 0)
    exact ia_nil
    refine is_one ?_
    refine is_ret ?_
    exact i_non
    exact is_nil
  refine is_cons ?_ ?_
  · refine is_if ?_ ?_ ?_
    refine PW.pt ?_
    refine it_and ?_ ?_
    refine j_tru rfl ?_
    refine j_methS PySem.F.slot_str_startswith PySem.F.type_str_startswith m_startswith ?_ ?_
    exact i_var 0 (pv 0)
    refine ja_cons ?_ ?_
    exact i_str
    exact ia_nil
    refine it_one ?_
    refine i_cmpT (r_ne rfl hu) ?_ ?_ (nomark _)
    exact i_var 0 (pv 0)
    exact i_str
    refine is_one ?_
    refine is_ret ?_
    exact i_non
    exact is_nil
  refine is_one ?_
  refine is_ret ?_
  refine j_typeS c_intT rfl T.n_int bb_int ?_
  refine ja_cons ?_ ?_
  exact i_var 0 (pv 0)
  exact ia_nil
theorem sc_l_cell : FnScope N_l_cell ["_law_script", "_law_k"] (defScope s_l_cell) := ⟨rfl, rfl, rfl, by decide +kernel, rfl, by decide +kernel, by decide +kernel⟩
theorem ok_l_cell (T : Tx mg a) : FnOk P w a.K mg base (CXe P w) 1 a.f_l_cell a.fd_l_cell ["_law_script", "_law_k"] (spF (gx a) 2 (F_l_cell)) := by
  refine fn_I (g := gx a) (N := N_l_cell) (body := b_l_cell) T.F_l_cell sc_l_cell fun cdv A outer s H E hr => ?_
  have hu := hr.units
  refine is_cons ?_ ?_
  · refine is_if ?_ ?_ ?_
    refine i_cmpT r_lt ?_ ?_ (nomark _)
    exact i_var 1 (pv 1)
    refine j_bltnS (c_len rfl) rfl T.n_len bb_len ?_
    refine ja_cons ?_ ?_
    exact i_var 0 (pv 0)
    exact ia_nil
    refine is_one ?_
    refine is_ret ?_
    refine j_ix (hK := ?xK5) (ha := ?xa5) (hb := ?xb5) (hs := ?xs5)
    case xK5 => rfl
    case xs5 => rfl
    exact i_var 0 (pv 0)
    exact i_var 1 (pv 1)
    exact is_nil
  refine is_cons ?_ ?_
  · refine js_set (i := 2) (hN := ?hN1) (hi := ?hi1) (hx := ?hx1) (ha := ?ha1) (hs := ?hs1) (hf := ?hf1)
    case hN1 => exact sc_l_cell.nd
    case hi1 => exact rfl
    case hx1 => first | exact Or.inl rfl | exact Or.inr rfl
    case hs1 => rfl
    case hf1 => first | exact Or.inl rfl | exact Or.inr rfl | assumption
    refine i_bin r_mod ?_ ?_
    refine i_bin r_mul ?_ ?_
    exact i_int
    refine i_bin (r_add rfl) ?_ ?_
    refine i_bin (r_add rfl) ?_ ?_
    refine i_bin r_mul ?_ ?_
    exact i_var 1 (pv 1)
    exact i_var 1 (pv 1)
    refine i_bin r_mul ?_ ?_
    exact i_int
    exact i_var 1 (pv 1)
    exact i_int
    exact i_int
  refine is_cons ?_ ?_
  · refine js_for rfl own_def rfl ?_ ?_ ?_
    refine i_slX rfl ?_ ?_ ?_
    exact i_var 0 (pv 0)
    exact io_none
    refine io_some ?_
    exact i_int
    exact ig_name (pg_name (i := 3) sc_l_cell.nd rfl (by first | exact Or.inl rfl | exact Or.inr rfl))
    refine is_one ?_
    refine js_set (i := 2) (hN := ?hN2) (hi := ?hi2) (hx := ?hx2) (ha := ?ha2) (hs := ?hs2) (hf := ?hf2)
    case hN2 => exact sc_l_cell.nd
    case hi2 => exact rfl
    case hx2 => first | exact Or.inl rfl | exact Or.inr rfl
    case hs2 => rfl
    case hf2 => first | exact Or.inl rfl | exact Or.inr rfl | assumption
    refine i_bin r_mod ?_ ?_
    refine i_bin (r_add rfl) ?_ ?_
    refine i_bin r_mul ?_ ?_
    exact i_var 2 (pv 2)
    exact i_int
    exact i_var 3 (pv 3)
    exact i_int
  refine is_one ?_
  refine is_ret ?_
  exact i_var 2 (pv 2)
theorem sc_l_purse : FnScope N_l_purse ["_law_cell_here"] (defScope s_l_purse) := ⟨rfl, rfl, rfl, by decide +kernel, rfl, by decide +kernel, by decide +kernel⟩
theorem ok_l_purse (T : Tx mg a) : FnOk P w a.K mg base (CXe P w) 1 a.f_l_purse a.fd_l_purse ["_law_cell_here"] (spF (gx a) 1 (F_l_purse)) := by
  refine fn_I (g := gx a) (N := N_l_purse) (body := b_l_purse) T.F_l_purse sc_l_purse fun cdv A outer s H E hr => ?_
  have hu := hr.units
  refine is_one ?_
  refine is_ret ?_
  refine i_lstM ?_
  refine ja_cons ?_ ?_
  refine i_bin (r_add rfl) ?_ ?_
  refine i_bin r_mul ?_ ?_
  refine i_bin r_mod ?_ ?_
  exact i_var 0 (pv 0)
  exact i_int
  exact i_int
  exact i_int
  refine ja_cons ?_ ?_
  refine j_ix (hK := ?xK6) (ha := ?xa6) (hb := ?xb6) (hs := ?xs6)
  case xK6 => rfl
  case xs6 => rfl
  refine i_lst ?_
  refine ja_cons ?_ ?_
  exact i_int
  refine ja_cons ?_ ?_
  exact i_var 0 (pv 0)
  exact ia_nil
  refine j_typeS c_int rfl T.n_int bb_int ?_
  refine ja_cons ?_ ?_
  refine i_cmp r_ge ?_ ?_ (nomark _)
  exact i_var 0 (pv 0)
  refine i_bin r_pow ?_ ?_
  exact i_int
  exact i_int
  exact ia_nil
  refine ja_cons ?_ ?_
  exact i_int
  exact ia_nil
theorem sc_l_pick : FnScope N_l_pick ["_law_purse_here", "_law_many"] (defScope s_l_pick) := ⟨rfl, rfl, rfl, by decide +kernel, rfl, by decide +kernel, by decide +kernel⟩
theorem ok_l_pick (T : Tx mg a) : FnOk P w a.K mg base (CXe P w) 1 a.f_l_pick a.fd_l_pick ["_law_purse_here", "_law_many"] (spF (gx a) 2 (F_l_pick)) := by
  refine fn_I (g := gx a) (N := N_l_pick) (body := b_l_pick) T.F_l_pick sc_l_pick fun cdv A outer s H E hr => ?_
  have hu := hr.units
  refine is_cons ?_ ?_
  · refine js_put ?_ ?_ ?_
    refine i_bin (r_add rfl) ?_ ?_
    refine j_ix (hK := ?xK7) (ha := ?xa7) (hb := ?xb7) (hs := ?xs7)
    case xK7 => rfl
    case xs7 => rfl
    exact i_var 0 (pv 0)
    exact i_int
    exact i_int
    exact i_var 0 (pv 0)
    exact i_int
  refine is_cons ?_ ?_
  · refine js_set (i := 2) (hN := ?hN3) (hi := ?hi3) (hx := ?hx3) (ha := ?ha3) (hs := ?hs3) (hf := ?hf3)
    case hN3 => exact sc_l_pick.nd
    case hi3 => exact rfl
    case hx3 => first | exact Or.inl rfl | exact Or.inr rfl
    case hs3 => rfl
    case hf3 => first | exact Or.inl rfl | exact Or.inr rfl | assumption
    refine i_bin r_mod ?_ ?_
    refine j_ix (hK := ?xK8) (ha := ?xa8) (hb := ?xb8) (hs := ?xs8)
    case xK8 => rfl
    case xs8 => rfl
    exact i_var 0 (pv 0)
    exact i_int
    exact i_int
  refine is_cons ?_ ?_
  · refine js_put ?_ ?_ ?_
    refine i_bin (r_add rfl) ?_ ?_
    refine i_bin r_mul ?_ ?_
    exact i_var 2 (pv 2)
    refine i_bin (r_add rfl) ?_ ?_
    refine i_bin r_mod ?_ ?_
    exact i_var 2 (pv 2)
    exact i_int
    exact i_int
    refine i_bin r_mul ?_ ?_
    exact i_int
    refine j_ix (hK := ?xK9) (ha := ?xa9) (hb := ?xb9) (hs := ?xs9)
    case xK9 => rfl
    case xs9 => rfl
    exact i_var 0 (pv 0)
    exact i_int
    exact i_var 0 (pv 0)
    exact i_int
  refine is_cons ?_ ?_
  · refine is_if ?_ ?_ ?_
    refine i_cmpT r_gt ?_ ?_ (nomark _)
    refine j_ix (hK := ?xK10) (ha := ?xa10) (hb := ?xb10) (hs := ?xs10)
    case xK10 => rfl
    case xs10 => rfl
    exact i_var 0 (pv 0)
    exact i_int
    exact i_int
    · refine is_cons ?_ ?_
      · refine js_set (i := 3) (hN := ?hN4) (hi := ?hi4) (hx := ?hx4) (ha := ?ha4) (hs := ?hs4) (hf := ?hf4)
        case hN4 => exact sc_l_pick.nd
        case hi4 => exact rfl
        case hx4 => first | exact Or.inl rfl | exact Or.inr rfl
        case hs4 => rfl
        case hf4 => first | exact Or.inl rfl | exact Or.inr rfl | assumption
        refine i_bin r_mod ?_ ?_
        refine j_ix (hK := ?xK11) (ha := ?xa11) (hb := ?xb11) (hs := ?xs11)
        case xK11 => rfl
        case xs11 => rfl
        exact i_var 0 (pv 0)
        exact i_int
        exact i_var 1 (pv 1)
      refine is_cons ?_ ?_
      · refine js_put ?_ ?_ ?_
        refine i_bin r_div ?_ ?_
        refine j_ix (hK := ?xK12) (ha := ?xa12) (hb := ?xb12) (hs := ?xs12)
        case xK12 => rfl
        case xs12 => rfl
        exact i_var 0 (pv 0)
        exact i_int
        exact i_var 1 (pv 1)
        exact i_var 0 (pv 0)
        exact i_int
      refine is_one ?_
      refine is_ret ?_
      exact i_var 3 (pv 3)
    · exact is_nil
  refine is_one ?_
  refine is_ret ?_
  refine i_bin r_mod ?_ ?_
  refine i_bin r_div ?_ ?_
  refine i_bin r_mod ?_ ?_
  refine j_ix (hK := ?xK13) (ha := ?xa13) (hb := ?xb13) (hs := ?xs13)
  case xK13 => rfl
  case xs13 => rfl
  exact i_var 0 (pv 0)
  exact i_int
  exact i_int
  exact i_int
  exact i_var 1 (pv 1)
theorem sc_l_whole : FnScope N_l_whole ["_law_thing"] (defScope s_l_whole) := ⟨rfl, rfl, rfl, by decide +kernel, rfl, by decide +kernel, by decide +kernel⟩
theorem ok_l_whole (T : Tx mg a) : FnOk P w a.K mg base (CXe P w) 1 a.f_l_whole a.fd_l_whole ["_law_thing"] (spF (gx a) 1 (F_l_whole)) := by
  refine fn_I (g := gx a) (N := N_l_whole) (body := b_l_whole) T.F_l_whole sc_l_whole fun cdv A outer s H E hr => ?_
  have hu := hr.units
  refine is_one ?_
  refine is_ret ?_
  refine i_and ?_ ?_
  refine j_isiB (T := "int") rfl rfl T.n_isinstance rfl T.n_int bb_int ?_
  exact i_var 0 (pv 0)
  refine i_one ?_
  refine i_not ?_
  refine j_isiB (T := "bool") rfl rfl T.n_isinstance rfl T.n_bool bb_bool ?_
  exact i_var 0 (pv 0)
theorem sc_l_low : FnScope N_l_low ["_law_top", "_law_bottom"] (defScope s_l_low) := ⟨rfl, rfl, rfl, by decide +kernel, rfl, by decide +kernel, by decide +kernel⟩
theorem ok_l_low (T : Tx mg a) : FnOk P w a.K mg base (CXe P w) 1 a.f_l_low a.fd_l_low ["_law_top", "_law_bottom"] (spF (gx a) 2 (F_l_low)) := by
  refine fn_I (g := gx a) (N := N_l_low) (body := b_l_low) T.F_l_low sc_l_low fun cdv A outer s H E hr => ?_
  have hu := hr.units
  refine is_cons ?_ ?_
  · refine is_if ?_ ?_ ?_
    refine i_cmpT r_lt ?_ ?_ (nomark _)
    exact i_var 1 (pv 1)
    exact i_int
    · refine is_one ?_
      refine is_par (i := 0) (j := 1) rfl sc_l_low.nd rfl rfl (by decide) rfl rfl ?_ rfl
      refine ja_cons ?_ ?_
      refine i_bin r_sub ?_ ?_
      exact i_int
      exact i_var 0 (pv 0)
      refine ja_cons ?_ ?_
      refine i_bin r_sub ?_ ?_
      exact i_int
      exact i_var 1 (pv 1)
      exact ia_nil
    · exact is_nil
  refine is_cons ?_ ?_
  · refine is_par (i := 2) (j := 3) rfl sc_l_low.nd rfl rfl (by decide) rfl rfl ?_ rfl
    refine ja_cons ?_ ?_
    refine j_bltnS c_abs rfl T.n_abs bb_abs ?_
    refine ja_cons ?_ ?_
    exact i_var 0 (pv 0)
    exact ia_nil
    refine ja_cons ?_ ?_
    exact i_var 1 (pv 1)
    exact ia_nil
  refine is_cons ?_ ?_
  · refine is_while own_def ?_ ?_
    refine i_cmpT r_gt ?_ ?_ (nomark _)
    exact i_var 3 (pv 3)
    exact i_int
    refine is_one ?_
    refine is_par (i := 2) (j := 3) rfl sc_l_low.nd rfl rfl (by decide) rfl rfl ?_ rfl
    refine ja_cons ?_ ?_
    exact i_var 3 (pv 3)
    refine ja_cons ?_ ?_
    refine i_bin r_mod ?_ ?_
    exact i_var 2 (pv 2)
    exact i_var 3 (pv 3)
    exact ia_nil
  refine is_one ?_
  refine is_ret ?_
  refine i_tup ?_
  refine ja_cons ?_ ?_
  refine i_bin r_div ?_ ?_
  exact i_var 0 (pv 0)
  exact i_var 2 (pv 2)
  refine ja_cons ?_ ?_
  refine i_bin r_div ?_ ?_
  exact i_var 1 (pv 1)
  exact i_var 2 (pv 2)
  exact ia_nil
theorem sc_l_fraction_text : FnScope N_l_fraction_text ["_law_a"] (defScope s_l_fraction_text) := ⟨rfl, rfl, rfl, by decide +kernel, rfl, by decide +kernel, by decide +kernel⟩
theorem ok_l_fraction_text (T : Tx mg a) : FnOk P w a.K mg base (CXe P w) 1 a.f_l_fraction_text a.fd_l_fraction_text ["_law_a"] (spF (gx a) 1 (F_l_fraction_text)) := by
  refine fn_I (g := gx a) (N := N_l_fraction_text) (body := b_l_fraction_text) T.F_l_fraction_text sc_l_fraction_text fun cdv A outer s H E hr => ?_
  have hu := hr.units
  refine is_one ?_
  refine is_ret ?_
  refine i_bin (r_add rfl) ?_ ?_
  refine j_typeS c_str rfl T.n_str bb_str ?_
  refine ja_cons ?_ ?_
  refine j_ix (hK := ?xK14) (ha := ?xa14) (hb := ?xb14) (hs := ?xs14)
  case xK14 => rfl
  case xs14 => rfl
  exact i_var 0 (pv 0)
  exact i_int
  exact ia_nil
  refine j_ix (hK := ?xK15) (ha := ?xa15) (hb := ?xb15) (hs := ?xs15)
  case xK15 => rfl
  case xs15 => rfl
  refine i_lst ?_
  refine ja_cons ?_ ?_
  refine i_bin (r_add rfl) ?_ ?_
  exact i_str
  refine j_typeS c_str rfl T.n_str bb_str ?_
  refine ja_cons ?_ ?_
  refine j_ix (hK := ?xK16) (ha := ?xa16) (hb := ?xb16) (hs := ?xs16)
  case xK16 => rfl
  case xs16 => rfl
  exact i_var 0 (pv 0)
  exact i_int
  exact ia_nil
  refine ja_cons ?_ ?_
  exact i_str
  exact ia_nil
  refine j_typeS c_int rfl T.n_int bb_int ?_
  refine ja_cons ?_ ?_
  refine i_cmp (r_eq rfl hu) ?_ ?_ (nomark _)
  refine j_ix (hK := ?xK17) (ha := ?xa17) (hb := ?xb17) (hs := ?xs17)
  case xK17 => rfl
  case xs17 => rfl
  exact i_var 0 (pv 0)
  exact i_int
  exact i_int
  exact ia_nil
theorem sc_is_fraction : FnScope N_is_fraction ["x"] (defScope s_is_fraction) := ⟨rfl, rfl, rfl, by decide +kernel, rfl, by decide +kernel, by decide +kernel⟩
theorem ok_is_fraction (T : Tx mg a) : FnOk P w a.K mg base (CXe P w) 2 a.f_is_fraction a.fd_is_fraction ["x"] (spF (gx a) 1 (F_is_fraction)) := by
  refine fn_I (g := gx a) (N := N_is_fraction) (body := b_is_fraction) T.F_is_fraction sc_is_fraction fun cdv A outer s H E hr => ?_
  have hu := hr.units
  refine is_cons ?_ ?_
  · refine is_if ?_ ?_ ?_
    refine PW.pt ?_
    refine it_or ?_ ?_
    refine it_not ?_
    refine j_tru rfl ?_
    refine j_call (ok_is_tuple_of T) (hr.mono (by decide)) rfl T.m_is_tuple_of T.F_is_tuple_of.kp T.b_is_tuple_of leaves_on ?_
    refine ja_cons ?_ ?_
    exact i_var 0 (pv 0)
    refine ja_cons ?_ ?_
    exact i_int
    exact ia_nil
    refine it_or ?_ ?_
    refine it_not ?_
    refine j_tru rfl ?_
    refine j_call (ok_is_whole T) (hr.mono (by decide)) rfl T.m_is_whole T.F_is_whole.kp T.b_is_whole leaves_on ?_
    refine ja_cons ?_ ?_
    refine j_ix (hK := ?xK18) (ha := ?xa18) (hb := ?xb18) (hs := ?xs18)
    case xK18 => rfl
    case xs18 => rfl
    exact i_var 0 (pv 0)
    exact i_int
    exact ia_nil
    refine it_oneO ?_
    refine it_not ?_
    refine j_tru rfl ?_
    refine j_call (ok_is_whole T) (hr.mono (by decide)) rfl T.m_is_whole T.F_is_whole.kp T.b_is_whole leaves_on ?_
    refine ja_cons ?_ ?_
    refine j_ix (hK := ?xK19) (ha := ?xa19) (hb := ?xb19) (hs := ?xs19)
    case xK19 => rfl
    case xs19 => rfl
    exact i_var 0 (pv 0)
    exact i_int
    exact ia_nil
    refine is_one ?_
    refine is_ret ?_
    exact i_bl
    exact is_nil
  refine is_one ?_
  refine is_ret ?_
  refine i_and ?_ ?_
  refine i_cmp r_gt ?_ ?_ (nomark _)
  refine j_ix (hK := ?xK20) (ha := ?xa20) (hb := ?xb20) (hs := ?xs20)
  case xK20 => rfl
  case xs20 => rfl
  exact i_var 0 (pv 0)
  exact i_int
  exact i_int
  refine i_one ?_
  refine i_cmp (r_eq rfl hu) ?_ ?_ (nomark _)
  refine j_call (ok_common_divisor T) (hr.mono (by decide)) rfl T.m_common_divisor T.F_common_divisor.kp T.b_common_divisor leaves_on ?_
  refine ja_cons ?_ ?_
  refine j_ix (hK := ?xK21) (ha := ?xa21) (hb := ?xb21) (hs := ?xs21)
  case xK21 => rfl
  case xs21 => rfl
  exact i_var 0 (pv 0)
  exact i_int
  refine ja_cons ?_ ?_
  refine j_ix (hK := ?xK22) (ha := ?xa22) (hb := ?xb22) (hs := ?xs22)
  case xK22 => rfl
  case xs22 => rfl
  exact i_var 0 (pv 0)
  exact i_int
  exact ia_nil
  exact i_int
theorem sc_l_text : FnScope N_l_text ["_law_cable_here"] (defScope s_l_text) := ⟨rfl, rfl, rfl, by decide +kernel, rfl, by decide +kernel, by decide +kernel⟩
theorem ok_l_text (T : Tx mg a) : FnOk P w a.K mg base (CXe P w) 2 a.f_l_text a.fd_l_text ["_law_cable_here"] (spF (gx a) 1 (F_l_text)) := by
  refine fn_I (g := gx a) (N := N_l_text) (body := b_l_text) T.F_l_text sc_l_text fun cdv A outer s H E hr => ?_
  have hu := hr.units
  refine is_cons ?_ ?_
  · refine js_set (i := 1) (hN := ?hN5) (hi := ?hi5) (hx := ?hx5) (ha := ?ha5) (hs := ?hs5) (hf := ?hf5)
    case hN5 => exact sc_l_text.nd
    case hi5 => exact rfl
    case hx5 => first | exact Or.inl rfl | exact Or.inr rfl
    case hs5 => rfl
    case hf5 => first | exact Or.inl rfl | exact Or.inr rfl | assumption
    refine i_lstM ?_
    refine ja_cons ?_ ?_
    refine i_bin (r_add rfl) ?_ ?_
    exact i_str
    refine j_call (ok_l_fraction_text T) (hr.mono (by decide)) rfl T.m_l_fraction_text T.F_l_fraction_text.kp T.b_l_fraction_text leaves_on ?_
    refine ja_cons ?_ ?_
    refine j_ix (hK := ?xK23) (ha := ?xa23) (hb := ?xb23) (hs := ?xs23)
    case xK23 => rfl
    case xs23 => rfl
    exact i_var 0 (pv 0)
    exact i_int
    exact ia_nil
    exact ia_nil
  refine is_cons ?_ ?_
  · refine js_for rfl own_def rfl ?_ ?_ ?_
    refine j_ix (hK := ?xK24) (ha := ?xa24) (hb := ?xb24) (hs := ?xs24)
    case xK24 => rfl
    case xs24 => rfl
    exact i_var 0 (pv 0)
    exact i_int
    exact ig_tup rfl rfl (show PGs _ _ (gNames [2, 3]) from (pgs_cons (pg_name (i := 2) sc_l_text.nd rfl (by first | exact Or.inl rfl | exact Or.inr rfl)) (pgs_cons (pg_name (i := 3) sc_l_text.nd rfl (by first | exact Or.inl rfl | exact Or.inr rfl)) pgs_nil)))
    refine is_one ?_
    refine js_exp ?_
    refine j_app ?_ ?_
    exact i_var 1 (pv 1)
    refine i_bin (r_add rfl) ?_ ?_
    refine i_bin (r_add rfl) ?_ ?_
    refine j_typeS c_str rfl T.n_str bb_str ?_
    refine ja_cons ?_ ?_
    exact i_var 2 (pv 2)
    exact ia_nil
    exact i_str
    refine j_call (ok_l_fraction_text T) (hr.mono (by decide)) rfl T.m_l_fraction_text T.F_l_fraction_text.kp T.b_l_fraction_text leaves_on ?_
    refine ja_cons ?_ ?_
    exact i_var 3 (pv 3)
    exact ia_nil
  refine is_one ?_
  refine is_ret ?_
  refine j_methS PySem.F.slot_str_join PySem.F.type_str_join (m_join rfl) ?_ ?_
  exact i_str
  refine ja_cons ?_ ?_
  refine i_fz ?_
  exact i_var 1 (pv 1)
  exact ia_nil
theorem sc_l_small : FnScope N_l_small ["_law_purse_here", "_law_least"] (defScope s_l_small) := ⟨rfl, rfl, rfl, by decide +kernel, rfl, by decide +kernel, by decide +kernel⟩
theorem ok_l_small (T : Tx mg a) : FnOk P w a.K mg base (CXe P w) 2 a.f_l_small a.fd_l_small ["_law_purse_here", "_law_least"] (spF (gx a) 2 (F_l_small)) := by
  refine fn_I (g := gx a) (N := N_l_small) (body := b_l_small) T.F_l_small sc_l_small fun cdv A outer s H E hr => ?_
  have hu := hr.units
  refine is_cons ?_ ?_
  · refine js_set (i := 2) (hN := ?hN6) (hi := ?hi6) (hx := ?hx6) (ha := ?ha6) (hs := ?hs6) (hf := ?hf6)
    case hN6 => exact sc_l_small.nd
    case hi6 => exact rfl
    case hx6 => first | exact Or.inl rfl | exact Or.inr rfl
    case hs6 => rfl
    case hf6 => first | exact Or.inl rfl | exact Or.inr rfl | assumption
    refine j_ix (hK := ?xK25) (ha := ?xa25) (hb := ?xb25) (hs := ?xs25)
    case xK25 => rfl
    case xs25 => rfl
    refine i_lst ?_
    refine ja_cons ?_ ?_
    exact i_var 1 (pv 1)
    refine ja_cons ?_ ?_
    exact i_int
    refine ja_cons ?_ ?_
    refine i_bin (r_add rfl) ?_ ?_
    exact i_var 1 (pv 1)
    refine j_call (ok_l_pick T) (hr.mono (by decide)) rfl T.m_l_pick T.F_l_pick.kp T.b_l_pick leaves_on ?_
    refine ja_cons ?_ ?_
    exact i_var 0 (pv 0)
    refine ja_cons ?_ ?_
    exact i_int
    exact ia_nil
    refine ja_cons ?_ ?_
    refine i_bin (r_add rfl) ?_ ?_
    exact i_var 1 (pv 1)
    refine j_call (ok_l_pick T) (hr.mono (by decide)) rfl T.m_l_pick T.F_l_pick.kp T.b_l_pick leaves_on ?_
    refine ja_cons ?_ ?_
    exact i_var 0 (pv 0)
    refine ja_cons ?_ ?_
    exact i_int
    exact ia_nil
    exact ia_nil
    refine j_call (ok_l_pick T) (hr.mono (by decide)) rfl T.m_l_pick T.F_l_pick.kp T.b_l_pick leaves_on ?_
    refine ja_cons ?_ ?_
    exact i_var 0 (pv 0)
    refine ja_cons ?_ ?_
    exact i_int
    exact ia_nil
  refine is_cons ?_ ?_
  · refine js_set (i := 3) (hN := ?hN7) (hi := ?hi7) (hx := ?hx7) (ha := ?ha7) (hs := ?hs7) (hf := ?hf7)
    case hN7 => exact sc_l_small.nd
    case hi7 => exact rfl
    case hx7 => first | exact Or.inl rfl | exact Or.inr rfl
    case hs7 => rfl
    case hf7 => first | exact Or.inl rfl | exact Or.inr rfl | assumption
    refine j_ix (hK := ?xK26) (ha := ?xa26) (hb := ?xb26) (hs := ?xs26)
    case xK26 => rfl
    case xs26 => rfl
    refine i_lst ?_
    refine ja_cons ?_ ?_
    exact i_int
    refine ja_cons ?_ ?_
    exact i_int
    refine ja_cons ?_ ?_
    exact i_int
    refine ja_cons ?_ ?_
    refine i_bin (r_add rfl) ?_ ?_
    exact i_int
    refine j_call (ok_l_pick T) (hr.mono (by decide)) rfl T.m_l_pick T.F_l_pick.kp T.b_l_pick leaves_on ?_
    refine ja_cons ?_ ?_
    exact i_var 0 (pv 0)
    refine ja_cons ?_ ?_
    exact i_int
    exact ia_nil
    refine ja_cons ?_ ?_
    refine i_bin (r_add rfl) ?_ ?_
    exact i_int
    refine j_call (ok_l_pick T) (hr.mono (by decide)) rfl T.m_l_pick T.F_l_pick.kp T.b_l_pick leaves_on ?_
    refine ja_cons ?_ ?_
    exact i_var 0 (pv 0)
    refine ja_cons ?_ ?_
    exact i_int
    exact ia_nil
    exact ia_nil
    refine j_call (ok_l_pick T) (hr.mono (by decide)) rfl T.m_l_pick T.F_l_pick.kp T.b_l_pick leaves_on ?_
    refine ja_cons ?_ ?_
    exact i_var 0 (pv 0)
    refine ja_cons ?_ ?_
    exact i_int
    exact ia_nil
  refine is_one ?_
  refine is_ret ?_
  refine j_call (ok_l_low T) (hr.mono (by decide)) rfl T.m_l_low T.F_l_low.kp T.b_l_low leaves_on ?_
  refine ja_cons ?_ ?_
  exact i_var 2 (pv 2)
  refine ja_cons ?_ ?_
  exact i_var 3 (pv 3)
  exact ia_nil
theorem sc_is_from_zero : FnScope N_is_from_zero ["x"] (defScope s_is_from_zero) := ⟨rfl, rfl, rfl, by decide +kernel, rfl, by decide +kernel, by decide +kernel⟩
theorem ok_is_from_zero (T : Tx mg a) : FnOk P w a.K mg base (CXe P w) 3 a.f_is_from_zero a.fd_is_from_zero ["x"] (spF (gx a) 1 (F_is_from_zero)) := by
  refine fn_I (g := gx a) (N := N_is_from_zero) (body := b_is_from_zero) T.F_is_from_zero sc_is_from_zero fun cdv A outer s H E hr => ?_
  have hu := hr.units
  refine is_one ?_
  refine is_ret ?_
  refine i_and ?_ ?_
  refine j_call (ok_is_fraction T) (hr.mono (by decide)) rfl T.m_is_fraction T.F_is_fraction.kp T.b_is_fraction leaves_on ?_
  refine ja_cons ?_ ?_
  exact i_var 0 (pv 0)
  exact ia_nil
  refine i_one ?_
  refine i_cmp r_ge ?_ ?_ (nomark _)
  refine j_ix (hK := ?xK27) (ha := ?xa27) (hb := ?xb27) (hs := ?xs27)
  case xK27 => rfl
  case xs27 => rfl
  exact i_var 0 (pv 0)
  exact i_int
  exact i_int
theorem sc_is_above_zero : FnScope N_is_above_zero ["x"] (defScope s_is_above_zero) := ⟨rfl, rfl, rfl, by decide +kernel, rfl, by decide +kernel, by decide +kernel⟩
theorem ok_is_above_zero (T : Tx mg a) : FnOk P w a.K mg base (CXe P w) 3 a.f_is_above_zero a.fd_is_above_zero ["x"] (spF (gx a) 1 (F_is_above_zero)) := by
  refine fn_I (g := gx a) (N := N_is_above_zero) (body := b_is_above_zero) T.F_is_above_zero sc_is_above_zero fun cdv A outer s H E hr => ?_
  have hu := hr.units
  refine is_one ?_
  refine is_ret ?_
  refine i_and ?_ ?_
  refine j_call (ok_is_fraction T) (hr.mono (by decide)) rfl T.m_is_fraction T.F_is_fraction.kp T.b_is_fraction leaves_on ?_
  refine ja_cons ?_ ?_
  exact i_var 0 (pv 0)
  exact ia_nil
  refine i_one ?_
  refine i_cmp r_gt ?_ ?_ (nomark _)
  refine j_ix (hK := ?xK28) (ha := ?xa28) (hb := ?xb28) (hs := ?xs28)
  case xK28 => rfl
  case xs28 => rfl
  exact i_var 0 (pv 0)
  exact i_int
  exact i_int
theorem sc_read_fraction : FnScope N_read_fraction ["word", "most"] (defScope s_read_fraction) := ⟨rfl, rfl, rfl, by decide +kernel, rfl, by decide +kernel, by decide +kernel⟩
theorem ok_read_fraction (T : Tx mg a) : FnOk P w a.K mg base (CXe P w) 3 a.f_read_fraction a.fd_read_fraction ["word", "most"] (spF (gx a) 2 (F_read_fraction)) := by
  refine fn_I (g := gx a) (N := N_read_fraction) (body := b_read_fraction) T.F_read_fraction sc_read_fraction fun cdv A outer s H E hr => ?_
  have hu := hr.units
  refine is_cons ?_ ?_
  · refine js_asg ?_ ?_
    refine j_methS PySem.F.slot_str_partition PySem.F.type_str_partition m_partition ?_ ?_
    exact i_var 0 (pv 0)
    refine ja_cons ?_ ?_
    exact i_str
    exact ia_nil
    exact ig_tup rfl rfl (show PGs _ _ (gNames [3, 4, 5]) from (pgs_cons (pg_name (i := 3) sc_read_fraction.nd rfl (by first | exact Or.inl rfl | exact Or.inr rfl)) (pgs_cons (pg_name (i := 4) sc_read_fraction.nd rfl (by first | exact Or.inl rfl | exact Or.inr rfl)) (pgs_cons (pg_name (i := 5) sc_read_fraction.nd rfl (by first | exact Or.inl rfl | exact Or.inr rfl)) pgs_nil))))
  refine is_cons ?_ ?_
  · refine is_if ?_ ?_ ?_
    refine i_cmpT (r_eq rfl hu) ?_ ?_ (nomark _)
    exact i_var 4 (pv 4)
    exact i_str
    · refine is_one ?_
      refine js_set (i := 5) (hN := ?hN8) (hi := ?hi8) (hx := ?hx8) (ha := ?ha8) (hs := ?hs8) (hf := ?hf8)
      case hN8 => exact sc_read_fraction.nd
      case hi8 => exact rfl
      case hx8 => first | exact Or.inl rfl | exact Or.inr rfl
      case hs8 => rfl
      case hf8 => first | exact Or.inl rfl | exact Or.inr rfl | assumption
      exact i_str
    · refine is_one ?_
      refine is_if ?_ ?_ ?_
      refine i_cmpT (r_eq rfl hu) ?_ ?_ (nomark _)
      exact i_var 5 (pv 5)
      exact i_str
      refine is_one ?_
      refine is_ret ?_
      exact i_non
      exact is_nil
  refine is_cons ?_ ?_
  · refine js_set (i := 2) (hN := ?hN9) (hi := ?hi9) (hx := ?hx9) (ha := ?ha9) (hs := ?hs9) (hf := ?hf9)
    case hN9 => exact sc_read_fraction.nd
    case hi9 => exact rfl
    case hx9 => first | exact Or.inl rfl | exact Or.inr rfl
    case hs9 => rfl
    case hf9 => first | exact Or.inl rfl | exact Or.inr rfl | assumption
    refine i_tup ?_
    refine ja_cons ?_ ?_
    refine j_call (ok_read_number T) (hr.mono (by decide)) rfl T.m_read_number T.F_read_number.kp T.b_read_number leaves_on ?_
    refine ja_cons ?_ ?_
    exact i_var 3 (pv 3)
    refine ja_cons ?_ ?_
    exact i_var 1 (pv 1)
    exact ia_nil
    refine ja_cons ?_ ?_
    refine j_call (ok_read_number T) (hr.mono (by decide)) rfl T.m_read_number T.F_read_number.kp T.b_read_number leaves_on ?_
    refine ja_cons ?_ ?_
    exact i_var 5 (pv 5)
    refine ja_cons ?_ ?_
    exact i_var 1 (pv 1)
    exact ia_nil
    exact ia_nil
  refine is_one ?_
  refine is_ret ?_
  refine i_if ?_ ?_ ?_
  refine j_tru rfl ?_
  refine j_call (ok_is_fraction T) (hr.mono (by decide)) rfl T.m_is_fraction T.F_is_fraction.kp T.b_is_fraction leaves_on ?_
  refine ja_cons ?_ ?_
  exact i_var 2 (pv 2)
  exact ia_nil
  exact i_var 2 (pv 2)
  exact i_non
theorem sc_l_cable : FnScope N_l_cable ["_law_purse_here", "_law_many"] (defScope s_l_cable) := ⟨rfl, rfl, rfl, by decide +kernel, rfl, by decide +kernel, by decide +kernel⟩
theorem ok_l_cable (T : Tx mg a) : FnOk P w a.K mg base (CXe P w) 3 a.f_l_cable a.fd_l_cable ["_law_purse_here", "_law_many"] (spF (gx a) 2 (F_l_cable)) := by
  refine fn_I (g := gx a) (N := N_l_cable) (body := b_l_cable) T.F_l_cable sc_l_cable fun cdv A outer s H E hr => ?_
  have hu := hr.units
  refine is_cons ?_ ?_
  · refine js_set (i := 2) (hN := ?hN10) (hi := ?hi10) (hx := ?hx10) (ha := ?ha10) (hs := ?hs10) (hf := ?hf10)
    case hN10 => exact sc_l_cable.nd
    case hi10 => exact rfl
    case hx10 => first | exact Or.inl rfl | exact Or.inr rfl
    case hs10 => rfl
    case hf10 => first | exact Or.inl rfl | exact Or.inr rfl | assumption
    refine i_lstM ?_
    exact ia_nil
  refine is_cons ?_ ?_
  · refine js_forR own_def rfl rfl T.n_range ?_ ?_ ?_
    refine ja_cons ?_ ?_
    exact i_var 1 (pv 1)
    exact ia_nil
    exact ig_name (pg_name (i := 3) sc_l_cable.nd rfl (by first | exact Or.inl rfl | exact Or.inr rfl))
    refine is_cons ?_ ?_
    · refine js_set (i := 4) (hN := ?hN11) (hi := ?hi11) (hx := ?hx11) (ha := ?ha11) (hs := ?hs11) (hf := ?hf11)
      case hN11 => exact sc_l_cable.nd
      case hi11 => exact rfl
      case hx11 => first | exact Or.inl rfl | exact Or.inr rfl
      case hs11 => rfl
      case hf11 => first | exact Or.inl rfl | exact Or.inr rfl | assumption
      refine j_ix (hK := ?xK29) (ha := ?xa29) (hb := ?xb29) (hs := ?xs29)
      case xK29 => rfl
      case xs29 => rfl
      refine i_lst ?_
      refine ja_cons ?_ ?_
      exact i_int
      refine ja_cons ?_ ?_
      exact i_int
      refine ja_cons ?_ ?_
      refine i_bin (r_add rfl) ?_ ?_
      exact i_int
      refine j_call (ok_l_pick T) (hr.mono (by decide)) rfl T.m_l_pick T.F_l_pick.kp T.b_l_pick leaves_on ?_
      refine ja_cons ?_ ?_
      exact i_var 0 (pv 0)
      refine ja_cons ?_ ?_
      exact i_int
      exact ia_nil
      refine ja_cons ?_ ?_
      refine i_bin (r_add rfl) ?_ ?_
      exact i_int
      refine j_call (ok_l_pick T) (hr.mono (by decide)) rfl T.m_l_pick T.F_l_pick.kp T.b_l_pick leaves_on ?_
      refine ja_cons ?_ ?_
      exact i_var 0 (pv 0)
      refine ja_cons ?_ ?_
      exact i_int
      exact ia_nil
      exact ia_nil
      refine j_call (ok_l_pick T) (hr.mono (by decide)) rfl T.m_l_pick T.F_l_pick.kp T.b_l_pick leaves_on ?_
      refine ja_cons ?_ ?_
      exact i_var 0 (pv 0)
      refine ja_cons ?_ ?_
      exact i_int
      exact ia_nil
    refine is_one ?_
    refine js_exp ?_
    refine j_app ?_ ?_
    exact i_var 2 (pv 2)
    refine i_tup ?_
    refine ja_cons ?_ ?_
    exact i_var 4 (pv 4)
    refine ja_cons ?_ ?_
    refine j_call (ok_l_small T) (hr.mono (by decide)) rfl T.m_l_small T.F_l_small.kp T.b_l_small leaves_on ?_
    refine ja_cons ?_ ?_
    exact i_var 0 (pv 0)
    refine ja_cons ?_ ?_
    exact i_int
    exact ia_nil
    exact ia_nil
  refine is_one ?_
  refine is_ret ?_
  refine i_tup ?_
  refine ja_cons ?_ ?_
  refine j_typeS (c_tuple rfl) rfl T.n_tuple bb_tuple ?_
  refine ja_cons ?_ ?_
  exact i_var 2 (pv 2)
  exact ia_nil
  refine ja_cons ?_ ?_
  refine j_call (ok_l_small T) (hr.mono (by decide)) rfl T.m_l_small T.F_l_small.kp T.b_l_small leaves_on ?_
  refine ja_cons ?_ ?_
  exact i_var 0 (pv 0)
  refine ja_cons ?_ ?_
  exact i_int
  exact ia_nil
  exact ia_nil
theorem sc_is_length : FnScope N_is_length ["x"] (defScope s_is_length) := ⟨rfl, rfl, rfl, by decide +kernel, rfl, by decide +kernel, by decide +kernel⟩
theorem ok_is_length (T : Tx mg a) : FnOk P w a.K mg base (CXe P w) 4 a.f_is_length a.fd_is_length ["x"] (spF (gx a) 1 (F_is_length)) := by
  refine fn_I (g := gx a) (N := N_is_length) (body := b_is_length) T.F_is_length sc_is_length fun cdv A outer s H E hr => ?_
  have hu := hr.units
  refine is_cons ?_ ?_
  · refine is_if ?_ ?_ ?_
    refine PW.pt ?_
    refine it_or ?_ ?_
    refine it_not ?_
    refine j_tru rfl ?_
    refine j_call (ok_is_tuple_of T) (hr.mono (by decide)) rfl T.m_is_tuple_of T.F_is_tuple_of.kp T.b_is_tuple_of leaves_on ?_
    refine ja_cons ?_ ?_
    exact i_var 0 (pv 0)
    refine ja_cons ?_ ?_
    exact i_int
    exact ia_nil
    refine it_or ?_ ?_
    refine it_not ?_
    refine j_tru rfl ?_
    refine j_call (ok_is_whole T) (hr.mono (by decide)) rfl T.m_is_whole T.F_is_whole.kp T.b_is_whole leaves_on ?_
    refine ja_cons ?_ ?_
    refine j_ix (hK := ?xK30) (ha := ?xa30) (hb := ?xb30) (hs := ?xs30)
    case xK30 => rfl
    case xs30 => rfl
    exact i_var 0 (pv 0)
    exact i_int
    exact ia_nil
    refine it_oneO ?_
    refine it_not ?_
    refine i_chainT r_le r_le ?_ ?_ ?_
    exact i_int
    refine j_ix (hK := ?xK31) (ha := ?xa31) (hb := ?xb31) (hs := ?xs31)
    case xK31 => rfl
    case xs31 => rfl
    exact i_var 0 (pv 0)
    exact i_int
    exact i_con (pe_glob (v := .int 999) rfl T.k_MOST_NUMBER.choose_spec ⟨_, rfl⟩) fun _ _ => .int _
    refine is_one ?_
    refine is_ret ?_
    exact i_bl
    exact is_nil
  refine is_one ?_
  refine is_ret ?_
  refine i_and ?_ ?_
  refine j_call (ok_is_above_zero T) (hr.mono (by decide)) rfl T.m_is_above_zero T.F_is_above_zero.kp T.b_is_above_zero leaves_on ?_
  refine ja_cons ?_ ?_
  refine j_ix (hK := ?xK32) (ha := ?xa32) (hb := ?xb32) (hs := ?xs32)
  case xK32 => rfl
  case xs32 => rfl
  exact i_var 0 (pv 0)
  exact i_int
  exact ia_nil
  refine i_one ?_
  refine j_call (ok_is_small T) (hr.mono (by decide)) rfl T.m_is_small T.F_is_small.kp T.b_is_small leaves_on ?_
  refine ja_cons ?_ ?_
  refine j_ix (hK := ?xK33) (ha := ?xa33) (hb := ?xb33) (hs := ?xs33)
  case xK33 => rfl
  case xs33 => rfl
  exact i_var 0 (pv 0)
  exact i_int
  exact ia_nil
theorem sc_is_back : FnScope N_is_back ["x"] (defScope s_is_back) := ⟨rfl, rfl, rfl, by decide +kernel, rfl, by decide +kernel, by decide +kernel⟩
theorem ok_is_back (T : Tx mg a) : FnOk P w a.K mg base (CXe P w) 4 a.f_is_back a.fd_is_back ["x"] (spF (gx a) 1 (F_is_back)) := by
  refine fn_I (g := gx a) (N := N_is_back) (body := b_is_back) T.F_is_back sc_is_back fun cdv A outer s H E hr => ?_
  have hu := hr.units
  refine is_one ?_
  refine is_ret ?_
  refine i_and ?_ ?_
  refine j_call (ok_is_from_zero T) (hr.mono (by decide)) rfl T.m_is_from_zero T.F_is_from_zero.kp T.b_is_from_zero leaves_on ?_
  refine ja_cons ?_ ?_
  exact i_var 0 (pv 0)
  exact ia_nil
  refine i_one ?_
  refine j_call (ok_is_small T) (hr.mono (by decide)) rfl T.m_is_small T.F_is_small.kp T.b_is_small leaves_on ?_
  refine ja_cons ?_ ?_
  exact i_var 0 (pv 0)
  exact ia_nil
theorem sc_is_cable : FnScope N_is_cable ["x"] (defScope s_is_cable) := ⟨rfl, rfl, rfl, by decide +kernel, rfl, by decide +kernel, by decide +kernel⟩
theorem ok_is_cable (T : Tx mg a) : FnOk P w a.K mg base (CXe P w) 5 a.f_is_cable a.fd_is_cable ["x"] (spF (gx a) 1 (F_is_cable)) := by
  refine fn_I (g := gx a) (N := N_is_cable) (body := b_is_cable) T.F_is_cable sc_is_cable fun cdv A outer s H E hr => ?_
  have hu := hr.units
  refine is_cons ?_ ?_
  · refine is_if ?_ ?_ ?_
    refine PW.pt ?_
    refine it_or ?_ ?_
    refine it_not ?_
    refine j_tru rfl ?_
    refine j_call (ok_is_tuple_of T) (hr.mono (by decide)) rfl T.m_is_tuple_of T.F_is_tuple_of.kp T.b_is_tuple_of leaves_on ?_
    refine ja_cons ?_ ?_
    exact i_var 0 (pv 0)
    refine ja_cons ?_ ?_
    exact i_int
    exact ia_nil
    refine it_or ?_ ?_
    refine it_not ?_
    refine j_tru rfl ?_
    refine j_isiB (T := "tuple") rfl rfl T.n_isinstance rfl T.n_tuple bb_tuple ?_
    refine j_ix (hK := ?xK34) (ha := ?xa34) (hb := ?xb34) (hs := ?xs34)
    case xK34 => rfl
    case xs34 => rfl
    exact i_var 0 (pv 0)
    exact i_int
    refine it_oneO ?_
    refine it_not ?_
    refine i_chainT r_le r_le ?_ ?_ ?_
    exact i_int
    refine j_bltnS (c_len rfl) rfl T.n_len bb_len ?_
    refine ja_cons ?_ ?_
    refine j_ix (hK := ?xK35) (ha := ?xa35) (hb := ?xb35) (hs := ?xs35)
    case xK35 => rfl
    case xs35 => rfl
    exact i_var 0 (pv 0)
    exact i_int
    exact ia_nil
    exact i_con (pe_glob (v := .int 12) rfl T.k_MOST_LENGTHS.choose_spec ⟨_, rfl⟩) fun _ _ => .int _
    refine is_one ?_
    refine is_ret ?_
    exact i_bl
    exact is_nil
  refine is_one ?_
  refine is_ret ?_
  refine i_and ?_ ?_
  refine j_bltnS (c_all rfl) rfl T.n_all bb_all ?_
  refine ja_cons ?_ ?_
  refine j_comp (T := (Tgt.name 1)) (own := [("length", 1)]) rfl rfl sc_is_cable.nd ?_ (blkOk_by (own := [("length", 1)]) (N := N_is_cable) (sc := defScope s_is_cable) (by decide +kernel)) rfl (show (1 : Nat) ∈ ([1] : List Nat) from by decide) (fun _ _ _ _ _ => pg_name (i := 1) sc_is_cable.nd rfl (Or.inl rfl)) (fun _ _ _ _ _ => its_nil) (fun _ _ _ _ _ => (j_call (ok_is_length T) (hr.mono (by decide)) rfl T.m_is_length T.F_is_length.kp T.b_is_length pass_E00 (ja_cons (i_var 1 (pv 1)) ia_nil)))
  refine j_ix (hK := ?xK36) (ha := ?xa36) (hb := ?xb36) (hs := ?xs36)
  case xK36 => rfl
  case xs36 => rfl
  exact i_var 0 (pv 0)
  exact i_int
  exact ia_nil
  refine i_one ?_
  refine j_call (ok_is_back T) (hr.mono (by decide)) rfl T.m_is_back T.F_is_back.kp T.b_is_back leaves_on ?_
  refine ja_cons ?_ ?_
  refine j_ix (hK := ?xK37) (ha := ?xa37) (hb := ?xb37) (hs := ?xs37)
  case xK37 => rfl
  case xs37 => rfl
  exact i_var 0 (pv 0)
  exact i_int
  exact ia_nil
theorem sc_read_back : FnScope N_read_back ["row"] (defScope s_read_back) := ⟨rfl, rfl, rfl, by decide +kernel, rfl, by decide +kernel, by decide +kernel⟩
theorem ok_read_back (T : Tx mg a) : FnOk P w a.K mg base (CXe P w) 5 a.f_read_back a.fd_read_back ["row"] (spF (gx a) 1 (F_read_back)) := by
  refine fn_I (g := gx a) (N := N_read_back) (body := b_read_back) T.F_read_back sc_read_back fun cdv A outer s H E hr => ?_
  have hu := hr.units
  refine is_cons ?_ ?_
  · refine js_set (i := 1) (hN := ?hN12) (hi := ?hi12) (hx := ?hx12) (ha := ?ha12) (hs := ?hs12) (hf := ?hf12)
    case hN12 => exact sc_read_back.nd
    case hi12 => exact rfl
    case hx12 => first | exact Or.inl rfl | exact Or.inr rfl
    case hs12 => rfl
    case hf12 => first | exact Or.inl rfl | exact Or.inr rfl | assumption
    refine j_methS PySem.F.slot_str_split PySem.F.type_str_split m_split ?_ ?_
    exact i_var 0 (pv 0)
    refine ja_cons ?_ ?_
    exact i_str
    exact ia_nil
  refine is_cons ?_ ?_
  · refine is_if ?_ ?_ ?_
    refine PW.pt ?_
    refine it_or ?_ ?_
    refine i_cmpT (r_ne rfl hu) ?_ ?_ (nomark _)
    refine j_bltnS (c_len rfl) rfl T.n_len bb_len ?_
    refine ja_cons ?_ ?_
    exact i_var 1 (pv 1)
    exact ia_nil
    exact i_int
    refine it_oneO ?_
    refine i_cmpT (r_ne rfl hu) ?_ ?_ (nomark _)
    refine j_ix (hK := ?xK38) (ha := ?xa38) (hb := ?xb38) (hs := ?xs38)
    case xK38 => rfl
    case xs38 => rfl
    exact i_var 1 (pv 1)
    exact i_int
    exact i_str
    refine is_one ?_
    refine is_ret ?_
    exact i_non
    exact is_nil
  refine is_cons ?_ ?_
  · refine js_set (i := 2) (hN := ?hN13) (hi := ?hi13) (hx := ?hx13) (ha := ?ha13) (hs := ?hs13) (hf := ?hf13)
    case hN13 => exact sc_read_back.nd
    case hi13 => exact rfl
    case hx13 => first | exact Or.inl rfl | exact Or.inr rfl
    case hs13 => rfl
    case hf13 => first | exact Or.inl rfl | exact Or.inr rfl | assumption
    refine j_call (ok_read_fraction T) (hr.mono (by decide)) rfl T.m_read_fraction T.F_read_fraction.kp T.b_read_fraction leaves_on ?_
    refine ja_cons ?_ ?_
    refine j_ix (hK := ?xK39) (ha := ?xa39) (hb := ?xb39) (hs := ?xs39)
    case xK39 => rfl
    case xs39 => rfl
    exact i_var 1 (pv 1)
    exact i_int
    refine ja_cons ?_ ?_
    exact i_con (pe_glob (v := .int 3) rfl T.k_MOST_FIGURES.choose_spec ⟨_, rfl⟩) fun _ _ => .int _
    exact ia_nil
  refine is_one ?_
  refine is_ret ?_
  refine i_if ?_ ?_ ?_
  refine j_tru rfl ?_
  refine j_call (ok_is_back T) (hr.mono (by decide)) rfl T.m_is_back T.F_is_back.kp T.b_is_back leaves_on ?_
  refine ja_cons ?_ ?_
  exact i_var 2 (pv 2)
  exact ia_nil
  exact i_var 2 (pv 2)
  exact i_non
theorem sc_read_length : FnScope N_read_length ["row"] (defScope s_read_length) := ⟨rfl, rfl, rfl, by decide +kernel, rfl, by decide +kernel, by decide +kernel⟩
theorem ok_read_length (T : Tx mg a) : FnOk P w a.K mg base (CXe P w) 5 a.f_read_length a.fd_read_length ["row"] (spF (gx a) 1 (F_read_length)) := by
  refine fn_I (g := gx a) (N := N_read_length) (body := b_read_length) T.F_read_length sc_read_length fun cdv A outer s H E hr => ?_
  have hu := hr.units
  refine is_cons ?_ ?_
  · refine js_set (i := 1) (hN := ?hN14) (hi := ?hi14) (hx := ?hx14) (ha := ?ha14) (hs := ?hs14) (hf := ?hf14)
    case hN14 => exact sc_read_length.nd
    case hi14 => exact rfl
    case hx14 => first | exact Or.inl rfl | exact Or.inr rfl
    case hs14 => rfl
    case hf14 => first | exact Or.inl rfl | exact Or.inr rfl | assumption
    refine j_methS PySem.F.slot_str_split PySem.F.type_str_split m_split ?_ ?_
    exact i_var 0 (pv 0)
    refine ja_cons ?_ ?_
    exact i_str
    exact ia_nil
  refine is_cons ?_ ?_
  · refine is_if ?_ ?_ ?_
    refine PW.pt ?_
    refine it_or ?_ ?_
    refine i_cmpT (r_ne rfl hu) ?_ ?_ (nomark _)
    refine j_bltnS (c_len rfl) rfl T.n_len bb_len ?_
    refine ja_cons ?_ ?_
    exact i_var 1 (pv 1)
    exact ia_nil
    exact i_int
    refine it_oneO ?_
    refine i_cmpT (r_ne rfl hu) ?_ ?_ (nomark _)
    refine j_ix (hK := ?xK40) (ha := ?xa40) (hb := ?xb40) (hs := ?xs40)
    case xK40 => rfl
    case xs40 => rfl
    exact i_var 1 (pv 1)
    exact i_int
    exact i_str
    refine is_one ?_
    refine is_ret ?_
    exact i_non
    exact is_nil
  refine is_cons ?_ ?_
  · refine js_set (i := 2) (hN := ?hN15) (hi := ?hi15) (hx := ?hx15) (ha := ?ha15) (hs := ?hs15) (hf := ?hf15)
    case hN15 => exact sc_read_length.nd
    case hi15 => exact rfl
    case hx15 => first | exact Or.inl rfl | exact Or.inr rfl
    case hs15 => rfl
    case hf15 => first | exact Or.inl rfl | exact Or.inr rfl | assumption
    refine i_tup ?_
    refine ja_cons ?_ ?_
    refine j_call (ok_read_number T) (hr.mono (by decide)) rfl T.m_read_number T.F_read_number.kp T.b_read_number leaves_on ?_
    refine ja_cons ?_ ?_
    refine j_ix (hK := ?xK41) (ha := ?xa41) (hb := ?xb41) (hs := ?xs41)
    case xK41 => rfl
    case xs41 => rfl
    exact i_var 1 (pv 1)
    exact i_int
    refine ja_cons ?_ ?_
    exact i_con (pe_glob (v := .int 3) rfl T.k_MOST_FIGURES.choose_spec ⟨_, rfl⟩) fun _ _ => .int _
    exact ia_nil
    refine ja_cons ?_ ?_
    refine j_call (ok_read_fraction T) (hr.mono (by decide)) rfl T.m_read_fraction T.F_read_fraction.kp T.b_read_fraction leaves_on ?_
    refine ja_cons ?_ ?_
    refine j_ix (hK := ?xK42) (ha := ?xa42) (hb := ?xb42) (hs := ?xs42)
    case xK42 => rfl
    case xs42 => rfl
    exact i_var 1 (pv 1)
    exact i_int
    refine ja_cons ?_ ?_
    exact i_con (pe_glob (v := .int 3) rfl T.k_MOST_FIGURES.choose_spec ⟨_, rfl⟩) fun _ _ => .int _
    exact ia_nil
    exact ia_nil
  refine is_one ?_
  refine is_ret ?_
  refine i_if ?_ ?_ ?_
  refine j_tru rfl ?_
  refine j_call (ok_is_length T) (hr.mono (by decide)) rfl T.m_is_length T.F_is_length.kp T.b_is_length leaves_on ?_
  refine ja_cons ?_ ?_
  exact i_var 2 (pv 2)
  exact ia_nil
  exact i_var 2 (pv 2)
  exact i_non
theorem sc_need_cable : FnScope N_need_cable ["cable"] (defScope s_need_cable) := ⟨rfl, rfl, rfl, by decide +kernel, rfl, by decide +kernel, by decide +kernel⟩
theorem ok_need_cable (T : Tx mg a) : FnOk P w a.K mg base (CXe P w) 6 a.f_need_cable a.fd_need_cable ["cable"] (spF (gx a) 1 (F_need_cable)) := by
  refine fn_I (g := gx a) (N := N_need_cable) (body := b_need_cable) T.F_need_cable sc_need_cable fun cdv A outer s H E hr => ?_
  have hu := hr.units
  refine is_one ?_
  refine is_if ?_ ?_ ?_
  refine it_not ?_
  refine j_tru rfl ?_
  refine j_call (ok_is_cable T) (hr.mono (by decide)) rfl T.m_is_cable T.F_is_cable.kp T.b_is_cable leaves_on ?_
  refine ja_cons ?_ ?_
  exact i_var 0 (pv 0)
  exact ia_nil
  refine is_one ?_
  refine js_raise T.x_NoCable.exc T.cl_NoCable rfl T.c_NoCable rfl made_def ?_
  refine ja_cons ?_ ?_
  exact i_str
  exact ia_nil
  exact is_nil
theorem sc_read_lengths : FnScope N_read_lengths ["rows"] (defScope s_read_lengths) := ⟨rfl, rfl, rfl, by decide +kernel, rfl, by decide +kernel, by decide +kernel⟩
theorem ok_read_lengths (T : Tx mg a) : FnOk P w a.K mg base (CXe P w) 6 a.f_read_lengths a.fd_read_lengths ["rows"] (spF (gx a) 1 (F_read_lengths)) := by
  refine fn_I (g := gx a) (N := N_read_lengths) (body := b_read_lengths) T.F_read_lengths sc_read_lengths fun cdv A outer s H E hr => ?_
  have hu := hr.units
  refine is_cons ?_ ?_
  · refine js_set (i := 1) (hN := ?hN16) (hi := ?hi16) (hx := ?hx16) (ha := ?ha16) (hs := ?hs16) (hf := ?hf16)
    case hN16 => exact sc_read_lengths.nd
    case hi16 => exact rfl
    case hx16 => first | exact Or.inl rfl | exact Or.inr rfl
    case hs16 => rfl
    case hf16 => first | exact Or.inl rfl | exact Or.inr rfl | assumption
    refine i_lstM ?_
    exact ia_nil
  refine is_cons ?_ ?_
  · refine js_forE1 rfl own_def rfl rfl T.n_enumerate ?_ ?_ ?_
    refine ja_cons ?_ ?_
    exact i_var 0 (pv 0)
    exact ia_nil
    exact ig_tup rfl rfl (show PGs _ _ (gNames [2, 3]) from (pgs_cons (pg_name (i := 2) sc_read_lengths.nd rfl (by first | exact Or.inl rfl | exact Or.inr rfl)) (pgs_cons (pg_name (i := 3) sc_read_lengths.nd rfl (by first | exact Or.inl rfl | exact Or.inr rfl)) pgs_nil)))
    refine is_cons ?_ ?_
    · refine js_set (i := 4) (hN := ?hN17) (hi := ?hi17) (hx := ?hx17) (ha := ?ha17) (hs := ?hs17) (hf := ?hf17)
      case hN17 => exact sc_read_lengths.nd
      case hi17 => exact rfl
      case hx17 => first | exact Or.inl rfl | exact Or.inr rfl
      case hs17 => rfl
      case hf17 => first | exact Or.inl rfl | exact Or.inr rfl | assumption
      refine j_call (ok_read_length T) (hr.mono (by decide)) rfl T.m_read_length T.F_read_length.kp T.b_read_length leaves_on ?_
      refine ja_cons ?_ ?_
      exact i_var 3 (pv 3)
      exact ia_nil
    refine is_cons ?_ ?_
    · refine is_if ?_ ?_ ?_
      refine PW.pt ?_
      refine it_or ?_ ?_
      refine i_cmpT r_is ?_ ?_ (nomark _)
      exact i_var 4 (pv 4)
      exact i_non
      refine it_oneO ?_
      refine i_cmpT r_gt ?_ ?_ (nomark _)
      exact i_var 2 (pv 2)
      exact i_con (pe_glob (v := .int 12) rfl T.k_MOST_LENGTHS.choose_spec ⟨_, rfl⟩) fun _ _ => .int _
      refine is_one ?_
      exact js_never
      exact is_nil
    refine is_one ?_
    refine js_exp ?_
    refine j_app ?_ ?_
    exact i_var 1 (pv 1)
    exact i_var 4 (pv 4)
  refine is_one ?_
  refine is_ret ?_
  refine j_typeS (c_tuple rfl) rfl T.n_tuple bb_tuple ?_
  refine ja_cons ?_ ?_
  exact i_var 1 (pv 1)
  exact ia_nil
theorem sc_show_cable : FnScope N_show_cable ["cable"] (defScope s_show_cable) := ⟨rfl, rfl, rfl, by decide +kernel, rfl, by decide +kernel, by decide +kernel⟩
theorem ok_show_cable (T : Tx mg a) : FnOk P w a.K mg base (CXe P w) 7 a.f_show_cable a.fd_show_cable ["cable"] (spF (gx a) 1 (F_show_cable)) := by
  refine fn_I (g := gx a) (N := N_show_cable) (body := b_show_cable) T.F_show_cable sc_show_cable fun cdv A outer s H E hr => ?_
  have hu := hr.units
  refine is_cons ?_ ?_
  · refine js_exp ?_
    refine j_call (ok_need_cable T) (hr.mono (by decide)) rfl T.m_need_cable T.F_need_cable.kp T.b_need_cable leaves_on ?_
    refine ja_cons ?_ ?_
    exact i_var 0 (pv 0)
    exact ia_nil
  refine is_cons ?_ ?_
  · refine js_set (i := 1) (hN := ?hN18) (hi := ?hi18) (hx := ?hx18) (ha := ?ha18) (hs := ?hs18) (hf := ?hf18)
    case hN18 => exact sc_show_cable.nd
    case hi18 => exact rfl
    case hx18 => first | exact Or.inl rfl | exact Or.inr rfl
    case hs18 => rfl
    case hf18 => first | exact Or.inl rfl | exact Or.inr rfl | assumption
    refine i_lstM ?_
    refine ja_cons ?_ ?_
    exact i_fstr (PIs.cons i_str (PIs.cons (i_fmt (j_call (ok_show_fraction T) (hr.mono (by decide)) rfl T.m_show_fraction T.F_show_fraction.kp T.b_show_fraction leaves_on (ja_cons (j_ix rfl (i_var 0 (pv 0)) i_int) ia_nil))) PIs.nil))
    exact ia_nil
  refine is_cons ?_ ?_
  · refine js_for rfl own_def rfl ?_ ?_ ?_
    refine j_ix (hK := ?xK43) (ha := ?xa43) (hb := ?xb43) (hs := ?xs43)
    case xK43 => rfl
    case xs43 => rfl
    exact i_var 0 (pv 0)
    exact i_int
    exact ig_tup rfl rfl (show PGs _ _ (gNames [2, 3]) from (pgs_cons (pg_name (i := 2) sc_show_cable.nd rfl (by first | exact Or.inl rfl | exact Or.inr rfl)) (pgs_cons (pg_name (i := 3) sc_show_cable.nd rfl (by first | exact Or.inl rfl | exact Or.inr rfl)) pgs_nil)))
    refine is_one ?_
    refine js_exp ?_
    refine j_app ?_ ?_
    exact i_var 1 (pv 1)
    exact i_fstr (PIs.cons (i_fmt (i_var 2 (pv 2))) (PIs.cons i_str (PIs.cons (i_fmt (j_call (ok_show_fraction T) (hr.mono (by decide)) rfl T.m_show_fraction T.F_show_fraction.kp T.b_show_fraction leaves_on (ja_cons (i_var 3 (pv 3)) ia_nil))) PIs.nil)))
  refine is_one ?_
  refine is_ret ?_
  refine j_methS PySem.F.slot_str_join PySem.F.type_str_join (m_join rfl) ?_ ?_
  exact i_str
  refine ja_cons ?_ ?_
  refine i_fz ?_
  exact i_var 1 (pv 1)
  exact ia_nil
theorem sc_read_cable : FnScope N_read_cable ["text"] (defScope s_read_cable) := ⟨rfl, rfl, rfl, by decide +kernel, rfl, by decide +kernel, by decide +kernel⟩
theorem ok_read_cable (T : Tx mg a) : FnOk P w a.K mg base (CXe P w) 7 a.f_read_cable a.fd_read_cable ["text"] (spF (gx a) 1 (F_read_cable)) := by
  refine fn_I (g := gx a) (N := N_read_cable) (body := b_read_cable) T.F_read_cable sc_read_cable fun cdv A outer s H E hr => ?_
  have hu := hr.units
  refine is_cons ?_ ?_
  · refine is_if ?_ ?_ ?_
    refine it_not ?_
    refine j_tru rfl ?_
    refine j_isiB (T := "str") rfl rfl T.n_isinstance rfl T.n_str bb_str ?_
    exact i_var 0 (pv 0)
    refine is_one ?_
    exact js_never
    exact is_nil
  refine is_cons ?_ ?_
  · refine js_set (i := 1) (hN := ?hN19) (hi := ?hi19) (hx := ?hx19) (ha := ?ha19) (hs := ?hs19) (hf := ?hf19)
    case hN19 => exact sc_read_cable.nd
    case hi19 => exact rfl
    case hx19 => first | exact Or.inl rfl | exact Or.inr rfl
    case hs19 => rfl
    case hf19 => first | exact Or.inl rfl | exact Or.inr rfl | assumption
    refine j_methS PySem.F.slot_str_split PySem.F.type_str_split m_split ?_ ?_
    exact i_var 0 (pv 0)
    refine ja_cons ?_ ?_
    exact i_str
    exact ia_nil
  refine is_cons ?_ ?_
  · refine js_set (i := 2) (hN := ?hN20) (hi := ?hi20) (hx := ?hx20) (ha := ?ha20) (hs := ?hs20) (hf := ?hf20)
    case hN20 => exact sc_read_cable.nd
    case hi20 => exact rfl
    case hx20 => first | exact Or.inl rfl | exact Or.inr rfl
    case hs20 => rfl
    case hf20 => first | exact Or.inl rfl | exact Or.inr rfl | assumption
    refine j_call (ok_read_back T) (hr.mono (by decide)) rfl T.m_read_back T.F_read_back.kp T.b_read_back leaves_on ?_
    refine ja_cons ?_ ?_
    refine j_ix (hK := ?xK44) (ha := ?xa44) (hb := ?xb44) (hs := ?xs44)
    case xK44 => rfl
    case xs44 => rfl
    exact i_var 1 (pv 1)
    exact i_int
    exact ia_nil
  refine is_cons ?_ ?_
  · refine is_if ?_ ?_ ?_
    refine i_cmpT r_is ?_ ?_ (nomark _)
    exact i_var 2 (pv 2)
    exact i_non
    refine is_one ?_
    exact js_never
    exact is_nil
  refine is_cons ?_ ?_
  · refine is_if ?_ ?_ ?_
    refine i_cmpT (r_eq rfl hu) ?_ ?_ (nomark _)
    refine j_bltnS (c_len rfl) rfl T.n_len bb_len ?_
    refine ja_cons ?_ ?_
    exact i_var 1 (pv 1)
    exact ia_nil
    exact i_int
    refine is_one ?_
    exact js_never
    exact is_nil
  refine is_one ?_
  refine is_ret ?_
  refine i_tup ?_
  refine ja_cons ?_ ?_
  refine j_call (ok_read_lengths T) (hr.mono (by decide)) rfl T.m_read_lengths T.F_read_lengths.kp T.b_read_lengths leaves_on ?_
  refine ja_cons ?_ ?_
  refine i_slX rfl ?_ ?_ ?_
  exact i_var 1 (pv 1)
  refine io_some ?_
  exact i_int
  exact io_none
  exact ia_nil
  refine ja_cons ?_ ?_
  exact i_var 2 (pv 2)
  exact ia_nil
theorem sc_l_pure : FnScope N_l_pure ["_law_thing"] (defScope s_l_pure) := ⟨rfl, rfl, rfl, by decide +kernel, rfl, by decide +kernel, by decide +kernel⟩
theorem okr_l_pure (T : Tx mg a) : ∀ m : Nat, FnOk P w a.K mg base (CXe P w) (2 + m) a.f_l_pure a.fd_l_pure ["_law_thing"] (spF (gx a) 1 (R_l_pure m)) := by
  intro m
  induction m with
  | zero => exact fn_none rfl
  | succ m ih =>
    refine fn_I (g := gx a) (k := 2 + m) (N := N_l_pure) (body := b_l_pure (R_l_pure m)) T.F_l_pure sc_l_pure fun cdv A outer s H E hr => ?_
    have hu := hr.units
    refine is_cons ?_ ?_
    · refine is_if ?_ ?_ ?_
      refine j_tru rfl ?_
      refine j_isiB (T := "tuple") rfl rfl T.n_isinstance rfl T.n_tuple bb_tuple ?_
      exact i_var 0 (pv 0)
      refine is_one ?_
      refine is_ret ?_
      refine j_bltnS (c_all rfl) rfl T.n_all bb_all ?_
      refine ja_cons ?_ ?_
      refine j_comp (T := (Tgt.name 1)) (own := [("_law_part", 1)]) rfl rfl sc_l_pure.nd ?_ (blkOk_by (own := [("_law_part", 1)]) (N := N_l_pure) (sc := defScope s_l_pure) (by decide +kernel)) rfl (show (1 : Nat) ∈ ([1] : List Nat) from by decide) (fun _ _ _ _ _ => pg_name (i := 1) sc_l_pure.nd rfl (Or.inl rfl)) (fun _ _ _ _ _ => its_nil) (fun _ _ _ _ _ => (j_call ih (hr.mono (by omega)) rfl T.m_l_pure T.F_l_pure.kp T.b_l_pure pass_E00 (ja_cons (i_var 1 (pv 1)) ia_nil)))
      exact i_var 0 (pv 0)
      exact ia_nil
      exact is_nil
    refine is_one ?_
    refine is_ret ?_
    refine j_call (ok_l_whole T) (hr.mono (by omega)) rfl T.m_l_whole T.F_l_whole.kp T.b_l_whole leaves_on ?_
    refine ja_cons ?_ ?_
    exact i_var 0 (pv 0)
    exact ia_nil
theorem ok_l_pure (T : Tx mg a) : FnOk P w a.K mg base (CXe P w) 10 a.f_l_pure a.fd_l_pure ["_law_thing"] (spF (gx a) 1 F_l_pure) := okr_l_pure T 8
theorem sc_l_right : FnScope N_l_right ["_law_cable_here", "_law_other"] (defScope s_l_right) := ⟨rfl, rfl, rfl, by decide +kernel, rfl, by decide +kernel, by decide +kernel⟩
theorem ok_l_right (T : Tx mg a) : FnOk P w a.K mg base (CXe P w) 11 a.f_l_right a.fd_l_right ["_law_cable_here", "_law_other"] (spF (gx a) 2 (F_l_right)) := by
  refine fn_I (g := gx a) (N := N_l_right) (body := b_l_right) T.F_l_right sc_l_right fun cdv A outer s H E hr => ?_
  have hu := hr.units
  refine is_cons ?_ ?_
  · refine @js_for _ _ _ _ _ _ _ _ _ _ rfl own_def rfl ?_ ?_ ?_ rfl
    refine i_lst ?_
    refine ja_cons ?_ ?_
    exact i_var 0 (pv 0)
    refine ja_cons ?_ ?_
    exact i_var 1 (pv 1)
    refine ja_cons ?_ ?_
    exact i_var 0 (pv 0)
    exact ia_nil
    exact ig_name (pg_name (i := 2) sc_l_right.nd rfl (by first | exact Or.inl rfl | exact Or.inr rfl))
    refine is_cons ?_ ?_
    · refine js_set (i := 3) (hN := ?hN21) (hi := ?hi21) (hx := ?hx21) (ha := ?ha21) (hs := ?hs21) (hf := ?hf21)
      case hN21 => exact sc_l_right.nd
      case hi21 => exact rfl
      case hx21 => first | exact Or.inl rfl | exact Or.inr rfl
      case hs21 => rfl
      case hf21 => first | exact Or.inl rfl | exact Or.inr rfl | assumption
      refine j_call (ok_show_cable T) (hr.mono (by decide)) rfl T.m_show_cable T.F_show_cable.kp T.b_show_cable leaves_on ?_
      refine ja_cons ?_ ?_
      exact i_var 2 (pv 2)
      exact ia_nil
    refine is_cons ?_ ?_
    · refine is_if ?_ ?_ ?_
      refine PW.pt ?_
      refine it_or ?_ ?_
      refine it_not ?_
      refine j_tru rfl ?_
      refine j_isiB (T := "str") rfl rfl T.n_isinstance rfl T.n_str bb_str ?_
      exact i_var 3 (pv 3)
      refine it_oneO ?_
      refine i_cmpT (r_ne rfl hu) ?_ ?_ (nomark _)
      exact i_var 3 (pv 3)
      refine j_call (ok_l_text T) (hr.mono (by decide)) rfl T.m_l_text T.F_l_text.kp T.b_l_text leaves_on ?_
      refine ja_cons ?_ ?_
      exact i_var 2 (pv 2)
      exact ia_nil
      refine is_one ?_
      refine is_ret ?_
      exact i_bl
      exact is_nil
    refine is_cons ?_ ?_
    · refine js_set (i := 4) (hN := ?hN22) (hi := ?hi22) (hx := ?hx22) (ha := ?ha22) (hs := ?hs22) (hf := ?hf22)
      case hN22 => exact sc_l_right.nd
      case hi22 => exact rfl
      case hx22 => first | exact Or.inl rfl | exact Or.inr rfl
      case hs22 => rfl
      case hf22 => first | exact Or.inl rfl | exact Or.inr rfl | assumption
      refine j_call (ok_read_cable T) (hr.mono (by decide)) rfl T.m_read_cable T.F_read_cable.kp T.b_read_cable leaves_on ?_
      refine ja_cons ?_ ?_
      refine j_call (ok_l_text T) (hr.mono (by decide)) rfl T.m_l_text T.F_l_text.kp T.b_l_text leaves_on ?_
      refine ja_cons ?_ ?_
      exact i_var 2 (pv 2)
      exact ia_nil
      exact ia_nil
    refine is_one ?_
    refine is_if ?_ ?_ ?_
    refine PW.pt ?_
    refine it_or ?_ ?_
    refine it_not ?_
    refine j_tru rfl ?_
    refine j_isiB (T := "tuple") rfl rfl T.n_isinstance rfl T.n_tuple bb_tuple ?_
    exact i_var 4 (pv 4)
    refine it_or ?_ ?_
    refine it_not ?_
    refine j_tru rfl ?_
    refine j_call (ok_l_pure T) (hr.mono (by decide)) rfl T.m_l_pure T.F_l_pure.kp T.b_l_pure leaves_on ?_
    refine ja_cons ?_ ?_
    exact i_var 4 (pv 4)
    exact ia_nil
    refine it_oneO ?_
    refine i_cmpT (r_ne rfl hu) ?_ ?_ (nomark _)
    exact i_var 4 (pv 4)
    exact i_var 2 (pv 2)
    refine is_one ?_
    refine is_ret ?_
    exact i_bl
    exact is_nil
  refine is_one ?_
  refine is_ret ?_
  refine i_cmp (r_eq rfl hu) ?_ ?_ (nomark _)
  refine i_cmp (r_eq rfl hu) ?_ ?_ (nomark _)
  refine j_call (ok_show_cable T) (hr.mono (by decide)) rfl T.m_show_cable T.F_show_cable.kp T.b_show_cable leaves_on ?_
  refine ja_cons ?_ ?_
  exact i_var 0 (pv 0)
  exact ia_nil
  refine j_call (ok_show_cable T) (hr.mono (by decide)) rfl T.m_show_cable T.F_show_cable.kp T.b_show_cable leaves_on ?_
  refine ja_cons ?_ ?_
  exact i_var 1 (pv 1)
  exact ia_nil
  refine i_cmp (r_eq rfl hu) ?_ ?_ (nomark _)
  exact i_var 0 (pv 0)
  exact i_var 1 (pv 1)
theorem sc_law : FnScope N_law ["_law_script"] (defScope s_law) := ⟨rfl, rfl, rfl, by decide +kernel, rfl, by decide +kernel, by decide +kernel⟩
theorem ok_law (T : Tx mg a) : FnOk P w a.K mg base (CXe P w) 12 a.f_law a.fd_law ["_law_script"] (spF (gx a) 1 (F_law)) := by
  refine fn_I (g := gx a) (N := N_law) (body := b_law) T.F_law sc_law fun cdv A outer s H E hr => ?_
  have hu := hr.units
  refine is_cons ?_ ?_
  · refine js_set (i := 1) (hN := ?hN23) (hi := ?hi23) (hx := ?hx23) (ha := ?ha23) (hs := ?hs23) (hf := ?hf23)
    case hN23 => exact sc_law.nd
    case hi23 => exact rfl
    case hx23 => first | exact Or.inl rfl | exact Or.inr rfl
    case hs23 => rfl
    case hf23 => first | exact Or.inl rfl | exact Or.inr rfl | assumption
    refine i_tup ?_
    refine ja_cons ?_ ?_
    refine i_bin (r_addX rfl) ?_ ?_
    refine i_bin (r_mulX rfl) ?_ ?_
    refine i_tup ?_
    refine ja_cons ?_ ?_
    refine i_tup ?_
    refine ja_cons ?_ ?_
    exact i_int
    refine ja_cons ?_ ?_
    refine i_tup ?_
    refine ja_cons ?_ ?_
    exact i_int
    refine ja_cons ?_ ?_
    exact i_int
    exact ia_nil
    exact ia_nil
    exact ia_nil
    exact i_int
    refine i_tup ?_
    refine ja_cons ?_ ?_
    refine i_tup ?_
    refine ja_cons ?_ ?_
    exact i_int
    refine ja_cons ?_ ?_
    refine i_tup ?_
    refine ja_cons ?_ ?_
    exact i_int
    refine ja_cons ?_ ?_
    exact i_int
    exact ia_nil
    exact ia_nil
    exact ia_nil
    refine ja_cons ?_ ?_
    refine i_tup ?_
    refine ja_cons ?_ ?_
    exact i_int
    refine ja_cons ?_ ?_
    exact i_int
    exact ia_nil
    exact ia_nil
  refine is_cons ?_ ?_
  · refine js_forR own_def rfl rfl T.n_range ?_ ?_ ?_
    refine ja_cons ?_ ?_
    refine j_bltnS (c_max rfl) rfl T.n_max bb_max ?_
    refine ja_cons ?_ ?_
    exact i_int
    refine ja_cons ?_ ?_
    refine j_bltnS (c_min rfl) rfl T.n_min bb_min ?_
    refine ja_cons ?_ ?_
    exact i_int
    refine ja_cons ?_ ?_
    refine j_bltnS (c_len rfl) rfl T.n_len bb_len ?_
    refine ja_cons ?_ ?_
    exact i_var 0 (pv 0)
    exact ia_nil
    exact ia_nil
    exact ia_nil
    exact ia_nil
    exact ig_name (pg_name (i := 2) sc_law.nd rfl (by first | exact Or.inl rfl | exact Or.inr rfl))
    refine is_cons ?_ ?_
    · refine js_set (i := 3) (hN := ?hN24) (hi := ?hi24) (hx := ?hx24) (ha := ?ha24) (hs := ?hs24) (hf := ?hf24)
      case hN24 => exact sc_law.nd
      case hi24 => exact rfl
      case hx24 => first | exact Or.inl rfl | exact Or.inr rfl
      case hs24 => rfl
      case hf24 => first | exact Or.inl rfl | exact Or.inr rfl | assumption
      refine j_call (ok_l_purse T) (hr.mono (by decide)) rfl T.m_l_purse T.F_l_purse.kp T.b_l_purse leaves_on ?_
      refine ja_cons ?_ ?_
      refine j_call (ok_l_cell T) (hr.mono (by decide)) rfl T.m_l_cell T.F_l_cell.kp T.b_l_cell leaves_on ?_
      refine ja_cons ?_ ?_
      exact i_var 0 (pv 0)
      refine ja_cons ?_ ?_
      exact i_var 2 (pv 2)
      exact ia_nil
      exact ia_nil
    refine is_cons ?_ ?_
    · refine js_set (i := 4) (hN := ?hN25) (hi := ?hi25) (hx := ?hx25) (ha := ?ha25) (hs := ?hs25) (hf := ?hf25)
      case hN25 => exact sc_law.nd
      case hi25 => exact rfl
      case hx25 => first | exact Or.inl rfl | exact Or.inr rfl
      case hs25 => rfl
      case hf25 => first | exact Or.inl rfl | exact Or.inr rfl | assumption
      refine j_call (ok_l_cable T) (hr.mono (by decide)) rfl T.m_l_cable T.F_l_cable.kp T.b_l_cable leaves_on ?_
      refine ja_cons ?_ ?_
      exact i_var 3 (pv 3)
      refine ja_cons ?_ ?_
      refine j_ix (hK := ?xK45) (ha := ?xa45) (hb := ?xb45) (hs := ?xs45)
      case xK45 => rfl
      case xs45 => rfl
      refine i_lst ?_
      refine ja_cons ?_ ?_
      exact i_int
      refine ja_cons ?_ ?_
      exact i_int
      refine ja_cons ?_ ?_
      exact i_int
      refine ja_cons ?_ ?_
      exact i_int
      refine ja_cons ?_ ?_
      exact i_int
      refine ja_cons ?_ ?_
      refine j_ix (hK := ?xK46) (ha := ?xa46) (hb := ?xb46) (hs := ?xs46)
      case xK46 => rfl
      case xs46 => rfl
      refine i_lst ?_
      refine ja_cons ?_ ?_
      exact i_int
      refine ja_cons ?_ ?_
      exact i_int
      exact ia_nil
      refine j_typeS c_int rfl T.n_int bb_int ?_
      refine ja_cons ?_ ?_
      refine i_cmp r_lt ?_ ?_ (nomark _)
      exact i_var 2 (pv 2)
      exact i_int
      exact ia_nil
      refine ja_cons ?_ ?_
      refine j_ix (hK := ?xK47) (ha := ?xa47) (hb := ?xb47) (hs := ?xs47)
      case xK47 => rfl
      case xs47 => rfl
      refine i_lst ?_
      refine ja_cons ?_ ?_
      exact i_int
      refine ja_cons ?_ ?_
      exact i_int
      exact ia_nil
      refine j_typeS c_int rfl T.n_int bb_int ?_
      refine ja_cons ?_ ?_
      refine i_cmp r_lt ?_ ?_ (nomark _)
      exact i_var 2 (pv 2)
      exact i_int
      exact ia_nil
      refine ja_cons ?_ ?_
      exact i_int
      exact ia_nil
      refine j_call (ok_l_pick T) (hr.mono (by decide)) rfl T.m_l_pick T.F_l_pick.kp T.b_l_pick leaves_on ?_
      refine ja_cons ?_ ?_
      exact i_var 3 (pv 3)
      refine ja_cons ?_ ?_
      exact i_int
      exact ia_nil
      exact ia_nil
    refine is_cons ?_ ?_
    · refine is_if ?_ ?_ ?_
      refine PW.pt ?_
      refine it_or ?_ ?_
      refine it_not ?_
      refine j_tru rfl ?_
      refine j_call (ok_l_right T) (hr.mono (by decide)) rfl T.m_l_right T.F_l_right.kp T.b_l_right leaves_on ?_
      refine ja_cons ?_ ?_
      exact i_var 4 (pv 4)
      refine ja_cons ?_ ?_
      exact i_var 1 (pv 1)
      exact ia_nil
      refine it_oneO ?_
      refine it_not ?_
      refine j_tru rfl ?_
      refine j_call (ok_l_right T) (hr.mono (by decide)) rfl T.m_l_right T.F_l_right.kp T.b_l_right leaves_on ?_
      refine ja_cons ?_ ?_
      exact i_var 4 (pv 4)
      refine ja_cons ?_ ?_
      refine i_tup ?_
      refine ja_cons ?_ ?_
      refine i_rev rfl ?_
      refine j_ix (hK := ?xK48) (ha := ?xa48) (hb := ?xb48) (hs := ?xs48)
      case xK48 => rfl
      case xs48 => rfl
      exact i_var 4 (pv 4)
      exact i_int
      refine ja_cons ?_ ?_
      refine j_ix (hK := ?xK49) (ha := ?xa49) (hb := ?xb49) (hs := ?xs49)
      case xK49 => rfl
      case xs49 => rfl
      exact i_var 4 (pv 4)
      exact i_int
      exact ia_nil
      exact ia_nil
      refine is_one ?_
      refine is_ret ?_
      exact i_bl
      exact is_nil
    refine is_one ?_
    refine js_set (i := 1) (hN := ?hN26) (hi := ?hi26) (hx := ?hx26) (ha := ?ha26) (hs := ?hs26) (hf := ?hf26)
    case hN26 => exact sc_law.nd
    case hi26 => exact rfl
    case hx26 => first | exact Or.inl rfl | exact Or.inr rfl
    case hs26 => rfl
    case hf26 => first | exact Or.inl rfl | exact Or.inr rfl | assumption
    exact i_var 4 (pv 4)
  refine is_one ?_
  refine is_ret ?_
  exact i_bl
end
theorem all_mk {l : PySem.W.OpenLaw} {w : World} {K : PySem.W.Frag} {h : Heap} {mg : Str → Option Value} {fa : Addr}
    {f_is_whole : Addr} {od_is_whole an_is_whole : Option Addr} {sl_is_whole : Array (Option Value)} {oc_is_whole kV_is_whole dc_is_whole pm_is_whole cd_is_whole ct_is_whole : Value}
    {f_is_tuple_of : Addr} {od_is_tuple_of an_is_tuple_of : Option Addr} {sl_is_tuple_of : Array (Option Value)} {oc_is_tuple_of kV_is_tuple_of dc_is_tuple_of pm_is_tuple_of cd_is_tuple_of ct_is_tuple_of : Value}
    {f_common_divisor : Addr} {od_common_divisor an_common_divisor : Option Addr} {sl_common_divisor : Array (Option Value)} {oc_common_divisor kV_common_divisor dc_common_divisor pm_common_divisor cd_common_divisor ct_common_divisor : Value}
    {f_is_small : Addr} {od_is_small an_is_small : Option Addr} {sl_is_small : Array (Option Value)} {oc_is_small kV_is_small dc_is_small pm_is_small cd_is_small ct_is_small : Value}
    {f_show_fraction : Addr} {od_show_fraction an_show_fraction : Option Addr} {sl_show_fraction : Array (Option Value)} {oc_show_fraction kV_show_fraction dc_show_fraction pm_show_fraction cd_show_fraction ct_show_fraction : Value}
    {f_read_number : Addr} {od_read_number an_read_number : Option Addr} {sl_read_number : Array (Option Value)} {oc_read_number kV_read_number dc_read_number pm_read_number cd_read_number ct_read_number : Value}
    {f_l_cell : Addr} {od_l_cell an_l_cell : Option Addr} {sl_l_cell : Array (Option Value)} {oc_l_cell kV_l_cell dc_l_cell pm_l_cell cd_l_cell ct_l_cell : Value}
    {f_l_purse : Addr} {od_l_purse an_l_purse : Option Addr} {sl_l_purse : Array (Option Value)} {oc_l_purse kV_l_purse dc_l_purse pm_l_purse cd_l_purse ct_l_purse : Value}
    {f_l_pick : Addr} {od_l_pick an_l_pick : Option Addr} {sl_l_pick : Array (Option Value)} {oc_l_pick kV_l_pick dc_l_pick pm_l_pick cd_l_pick ct_l_pick : Value}
    {f_l_whole : Addr} {od_l_whole an_l_whole : Option Addr} {sl_l_whole : Array (Option Value)} {oc_l_whole kV_l_whole dc_l_whole pm_l_whole cd_l_whole ct_l_whole : Value}
    {f_l_low : Addr} {od_l_low an_l_low : Option Addr} {sl_l_low : Array (Option Value)} {oc_l_low kV_l_low dc_l_low pm_l_low cd_l_low ct_l_low : Value}
    {f_l_fraction_text : Addr} {od_l_fraction_text an_l_fraction_text : Option Addr} {sl_l_fraction_text : Array (Option Value)} {oc_l_fraction_text kV_l_fraction_text dc_l_fraction_text pm_l_fraction_text cd_l_fraction_text ct_l_fraction_text : Value}
    {f_is_fraction : Addr} {od_is_fraction an_is_fraction : Option Addr} {sl_is_fraction : Array (Option Value)} {oc_is_fraction kV_is_fraction dc_is_fraction pm_is_fraction cd_is_fraction ct_is_fraction : Value}
    {f_l_text : Addr} {od_l_text an_l_text : Option Addr} {sl_l_text : Array (Option Value)} {oc_l_text kV_l_text dc_l_text pm_l_text cd_l_text ct_l_text : Value}
    {f_l_small : Addr} {od_l_small an_l_small : Option Addr} {sl_l_small : Array (Option Value)} {oc_l_small kV_l_small dc_l_small pm_l_small cd_l_small ct_l_small : Value}
    {f_is_from_zero : Addr} {od_is_from_zero an_is_from_zero : Option Addr} {sl_is_from_zero : Array (Option Value)} {oc_is_from_zero kV_is_from_zero dc_is_from_zero pm_is_from_zero cd_is_from_zero ct_is_from_zero : Value}
    {f_is_above_zero : Addr} {od_is_above_zero an_is_above_zero : Option Addr} {sl_is_above_zero : Array (Option Value)} {oc_is_above_zero kV_is_above_zero dc_is_above_zero pm_is_above_zero cd_is_above_zero ct_is_above_zero : Value}
    {f_read_fraction : Addr} {od_read_fraction an_read_fraction : Option Addr} {sl_read_fraction : Array (Option Value)} {oc_read_fraction kV_read_fraction dc_read_fraction pm_read_fraction cd_read_fraction ct_read_fraction : Value}
    {f_l_cable : Addr} {od_l_cable an_l_cable : Option Addr} {sl_l_cable : Array (Option Value)} {oc_l_cable kV_l_cable dc_l_cable pm_l_cable cd_l_cable ct_l_cable : Value}
    {f_is_length : Addr} {od_is_length an_is_length : Option Addr} {sl_is_length : Array (Option Value)} {oc_is_length kV_is_length dc_is_length pm_is_length cd_is_length ct_is_length : Value}
    {f_is_back : Addr} {od_is_back an_is_back : Option Addr} {sl_is_back : Array (Option Value)} {oc_is_back kV_is_back dc_is_back pm_is_back cd_is_back ct_is_back : Value}
    {f_is_cable : Addr} {od_is_cable an_is_cable : Option Addr} {sl_is_cable : Array (Option Value)} {oc_is_cable kV_is_cable dc_is_cable pm_is_cable cd_is_cable ct_is_cable : Value}
    {f_read_back : Addr} {od_read_back an_read_back : Option Addr} {sl_read_back : Array (Option Value)} {oc_read_back kV_read_back dc_read_back pm_read_back cd_read_back ct_read_back : Value}
    {f_read_length : Addr} {od_read_length an_read_length : Option Addr} {sl_read_length : Array (Option Value)} {oc_read_length kV_read_length dc_read_length pm_read_length cd_read_length ct_read_length : Value}
    {f_need_cable : Addr} {od_need_cable an_need_cable : Option Addr} {sl_need_cable : Array (Option Value)} {oc_need_cable kV_need_cable dc_need_cable pm_need_cable cd_need_cable ct_need_cable : Value}
    {f_read_lengths : Addr} {od_read_lengths an_read_lengths : Option Addr} {sl_read_lengths : Array (Option Value)} {oc_read_lengths kV_read_lengths dc_read_lengths pm_read_lengths cd_read_lengths ct_read_lengths : Value}
    {f_show_cable : Addr} {od_show_cable an_show_cable : Option Addr} {sl_show_cable : Array (Option Value)} {oc_show_cable kV_show_cable dc_show_cable pm_show_cable cd_show_cable ct_show_cable : Value}
    {f_read_cable : Addr} {od_read_cable an_read_cable : Option Addr} {sl_read_cable : Array (Option Value)} {oc_read_cable kV_read_cable dc_read_cable pm_read_cable cd_read_cable ct_read_cable : Value}
    {f_l_pure : Addr} {od_l_pure an_l_pure : Option Addr} {sl_l_pure : Array (Option Value)} {oc_l_pure kV_l_pure dc_l_pure pm_l_pure cd_l_pure ct_l_pure : Value}
    {f_l_right : Addr} {od_l_right an_l_right : Option Addr} {sl_l_right : Array (Option Value)} {oc_l_right kV_l_right dc_l_right pm_l_right cd_l_right ct_l_right : Value}
    {f_law : Addr} {od_law an_law : Option Addr} {sl_law : Array (Option Value)} {oc_law kV_law dc_law pm_law cd_law ct_law : Value}
    {c_EarthError : Addr}
    {c_NoCable : Addr}
    {c_NoText : Addr}
    {kt_MOST_LENGTHS : Tok}
    {kt_MOST_NUMBER : Tok}
    {kt_FIGURES : Tok}
    {kt_MOST_FIGURES : Tok}
    (X : K.In h) (G : h.Ns mainGlobals mg) (hfa : mg "law" = some (.ref fa))
    (a_is_whole : PySem.W.nsIn K mainGlobals "is_whole" = some (some (.ref f_is_whole)))
    (l_is_whole : K.lookup f_is_whole = some ⟨oc_is_whole, od_is_whole, .func (PySem.W.fnOf "is_whole" "is_whole" (defArgs s_is_whole) (defBody s_is_whole) (defScope s_is_whole) .none kV_is_whole dc_is_whole pm_is_whole an_is_whole cd_is_whole ct_is_whole), sl_is_whole⟩)
    (e_is_whole : PySem.W.codeIn K cd_is_whole "is_whole" = true)
    (k_is_whole : PySem.W.keepIn K (.ref f_is_whole) = true)
    (a_is_tuple_of : PySem.W.nsIn K mainGlobals "is_tuple_of" = some (some (.ref f_is_tuple_of)))
    (l_is_tuple_of : K.lookup f_is_tuple_of = some ⟨oc_is_tuple_of, od_is_tuple_of, .func (PySem.W.fnOf "is_tuple_of" "is_tuple_of" (defArgs s_is_tuple_of) (defBody s_is_tuple_of) (defScope s_is_tuple_of) .none kV_is_tuple_of dc_is_tuple_of pm_is_tuple_of an_is_tuple_of cd_is_tuple_of ct_is_tuple_of), sl_is_tuple_of⟩)
    (e_is_tuple_of : PySem.W.codeIn K cd_is_tuple_of "is_tuple_of" = true)
    (k_is_tuple_of : PySem.W.keepIn K (.ref f_is_tuple_of) = true)
    (a_common_divisor : PySem.W.nsIn K mainGlobals "common_divisor" = some (some (.ref f_common_divisor)))
    (l_common_divisor : K.lookup f_common_divisor = some ⟨oc_common_divisor, od_common_divisor, .func (PySem.W.fnOf "common_divisor" "common_divisor" (defArgs s_common_divisor) (defBody s_common_divisor) (defScope s_common_divisor) .none kV_common_divisor dc_common_divisor pm_common_divisor an_common_divisor cd_common_divisor ct_common_divisor), sl_common_divisor⟩)
    (e_common_divisor : PySem.W.codeIn K cd_common_divisor "common_divisor" = true)
    (k_common_divisor : PySem.W.keepIn K (.ref f_common_divisor) = true)
    (a_is_small : PySem.W.nsIn K mainGlobals "is_small" = some (some (.ref f_is_small)))
    (l_is_small : K.lookup f_is_small = some ⟨oc_is_small, od_is_small, .func (PySem.W.fnOf "is_small" "is_small" (defArgs s_is_small) (defBody s_is_small) (defScope s_is_small) .none kV_is_small dc_is_small pm_is_small an_is_small cd_is_small ct_is_small), sl_is_small⟩)
    (e_is_small : PySem.W.codeIn K cd_is_small "is_small" = true)
    (k_is_small : PySem.W.keepIn K (.ref f_is_small) = true)
    (a_show_fraction : PySem.W.nsIn K mainGlobals "show_fraction" = some (some (.ref f_show_fraction)))
    (l_show_fraction : K.lookup f_show_fraction = some ⟨oc_show_fraction, od_show_fraction, .func (PySem.W.fnOf "show_fraction" "show_fraction" (defArgs s_show_fraction) (defBody s_show_fraction) (defScope s_show_fraction) .none kV_show_fraction dc_show_fraction pm_show_fraction an_show_fraction cd_show_fraction ct_show_fraction), sl_show_fraction⟩)
    (e_show_fraction : PySem.W.codeIn K cd_show_fraction "show_fraction" = true)
    (k_show_fraction : PySem.W.keepIn K (.ref f_show_fraction) = true)
    (a_read_number : PySem.W.nsIn K mainGlobals "read_number" = some (some (.ref f_read_number)))
    (l_read_number : K.lookup f_read_number = some ⟨oc_read_number, od_read_number, .func (PySem.W.fnOf "read_number" "read_number" (defArgs s_read_number) (defBody s_read_number) (defScope s_read_number) .none kV_read_number dc_read_number pm_read_number an_read_number cd_read_number ct_read_number), sl_read_number⟩)
    (e_read_number : PySem.W.codeIn K cd_read_number "read_number" = true)
    (k_read_number : PySem.W.keepIn K (.ref f_read_number) = true)
    (a_l_cell : PySem.W.nsIn K mainGlobals "_law_cell" = some (some (.ref f_l_cell)))
    (l_l_cell : K.lookup f_l_cell = some ⟨oc_l_cell, od_l_cell, .func (PySem.W.fnOf "_law_cell" "_law_cell" (defArgs s_l_cell) (defBody s_l_cell) (defScope s_l_cell) .none kV_l_cell dc_l_cell pm_l_cell an_l_cell cd_l_cell ct_l_cell), sl_l_cell⟩)
    (e_l_cell : PySem.W.codeIn K cd_l_cell "_law_cell" = true)
    (k_l_cell : PySem.W.keepIn K (.ref f_l_cell) = true)
    (a_l_purse : PySem.W.nsIn K mainGlobals "_law_purse" = some (some (.ref f_l_purse)))
    (l_l_purse : K.lookup f_l_purse = some ⟨oc_l_purse, od_l_purse, .func (PySem.W.fnOf "_law_purse" "_law_purse" (defArgs s_l_purse) (defBody s_l_purse) (defScope s_l_purse) .none kV_l_purse dc_l_purse pm_l_purse an_l_purse cd_l_purse ct_l_purse), sl_l_purse⟩)
    (e_l_purse : PySem.W.codeIn K cd_l_purse "_law_purse" = true)
    (k_l_purse : PySem.W.keepIn K (.ref f_l_purse) = true)
    (a_l_pick : PySem.W.nsIn K mainGlobals "_law_pick" = some (some (.ref f_l_pick)))
    (l_l_pick : K.lookup f_l_pick = some ⟨oc_l_pick, od_l_pick, .func (PySem.W.fnOf "_law_pick" "_law_pick" (defArgs s_l_pick) (defBody s_l_pick) (defScope s_l_pick) .none kV_l_pick dc_l_pick pm_l_pick an_l_pick cd_l_pick ct_l_pick), sl_l_pick⟩)
    (e_l_pick : PySem.W.codeIn K cd_l_pick "_law_pick" = true)
    (k_l_pick : PySem.W.keepIn K (.ref f_l_pick) = true)
    (a_l_whole : PySem.W.nsIn K mainGlobals "_law_whole" = some (some (.ref f_l_whole)))
    (l_l_whole : K.lookup f_l_whole = some ⟨oc_l_whole, od_l_whole, .func (PySem.W.fnOf "_law_whole" "_law_whole" (defArgs s_l_whole) (defBody s_l_whole) (defScope s_l_whole) .none kV_l_whole dc_l_whole pm_l_whole an_l_whole cd_l_whole ct_l_whole), sl_l_whole⟩)
    (e_l_whole : PySem.W.codeIn K cd_l_whole "_law_whole" = true)
    (k_l_whole : PySem.W.keepIn K (.ref f_l_whole) = true)
    (a_l_low : PySem.W.nsIn K mainGlobals "_law_low" = some (some (.ref f_l_low)))
    (l_l_low : K.lookup f_l_low = some ⟨oc_l_low, od_l_low, .func (PySem.W.fnOf "_law_low" "_law_low" (defArgs s_l_low) (defBody s_l_low) (defScope s_l_low) .none kV_l_low dc_l_low pm_l_low an_l_low cd_l_low ct_l_low), sl_l_low⟩)
    (e_l_low : PySem.W.codeIn K cd_l_low "_law_low" = true)
    (k_l_low : PySem.W.keepIn K (.ref f_l_low) = true)
    (a_l_fraction_text : PySem.W.nsIn K mainGlobals "_law_fraction_text" = some (some (.ref f_l_fraction_text)))
    (l_l_fraction_text : K.lookup f_l_fraction_text = some ⟨oc_l_fraction_text, od_l_fraction_text, .func (PySem.W.fnOf "_law_fraction_text" "_law_fraction_text" (defArgs s_l_fraction_text) (defBody s_l_fraction_text) (defScope s_l_fraction_text) .none kV_l_fraction_text dc_l_fraction_text pm_l_fraction_text an_l_fraction_text cd_l_fraction_text ct_l_fraction_text), sl_l_fraction_text⟩)
    (e_l_fraction_text : PySem.W.codeIn K cd_l_fraction_text "_law_fraction_text" = true)
    (k_l_fraction_text : PySem.W.keepIn K (.ref f_l_fraction_text) = true)
    (a_is_fraction : PySem.W.nsIn K mainGlobals "is_fraction" = some (some (.ref f_is_fraction)))
    (l_is_fraction : K.lookup f_is_fraction = some ⟨oc_is_fraction, od_is_fraction, .func (PySem.W.fnOf "is_fraction" "is_fraction" (defArgs s_is_fraction) (defBody s_is_fraction) (defScope s_is_fraction) .none kV_is_fraction dc_is_fraction pm_is_fraction an_is_fraction cd_is_fraction ct_is_fraction), sl_is_fraction⟩)
    (e_is_fraction : PySem.W.codeIn K cd_is_fraction "is_fraction" = true)
    (k_is_fraction : PySem.W.keepIn K (.ref f_is_fraction) = true)
    (a_l_text : PySem.W.nsIn K mainGlobals "_law_text" = some (some (.ref f_l_text)))
    (l_l_text : K.lookup f_l_text = some ⟨oc_l_text, od_l_text, .func (PySem.W.fnOf "_law_text" "_law_text" (defArgs s_l_text) (defBody s_l_text) (defScope s_l_text) .none kV_l_text dc_l_text pm_l_text an_l_text cd_l_text ct_l_text), sl_l_text⟩)
    (e_l_text : PySem.W.codeIn K cd_l_text "_law_text" = true)
    (k_l_text : PySem.W.keepIn K (.ref f_l_text) = true)
    (a_l_small : PySem.W.nsIn K mainGlobals "_law_small" = some (some (.ref f_l_small)))
    (l_l_small : K.lookup f_l_small = some ⟨oc_l_small, od_l_small, .func (PySem.W.fnOf "_law_small" "_law_small" (defArgs s_l_small) (defBody s_l_small) (defScope s_l_small) .none kV_l_small dc_l_small pm_l_small an_l_small cd_l_small ct_l_small), sl_l_small⟩)
    (e_l_small : PySem.W.codeIn K cd_l_small "_law_small" = true)
    (k_l_small : PySem.W.keepIn K (.ref f_l_small) = true)
    (a_is_from_zero : PySem.W.nsIn K mainGlobals "is_from_zero" = some (some (.ref f_is_from_zero)))
    (l_is_from_zero : K.lookup f_is_from_zero = some ⟨oc_is_from_zero, od_is_from_zero, .func (PySem.W.fnOf "is_from_zero" "is_from_zero" (defArgs s_is_from_zero) (defBody s_is_from_zero) (defScope s_is_from_zero) .none kV_is_from_zero dc_is_from_zero pm_is_from_zero an_is_from_zero cd_is_from_zero ct_is_from_zero), sl_is_from_zero⟩)
    (e_is_from_zero : PySem.W.codeIn K cd_is_from_zero "is_from_zero" = true)
    (k_is_from_zero : PySem.W.keepIn K (.ref f_is_from_zero) = true)
    (a_is_above_zero : PySem.W.nsIn K mainGlobals "is_above_zero" = some (some (.ref f_is_above_zero)))
    (l_is_above_zero : K.lookup f_is_above_zero = some ⟨oc_is_above_zero, od_is_above_zero, .func (PySem.W.fnOf "is_above_zero" "is_above_zero" (defArgs s_is_above_zero) (defBody s_is_above_zero) (defScope s_is_above_zero) .none kV_is_above_zero dc_is_above_zero pm_is_above_zero an_is_above_zero cd_is_above_zero ct_is_above_zero), sl_is_above_zero⟩)
    (e_is_above_zero : PySem.W.codeIn K cd_is_above_zero "is_above_zero" = true)
    (k_is_above_zero : PySem.W.keepIn K (.ref f_is_above_zero) = true)
    (a_read_fraction : PySem.W.nsIn K mainGlobals "read_fraction" = some (some (.ref f_read_fraction)))
    (l_read_fraction : K.lookup f_read_fraction = some ⟨oc_read_fraction, od_read_fraction, .func (PySem.W.fnOf "read_fraction" "read_fraction" (defArgs s_read_fraction) (defBody s_read_fraction) (defScope s_read_fraction) .none kV_read_fraction dc_read_fraction pm_read_fraction an_read_fraction cd_read_fraction ct_read_fraction), sl_read_fraction⟩)
    (e_read_fraction : PySem.W.codeIn K cd_read_fraction "read_fraction" = true)
    (k_read_fraction : PySem.W.keepIn K (.ref f_read_fraction) = true)
    (a_l_cable : PySem.W.nsIn K mainGlobals "_law_cable" = some (some (.ref f_l_cable)))
    (l_l_cable : K.lookup f_l_cable = some ⟨oc_l_cable, od_l_cable, .func (PySem.W.fnOf "_law_cable" "_law_cable" (defArgs s_l_cable) (defBody s_l_cable) (defScope s_l_cable) .none kV_l_cable dc_l_cable pm_l_cable an_l_cable cd_l_cable ct_l_cable), sl_l_cable⟩)
    (e_l_cable : PySem.W.codeIn K cd_l_cable "_law_cable" = true)
    (k_l_cable : PySem.W.keepIn K (.ref f_l_cable) = true)
    (a_is_length : PySem.W.nsIn K mainGlobals "is_length" = some (some (.ref f_is_length)))
    (l_is_length : K.lookup f_is_length = some ⟨oc_is_length, od_is_length, .func (PySem.W.fnOf "is_length" "is_length" (defArgs s_is_length) (defBody s_is_length) (defScope s_is_length) .none kV_is_length dc_is_length pm_is_length an_is_length cd_is_length ct_is_length), sl_is_length⟩)
    (e_is_length : PySem.W.codeIn K cd_is_length "is_length" = true)
    (k_is_length : PySem.W.keepIn K (.ref f_is_length) = true)
    (a_is_back : PySem.W.nsIn K mainGlobals "is_back" = some (some (.ref f_is_back)))
    (l_is_back : K.lookup f_is_back = some ⟨oc_is_back, od_is_back, .func (PySem.W.fnOf "is_back" "is_back" (defArgs s_is_back) (defBody s_is_back) (defScope s_is_back) .none kV_is_back dc_is_back pm_is_back an_is_back cd_is_back ct_is_back), sl_is_back⟩)
    (e_is_back : PySem.W.codeIn K cd_is_back "is_back" = true)
    (k_is_back : PySem.W.keepIn K (.ref f_is_back) = true)
    (a_is_cable : PySem.W.nsIn K mainGlobals "is_cable" = some (some (.ref f_is_cable)))
    (l_is_cable : K.lookup f_is_cable = some ⟨oc_is_cable, od_is_cable, .func (PySem.W.fnOf "is_cable" "is_cable" (defArgs s_is_cable) (defBody s_is_cable) (defScope s_is_cable) .none kV_is_cable dc_is_cable pm_is_cable an_is_cable cd_is_cable ct_is_cable), sl_is_cable⟩)
    (e_is_cable : PySem.W.codeIn K cd_is_cable "is_cable" = true)
    (k_is_cable : PySem.W.keepIn K (.ref f_is_cable) = true)
    (a_read_back : PySem.W.nsIn K mainGlobals "read_back" = some (some (.ref f_read_back)))
    (l_read_back : K.lookup f_read_back = some ⟨oc_read_back, od_read_back, .func (PySem.W.fnOf "read_back" "read_back" (defArgs s_read_back) (defBody s_read_back) (defScope s_read_back) .none kV_read_back dc_read_back pm_read_back an_read_back cd_read_back ct_read_back), sl_read_back⟩)
    (e_read_back : PySem.W.codeIn K cd_read_back "read_back" = true)
    (k_read_back : PySem.W.keepIn K (.ref f_read_back) = true)
    (a_read_length : PySem.W.nsIn K mainGlobals "read_length" = some (some (.ref f_read_length)))
    (l_read_length : K.lookup f_read_length = some ⟨oc_read_length, od_read_length, .func (PySem.W.fnOf "read_length" "read_length" (defArgs s_read_length) (defBody s_read_length) (defScope s_read_length) .none kV_read_length dc_read_length pm_read_length an_read_length cd_read_length ct_read_length), sl_read_length⟩)
    (e_read_length : PySem.W.codeIn K cd_read_length "read_length" = true)
    (k_read_length : PySem.W.keepIn K (.ref f_read_length) = true)
    (a_need_cable : PySem.W.nsIn K mainGlobals "need_cable" = some (some (.ref f_need_cable)))
    (l_need_cable : K.lookup f_need_cable = some ⟨oc_need_cable, od_need_cable, .func (PySem.W.fnOf "need_cable" "need_cable" (defArgs s_need_cable) (defBody s_need_cable) (defScope s_need_cable) .none kV_need_cable dc_need_cable pm_need_cable an_need_cable cd_need_cable ct_need_cable), sl_need_cable⟩)
    (e_need_cable : PySem.W.codeIn K cd_need_cable "need_cable" = true)
    (k_need_cable : PySem.W.keepIn K (.ref f_need_cable) = true)
    (a_read_lengths : PySem.W.nsIn K mainGlobals "read_lengths" = some (some (.ref f_read_lengths)))
    (l_read_lengths : K.lookup f_read_lengths = some ⟨oc_read_lengths, od_read_lengths, .func (PySem.W.fnOf "read_lengths" "read_lengths" (defArgs s_read_lengths) (defBody s_read_lengths) (defScope s_read_lengths) .none kV_read_lengths dc_read_lengths pm_read_lengths an_read_lengths cd_read_lengths ct_read_lengths), sl_read_lengths⟩)
    (e_read_lengths : PySem.W.codeIn K cd_read_lengths "read_lengths" = true)
    (k_read_lengths : PySem.W.keepIn K (.ref f_read_lengths) = true)
    (a_show_cable : PySem.W.nsIn K mainGlobals "show_cable" = some (some (.ref f_show_cable)))
    (l_show_cable : K.lookup f_show_cable = some ⟨oc_show_cable, od_show_cable, .func (PySem.W.fnOf "show_cable" "show_cable" (defArgs s_show_cable) (defBody s_show_cable) (defScope s_show_cable) .none kV_show_cable dc_show_cable pm_show_cable an_show_cable cd_show_cable ct_show_cable), sl_show_cable⟩)
    (e_show_cable : PySem.W.codeIn K cd_show_cable "show_cable" = true)
    (k_show_cable : PySem.W.keepIn K (.ref f_show_cable) = true)
    (a_read_cable : PySem.W.nsIn K mainGlobals "read_cable" = some (some (.ref f_read_cable)))
    (l_read_cable : K.lookup f_read_cable = some ⟨oc_read_cable, od_read_cable, .func (PySem.W.fnOf "read_cable" "read_cable" (defArgs s_read_cable) (defBody s_read_cable) (defScope s_read_cable) .none kV_read_cable dc_read_cable pm_read_cable an_read_cable cd_read_cable ct_read_cable), sl_read_cable⟩)
    (e_read_cable : PySem.W.codeIn K cd_read_cable "read_cable" = true)
    (k_read_cable : PySem.W.keepIn K (.ref f_read_cable) = true)
    (a_l_pure : PySem.W.nsIn K mainGlobals "_law_pure" = some (some (.ref f_l_pure)))
    (l_l_pure : K.lookup f_l_pure = some ⟨oc_l_pure, od_l_pure, .func (PySem.W.fnOf "_law_pure" "_law_pure" (defArgs s_l_pure) (defBody s_l_pure) (defScope s_l_pure) .none kV_l_pure dc_l_pure pm_l_pure an_l_pure cd_l_pure ct_l_pure), sl_l_pure⟩)
    (e_l_pure : PySem.W.codeIn K cd_l_pure "_law_pure" = true)
    (k_l_pure : PySem.W.keepIn K (.ref f_l_pure) = true)
    (a_l_right : PySem.W.nsIn K mainGlobals "_law_right" = some (some (.ref f_l_right)))
    (l_l_right : K.lookup f_l_right = some ⟨oc_l_right, od_l_right, .func (PySem.W.fnOf "_law_right" "_law_right" (defArgs s_l_right) (defBody s_l_right) (defScope s_l_right) .none kV_l_right dc_l_right pm_l_right an_l_right cd_l_right ct_l_right), sl_l_right⟩)
    (e_l_right : PySem.W.codeIn K cd_l_right "_law_right" = true)
    (k_l_right : PySem.W.keepIn K (.ref f_l_right) = true)
    (a_law : PySem.W.nsIn K mainGlobals "law" = some (some (.ref f_law)))
    (l_law : K.lookup f_law = some ⟨oc_law, od_law, .func (PySem.W.fnOf "law" "law" (defArgs s_law) (defBody s_law) (defScope s_law) .none kV_law dc_law pm_law an_law cd_law ct_law), sl_law⟩)
    (e_law : PySem.W.codeIn K cd_law "law" = true)
    (k_law : PySem.W.keepIn K (.ref f_law) = true)
    (cc_EarthError : PySem.W.nsIn K mainGlobals "EarthError" = some (some (.ref c_EarthError)))
    (cc_NoCable : PySem.W.nsIn K mainGlobals "NoCable" = some (some (.ref c_NoCable)))
    (cc_NoText : PySem.W.nsIn K mainGlobals "NoText" = some (some (.ref c_NoText)))
    (x1_NoCable : PySem.W.excIn K c_NoCable bmV "ValueError.__new__" = true)
    (x2_NoCable : PySem.W.findIn K (.ref c_NoCable) "__getattribute__" = some (some (.builtin "BaseException.__getattribute__")))
    (x3_NoCable : PySem.W.findIn K (.ref c_NoCable) "__getattr__" = some none)
    (x4_NoCable : PySem.W.findIn K (.ref c_NoCable) "__class__" = some (some (.builtin "object.__class__")))
    (kc_MOST_LENGTHS : PySem.W.nsIn K mainGlobals "MOST_LENGTHS" = some (some (.int 12 kt_MOST_LENGTHS)))
    (kc_MOST_NUMBER : PySem.W.nsIn K mainGlobals "MOST_NUMBER" = some (some (.int 999 kt_MOST_NUMBER)))
    (kc_FIGURES : PySem.W.nsIn K mainGlobals "FIGURES" = some (some (.str "0123456789" kt_FIGURES)))
    (kc_MOST_FIGURES : PySem.W.nsIn K mainGlobals "MOST_FIGURES" = some (some (.int 3 kt_MOST_FIGURES)))
    (z_abs : PySem.W.nsIn K mainGlobals "abs" = some none)
    (z_all : PySem.W.nsIn K mainGlobals "all" = some none)
    (z_any : PySem.W.nsIn K mainGlobals "any" = some none)
    (z_bool : PySem.W.nsIn K mainGlobals "bool" = some none)
    (z_enumerate : PySem.W.nsIn K mainGlobals "enumerate" = some none)
    (z_int : PySem.W.nsIn K mainGlobals "int" = some none)
    (z_isinstance : PySem.W.nsIn K mainGlobals "isinstance" = some none)
    (z_len : PySem.W.nsIn K mainGlobals "len" = some none)
    (z_max : PySem.W.nsIn K mainGlobals "max" = some none)
    (z_min : PySem.W.nsIn K mainGlobals "min" = some none)
    (z_range : PySem.W.nsIn K mainGlobals "range" = some none)
    (z_str : PySem.W.nsIn K mainGlobals "str" = some none)
    (z_tuple : PySem.W.nsIn K mainGlobals "tuple" = some none)
    : ∃ (a : Ad) (fd : FuncData), a.K = K ∧ Tx mg a ∧ (∀ (s : Shared) (v : Value), BindsTo s fd ⟨[v], []⟩ [("_law_script", v)]) ∧ ∀ base : Heap, FnOk l.prog w K mg base (CXe l.prog w) 12 fa fd ["_law_script"] (spF (gx a) 1 (F_law)) := by
  have e : fa = f_law := by have e := hfa.symm.trans (PySem.W.mg_of X G a_law); simpa using e
  subst e
  let a : Ad := { K := K, f_is_whole := f_is_whole, fd_is_whole := PySem.W.fnOf "is_whole" "is_whole" (defArgs s_is_whole) (defBody s_is_whole) (defScope s_is_whole) .none kV_is_whole dc_is_whole pm_is_whole an_is_whole cd_is_whole ct_is_whole, f_is_tuple_of := f_is_tuple_of, fd_is_tuple_of := PySem.W.fnOf "is_tuple_of" "is_tuple_of" (defArgs s_is_tuple_of) (defBody s_is_tuple_of) (defScope s_is_tuple_of) .none kV_is_tuple_of dc_is_tuple_of pm_is_tuple_of an_is_tuple_of cd_is_tuple_of ct_is_tuple_of, f_common_divisor := f_common_divisor, fd_common_divisor := PySem.W.fnOf "common_divisor" "common_divisor" (defArgs s_common_divisor) (defBody s_common_divisor) (defScope s_common_divisor) .none kV_common_divisor dc_common_divisor pm_common_divisor an_common_divisor cd_common_divisor ct_common_divisor, f_is_small := f_is_small, fd_is_small := PySem.W.fnOf "is_small" "is_small" (defArgs s_is_small) (defBody s_is_small) (defScope s_is_small) .none kV_is_small dc_is_small pm_is_small an_is_small cd_is_small ct_is_small, f_show_fraction := f_show_fraction, fd_show_fraction := PySem.W.fnOf "show_fraction" "show_fraction" (defArgs s_show_fraction) (defBody s_show_fraction) (defScope s_show_fraction) .none kV_show_fraction dc_show_fraction pm_show_fraction an_show_fraction cd_show_fraction ct_show_fraction, f_read_number := f_read_number, fd_read_number := PySem.W.fnOf "read_number" "read_number" (defArgs s_read_number) (defBody s_read_number) (defScope s_read_number) .none kV_read_number dc_read_number pm_read_number an_read_number cd_read_number ct_read_number, f_l_cell := f_l_cell, fd_l_cell := PySem.W.fnOf "_law_cell" "_law_cell" (defArgs s_l_cell) (defBody s_l_cell) (defScope s_l_cell) .none kV_l_cell dc_l_cell pm_l_cell an_l_cell cd_l_cell ct_l_cell, f_l_purse := f_l_purse, fd_l_purse := PySem.W.fnOf "_law_purse" "_law_purse" (defArgs s_l_purse) (defBody s_l_purse) (defScope s_l_purse) .none kV_l_purse dc_l_purse pm_l_purse an_l_purse cd_l_purse ct_l_purse, f_l_pick := f_l_pick, fd_l_pick := PySem.W.fnOf "_law_pick" "_law_pick" (defArgs s_l_pick) (defBody s_l_pick) (defScope s_l_pick) .none kV_l_pick dc_l_pick pm_l_pick an_l_pick cd_l_pick ct_l_pick, f_l_whole := f_l_whole, fd_l_whole := PySem.W.fnOf "_law_whole" "_law_whole" (defArgs s_l_whole) (defBody s_l_whole) (defScope s_l_whole) .none kV_l_whole dc_l_whole pm_l_whole an_l_whole cd_l_whole ct_l_whole, f_l_low := f_l_low, fd_l_low := PySem.W.fnOf "_law_low" "_law_low" (defArgs s_l_low) (defBody s_l_low) (defScope s_l_low) .none kV_l_low dc_l_low pm_l_low an_l_low cd_l_low ct_l_low, f_l_fraction_text := f_l_fraction_text, fd_l_fraction_text := PySem.W.fnOf "_law_fraction_text" "_law_fraction_text" (defArgs s_l_fraction_text) (defBody s_l_fraction_text) (defScope s_l_fraction_text) .none kV_l_fraction_text dc_l_fraction_text pm_l_fraction_text an_l_fraction_text cd_l_fraction_text ct_l_fraction_text, f_is_fraction := f_is_fraction, fd_is_fraction := PySem.W.fnOf "is_fraction" "is_fraction" (defArgs s_is_fraction) (defBody s_is_fraction) (defScope s_is_fraction) .none kV_is_fraction dc_is_fraction pm_is_fraction an_is_fraction cd_is_fraction ct_is_fraction, f_l_text := f_l_text, fd_l_text := PySem.W.fnOf "_law_text" "_law_text" (defArgs s_l_text) (defBody s_l_text) (defScope s_l_text) .none kV_l_text dc_l_text pm_l_text an_l_text cd_l_text ct_l_text, f_l_small := f_l_small, fd_l_small := PySem.W.fnOf "_law_small" "_law_small" (defArgs s_l_small) (defBody s_l_small) (defScope s_l_small) .none kV_l_small dc_l_small pm_l_small an_l_small cd_l_small ct_l_small, f_is_from_zero := f_is_from_zero, fd_is_from_zero := PySem.W.fnOf "is_from_zero" "is_from_zero" (defArgs s_is_from_zero) (defBody s_is_from_zero) (defScope s_is_from_zero) .none kV_is_from_zero dc_is_from_zero pm_is_from_zero an_is_from_zero cd_is_from_zero ct_is_from_zero, f_is_above_zero := f_is_above_zero, fd_is_above_zero := PySem.W.fnOf "is_above_zero" "is_above_zero" (defArgs s_is_above_zero) (defBody s_is_above_zero) (defScope s_is_above_zero) .none kV_is_above_zero dc_is_above_zero pm_is_above_zero an_is_above_zero cd_is_above_zero ct_is_above_zero, f_read_fraction := f_read_fraction, fd_read_fraction := PySem.W.fnOf "read_fraction" "read_fraction" (defArgs s_read_fraction) (defBody s_read_fraction) (defScope s_read_fraction) .none kV_read_fraction dc_read_fraction pm_read_fraction an_read_fraction cd_read_fraction ct_read_fraction, f_l_cable := f_l_cable, fd_l_cable := PySem.W.fnOf "_law_cable" "_law_cable" (defArgs s_l_cable) (defBody s_l_cable) (defScope s_l_cable) .none kV_l_cable dc_l_cable pm_l_cable an_l_cable cd_l_cable ct_l_cable, f_is_length := f_is_length, fd_is_length := PySem.W.fnOf "is_length" "is_length" (defArgs s_is_length) (defBody s_is_length) (defScope s_is_length) .none kV_is_length dc_is_length pm_is_length an_is_length cd_is_length ct_is_length, f_is_back := f_is_back, fd_is_back := PySem.W.fnOf "is_back" "is_back" (defArgs s_is_back) (defBody s_is_back) (defScope s_is_back) .none kV_is_back dc_is_back pm_is_back an_is_back cd_is_back ct_is_back, f_is_cable := f_is_cable, fd_is_cable := PySem.W.fnOf "is_cable" "is_cable" (defArgs s_is_cable) (defBody s_is_cable) (defScope s_is_cable) .none kV_is_cable dc_is_cable pm_is_cable an_is_cable cd_is_cable ct_is_cable, f_read_back := f_read_back, fd_read_back := PySem.W.fnOf "read_back" "read_back" (defArgs s_read_back) (defBody s_read_back) (defScope s_read_back) .none kV_read_back dc_read_back pm_read_back an_read_back cd_read_back ct_read_back, f_read_length := f_read_length, fd_read_length := PySem.W.fnOf "read_length" "read_length" (defArgs s_read_length) (defBody s_read_length) (defScope s_read_length) .none kV_read_length dc_read_length pm_read_length an_read_length cd_read_length ct_read_length, f_need_cable := f_need_cable, fd_need_cable := PySem.W.fnOf "need_cable" "need_cable" (defArgs s_need_cable) (defBody s_need_cable) (defScope s_need_cable) .none kV_need_cable dc_need_cable pm_need_cable an_need_cable cd_need_cable ct_need_cable, f_read_lengths := f_read_lengths, fd_read_lengths := PySem.W.fnOf "read_lengths" "read_lengths" (defArgs s_read_lengths) (defBody s_read_lengths) (defScope s_read_lengths) .none kV_read_lengths dc_read_lengths pm_read_lengths an_read_lengths cd_read_lengths ct_read_lengths, f_show_cable := f_show_cable, fd_show_cable := PySem.W.fnOf "show_cable" "show_cable" (defArgs s_show_cable) (defBody s_show_cable) (defScope s_show_cable) .none kV_show_cable dc_show_cable pm_show_cable an_show_cable cd_show_cable ct_show_cable, f_read_cable := f_read_cable, fd_read_cable := PySem.W.fnOf "read_cable" "read_cable" (defArgs s_read_cable) (defBody s_read_cable) (defScope s_read_cable) .none kV_read_cable dc_read_cable pm_read_cable an_read_cable cd_read_cable ct_read_cable, f_l_pure := f_l_pure, fd_l_pure := PySem.W.fnOf "_law_pure" "_law_pure" (defArgs s_l_pure) (defBody s_l_pure) (defScope s_l_pure) .none kV_l_pure dc_l_pure pm_l_pure an_l_pure cd_l_pure ct_l_pure, f_l_right := f_l_right, fd_l_right := PySem.W.fnOf "_law_right" "_law_right" (defArgs s_l_right) (defBody s_l_right) (defScope s_l_right) .none kV_l_right dc_l_right pm_l_right an_l_right cd_l_right ct_l_right, f_law := fa, fd_law := PySem.W.fnOf "law" "law" (defArgs s_law) (defBody s_law) (defScope s_law) .none kV_law dc_law pm_law an_law cd_law ct_law, c_EarthError := c_EarthError, c_NoCable := c_NoCable, c_NoText := c_NoText }
  have F_is_whole : Fun a.K "is_whole" "is_whole" s_is_whole a.f_is_whole a.fd_is_whole := fun_mk (st := s_is_whole) l_is_whole e_is_whole k_is_whole
  have F_is_tuple_of : Fun a.K "is_tuple_of" "is_tuple_of" s_is_tuple_of a.f_is_tuple_of a.fd_is_tuple_of := fun_mk (st := s_is_tuple_of) l_is_tuple_of e_is_tuple_of k_is_tuple_of
  have F_common_divisor : Fun a.K "common_divisor" "common_divisor" s_common_divisor a.f_common_divisor a.fd_common_divisor := fun_mk (st := s_common_divisor) l_common_divisor e_common_divisor k_common_divisor
  have F_is_small : Fun a.K "is_small" "is_small" s_is_small a.f_is_small a.fd_is_small := fun_mk (st := s_is_small) l_is_small e_is_small k_is_small
  have F_show_fraction : Fun a.K "show_fraction" "show_fraction" s_show_fraction a.f_show_fraction a.fd_show_fraction := fun_mk (st := s_show_fraction) l_show_fraction e_show_fraction k_show_fraction
  have F_read_number : Fun a.K "read_number" "read_number" s_read_number a.f_read_number a.fd_read_number := fun_mk (st := s_read_number) l_read_number e_read_number k_read_number
  have F_l_cell : Fun a.K "_law_cell" "_law_cell" s_l_cell a.f_l_cell a.fd_l_cell := fun_mk (st := s_l_cell) l_l_cell e_l_cell k_l_cell
  have F_l_purse : Fun a.K "_law_purse" "_law_purse" s_l_purse a.f_l_purse a.fd_l_purse := fun_mk (st := s_l_purse) l_l_purse e_l_purse k_l_purse
  have F_l_pick : Fun a.K "_law_pick" "_law_pick" s_l_pick a.f_l_pick a.fd_l_pick := fun_mk (st := s_l_pick) l_l_pick e_l_pick k_l_pick
  have F_l_whole : Fun a.K "_law_whole" "_law_whole" s_l_whole a.f_l_whole a.fd_l_whole := fun_mk (st := s_l_whole) l_l_whole e_l_whole k_l_whole
  have F_l_low : Fun a.K "_law_low" "_law_low" s_l_low a.f_l_low a.fd_l_low := fun_mk (st := s_l_low) l_l_low e_l_low k_l_low
  have F_l_fraction_text : Fun a.K "_law_fraction_text" "_law_fraction_text" s_l_fraction_text a.f_l_fraction_text a.fd_l_fraction_text := fun_mk (st := s_l_fraction_text) l_l_fraction_text e_l_fraction_text k_l_fraction_text
  have F_is_fraction : Fun a.K "is_fraction" "is_fraction" s_is_fraction a.f_is_fraction a.fd_is_fraction := fun_mk (st := s_is_fraction) l_is_fraction e_is_fraction k_is_fraction
  have F_l_text : Fun a.K "_law_text" "_law_text" s_l_text a.f_l_text a.fd_l_text := fun_mk (st := s_l_text) l_l_text e_l_text k_l_text
  have F_l_small : Fun a.K "_law_small" "_law_small" s_l_small a.f_l_small a.fd_l_small := fun_mk (st := s_l_small) l_l_small e_l_small k_l_small
  have F_is_from_zero : Fun a.K "is_from_zero" "is_from_zero" s_is_from_zero a.f_is_from_zero a.fd_is_from_zero := fun_mk (st := s_is_from_zero) l_is_from_zero e_is_from_zero k_is_from_zero
  have F_is_above_zero : Fun a.K "is_above_zero" "is_above_zero" s_is_above_zero a.f_is_above_zero a.fd_is_above_zero := fun_mk (st := s_is_above_zero) l_is_above_zero e_is_above_zero k_is_above_zero
  have F_read_fraction : Fun a.K "read_fraction" "read_fraction" s_read_fraction a.f_read_fraction a.fd_read_fraction := fun_mk (st := s_read_fraction) l_read_fraction e_read_fraction k_read_fraction
  have F_l_cable : Fun a.K "_law_cable" "_law_cable" s_l_cable a.f_l_cable a.fd_l_cable := fun_mk (st := s_l_cable) l_l_cable e_l_cable k_l_cable
  have F_is_length : Fun a.K "is_length" "is_length" s_is_length a.f_is_length a.fd_is_length := fun_mk (st := s_is_length) l_is_length e_is_length k_is_length
  have F_is_back : Fun a.K "is_back" "is_back" s_is_back a.f_is_back a.fd_is_back := fun_mk (st := s_is_back) l_is_back e_is_back k_is_back
  have F_is_cable : Fun a.K "is_cable" "is_cable" s_is_cable a.f_is_cable a.fd_is_cable := fun_mk (st := s_is_cable) l_is_cable e_is_cable k_is_cable
  have F_read_back : Fun a.K "read_back" "read_back" s_read_back a.f_read_back a.fd_read_back := fun_mk (st := s_read_back) l_read_back e_read_back k_read_back
  have F_read_length : Fun a.K "read_length" "read_length" s_read_length a.f_read_length a.fd_read_length := fun_mk (st := s_read_length) l_read_length e_read_length k_read_length
  have F_need_cable : Fun a.K "need_cable" "need_cable" s_need_cable a.f_need_cable a.fd_need_cable := fun_mk (st := s_need_cable) l_need_cable e_need_cable k_need_cable
  have F_read_lengths : Fun a.K "read_lengths" "read_lengths" s_read_lengths a.f_read_lengths a.fd_read_lengths := fun_mk (st := s_read_lengths) l_read_lengths e_read_lengths k_read_lengths
  have F_show_cable : Fun a.K "show_cable" "show_cable" s_show_cable a.f_show_cable a.fd_show_cable := fun_mk (st := s_show_cable) l_show_cable e_show_cable k_show_cable
  have F_read_cable : Fun a.K "read_cable" "read_cable" s_read_cable a.f_read_cable a.fd_read_cable := fun_mk (st := s_read_cable) l_read_cable e_read_cable k_read_cable
  have F_l_pure : Fun a.K "_law_pure" "_law_pure" s_l_pure a.f_l_pure a.fd_l_pure := fun_mk (st := s_l_pure) l_l_pure e_l_pure k_l_pure
  have F_l_right : Fun a.K "_law_right" "_law_right" s_l_right a.f_l_right a.fd_l_right := fun_mk (st := s_l_right) l_l_right e_l_right k_l_right
  have F_law : Fun a.K "law" "law" s_law a.f_law a.fd_law := fun_mk (st := s_law) l_law e_law k_law
  have T : Tx mg a := {
    F_is_whole := F_is_whole
    m_is_whole := PySem.W.mg_of X G a_is_whole
    b_is_whole := F_is_whole.binds (ps := ["x"]) (fun _ _ _ _ _ _ us hl => by obtain ⟨a0, rfl⟩ := us1 hl; rfl)
    F_is_tuple_of := F_is_tuple_of
    m_is_tuple_of := PySem.W.mg_of X G a_is_tuple_of
    b_is_tuple_of := F_is_tuple_of.binds (ps := ["x", "many"]) (fun _ _ _ _ _ _ us hl => by obtain ⟨a0, a1, rfl⟩ := us2 hl; rfl)
    F_common_divisor := F_common_divisor
    m_common_divisor := PySem.W.mg_of X G a_common_divisor
    b_common_divisor := F_common_divisor.binds (ps := ["one", "other"]) (fun _ _ _ _ _ _ us hl => by obtain ⟨a0, a1, rfl⟩ := us2 hl; rfl)
    F_is_small := F_is_small
    m_is_small := PySem.W.mg_of X G a_is_small
    b_is_small := F_is_small.binds (ps := ["x"]) (fun _ _ _ _ _ _ us hl => by obtain ⟨a0, rfl⟩ := us1 hl; rfl)
    F_show_fraction := F_show_fraction
    m_show_fraction := PySem.W.mg_of X G a_show_fraction
    b_show_fraction := F_show_fraction.binds (ps := ["x"]) (fun _ _ _ _ _ _ us hl => by obtain ⟨a0, rfl⟩ := us1 hl; rfl)
    F_read_number := F_read_number
    m_read_number := PySem.W.mg_of X G a_read_number
    b_read_number := F_read_number.binds (ps := ["word", "most"]) (fun _ _ _ _ _ _ us hl => by obtain ⟨a0, a1, rfl⟩ := us2 hl; rfl)
    F_l_cell := F_l_cell
    m_l_cell := PySem.W.mg_of X G a_l_cell
    b_l_cell := F_l_cell.binds (ps := ["_law_script", "_law_k"]) (fun _ _ _ _ _ _ us hl => by obtain ⟨a0, a1, rfl⟩ := us2 hl; rfl)
    F_l_purse := F_l_purse
    m_l_purse := PySem.W.mg_of X G a_l_purse
    b_l_purse := F_l_purse.binds (ps := ["_law_cell_here"]) (fun _ _ _ _ _ _ us hl => by obtain ⟨a0, rfl⟩ := us1 hl; rfl)
    F_l_pick := F_l_pick
    m_l_pick := PySem.W.mg_of X G a_l_pick
    b_l_pick := F_l_pick.binds (ps := ["_law_purse_here", "_law_many"]) (fun _ _ _ _ _ _ us hl => by obtain ⟨a0, a1, rfl⟩ := us2 hl; rfl)
    F_l_whole := F_l_whole
    m_l_whole := PySem.W.mg_of X G a_l_whole
    b_l_whole := F_l_whole.binds (ps := ["_law_thing"]) (fun _ _ _ _ _ _ us hl => by obtain ⟨a0, rfl⟩ := us1 hl; rfl)
    F_l_low := F_l_low
    m_l_low := PySem.W.mg_of X G a_l_low
    b_l_low := F_l_low.binds (ps := ["_law_top", "_law_bottom"]) (fun _ _ _ _ _ _ us hl => by obtain ⟨a0, a1, rfl⟩ := us2 hl; rfl)
    F_l_fraction_text := F_l_fraction_text
    m_l_fraction_text := PySem.W.mg_of X G a_l_fraction_text
    b_l_fraction_text := F_l_fraction_text.binds (ps := ["_law_a"]) (fun _ _ _ _ _ _ us hl => by obtain ⟨a0, rfl⟩ := us1 hl; rfl)
    F_is_fraction := F_is_fraction
    m_is_fraction := PySem.W.mg_of X G a_is_fraction
    b_is_fraction := F_is_fraction.binds (ps := ["x"]) (fun _ _ _ _ _ _ us hl => by obtain ⟨a0, rfl⟩ := us1 hl; rfl)
    F_l_text := F_l_text
    m_l_text := PySem.W.mg_of X G a_l_text
    b_l_text := F_l_text.binds (ps := ["_law_cable_here"]) (fun _ _ _ _ _ _ us hl => by obtain ⟨a0, rfl⟩ := us1 hl; rfl)
    F_l_small := F_l_small
    m_l_small := PySem.W.mg_of X G a_l_small
    b_l_small := F_l_small.binds (ps := ["_law_purse_here", "_law_least"]) (fun _ _ _ _ _ _ us hl => by obtain ⟨a0, a1, rfl⟩ := us2 hl; rfl)
    F_is_from_zero := F_is_from_zero
    m_is_from_zero := PySem.W.mg_of X G a_is_from_zero
    b_is_from_zero := F_is_from_zero.binds (ps := ["x"]) (fun _ _ _ _ _ _ us hl => by obtain ⟨a0, rfl⟩ := us1 hl; rfl)
    F_is_above_zero := F_is_above_zero
    m_is_above_zero := PySem.W.mg_of X G a_is_above_zero
    b_is_above_zero := F_is_above_zero.binds (ps := ["x"]) (fun _ _ _ _ _ _ us hl => by obtain ⟨a0, rfl⟩ := us1 hl; rfl)
    F_read_fraction := F_read_fraction
    m_read_fraction := PySem.W.mg_of X G a_read_fraction
    b_read_fraction := F_read_fraction.binds (ps := ["word", "most"]) (fun _ _ _ _ _ _ us hl => by obtain ⟨a0, a1, rfl⟩ := us2 hl; rfl)
    F_l_cable := F_l_cable
    m_l_cable := PySem.W.mg_of X G a_l_cable
    b_l_cable := F_l_cable.binds (ps := ["_law_purse_here", "_law_many"]) (fun _ _ _ _ _ _ us hl => by obtain ⟨a0, a1, rfl⟩ := us2 hl; rfl)
    F_is_length := F_is_length
    m_is_length := PySem.W.mg_of X G a_is_length
    b_is_length := F_is_length.binds (ps := ["x"]) (fun _ _ _ _ _ _ us hl => by obtain ⟨a0, rfl⟩ := us1 hl; rfl)
    F_is_back := F_is_back
    m_is_back := PySem.W.mg_of X G a_is_back
    b_is_back := F_is_back.binds (ps := ["x"]) (fun _ _ _ _ _ _ us hl => by obtain ⟨a0, rfl⟩ := us1 hl; rfl)
    F_is_cable := F_is_cable
    m_is_cable := PySem.W.mg_of X G a_is_cable
    b_is_cable := F_is_cable.binds (ps := ["x"]) (fun _ _ _ _ _ _ us hl => by obtain ⟨a0, rfl⟩ := us1 hl; rfl)
    F_read_back := F_read_back
    m_read_back := PySem.W.mg_of X G a_read_back
    b_read_back := F_read_back.binds (ps := ["row"]) (fun _ _ _ _ _ _ us hl => by obtain ⟨a0, rfl⟩ := us1 hl; rfl)
    F_read_length := F_read_length
    m_read_length := PySem.W.mg_of X G a_read_length
    b_read_length := F_read_length.binds (ps := ["row"]) (fun _ _ _ _ _ _ us hl => by obtain ⟨a0, rfl⟩ := us1 hl; rfl)
    F_need_cable := F_need_cable
    m_need_cable := PySem.W.mg_of X G a_need_cable
    b_need_cable := F_need_cable.binds (ps := ["cable"]) (fun _ _ _ _ _ _ us hl => by obtain ⟨a0, rfl⟩ := us1 hl; rfl)
    F_read_lengths := F_read_lengths
    m_read_lengths := PySem.W.mg_of X G a_read_lengths
    b_read_lengths := F_read_lengths.binds (ps := ["rows"]) (fun _ _ _ _ _ _ us hl => by obtain ⟨a0, rfl⟩ := us1 hl; rfl)
    F_show_cable := F_show_cable
    m_show_cable := PySem.W.mg_of X G a_show_cable
    b_show_cable := F_show_cable.binds (ps := ["cable"]) (fun _ _ _ _ _ _ us hl => by obtain ⟨a0, rfl⟩ := us1 hl; rfl)
    F_read_cable := F_read_cable
    m_read_cable := PySem.W.mg_of X G a_read_cable
    b_read_cable := F_read_cable.binds (ps := ["text"]) (fun _ _ _ _ _ _ us hl => by obtain ⟨a0, rfl⟩ := us1 hl; rfl)
    F_l_pure := F_l_pure
    m_l_pure := PySem.W.mg_of X G a_l_pure
    b_l_pure := F_l_pure.binds (ps := ["_law_thing"]) (fun _ _ _ _ _ _ us hl => by obtain ⟨a0, rfl⟩ := us1 hl; rfl)
    F_l_right := F_l_right
    m_l_right := PySem.W.mg_of X G a_l_right
    b_l_right := F_l_right.binds (ps := ["_law_cable_here", "_law_other"]) (fun _ _ _ _ _ _ us hl => by obtain ⟨a0, a1, rfl⟩ := us2 hl; rfl)
    F_law := F_law
    m_law := PySem.W.mg_of X G a_law
    b_law := F_law.binds (ps := ["_law_script"]) (fun _ _ _ _ _ _ us hl => by obtain ⟨a0, rfl⟩ := us1 hl; rfl)
    n_abs := PySem.W.mg_none_of X G z_abs
    n_all := PySem.W.mg_none_of X G z_all
    n_any := PySem.W.mg_none_of X G z_any
    n_bool := PySem.W.mg_none_of X G z_bool
    n_enumerate := PySem.W.mg_none_of X G z_enumerate
    n_int := PySem.W.mg_none_of X G z_int
    n_isinstance := PySem.W.mg_none_of X G z_isinstance
    n_len := PySem.W.mg_none_of X G z_len
    n_max := PySem.W.mg_none_of X G z_max
    n_min := PySem.W.mg_none_of X G z_min
    n_range := PySem.W.mg_none_of X G z_range
    n_str := PySem.W.mg_none_of X G z_str
    n_tuple := PySem.W.mg_none_of X G z_tuple
    c_EarthError := PySem.W.mg_of X G cc_EarthError
    tv_EarthError := rfl
    c_NoCable := PySem.W.mg_of X G cc_NoCable
    tv_NoCable := rfl
    c_NoText := PySem.W.mg_of X G cc_NoText
    tv_NoText := rfl
    tv_ValueError := rfl
    x_NoCable := ⟨x1_NoCable, x2_NoCable, x3_NoCable, x4_NoCable⟩
    cl_NoCable := rfl
    k_MOST_LENGTHS := ⟨_, PySem.W.mg_of X G kc_MOST_LENGTHS⟩
    k_MOST_NUMBER := ⟨_, PySem.W.mg_of X G kc_MOST_NUMBER⟩
    k_FIGURES := ⟨_, PySem.W.mg_of X G kc_FIGURES⟩
    k_MOST_FIGURES := ⟨_, PySem.W.mg_of X G kc_MOST_FIGURES⟩
    gok := gok_of (List.forall_mem_cons.mpr ⟨⟨x1_NoCable, x2_NoCable, x3_NoCable, x4_NoCable⟩, List.forall_mem_nil _⟩) (List.forall_mem_cons.mpr ⟨fun l h => (Option.some.inj (show some [] = some l from h)) ▸ List.forall_mem_nil _, List.forall_mem_nil _⟩) }
  exact ⟨a, _, rfl, T, fun s v => .of_eq rfl, fun base => ok_law T⟩
end Law
set_option Elab.async false
set_option linter.all false
set_option maxRecDepth 100000
set_option maxHeartbeats 4000000
set_option exponentiation.threshold 100000
namespace Law
open PySem PySem.Spec PyProof.Rows L2 I2
theorem trimS_len {k : Nat} {d : D} {s : Sto} (h : s.length ≤ k) : trimS k d s = s := by
  unfold trimS; rw [List.take_of_length_le h]; split <;> rfl
theorem trimS_self {d : D} {s : Sto} : trimS s.length d s = s := trimS_len (Nat.le_refl _)
theorem small_lt {α : Type} {ds : List α} (h : ds.length < 64) : small ds = true := by
  unfold small; exact decide_eq_true (by have : 64 ≤ sizeLine := by decide
                                         omega)
section
variable {α β : Type} {env : DEnv} {st : Sto} {f h : Sm} {fs : Sma} {t t2 : Smt} {u w : Sms}
theorem bnd_ap {f : DEnv → Sto → Res α} {k : α → DEnv → Sto → Res β} : bnd f k env st = (match f env st with
  | none => none
  | some (.ok d, st') => k d env st'
  | some (.ex c, st') => some (.ex c, st')) := rfl
theorem bndS_ap {f : DEnv → Sto → Res α} {k : α → Sms} : bndS f k env st = (match f env st with
  | none => none
  | some (.ok d, st') => k d env st'
  | some (.ex c, st') => some (.ex c, env, st')) := rfl
theorem ret_ap {d : α} : I2.ret d env st = some (.ok d, st) := rfl
theorem lift_ap {o : Option α} : I2.lift o env st = o.map fun d => (.ok d, st) := rfl
theorem liftS_ap {o : Sto → Option α} : liftS o env st = (o st).map fun d => (.ok d, st) := rfl
theorem sVar_ap {i : Nat} : sVar i env st = (match env[i]? with
  | some (some d) => some (.ok d, st)
  | _ => none) := rfl
theorem sC_ap {d : D} : sC d env st = some (.ok d, st) := rfl
theorem s1_ap {op : D → Option D} : s1 op f env st = bnd f (fun x => I2.lift (op x)) env st := rfl
theorem s2_ap {op : D → D → Option D} : s2 op f h env st = bnd f (fun x => bnd h fun y => I2.lift (op x y)) env st := rfl
theorem sTest_ap : sTest f env st = bnd f (fun d => I2.lift (isB d)) env st := rfl
theorem sTru_ap : sTru f env st = bnd f (fun d => I2.lift (truth d)) env st := rfl
theorem tNotI_ap : tNotI t env st = bnd t (fun b => I2.ret (!b)) env st := rfl
theorem tOrI_ap : tOrI t t2 env st = bnd t (fun b => if b = true then I2.ret true else t2) env st := rfl
theorem tAndI_ap : tAndI t t2 env st = bnd t (fun b => if b = true then t2 else I2.ret false) env st := rfl
theorem sNotV_ap : sNotV f env st = bnd f (fun d => bnd (I2.lift (isB d)) fun b => I2.ret (.bl (!b))) env st := rfl
theorem sAndV_ap : sAndV f h env st = bnd f (fun d => bnd (I2.lift (isB d)) fun b => if b = true then h else I2.ret (.bl false)) env st := rfl
theorem sOrV_ap : sOrV f h env st = bnd f (fun d => bnd (I2.lift (isB d)) fun b => if b = true then I2.ret (.bl true) else h) env st := rfl
theorem sNil_ap : sNil env st = some (.ok [], st) := rfl
theorem sCons_ap : sCons f fs env st = bnd f (fun d => bnd fs fun ds => I2.ret (d :: ds)) env st := rfl
theorem sTup_ap : sTup fs env st = bnd fs (fun ds => I2.lift (if small ds then some (.tup ds) else none)) env st := rfl
theorem sLst_ap : sLst fs env st = bnd fs (fun ds => I2.lift (if small ds then some (.lst ds) else none)) env st := rfl
theorem sLstM_ap : sLstM fs env st = bnd fs (fun ds => fun _ st => if small ds then some (.ok (.ref st.length), st ++ [.lst ds]) else none) env st := rfl
theorem sCall_ap {n : Nat} {F : List D → Sto → Res D} : sCall n F fs env st = bnd fs (fun ds => fun _ st => if ds.length = n then F ds st else none) env st := rfl
theorem sIx_ap : I2.sIx f h env st = bnd f (fun x => bnd h fun y => liftS fun st => oIx st x y) env st := rfl
theorem sBs_ap {op : Sto → List D → Option D} : sBs op fs env st = bnd fs (fun ds => liftS fun st => op st ds) env st := rfl
theorem go_ap {fl : Fl} : go fl env st = some (fl, env, st) := rfl
theorem sNop_ap : sNop env st = some (.nx, env, st) := rfl
theorem sSeq_ap : sSeq u w env st = (match u env st with
  | some (.nx, env', st') => w env' st'
  | o => o) := rfl
theorem sRet_ap : sRet f env st = bndS f (fun d => go (.rt d)) env st := rfl
theorem sExp_ap : sExp f env st = bndS f (fun _ => go .nx) env st := rfl
theorem sIf_ap : sIf t u w env st = bndS t (fun b => if b = true then u else w) env st := rfl
theorem sSet_ap {i : Nat} : sSet i f env st = bndS f (fun d => fun env st => some (.nx, env.set i (some d), st)) env st := rfl
theorem sPar_ap {i j : Nat} : sPar i j fs env st = bndS fs (fun ds => fun env st => match ds with
  | [x, y] => some (.nx, (env.set i (some x)).set j (some y), st)
  | _ => none) env st := rfl
theorem sRaise_ap {c : Str} : sRaise c fs env st = bndS fs (fun ds => if small ds then go (.ex c) else fun _ _ => none) env st := rfl
theorem fnOf_ap {n nl : Nat} {ds : List D} : fnOf n nl u ds st = if ds.length = n then fnRes st.length (u (env0 n nl ds) st) else none := rfl
theorem isB_bl {b : Bool} : isB (.bl b) = some b := rfl
theorem truth_bl {b : Bool} : truth (.bl b) = some b := rfl
theorem ite_ap {c : Prop} [Decidable c] {f h : DEnv → Sto → α} : (if c then f else h) env st = if c then f env st else h env st := by split <;> rfl
end
def isInt : D → Bool
  | .int _ => true
  | _ => false
theorem whole_eq {x : D} {st : Sto} (h : (tyName x).isSome) : F_is_whole [x] st = some (.ok (.bl (isInt x)), st) := by
  unfold F_is_whole b_is_whole
  cases x <;> first | (simp [tyName] at h; done) | (simp [fnOf_ap, env0, fnRes, sSeq_ap, sIf_ap, sRet_ap, sSet_ap, sExp_ap, sPar_ap, sRaise_ap, bndS_ap, bnd_ap, ret_ap, lift_ap, liftS_ap, s1_ap, s2_ap, sVar_ap, sC_ap, sCons_ap, sNil_ap, sTup_ap, sLst_ap, sLstM_ap, sCall_ap, sIx_ap, sBs_ap, sTest_ap, sTru_ap, tNotI_ap, tOrI_ap, tAndI_ap, sNotV_ap, sAndV_ap, sOrV_ap, go_ap, sNop_ap, ite_ap, isB_bl, truth_bl, trimS_self, small_lt, oIsiB, tyName, tyOk, isiT, isInt])
theorem lwhole_eq {x : D} {st : Sto} (h : (tyName x).isSome) : F_l_whole [x] st = some (.ok (.bl (isInt x)), st) := whole_eq h
theorem toPy_str (i : Str) : toPy (.str i) = some (.str i) := rfl
theorem oEq_int (i j : Int) : oEq (.int i) (.int j) = some (.bl (decide (i = j))) := rfl
theorem oNe_int (i j : Int) : oNe (.int i) (.int j) = some (.bl (!decide (i = j))) := rfl
theorem oEq_bl (i j : Bool) : oEq (.bl i) (.bl j) = some (.bl (i == j)) := rfl
theorem tuple_eq {x : D} {st : Sto} (h : (tyName x).isSome) : F_is_tuple_of [x, .int 2] st = some (.ok (.bl (match x with | .tup ds => decide (ds.length = 2) | _ => false)), st) := by
  unfold F_is_tuple_of b_is_tuple_of
  cases x <;> first | (simp [tyName] at h; done) | (simp [fnOf_ap, env0, fnRes, sSeq_ap, sIf_ap, sRet_ap, sSet_ap, sExp_ap, sPar_ap, sRaise_ap, bndS_ap, bnd_ap, ret_ap, lift_ap, liftS_ap, s1_ap, s2_ap, sVar_ap, sC_ap, sCons_ap, sNil_ap, sTup_ap, sLst_ap, sLstM_ap, sCall_ap, sIx_ap, sBs_ap, sTest_ap, sTru_ap, tNotI_ap, tOrI_ap, tAndI_ap, sNotV_ap, sAndV_ap, sOrV_ap, go_ap, sNop_ap, ite_ap, isB_bl, truth_bl, trimS_self, small_lt, oLen, oIsiB, tyName, tyOk, isiT, oEq_int]; try omega)
theorem cd_iter : ∀ (n : Nat) (a b : Int) (st : Sto), b.natAbs < n → ∃ c : Int, c.natAbs = Int.gcd a b ∧
    iterW (sTest (s2 oNe (sVar 1) (sC (.int 0)))) (sPar 0 1 (sCons (sVar 1) (sCons (s2 oMod (sVar 0) (sVar 1)) sNil))) (n + 1) [some (.int a), some (.int b)] st = some (.nx, [some (.int c), some (.int 0)], st)
  | 0, _, _, _, h => by omega
  | n + 1, a, b, st, h => by
    by_cases hb : b = 0
    · subst hb
      refine ⟨a, by simp, ?_⟩
      unfold iterW
      simp [fnOf_ap, env0, fnRes, sSeq_ap, sIf_ap, sRet_ap, sSet_ap, sExp_ap, sPar_ap, sRaise_ap, bndS_ap, bnd_ap, ret_ap, lift_ap, liftS_ap, s1_ap, s2_ap, sVar_ap, sC_ap, sCons_ap, sNil_ap, sTup_ap, sLst_ap, sLstM_ap, sCall_ap, sIx_ap, sBs_ap, sTest_ap, sTru_ap, tNotI_ap, tOrI_ap, tAndI_ap, sNotV_ap, sAndV_ap, sOrV_ap, go_ap, sNop_ap, ite_ap, isB_bl, truth_bl, trimS_self, small_lt, oNe_int]
    · have hlt : (a.fmod b).natAbs < b.natAbs := by
        rcases Int.lt_or_gt_of_ne hb with h0 | h0
        · have h1 : a.fmod b = -((-a).fmod (-b)) := by rw [Int.neg_fmod_neg]; omega
          have h2 := Int.fmod_nonneg_of_pos (-a) (show 0 < -b by omega)
          have h3 := Int.fmod_lt_of_pos (-a) (show 0 < -b by omega)
          omega
        · have h2 := Int.fmod_nonneg_of_pos a h0
          have h3 := Int.fmod_lt_of_pos a h0
          omega
      obtain ⟨c, hc, ih⟩ := cd_iter n b (a.fmod b) st (by omega)
      refine ⟨c, ?_, ?_⟩
      · rw [hc]
        rw [Int.fmod_def, Int.gcd_comm a b]
        exact Int.gcd_sub_mul_left_right ..
      · unfold iterW
        simp [fnOf_ap, env0, fnRes, sSeq_ap, sIf_ap, sRet_ap, sSet_ap, sExp_ap, sPar_ap, sRaise_ap, bndS_ap, bnd_ap, ret_ap, lift_ap, liftS_ap, s1_ap, s2_ap, sVar_ap, sC_ap, sCons_ap, sNil_ap, sTup_ap, sLst_ap, sLstM_ap, sCall_ap, sIx_ap, sBs_ap, sTest_ap, sTru_ap, tNotI_ap, tOrI_ap, tAndI_ap, sNotV_ap, sAndV_ap, sOrV_ap, go_ap, sNop_ap, ite_ap, isB_bl, truth_bl, trimS_self, small_lt, oNe_int, hb, oMod]
        exact ih
theorem cd_eq (a b : Int) (st : Sto) : F_common_divisor [.int a, .int b] st = some (.ok (.int (Int.gcd a b)), st) := by
  obtain ⟨c, hc, e⟩ := cd_iter (b.natAbs + 1) a b st (by omega)
  unfold F_common_divisor b_common_divisor
  simp [fnOf_ap, env0, fnRes, sSeq_ap, sIf_ap, sRet_ap, sSet_ap, sExp_ap, sPar_ap, sRaise_ap, bndS_ap, bnd_ap, ret_ap, lift_ap, liftS_ap, s1_ap, s2_ap, sVar_ap, sC_ap, sCons_ap, sNil_ap, sTup_ap, sLst_ap, sLstM_ap, sCall_ap, sIx_ap, sBs_ap, sTest_ap, sTru_ap, tNotI_ap, tOrI_ap, tAndI_ap, sNotV_ap, sAndV_ap, sOrV_ap, go_ap, sNop_ap, ite_ap, isB_bl, truth_bl, trimS_self, small_lt, sWhile_of e, oAbs]
  rw [← hc]; omega
end Law
set_option Elab.async false
set_option linter.all false
set_option maxRecDepth 100000
set_option maxHeartbeats 4000000
set_option exponentiation.threshold 100000
namespace Law
open PySem PySem.Spec PyProof.Rows L2 I2
theorem at0 {x y : D} : L2.atI [x, y] 0 = some x := rfl
theorem at1 {x y : D} : L2.atI [x, y] 1 = some y := rfl
abbrev B9 (i : Int) : Prop := i.natAbs < 2 ^ 9000
theorem oDiv_int {i j : Int} (h : j ≠ 0) (hj : B9 j) : oDiv (.int i) (.int j) = some (.int (i.fdiv j)) := by
  show (if j = 0 then none else if decide (j.natAbs < 2 ^ 9000) then some (D.int (i.fdiv j)) else none) = _
  rw [if_neg h, if_pos (decide_eq_true hj)]
def sg (t b : Int) : Int := if b < 0 then -(Int.gcd t b : Int) else Int.gcd t b
def lowD (t b : Int) : D := .tup [.int (t.fdiv (sg t b)), .int (b.fdiv (sg t b))]
theorem sg_ne {t b : Int} (hb : b ≠ 0) : sg t b ≠ 0 := by
  have h := Int.gcd_pos_of_ne_zero_right t hb
  unfold sg; split <;> omega
theorem sg_b {t b : Int} (hb : b ≠ 0) (hB : B9 b) : B9 (sg t b) := by
  have h := Int.gcd_le_natAbs_right t hb
  have e : (sg t b).natAbs = Int.gcd t b := by unfold sg; split <;> omega
  show (sg t b).natAbs < _
  rw [e]; exact Nat.lt_of_le_of_lt h hB
theorem low_iter {x y : Option D} : ∀ (n : Nat) (a b : Int) (st : Sto), 0 ≤ a → 0 ≤ b → b.natAbs < n →
    iterW (sTest (s2 oGt (sVar 3) (sC (.int 0)))) (sPar 2 3 (sCons (sVar 3) (sCons (s2 oMod (sVar 2) (sVar 3)) sNil))) (n + 1) [x, y, some (.int a), some (.int b)] st = some (.nx, [x, y, some (.int (Int.gcd a b)), some (.int 0)], st)
  | 0, _, _, _, _, _, h => by omega
  | n + 1, a, b, st, ha, hb0, h => by
    by_cases hb : b = 0
    · subst hb
      unfold iterW
      simp [fnOf_ap, env0, fnRes, sSeq_ap, sIf_ap, sRet_ap, sSet_ap, sExp_ap, sPar_ap, sRaise_ap, bndS_ap, bnd_ap, ret_ap, lift_ap, liftS_ap, s1_ap, s2_ap, sVar_ap, sC_ap, sCons_ap, sNil_ap, sTup_ap, sLst_ap, sLstM_ap, sCall_ap, sIx_ap, sBs_ap, sTest_ap, sTru_ap, tNotI_ap, tOrI_ap, tAndI_ap, sNotV_ap, sAndV_ap, sOrV_ap, go_ap, sNop_ap, ite_ap, isB_bl, truth_bl, trimS_self, small_lt, oGt]
      omega
    · have h0 : 0 < b := by omega
      have h2 := Int.fmod_nonneg_of_pos a h0
      have h3 := Int.fmod_lt_of_pos a h0
      have ih := low_iter (x := x) (y := y) n b (a.fmod b) st hb0 h2 (by omega)
      have e : Int.gcd b (a.fmod b) = Int.gcd a b := by
        rw [Int.fmod_def, Int.gcd_comm a b]
        exact Int.gcd_sub_mul_left_right ..
      rw [e] at ih
      unfold iterW
      simp [fnOf_ap, env0, fnRes, sSeq_ap, sIf_ap, sRet_ap, sSet_ap, sExp_ap, sPar_ap, sRaise_ap, bndS_ap, bnd_ap, ret_ap, lift_ap, liftS_ap, s1_ap, s2_ap, sVar_ap, sC_ap, sCons_ap, sNil_ap, sTup_ap, sLst_ap, sLstM_ap, sCall_ap, sIx_ap, sBs_ap, sTest_ap, sTru_ap, tNotI_ap, tOrI_ap, tAndI_ap, sNotV_ap, sAndV_ap, sOrV_ap, go_ap, sNop_ap, ite_ap, isB_bl, truth_bl, trimS_self, small_lt, oGt, hb, h0, oMod]
      exact ih
theorem low_eq {t b : Int} {st : Sto} (hb : b ≠ 0) (hB : B9 b) : F_l_low [.int t, .int b] st = some (.ok (lowD t b), st) := by
  unfold F_l_low b_l_low lowD
  have h1 := sg_ne (t := t) hb
  have h2 := sg_b (t := t) hb hB
  by_cases hn : b < 0
  · have L := low_iter (x := some (.int (-t))) (y := some (.int (-b))) ((-b).natAbs + 1) (if 0 < t then t else -t) (-b) st (by split <;> omega) (by omega) (by omega)
    have eg : Int.gcd (if 0 < t then t else -t) (-b) = Int.gcd t b := by rw [Int.gcd_neg]; split <;> simp
    rw [eg] at L
    have es : sg t b = -(Int.gcd t b : Int) := by unfold sg; rw [if_pos hn]
    have d1 := oDiv_int (i := -t) (j := (Int.gcd t b : Int)) (by omega) (by rw [es] at h2; show _ < _; have : (-(Int.gcd t b : Int)).natAbs < 2 ^ 9000 := h2; rw [Int.natAbs_neg] at this; exact this)
    have d2 := oDiv_int (i := -b) (j := (Int.gcd t b : Int)) (by omega) (by rw [es] at h2; show _ < _; have : (-(Int.gcd t b : Int)).natAbs < 2 ^ 9000 := h2; rw [Int.natAbs_neg] at this; exact this)
    have e1 : t.fdiv (sg t b) = (-t).fdiv (Int.gcd t b : Int) := by rw [es, ← Int.neg_fdiv_neg, Int.neg_neg]
    have e2 : b.fdiv (sg t b) = (-b).fdiv (Int.gcd t b : Int) := by rw [es, ← Int.neg_fdiv_neg, Int.neg_neg]
    rw [e1, e2]
    simp [fnOf_ap, env0, fnRes, sSeq_ap, sIf_ap, sRet_ap, sSet_ap, sExp_ap, sPar_ap, sRaise_ap, bndS_ap, bnd_ap, ret_ap, lift_ap, liftS_ap, s1_ap, s2_ap, sVar_ap, sC_ap, sCons_ap, sNil_ap, sTup_ap, sLst_ap, sLstM_ap, sCall_ap, sIx_ap, sBs_ap, sTest_ap, sTru_ap, tNotI_ap, tOrI_ap, tAndI_ap, sNotV_ap, sAndV_ap, sOrV_ap, go_ap, sNop_ap, ite_ap, isB_bl, truth_bl, trimS_self, small_lt, oLt, hn, oSub, oAbs, sWhile_of L, d1, d2]
  · have ea : (if t < 0 then -t else t) = (t.natAbs : Int) := by split <;> omega
    have L := low_iter (x := some (.int t)) (y := some (.int b)) (b.natAbs + 1) (t.natAbs : Int) b st (by omega) (by omega) (by omega)
    have eg : Int.gcd (t.natAbs : Int) b = Int.gcd t b := by simp [Int.gcd]
    rw [eg] at L
    have es : sg t b = (Int.gcd t b : Int) := by unfold sg; rw [if_neg hn]
    rw [es] at h1 h2 ⊢
    have d1 := oDiv_int (i := t) h1 h2
    have d2 := oDiv_int (i := b) h1 h2
    simp [fnOf_ap, env0, fnRes, sSeq_ap, sIf_ap, sRet_ap, sSet_ap, sExp_ap, sPar_ap, sRaise_ap, bndS_ap, bnd_ap, ret_ap, lift_ap, liftS_ap, s1_ap, s2_ap, sVar_ap, sC_ap, sCons_ap, sNil_ap, sTup_ap, sLst_ap, sLstM_ap, sCall_ap, sIx_ap, sBs_ap, sTest_ap, sTru_ap, tNotI_ap, tOrI_ap, tAndI_ap, sNotV_ap, sAndV_ap, sOrV_ap, go_ap, sNop_ap, ite_ap, isB_bl, truth_bl, trimS_self, small_lt, oLt, hn, oSub, oAbs, ea, sWhile_of L, d1, d2]
def isFr : D → Bool
  | .tup [.int t, .int b] => decide (0 < b) && decide (Int.gcd t b = 1)
  | _ => false
structure Pl (d : D) : Prop where
  ty : (tyName d).isSome
  of : ∀ x y, d = .tup [x, y] → (tyName x).isSome ∧ (tyName y).isSome ∧ ∀ b, y = .int b → B9 b
theorem isfr_pair {t b : Int} {st : Sto} : F_is_fraction [.tup [.int t, .int b]] st = some (.ok (.bl (isFr (.tup [.int t, .int b]))), st) := by
  unfold F_is_fraction b_is_fraction isFr
  have T := tuple_eq (x := .tup [.int t, .int b]) (st := st) rfl
  have W1 := whole_eq (x := .int t) (st := st) rfl
  have W2 := whole_eq (x := .int b) (st := st) rfl
  by_cases hb : 0 < b
  · simp [fnOf_ap, env0, fnRes, sSeq_ap, sIf_ap, sRet_ap, sSet_ap, sExp_ap, sPar_ap, sRaise_ap, bndS_ap, bnd_ap, ret_ap, lift_ap, liftS_ap, s1_ap, s2_ap, sVar_ap, sC_ap, sCons_ap, sNil_ap, sTup_ap, sLst_ap, sLstM_ap, sCall_ap, sIx_ap, sBs_ap, sTest_ap, sTru_ap, tNotI_ap, tOrI_ap, tAndI_ap, sNotV_ap, sAndV_ap, sOrV_ap, go_ap, sNop_ap, ite_ap, isB_bl, truth_bl, trimS_self, small_lt, T, W1, W2, isInt, oIx, at0, at1, oGt, hb, cd_eq, oEq_int]
    try omega
  · simp [fnOf_ap, env0, fnRes, sSeq_ap, sIf_ap, sRet_ap, sSet_ap, sExp_ap, sPar_ap, sRaise_ap, bndS_ap, bnd_ap, ret_ap, lift_ap, liftS_ap, s1_ap, s2_ap, sVar_ap, sC_ap, sCons_ap, sNil_ap, sTup_ap, sLst_ap, sLstM_ap, sCall_ap, sIx_ap, sBs_ap, sTest_ap, sTru_ap, tNotI_ap, tOrI_ap, tAndI_ap, sNotV_ap, sAndV_ap, sOrV_ap, go_ap, sNop_ap, ite_ap, isB_bl, truth_bl, trimS_self, small_lt, T, W1, W2, isInt, oIx, at0, at1, oGt, hb, cd_eq, oEq_int]
theorem isfr_eq {d : D} {st : Sto} (h : Pl d) : F_is_fraction [d] st = some (.ok (.bl (isFr d)), st) := by
  have ht := h.ty
  cases d with
  | tup ds =>
    rcases ds with _ | ⟨x, _ | ⟨y, _ | ⟨z, r⟩⟩⟩
    · unfold F_is_fraction b_is_fraction isFr; simp [fnOf_ap, env0, fnRes, sSeq_ap, sIf_ap, sRet_ap, sSet_ap, sExp_ap, sPar_ap, sRaise_ap, bndS_ap, bnd_ap, ret_ap, lift_ap, liftS_ap, s1_ap, s2_ap, sVar_ap, sC_ap, sCons_ap, sNil_ap, sTup_ap, sLst_ap, sLstM_ap, sCall_ap, sIx_ap, sBs_ap, sTest_ap, sTru_ap, tNotI_ap, tOrI_ap, tAndI_ap, sNotV_ap, sAndV_ap, sOrV_ap, go_ap, sNop_ap, ite_ap, isB_bl, truth_bl, trimS_self, small_lt, tuple_eq ht]
    · unfold F_is_fraction b_is_fraction isFr; simp [fnOf_ap, env0, fnRes, sSeq_ap, sIf_ap, sRet_ap, sSet_ap, sExp_ap, sPar_ap, sRaise_ap, bndS_ap, bnd_ap, ret_ap, lift_ap, liftS_ap, s1_ap, s2_ap, sVar_ap, sC_ap, sCons_ap, sNil_ap, sTup_ap, sLst_ap, sLstM_ap, sCall_ap, sIx_ap, sBs_ap, sTest_ap, sTru_ap, tNotI_ap, tOrI_ap, tAndI_ap, sNotV_ap, sAndV_ap, sOrV_ap, go_ap, sNop_ap, ite_ap, isB_bl, truth_bl, trimS_self, small_lt, tuple_eq ht]
    · obtain ⟨hx, hy, _⟩ := h.of x y rfl
      by_cases h1 : isInt x = true
      · by_cases h2 : isInt y = true
        · cases x <;> simp [isInt] at h1
          cases y <;> simp [isInt] at h2
          exact isfr_pair
        · have e : isFr (.tup [x, y]) = false := by cases x <;> cases y <;> simp [isFr, isInt] at h2 ⊢
          rw [e]
          unfold F_is_fraction b_is_fraction; simp [fnOf_ap, env0, fnRes, sSeq_ap, sIf_ap, sRet_ap, sSet_ap, sExp_ap, sPar_ap, sRaise_ap, bndS_ap, bnd_ap, ret_ap, lift_ap, liftS_ap, s1_ap, s2_ap, sVar_ap, sC_ap, sCons_ap, sNil_ap, sTup_ap, sLst_ap, sLstM_ap, sCall_ap, sIx_ap, sBs_ap, sTest_ap, sTru_ap, tNotI_ap, tOrI_ap, tAndI_ap, sNotV_ap, sAndV_ap, sOrV_ap, go_ap, sNop_ap, ite_ap, isB_bl, truth_bl, trimS_self, small_lt, tuple_eq ht, whole_eq hx, whole_eq hy, oIx, at0, at1, h1, h2]
      · have e : isFr (.tup [x, y]) = false := by cases x <;> simp [isFr, isInt] at h1 ⊢
        rw [e]
        unfold F_is_fraction b_is_fraction; simp [fnOf_ap, env0, fnRes, sSeq_ap, sIf_ap, sRet_ap, sSet_ap, sExp_ap, sPar_ap, sRaise_ap, bndS_ap, bnd_ap, ret_ap, lift_ap, liftS_ap, s1_ap, s2_ap, sVar_ap, sC_ap, sCons_ap, sNil_ap, sTup_ap, sLst_ap, sLstM_ap, sCall_ap, sIx_ap, sBs_ap, sTest_ap, sTru_ap, tNotI_ap, tOrI_ap, tAndI_ap, sNotV_ap, sAndV_ap, sOrV_ap, go_ap, sNop_ap, ite_ap, isB_bl, truth_bl, trimS_self, small_lt, tuple_eq ht, whole_eq hx, whole_eq hy, oIx, at0, at1, h1]
    · unfold F_is_fraction b_is_fraction isFr; simp [fnOf_ap, env0, fnRes, sSeq_ap, sIf_ap, sRet_ap, sSet_ap, sExp_ap, sPar_ap, sRaise_ap, bndS_ap, bnd_ap, ret_ap, lift_ap, liftS_ap, s1_ap, s2_ap, sVar_ap, sC_ap, sCons_ap, sNil_ap, sTup_ap, sLst_ap, sLstM_ap, sCall_ap, sIx_ap, sBs_ap, sTest_ap, sTru_ap, tNotI_ap, tOrI_ap, tAndI_ap, sNotV_ap, sAndV_ap, sOrV_ap, go_ap, sNop_ap, ite_ap, isB_bl, truth_bl, trimS_self, small_lt, tuple_eq ht]
  | _ => first | (simp [tyName] at ht; done) | (unfold F_is_fraction b_is_fraction isFr; simp [fnOf_ap, env0, fnRes, sSeq_ap, sIf_ap, sRet_ap, sSet_ap, sExp_ap, sPar_ap, sRaise_ap, bndS_ap, bnd_ap, ret_ap, lift_ap, liftS_ap, s1_ap, s2_ap, sVar_ap, sC_ap, sCons_ap, sNil_ap, sTup_ap, sLst_ap, sLstM_ap, sCall_ap, sIx_ap, sBs_ap, sTest_ap, sTru_ap, tNotI_ap, tOrI_ap, tAndI_ap, sNotV_ap, sAndV_ap, sOrV_ap, go_ap, sNop_ap, ite_ap, isB_bl, truth_bl, trimS_self, small_lt, tuple_eq ht])
end Law
set_option Elab.async false
set_option linter.all false
set_option maxRecDepth 100000
set_option maxHeartbeats 4000000
set_option exponentiation.threshold 100000
namespace Law
open PySem PySem.Spec PyProof.Rows L2 I2
theorem at_cons0 {x : D} {xs : List D} : L2.atI (x :: xs) 0 = some x := by
  have h : L2.ixN (x :: xs).length 0 = some 0 := by simp [L2.ixN]
  unfold L2.atI; rw [h]; rfl
section
variable {a : Ad} {st : Sto}
structure Fr (t b : Int) : Prop where
  pos : 0 < b
  g1 : Int.gcd t b = 1
  bt : t.natAbs < 2 ^ 4000
  bb : b.natAbs < 2 ^ 4000
abbrev pr (t b : Int) : D := .tup [.int t, .int b]
theorem b9_of1 {i : Int} (h : i.natAbs < 2 ^ 4000) : B9 i := Nat.lt_of_lt_of_le h (Nat.pow_le_pow_right (by omega) (by omega))
theorem pl_pair {t b : Int} (h : B9 b) : Pl (pr t b) := ⟨rfl, fun x y e => by cases e; exact ⟨rfl, rfl, fun b e => by cases e; exact h⟩⟩
theorem Fr.pl {t b : Int} (h : Fr t b) : Pl (pr t b) := pl_pair (b9_of1 h.bb)
theorem Fr.fr {t b : Int} (h : Fr t b) : isFr (pr t b) = true := by simp [isFr, h.pos, h.g1]
section
variable {t b p q : Int} (hx : Fr t b) (hy : Fr p q)
include hx hy
end
abbrev q (x : Rat) : D := pr x.num (x.den : Int)
structure Sz (x : Rat) : Prop where
  n : x.num.natAbs < 2 ^ 4000
  d : x.den < 2 ^ 4000
theorem Sz.fr {x : Rat} (h : Sz x) : Fr x.num (x.den : Int) :=
  ⟨by have := x.den_pos; omega, by have := x.reduced; unfold Nat.Coprime at this; rw [Int.gcd]; simpa using this, h.n, by simpa using h.d⟩
section
variable {x y : Rat} (hx : Sz x) (hy : Sz y)
include hx hy
end
end
structure Nc (M B : Nat) (x : Rat) : Prop where
  i : ∃ z : Int, x * (M : Rat) = (z : Rat)
  nn : 0 ≤ x
  le : x ≤ (B : Rat)
theorem Nc.sz {M B : Nat} {x : Rat} (h : Nc M B x) (hM : 0 < M) (hb : B * M < 2 ^ 4000) (hm : M < 2 ^ 4000) : Sz x := by
  obtain ⟨z, hz⟩ := h.i
  have hM' : (0 : Rat) < (M : Rat) := Rat.natCast_pos.mpr hM
  have e : x = mkRat z M := by
    rw [Rat.mkRat_eq_div, ← hz, Rat.mul_div_cancel (Rat.ne_of_gt hM')]
  have z0 : 0 ≤ z := by
    have : (0 : Rat) ≤ x * M := Rat.mul_nonneg h.nn (Rat.le_of_lt hM')
    rw [hz] at this
    exact Rat.intCast_nonneg.mp this
  have z1 : z ≤ (B * M : Nat) := by
    have : x * (M : Rat) ≤ (B : Rat) * M := Rat.mul_le_mul_of_nonneg_right h.le (Rat.le_of_lt hM')
    rw [hz] at this
    have e2 : (B : Rat) * (M : Rat) = (((B * M : Nat) : Int) : Rat) := by push_cast; rfl
    rw [e2] at this
    exact Rat.intCast_le_intCast.mp this
  refine ⟨?_, ?_⟩
  · rw [e, Rat.num_mkRat, if_neg (by omega)]
    exact Nat.lt_of_le_of_lt (Int.natAbs_ediv_le_natAbs _ _) (by omega)
  · rw [e, Rat.den_mkRat, if_neg (by omega)]
    exact Nat.lt_of_le_of_lt (Nat.div_le_self _ _) hm
end Law
set_option Elab.async false
set_option linter.all false
set_option maxRecDepth 100000
set_option maxHeartbeats 4000000
set_option exponentiation.threshold 100000
namespace Law
open PySem PySem.Spec PyProof.Rows L2 I2
section
variable {st : Sto} {env : DEnv}
theorem sSlX_ap {f : Sm} {l u : Smo} : sSlX f l u env st = bnd f (fun x => bnd l fun lo => bnd u fun hi => liftS fun st => oSlX st lo hi x) env st := rfl
theorem sNoPart_ap : sNoPart env st = some (.ok none, st) := rfl
theorem sPart_ap {f : Sm} : sPart f env st = bnd f (fun d => bnd (I2.lift (isI d)) fun i => I2.ret (some i)) env st := rfl
theorem isI_int {i : Int} : isI (.int i) = some i := rfl
theorem sChain_ap {o o' : D → D → Option D} {f h k : Sm} : sChain o o' f h k env st = bnd f (fun x => bnd h fun y => bnd (I2.lift ((o x y).bind isB)) fun t => if t = true then bnd k fun z => I2.lift (o' y z) else I2.ret (.bl false)) env st := rfl
theorem sIfE_ap {t : Smt} {f h : Sm} : sIfE t f h env st = bnd t (fun b => if b = true then f else h) env st := rfl
theorem sAsg_ap {b : Bd} {f : Sm} : sAsg b f env st = bndS f (fun d => fun env st => (b d env).map fun env' => (.nx, env', st)) env st := rfl
theorem sFor_ap {bd : Bd} {f : Sm} {u : Sms} : sFor bd f u env st = bndS f (fun d => bndS (I2.lift (seqOf d)) fun ds => forL bd u ds) env st := rfl
theorem sForR_ap {bd : Bd} {fs : Sma} {u : Sms} : sForR bd fs u env st = bndS fs (fun ds => bndS (I2.lift (rngOf ds)) fun ds => forL bd u ds) env st := rfl
theorem forL_nil {bd : Bd} {u : Sms} : forL bd u [] env st = some (.nx, env, st) := rfl
theorem forL_cons {bd : Bd} {u : Sms} {env env1 env2 : DEnv} {st' : Sto} {d : D} {ds : List D} (h1 : bd d env = some env1) (h2 : u env1 st = some (.nx, env2, st')) : forL bd u (d :: ds) env st = forL bd u ds env2 st' := by
  show (match bd d env with
    | none => none
    | some env1 => match u env1 st with
      | some (.nx, env', st') => forL bd u ds env' st'
      | some (.ct, env', st') => forL bd u ds env' st'
      | some (.bk, env', st') => some (.nx, env', st')
      | o => o) = _
  rw [h1]; dsimp only; rw [h2]
theorem sComp_ap {T : Tgt} {f : Sm} {t : Smt} {h : Sm} {vs : List Nat} : sComp T f t h vs env st = bnd f (fun d => bnd (I2.lift (seqOf d)) fun ds => compR T t h vs ds) env st := rfl
theorem compR_ap {T : Tgt} {t : Smt} {h : Sm} {vs : List Nat} {ds : List D} : compR T t h vs ds env st = (match compL T.bd t h (wipeD env vs) ds st with
  | some (ys, st') => if small ys then some (.ok (.lst ys), st') else none
  | none => none) := rfl
theorem compL_map {α : Type} {bd : Bd} {t : Smt} {h : Sm} (dd : α → D) (ff : α → D) : ∀ (xs : List α), (∀ x ∈ xs, ∃ env1, bd (dd x) env = some env1 ∧ t env1 st = some (.ok true, st) ∧ h env1 st = some (.ok (ff x), st)) → compL bd t h env (xs.map dd) st = some (xs.map ff, st)
  | [], _ => rfl
  | x :: xs, H => by
    obtain ⟨env1, h1, h2, h3⟩ := H x (by simp)
    have ih := compL_map dd ff xs fun y hy => H y (List.mem_cons_of_mem _ hy)
    show (match bd (dd x) env with
      | none => none
      | some env1 => match t env1 st with
        | some (.ok true, st1) => match h env1 st1 with
          | some (.ok y, st2) => (compL bd t h env (xs.map dd) st2).map fun (r : List D × Sto) => (y :: r.1, r.2)
          | _ => none
        | some (.ok false, st1) => compL bd t h env (xs.map dd) st1
        | _ => none) = _
    rw [h1]; dsimp only; rw [h2]; dsimp only; rw [h3]; dsimp only; rw [ih]; rfl
theorem seqOf_tup {ds : List D} : seqOf (.tup ds) = some ds := rfl
theorem seqOf_lst {ds : List D} : seqOf (.lst ds) = some ds := rfl
theorem oGt_i {i j : Int} : oGt (.int i) (.int j) = some (.bl (decide (j < i))) := rfl
theorem oGe_i {i j : Int} : oGe (.int i) (.int j) = some (.bl (decide (j ≤ i))) := rfl
theorem oLe_i {i j : Int} : oLe (.int i) (.int j) = some (.bl (decide (i ≤ j))) := rfl
theorem oIsiB_tup {ds : List D} : oIsiB "tuple" (.tup ds) = some (.bl true) := rfl
theorem oLen_tup {ds : List D} : oLen st [.tup ds] = some (.int ds.length) := rfl
theorem oLen_lst {ds : List D} : oLen st [.lst ds] = some (.int ds.length) := rfl
theorem small_map {α β : Type} {xs : List α} {f : α → β} (h : xs.length < 64) : small (xs.map f) = true := small_lt (by simpa using h)
theorem allB_map {α : Type} (f : α → Bool) : ∀ (xs : List α), I2.allB (xs.map fun x => D.bl (f x)) = some (xs.map f)
  | [] => rfl
  | x :: xs => by rw [List.map_cons, I2.allB, allB_map f xs]; rfl
def isT2 : D → Bool
  | .tup ds => decide (ds.length = 2)
  | _ => false
theorem tuple_eq2 {x : D} (h : (tyName x).isSome) : F_is_tuple_of [x, .int 2] st = some (.ok (.bl (isT2 x)), st) := by
  rw [tuple_eq h]
  cases x <;> rfl
theorem sRev_ap {f : Sm} : sRev f env st = s1 oRev f env st := rfl
inductive Hp : D → Prop
  | non : Hp .non
  | bl (b : Bool) : Hp (.bl b)
  | int {i : Int} : i.natAbs < 2 ^ 200 → Hp (.int i)
  | str (x : Str) : Hp (.str x)
  | lst (ds : List D) : Hp (.lst ds)
  | dic0 : Hp .dic0
  | tup {ds : List D} : (∀ d ∈ ds, Hp d) → Hp (.tup ds)
theorem Hp.ty {d : D} (h : Hp d) : (tyName d).isSome := by cases h <;> rfl
theorem b9_200 {i : Int} (h : i.natAbs < 2 ^ 200) : B9 i := Nat.lt_of_lt_of_le h (Nat.pow_le_pow_right (by omega) (by omega))
theorem Hp.items {ds : List D} (h : Hp (.tup ds)) : ∀ d ∈ ds, Hp d := by cases h; assumption
theorem Hp.pl {d : D} (h : Hp d) : Pl d := ⟨h.ty, fun x y e => by
  subst e
  have hx := h.items x (by simp)
  have hy := h.items y (by simp)
  refine ⟨hx.ty, hy.ty, fun b e => ?_⟩
  subst e
  cases hy with
  | int h => exact b9_200 h⟩
def fTop : D → Int
  | .tup (.int t :: _) => t
  | _ => 0
def fBot : D → Int
  | .tup (_ :: .int b :: _) => b
  | _ => 0
theorem fr_pair {d : D} (h : isFr d = true) : ∃ t b : Int, d = pr t b ∧ 0 < b ∧ Int.gcd t b = 1 := by
  unfold isFr at h
  split at h
  · rename_i t b
    simp at h
    exact ⟨t, b, rfl, h.1, h.2⟩
  · cases h
def isAb (d : D) : Bool := isFr d && decide (0 < fTop d) && decide (fTop d ≤ 999) && decide (fBot d ≤ 999)
def isBk (d : D) : Bool := isFr d && decide (0 ≤ fTop d) && decide (fTop d ≤ 999) && decide (fBot d ≤ 999)
def isLen : D → Bool
  | .tup [.int s, e] => decide (1 ≤ s) && decide (s ≤ 999) && isAb e
  | _ => false
def isCb : D → Bool
  | .tup [.tup ds, b] => decide (1 ≤ ds.length) && decide (ds.length ≤ 12) && ds.all isLen && isBk b
  | _ => false
theorem above_eq {d : D} (h : Hp d) : F_is_above_zero [d] st = some (.ok (.bl (isFr d && decide (0 < fTop d))), st) := by
  unfold F_is_above_zero b_is_above_zero
  by_cases hf : isFr d = true
  · obtain ⟨t, b, rfl, h1, h2⟩ := fr_pair hf
    have I := isfr_eq (st := st) h.pl
    rw [hf] at I
    simp [fnOf_ap, env0, fnRes, sSeq_ap, sIf_ap, sRet_ap, sSet_ap, sExp_ap, sPar_ap, sRaise_ap, bndS_ap, bnd_ap, ret_ap, lift_ap, liftS_ap, s1_ap, s2_ap, sVar_ap, sC_ap, sCons_ap, sNil_ap, sTup_ap, sLst_ap, sLstM_ap, sCall_ap, sIx_ap, sBs_ap, sTest_ap, sTru_ap, tNotI_ap, tOrI_ap, tAndI_ap, sNotV_ap, sAndV_ap, sOrV_ap, go_ap, sNop_ap, ite_ap, isB_bl, truth_bl, trimS_self, small_lt, I, hf, oIx, at0, at1, oGt_i, fTop]
    rfl
  · have hf : isFr d = false := by simpa using hf
    simp [fnOf_ap, env0, fnRes, sSeq_ap, sIf_ap, sRet_ap, sSet_ap, sExp_ap, sPar_ap, sRaise_ap, bndS_ap, bnd_ap, ret_ap, lift_ap, liftS_ap, s1_ap, s2_ap, sVar_ap, sC_ap, sCons_ap, sNil_ap, sTup_ap, sLst_ap, sLstM_ap, sCall_ap, sIx_ap, sBs_ap, sTest_ap, sTru_ap, tNotI_ap, tOrI_ap, tAndI_ap, sNotV_ap, sAndV_ap, sOrV_ap, go_ap, sNop_ap, ite_ap, isB_bl, truth_bl, trimS_self, small_lt, isfr_eq h.pl, hf]
theorem from_eq {d : D} (h : Hp d) : F_is_from_zero [d] st = some (.ok (.bl (isFr d && decide (0 ≤ fTop d))), st) := by
  unfold F_is_from_zero b_is_from_zero
  by_cases hf : isFr d = true
  · obtain ⟨t, b, rfl, h1, h2⟩ := fr_pair hf
    have I := isfr_eq (st := st) h.pl
    rw [hf] at I
    simp [fnOf_ap, env0, fnRes, sSeq_ap, sIf_ap, sRet_ap, sSet_ap, sExp_ap, sPar_ap, sRaise_ap, bndS_ap, bnd_ap, ret_ap, lift_ap, liftS_ap, s1_ap, s2_ap, sVar_ap, sC_ap, sCons_ap, sNil_ap, sTup_ap, sLst_ap, sLstM_ap, sCall_ap, sIx_ap, sBs_ap, sTest_ap, sTru_ap, tNotI_ap, tOrI_ap, tAndI_ap, sNotV_ap, sAndV_ap, sOrV_ap, go_ap, sNop_ap, ite_ap, isB_bl, truth_bl, trimS_self, small_lt, I, hf, oIx, at0, at1, oGe_i, fTop]
    rfl
  · have hf : isFr d = false := by simpa using hf
    simp [fnOf_ap, env0, fnRes, sSeq_ap, sIf_ap, sRet_ap, sSet_ap, sExp_ap, sPar_ap, sRaise_ap, bndS_ap, bnd_ap, ret_ap, lift_ap, liftS_ap, s1_ap, s2_ap, sVar_ap, sC_ap, sCons_ap, sNil_ap, sTup_ap, sLst_ap, sLstM_ap, sCall_ap, sIx_ap, sBs_ap, sTest_ap, sTru_ap, tNotI_ap, tOrI_ap, tAndI_ap, sNotV_ap, sAndV_ap, sOrV_ap, go_ap, sNop_ap, ite_ap, isB_bl, truth_bl, trimS_self, small_lt, isfr_eq h.pl, hf]
theorem small_eq {d : D} (hf : isFr d = true) : F_is_small [d] st = some (.ok (.bl (decide (fTop d ≤ 999) && decide (fBot d ≤ 999))), st) := by
  obtain ⟨t, b, rfl, h1, h2⟩ := fr_pair hf
  unfold F_is_small b_is_small
  by_cases c : t ≤ 999
  · simp [fnOf_ap, env0, fnRes, sSeq_ap, sIf_ap, sRet_ap, sSet_ap, sExp_ap, sPar_ap, sRaise_ap, bndS_ap, bnd_ap, ret_ap, lift_ap, liftS_ap, s1_ap, s2_ap, sVar_ap, sC_ap, sCons_ap, sNil_ap, sTup_ap, sLst_ap, sLstM_ap, sCall_ap, sIx_ap, sBs_ap, sTest_ap, sTru_ap, tNotI_ap, tOrI_ap, tAndI_ap, sNotV_ap, sAndV_ap, sOrV_ap, go_ap, sNop_ap, ite_ap, isB_bl, truth_bl, trimS_self, small_lt, oIx, at0, at1, oLe_i, c, fTop, fBot]
    rfl
  · simp [fnOf_ap, env0, fnRes, sSeq_ap, sIf_ap, sRet_ap, sSet_ap, sExp_ap, sPar_ap, sRaise_ap, bndS_ap, bnd_ap, ret_ap, lift_ap, liftS_ap, s1_ap, s2_ap, sVar_ap, sC_ap, sCons_ap, sNil_ap, sTup_ap, sLst_ap, sLstM_ap, sCall_ap, sIx_ap, sBs_ap, sTest_ap, sTru_ap, tNotI_ap, tOrI_ap, tAndI_ap, sNotV_ap, sAndV_ap, sOrV_ap, go_ap, sNop_ap, ite_ap, isB_bl, truth_bl, trimS_self, small_lt, oIx, at0, at1, oLe_i, c, fTop, fBot]
theorem back_eq {d : D} (h : Hp d) : F_is_back [d] st = some (.ok (.bl (isBk d)), st) := by
  unfold F_is_back b_is_back isBk
  by_cases hf : isFr d = true
  · by_cases c : 0 ≤ fTop d
    · simp [fnOf_ap, env0, fnRes, sSeq_ap, sIf_ap, sRet_ap, sSet_ap, sExp_ap, sPar_ap, sRaise_ap, bndS_ap, bnd_ap, ret_ap, lift_ap, liftS_ap, s1_ap, s2_ap, sVar_ap, sC_ap, sCons_ap, sNil_ap, sTup_ap, sLst_ap, sLstM_ap, sCall_ap, sIx_ap, sBs_ap, sTest_ap, sTru_ap, tNotI_ap, tOrI_ap, tAndI_ap, sNotV_ap, sAndV_ap, sOrV_ap, go_ap, sNop_ap, ite_ap, isB_bl, truth_bl, trimS_self, small_lt, from_eq h, hf, c, small_eq hf]
    · simp [fnOf_ap, env0, fnRes, sSeq_ap, sIf_ap, sRet_ap, sSet_ap, sExp_ap, sPar_ap, sRaise_ap, bndS_ap, bnd_ap, ret_ap, lift_ap, liftS_ap, s1_ap, s2_ap, sVar_ap, sC_ap, sCons_ap, sNil_ap, sTup_ap, sLst_ap, sLstM_ap, sCall_ap, sIx_ap, sBs_ap, sTest_ap, sTru_ap, tNotI_ap, tOrI_ap, tAndI_ap, sNotV_ap, sAndV_ap, sOrV_ap, go_ap, sNop_ap, ite_ap, isB_bl, truth_bl, trimS_self, small_lt, from_eq h, hf, c]
  · have hf : isFr d = false := by simpa using hf
    simp [fnOf_ap, env0, fnRes, sSeq_ap, sIf_ap, sRet_ap, sSet_ap, sExp_ap, sPar_ap, sRaise_ap, bndS_ap, bnd_ap, ret_ap, lift_ap, liftS_ap, s1_ap, s2_ap, sVar_ap, sC_ap, sCons_ap, sNil_ap, sTup_ap, sLst_ap, sLstM_ap, sCall_ap, sIx_ap, sBs_ap, sTest_ap, sTru_ap, tNotI_ap, tOrI_ap, tAndI_ap, sNotV_ap, sAndV_ap, sOrV_ap, go_ap, sNop_ap, ite_ap, isB_bl, truth_bl, trimS_self, small_lt, from_eq h, hf]
theorem length_eq {d : D} (h : Hp d) : F_is_length [d] st = some (.ok (.bl (isLen d)), st) := by
  have T := tuple_eq2 (st := st) h.ty
  by_cases h2 : isT2 d = true
  · obtain ⟨x, e, rfl⟩ : ∃ x e, d = .tup [x, e] := by
      cases d with
      | tup ds =>
        match ds, h2 with
        | [x, e], _ => exact ⟨x, e, rfl⟩
        | [], h2 => simp [isT2] at h2
        | [x], h2 => simp [isT2] at h2
        | x :: y :: z :: r, h2 => simp [isT2] at h2
      | _ => simp [isT2] at h2
    rw [h2] at T
    have hx := h.items x (by simp)
    have he := h.items e (by simp)
    have W := whole_eq (st := st) hx.ty
    by_cases hi : isInt x = true
    · obtain ⟨s, rfl⟩ : ∃ s, x = .int s := by cases x <;> simp [isInt] at hi; exact ⟨_, rfl⟩
      rw [hi] at W
      unfold F_is_length b_is_length isLen isAb
      by_cases c1 : 1 ≤ s
      · by_cases c2 : s ≤ 999
        · by_cases hf : isFr e = true
          · by_cases c3 : 0 < fTop e
            · simp [fnOf_ap, env0, fnRes, sSeq_ap, sIf_ap, sRet_ap, sSet_ap, sExp_ap, sPar_ap, sRaise_ap, bndS_ap, bnd_ap, ret_ap, lift_ap, liftS_ap, s1_ap, s2_ap, sVar_ap, sC_ap, sCons_ap, sNil_ap, sTup_ap, sLst_ap, sLstM_ap, sCall_ap, sIx_ap, sBs_ap, sTest_ap, sTru_ap, tNotI_ap, tOrI_ap, tAndI_ap, sNotV_ap, sAndV_ap, sOrV_ap, go_ap, sNop_ap, ite_ap, isB_bl, truth_bl, trimS_self, small_lt, T, W, oIx, at0, at1, sChain_ap, oLe_i, c1, c2, above_eq he, hf, c3, small_eq hf]
            · simp [fnOf_ap, env0, fnRes, sSeq_ap, sIf_ap, sRet_ap, sSet_ap, sExp_ap, sPar_ap, sRaise_ap, bndS_ap, bnd_ap, ret_ap, lift_ap, liftS_ap, s1_ap, s2_ap, sVar_ap, sC_ap, sCons_ap, sNil_ap, sTup_ap, sLst_ap, sLstM_ap, sCall_ap, sIx_ap, sBs_ap, sTest_ap, sTru_ap, tNotI_ap, tOrI_ap, tAndI_ap, sNotV_ap, sAndV_ap, sOrV_ap, go_ap, sNop_ap, ite_ap, isB_bl, truth_bl, trimS_self, small_lt, T, W, oIx, at0, at1, sChain_ap, oLe_i, c1, c2, above_eq he, hf, c3]
          · have hf : isFr e = false := by simpa using hf
            simp [fnOf_ap, env0, fnRes, sSeq_ap, sIf_ap, sRet_ap, sSet_ap, sExp_ap, sPar_ap, sRaise_ap, bndS_ap, bnd_ap, ret_ap, lift_ap, liftS_ap, s1_ap, s2_ap, sVar_ap, sC_ap, sCons_ap, sNil_ap, sTup_ap, sLst_ap, sLstM_ap, sCall_ap, sIx_ap, sBs_ap, sTest_ap, sTru_ap, tNotI_ap, tOrI_ap, tAndI_ap, sNotV_ap, sAndV_ap, sOrV_ap, go_ap, sNop_ap, ite_ap, isB_bl, truth_bl, trimS_self, small_lt, T, W, oIx, at0, at1, sChain_ap, oLe_i, c1, c2, above_eq he, hf]
        · simp [fnOf_ap, env0, fnRes, sSeq_ap, sIf_ap, sRet_ap, sSet_ap, sExp_ap, sPar_ap, sRaise_ap, bndS_ap, bnd_ap, ret_ap, lift_ap, liftS_ap, s1_ap, s2_ap, sVar_ap, sC_ap, sCons_ap, sNil_ap, sTup_ap, sLst_ap, sLstM_ap, sCall_ap, sIx_ap, sBs_ap, sTest_ap, sTru_ap, tNotI_ap, tOrI_ap, tAndI_ap, sNotV_ap, sAndV_ap, sOrV_ap, go_ap, sNop_ap, ite_ap, isB_bl, truth_bl, trimS_self, small_lt, T, W, oIx, at0, at1, sChain_ap, oLe_i, c1, c2]
      · simp [fnOf_ap, env0, fnRes, sSeq_ap, sIf_ap, sRet_ap, sSet_ap, sExp_ap, sPar_ap, sRaise_ap, bndS_ap, bnd_ap, ret_ap, lift_ap, liftS_ap, s1_ap, s2_ap, sVar_ap, sC_ap, sCons_ap, sNil_ap, sTup_ap, sLst_ap, sLstM_ap, sCall_ap, sIx_ap, sBs_ap, sTest_ap, sTru_ap, tNotI_ap, tOrI_ap, tAndI_ap, sNotV_ap, sAndV_ap, sOrV_ap, go_ap, sNop_ap, ite_ap, isB_bl, truth_bl, trimS_self, small_lt, T, W, oIx, at0, at1, sChain_ap, oLe_i, c1]
    · have hi : isInt x = false := by simpa using hi
      have e0 : isLen (.tup [x, e]) = false := by cases x <;> simp [isInt] at hi <;> rfl
      rw [hi] at W
      rw [e0]
      unfold F_is_length b_is_length
      simp [fnOf_ap, env0, fnRes, sSeq_ap, sIf_ap, sRet_ap, sSet_ap, sExp_ap, sPar_ap, sRaise_ap, bndS_ap, bnd_ap, ret_ap, lift_ap, liftS_ap, s1_ap, s2_ap, sVar_ap, sC_ap, sCons_ap, sNil_ap, sTup_ap, sLst_ap, sLstM_ap, sCall_ap, sIx_ap, sBs_ap, sTest_ap, sTru_ap, tNotI_ap, tOrI_ap, tAndI_ap, sNotV_ap, sAndV_ap, sOrV_ap, go_ap, sNop_ap, ite_ap, isB_bl, truth_bl, trimS_self, small_lt, T, W, oIx, at0, at1]
  · have h2 : isT2 d = false := by simpa using h2
    have e0 : isLen d = false := by
      unfold isLen
      split
      · simp [isT2] at h2
      · rfl
    rw [h2] at T
    rw [e0]
    unfold F_is_length b_is_length
    simp [fnOf_ap, env0, fnRes, sSeq_ap, sIf_ap, sRet_ap, sSet_ap, sExp_ap, sPar_ap, sRaise_ap, bndS_ap, bnd_ap, ret_ap, lift_ap, liftS_ap, s1_ap, s2_ap, sVar_ap, sC_ap, sCons_ap, sNil_ap, sTup_ap, sLst_ap, sLstM_ap, sCall_ap, sIx_ap, sBs_ap, sTest_ap, sTru_ap, tNotI_ap, tOrI_ap, tAndI_ap, sNotV_ap, sAndV_ap, sOrV_ap, go_ap, sNop_ap, ite_ap, isB_bl, truth_bl, trimS_self, small_lt, T]
theorem compL_id {bd : Bd} {t : Smt} {h : Sm} (ff : D → D) (xs : List D) (H : ∀ x ∈ xs, ∃ env1, bd x env = some env1 ∧ t env1 st = some (.ok true, st) ∧ h env1 st = some (.ok (ff x), st)) : compL bd t h env xs st = some (xs.map ff, st) := by
  have := compL_map (st := st) (env := env) (bd := bd) (t := t) (h := h) (fun x => x) ff xs H
  rw [List.map_id'] at this
  exact this
theorem oAll_map (f : D → Bool) (xs : List D) : oAll st [.lst (xs.map fun x => D.bl (f x))] = some (.bl (xs.all f)) := by
  rw [oAll, allB_map]; simp
theorem two_of2 {d : D} (h2 : isT2 d = true) : ∃ x e, d = .tup [x, e] := by
  cases d with
  | tup ds =>
    match ds, h2 with
    | [x, e], _ => exact ⟨x, e, rfl⟩
    | [], h2 => simp [isT2] at h2
    | [x], h2 => simp [isT2] at h2
    | x :: y :: z :: r, h2 => simp [isT2] at h2
  | _ => simp [isT2] at h2
theorem cb_T2 {d : D} (h2 : isT2 d = false) : isCb d = false := by
  unfold isCb
  split
  · simp [isT2] at h2
  · rfl
theorem cb_nt {x y : D} (h : ∀ ds, x ≠ .tup ds) : isCb (.tup [x, y]) = false := by
  unfold isCb
  split
  · rename_i ds b e
    cases e
    exact absurd rfl (h _)
  · rfl
theorem isi_nt {x : D} (hx : Hp x) (h : ∀ ds, x ≠ .tup ds) : oIsiB "tuple" x = some (.bl false) := by
  cases hx <;> first | (exact absurd rfl (h _)) | rfl
theorem cable_eq {d : D} (h : Hp d) : F_is_cable [d] st = some (.ok (.bl (isCb d)), st) := by
  have T := tuple_eq2 (st := st) h.ty
  by_cases h2 : isT2 d = true
  · obtain ⟨x, y, rfl⟩ := two_of2 h2
    rw [h2] at T
    have hx := h.items x (by simp)
    have hy := h.items y (by simp)
    by_cases hn : ∃ ds, x = .tup ds
    · obtain ⟨ds, rfl⟩ := hn
      have M := compL_id (bd := (Tgt.name 1).bd) (t := sYes) (h := sCall 1 F_is_length (sCons (sVar 1) sNil)) (env := wipeD [some (.tup [.tup ds, y]), none] [1]) (st := st) (fun x => D.bl (isLen x)) ds (fun x hxm => ⟨[some (.tup [.tup ds, y]), some x], rfl, rfl, by
        have := length_eq (st := st) (hx.items x hxm)
        simp [fnOf_ap, env0, fnRes, sSeq_ap, sIf_ap, sRet_ap, sSet_ap, sExp_ap, sPar_ap, sRaise_ap, bndS_ap, bnd_ap, ret_ap, lift_ap, liftS_ap, s1_ap, s2_ap, sVar_ap, sC_ap, sCons_ap, sNil_ap, sTup_ap, sLst_ap, sLstM_ap, sCall_ap, sIx_ap, sBs_ap, sTest_ap, sTru_ap, tNotI_ap, tOrI_ap, tAndI_ap, sNotV_ap, sAndV_ap, sOrV_ap, go_ap, sNop_ap, ite_ap, isB_bl, truth_bl, trimS_self, small_lt, this]⟩)
      have O := oAll_map (st := st) isLen ds
      have B := back_eq (st := st) hy
      unfold F_is_cable b_is_cable isCb
      by_cases c1 : 1 ≤ ds.length
      · have c1' : (1 : Int) ≤ (ds.length : Int) := by omega
        by_cases c2 : ds.length ≤ 12
        · have c2' : (ds.length : Int) ≤ 12 := by omega
          have S : small (ds.map fun x => D.bl (isLen x)) = true := small_map (by omega)
          by_cases ha : ds.all isLen = true
          · rw [ha] at O
            simp [fnOf_ap, env0, fnRes, sSeq_ap, sIf_ap, sRet_ap, sSet_ap, sExp_ap, sPar_ap, sRaise_ap, bndS_ap, bnd_ap, ret_ap, lift_ap, liftS_ap, s1_ap, s2_ap, sVar_ap, sC_ap, sCons_ap, sNil_ap, sTup_ap, sLst_ap, sLstM_ap, sCall_ap, sIx_ap, sBs_ap, sTest_ap, sTru_ap, tNotI_ap, tOrI_ap, tAndI_ap, sNotV_ap, sAndV_ap, sOrV_ap, go_ap, sNop_ap, ite_ap, isB_bl, truth_bl, trimS_self, small_lt, T, oIx, at0, at1, oIsiB_tup, oLen_tup, sChain_ap, oLe_i, c1', c2', c1, c2, sComp_ap, seqOf_tup, compR_ap, M, S, O, B]
            intro _; simpa using ha
          · have ha : ds.all isLen = false := by simpa using ha
            rw [ha] at O
            have e0 : (decide (1 ≤ ds.length) && decide (ds.length ≤ 12) && ds.all isLen && isBk y) = false := by rw [ha]; simp
            show _ = some (Out.ok (D.bl (decide (1 ≤ ds.length) && decide (ds.length ≤ 12) && ds.all isLen && isBk y)), st)
            rw [e0]
            simp [fnOf_ap, env0, fnRes, sSeq_ap, sIf_ap, sRet_ap, sSet_ap, sExp_ap, sPar_ap, sRaise_ap, bndS_ap, bnd_ap, ret_ap, lift_ap, liftS_ap, s1_ap, s2_ap, sVar_ap, sC_ap, sCons_ap, sNil_ap, sTup_ap, sLst_ap, sLstM_ap, sCall_ap, sIx_ap, sBs_ap, sTest_ap, sTru_ap, tNotI_ap, tOrI_ap, tAndI_ap, sNotV_ap, sAndV_ap, sOrV_ap, go_ap, sNop_ap, ite_ap, isB_bl, truth_bl, trimS_self, small_lt, T, oIx, at0, at1, oIsiB_tup, oLen_tup, sChain_ap, oLe_i, c1', c2', sComp_ap, seqOf_tup, compR_ap, M, S, O]
        · have c2' : ¬ (ds.length : Int) ≤ 12 := by omega
          simp [fnOf_ap, env0, fnRes, sSeq_ap, sIf_ap, sRet_ap, sSet_ap, sExp_ap, sPar_ap, sRaise_ap, bndS_ap, bnd_ap, ret_ap, lift_ap, liftS_ap, s1_ap, s2_ap, sVar_ap, sC_ap, sCons_ap, sNil_ap, sTup_ap, sLst_ap, sLstM_ap, sCall_ap, sIx_ap, sBs_ap, sTest_ap, sTru_ap, tNotI_ap, tOrI_ap, tAndI_ap, sNotV_ap, sAndV_ap, sOrV_ap, go_ap, sNop_ap, ite_ap, isB_bl, truth_bl, trimS_self, small_lt, T, oIx, at0, at1, oIsiB_tup, oLen_tup, sChain_ap, oLe_i, c1', c2', c1, c2]
      · have c1' : ¬ (1 : Int) ≤ (ds.length : Int) := by omega
        simp [fnOf_ap, env0, fnRes, sSeq_ap, sIf_ap, sRet_ap, sSet_ap, sExp_ap, sPar_ap, sRaise_ap, bndS_ap, bnd_ap, ret_ap, lift_ap, liftS_ap, s1_ap, s2_ap, sVar_ap, sC_ap, sCons_ap, sNil_ap, sTup_ap, sLst_ap, sLstM_ap, sCall_ap, sIx_ap, sBs_ap, sTest_ap, sTru_ap, tNotI_ap, tOrI_ap, tAndI_ap, sNotV_ap, sAndV_ap, sOrV_ap, go_ap, sNop_ap, ite_ap, isB_bl, truth_bl, trimS_self, small_lt, T, oIx, at0, at1, oIsiB_tup, oLen_tup, sChain_ap, oLe_i, c1', c1]
    · have hn' : ∀ ds, x ≠ .tup ds := fun ds e => hn ⟨ds, e⟩
      rw [cb_nt hn']
      unfold F_is_cable b_is_cable
      simp [fnOf_ap, env0, fnRes, sSeq_ap, sIf_ap, sRet_ap, sSet_ap, sExp_ap, sPar_ap, sRaise_ap, bndS_ap, bnd_ap, ret_ap, lift_ap, liftS_ap, s1_ap, s2_ap, sVar_ap, sC_ap, sCons_ap, sNil_ap, sTup_ap, sLst_ap, sLstM_ap, sCall_ap, sIx_ap, sBs_ap, sTest_ap, sTru_ap, tNotI_ap, tOrI_ap, tAndI_ap, sNotV_ap, sAndV_ap, sOrV_ap, go_ap, sNop_ap, ite_ap, isB_bl, truth_bl, trimS_self, small_lt, T, oIx, at0, at1, isi_nt hx hn']
  · have h2 : isT2 d = false := by simpa using h2
    rw [h2] at T
    rw [cb_T2 h2]
    unfold F_is_cable b_is_cable
    simp [fnOf_ap, env0, fnRes, sSeq_ap, sIf_ap, sRet_ap, sSet_ap, sExp_ap, sPar_ap, sRaise_ap, bndS_ap, bnd_ap, ret_ap, lift_ap, liftS_ap, s1_ap, s2_ap, sVar_ap, sC_ap, sCons_ap, sNil_ap, sTup_ap, sLst_ap, sLstM_ap, sCall_ap, sIx_ap, sBs_ap, sTest_ap, sTru_ap, tNotI_ap, tOrI_ap, tAndI_ap, sNotV_ap, sAndV_ap, sOrV_ap, go_ap, sNop_ap, ite_ap, isB_bl, truth_bl, trimS_self, small_lt, T]
end
end Law
set_option Elab.async false
set_option linter.all false
set_option maxRecDepth 100000
set_option maxHeartbeats 4000000
set_option exponentiation.threshold 100000
namespace Law
open PySem PySem.Spec PyProof.Rows L2 I2
section
variable {a : Ad} {st : Sto}
theorem seq_of {u w : Sms} {env env1 : DEnv} {st1 : Sto} (h : u env st = some (.nx, env1, st1)) : sSeq u w env st = w env1 st1 := by rw [sSeq_ap, h]
def PuAt (st : Sto) (i : Nat) : Prop := ∃ p q r : Int, st[i]? = some (.lst [.int p, .int q, .int r])
theorem sPut_ap {f h k : Sm} {env : DEnv} : sPut f h k env st = bndS f (fun v => bndS h fun o => bndS k fun j => fun env st => match o, j with
  | .ref i, .int z => match st[i]? with
    | some (.lst ds) => match ixN ds.length z with
      | some n => some (.nx, env, st.set i (.lst (ds.set n v)))
      | none => none
    | _ => none
  | _, _ => none) env st := rfl
theorem a30 {x y z : D} : L2.atI [x, y, z] 0 = some x := rfl
theorem a31 {x y z : D} : L2.atI [x, y, z] 1 = some y := rfl
theorem a32 {x y z : D} : L2.atI [x, y, z] 2 = some z := rfl
theorem ix0 : L2.ixN 3 0 = some 0 := rfl
theorem ix1 : L2.ixN 3 1 = some 1 := rfl
theorem ix2 : L2.ixN 3 2 = some 2 := rfl
theorem oMul_l {i j : Int} (hi : i.natAbs < 2 ^ 64) : oMul (.int i) (.int j) = some (.int (i * j)) := by
  have e : mulOk i j = true := by
    unfold mulOk
    rw [decide_eq_true hi]; simp
  show (if mulOk i j then some (D.int (i * j)) else none) = _
  rw [if_pos e]
theorem oMul_r {i j : Int} (hi : j.natAbs < 2 ^ 64) : oMul (.int i) (.int j) = some (.int (i * j)) := by
  have e : mulOk i j = true := by
    unfold mulOk
    rw [decide_eq_true hi]; simp
  show (if mulOk i j then some (D.int (i * j)) else none) = _
  rw [if_pos e]
theorem trimS_set {i : Nat} {c : Cell} {d : D} : trimS st.length d (st.set i c) = st.set i c := trimS_len (by simp)
theorem b9_16 : B9 16 := Nat.lt_of_lt_of_le (show 16 < 2 ^ 5 by omega) (Nat.pow_le_pow_right (by omega) (by omega))
theorem b9_lit {n : Int} (h : n.natAbs < 2 ^ 64) : B9 n := Nat.lt_of_lt_of_le h (Nat.pow_le_pow_right (by omega) (by omega))
structure Up (i : Nat) (st st' : Sto) : Prop where
  pu : PuAt st' i
  le : st.length ≤ st'.length
  ne : ∀ j, j < st.length → j ≠ i → st'[j]? = st[j]?
theorem Up.trans {i : Nat} {s0 s1 s2 : Sto} (h : Up i s0 s1) (k : Up i s1 s2) : Up i s0 s2 := ⟨k.pu, Nat.le_trans h.le k.le, fun j hj hn => (k.ne j (Nat.lt_of_lt_of_le hj h.le) hn).trans (h.ne j hj hn)⟩
theorem PuAt.lt {i : Nat} (h : PuAt st i) : i < st.length := by obtain ⟨_, _, _, e⟩ := h; exact (List.getElem?_eq_some_iff.mp e).1
theorem Up.trim {i : Nat} {s0 s1 : Sto} {d : D} (h : Up i s0 s1) (hi : i < s0.length) : Up i s0 (trimS s0.length d s1) := by
  unfold trimS
  split
  · refine ⟨?_, by rw [List.length_take]; have := h.le; omega, fun j hj hn => ?_⟩
    · obtain ⟨p, q, r, e⟩ := h.pu
      exact ⟨p, q, r, by rw [List.getElem?_take_of_lt hi]; exact e⟩
    · rw [List.getElem?_take_of_lt hj]; exact h.ne j hj hn
  · exact h
theorem pick_eq {i : Nat} {n : Int} (h : PuAt st i) (hn : 0 < n) (hB : B9 n) : ∃ (k : Int) (st' : Sto), F_l_pick [.ref i, .int n] st = some (.ok (.int k), st') ∧ 0 ≤ k ∧ k < n ∧ Up i st st' := by
  obtain ⟨p, q, r, e⟩ := h
  obtain ⟨hi, e'⟩ := List.getElem?_eq_some_iff.mp e
  have hn0 : n ≠ 0 := by omega
  have s1 := Int.fmod_nonneg_of_pos p (show (0 : Int) < 999999893 by omega)
  have s2 := Int.fmod_lt_of_pos p (show (0 : Int) < 999999893 by omega)
  have M1 : ∀ j : Int, oMul (.int (p.fmod 999999893)) (.int j) = some (.int (p.fmod 999999893 * j)) := fun j => oMul_l (by omega)
  have M2 : ∀ j : Int, oMul (.int 80021) (.int j) = some (.int (80021 * j)) := fun j => oMul_l (by omega)
  have D1 : ∀ j : Int, oDiv (.int j) (.int n) = some (.int (j.fdiv n)) := fun j => oDiv_int hn0 hB
  have D2 : ∀ j : Int, oDiv (.int j) (.int 16) = some (.int (j.fdiv 16)) := fun j => oDiv_int (by omega) b9_16
  have U : ∀ x y z : Int, Up i st (st.set i (.lst [.int x, .int y, .int z])) := fun x y z => ⟨⟨x, y, z, List.getElem?_set_self hi⟩, by simp, fun j hj hne => List.getElem?_set_ne (Ne.symm hne)⟩
  by_cases hq : 0 < q
  · refine ⟨q.fmod n, st.set i (.lst [.int (p.fmod 999999893 * ((p.fmod 999999893).fmod 40009 + 10007) + 80021 * (r + 1)), .int (q.fdiv n), .int (r + 1)]), ?_, Int.fmod_nonneg_of_pos _ hn, Int.fmod_lt_of_pos _ hn, U _ _ _⟩
    unfold F_l_pick b_l_pick
    simp [fnOf_ap, env0, fnRes, sSeq_ap, sIf_ap, sRet_ap, sSet_ap, sExp_ap, sPar_ap, sRaise_ap, bndS_ap, bnd_ap, ret_ap, lift_ap, liftS_ap, s1_ap, s2_ap, sVar_ap, sC_ap, sCons_ap, sNil_ap, sTup_ap, sLst_ap, sLstM_ap, sCall_ap, sIx_ap, sBs_ap, sTest_ap, sTru_ap, tNotI_ap, tOrI_ap, tAndI_ap, sNotV_ap, sAndV_ap, sOrV_ap, go_ap, sNop_ap, ite_ap, isB_bl, truth_bl, trimS_self, small_lt, sPut_ap, e', hi, oIx, a30, a31, a32, ix0, ix1, ix2, oAdd, oMod, M1, M2, D1, oGt, hq, hn0, trimS_set]
  · refine ⟨(((p.fmod 999999893 * ((p.fmod 999999893).fmod 40009 + 10007) + 80021 * (r + 1)).fmod 999999893).fdiv 16).fmod n, st.set i (.lst [.int (p.fmod 999999893 * ((p.fmod 999999893).fmod 40009 + 10007) + 80021 * (r + 1)), .int q, .int (r + 1)]), ?_, Int.fmod_nonneg_of_pos _ hn, Int.fmod_lt_of_pos _ hn, U _ _ _⟩
    unfold F_l_pick b_l_pick
    simp [fnOf_ap, env0, fnRes, sSeq_ap, sIf_ap, sRet_ap, sSet_ap, sExp_ap, sPar_ap, sRaise_ap, bndS_ap, bnd_ap, ret_ap, lift_ap, liftS_ap, s1_ap, s2_ap, sVar_ap, sC_ap, sCons_ap, sNil_ap, sTup_ap, sLst_ap, sLstM_ap, sCall_ap, sIx_ap, sBs_ap, sTest_ap, sTru_ap, tNotI_ap, tOrI_ap, tAndI_ap, sNotV_ap, sAndV_ap, sOrV_ap, go_ap, sNop_ap, ite_ap, isB_bl, truth_bl, trimS_self, small_lt, sPut_ap, e', hi, oIx, a30, a31, a32, ix0, ix1, ix2, oAdd, oMod, M1, M2, D2, oGt, hq, hn0, trimS_set]
theorem pow18 : oPow (.int 10) (.int 18) = some (.int 1000000000000000000) := rfl
theorem purse_eq {c : Int} : ∃ p q r : Int, F_l_purse [.int c] st = some (.ok (.ref st.length), st ++ [.lst [.int p, .int q, .int r]]) := by
  have M : ∀ j : Int, oMul (.int j) (.int 6007) = some (.int (j * 6007)) := fun j => oMul_r (by omega)
  have hT : ∀ c : Cell, trimS st.length (.ref st.length) (st ++ [c]) = st ++ [c] := by intro c; simp [trimS, dlt]
  refine ⟨c.fmod 999999893 * 6007 + 2503, if 1000000000000000000 ≤ c then c else 0, 0, ?_⟩
  unfold F_l_purse b_l_purse
  by_cases h : (1000000000000000000 : Int) ≤ c
  · simp [fnOf_ap, env0, fnRes, sSeq_ap, sIf_ap, sRet_ap, sSet_ap, sExp_ap, sPar_ap, sRaise_ap, bndS_ap, bnd_ap, ret_ap, lift_ap, liftS_ap, s1_ap, s2_ap, sVar_ap, sC_ap, sCons_ap, sNil_ap, sTup_ap, sLst_ap, sLstM_ap, sCall_ap, sIx_ap, sBs_ap, sTest_ap, sTru_ap, tNotI_ap, tOrI_ap, tAndI_ap, sNotV_ap, sAndV_ap, sOrV_ap, go_ap, sNop_ap, ite_ap, isB_bl, truth_bl, trimS_self, small_lt, oMod, M, oAdd, pow18, oGe, oInt, h, oIx, at0, at1, hT]
  · simp [fnOf_ap, env0, fnRes, sSeq_ap, sIf_ap, sRet_ap, sSet_ap, sExp_ap, sPar_ap, sRaise_ap, bndS_ap, bnd_ap, ret_ap, lift_ap, liftS_ap, s1_ap, s2_ap, sVar_ap, sC_ap, sCons_ap, sNil_ap, sTup_ap, sLst_ap, sLstM_ap, sCall_ap, sIx_ap, sBs_ap, sTest_ap, sTru_ap, tNotI_ap, tOrI_ap, tAndI_ap, sNotV_ap, sAndV_ap, sOrV_ap, go_ap, sNop_ap, ite_ap, isB_bl, truth_bl, trimS_self, small_lt, oMod, M, oAdd, pow18, oGe, oInt, h, oIx, at0, at1, hT]
theorem cell_for {x y : Option D} : ∀ (ms : List Int) (s : Int) (z : Option D), ∃ (s' : Int) (z' : Option D), forL (bName 3) (sSet 2 (s2 oMod (s2 oAdd (s2 oMul (sVar 2) (sC (.int 20011))) (sVar 3)) (sC (.int 1000000021)))) (ms.map D.int) [x, y, some (.int s), z] st = some (.nx, [x, y, some (.int s'), z'], st)
  | [], s, z => ⟨s, z, rfl⟩
  | m :: ms, s, z => by
    obtain ⟨s', z', e⟩ := cell_for ms ((s * 20011 + m).fmod 1000000021) (some (.int m))
    refine ⟨s', z', ?_⟩
    have M : oMul (.int s) (.int 20011) = some (.int (s * 20011)) := oMul_r (by omega)
    rw [List.map_cons, forL_cons (env1 := [x, y, some (.int s), some (.int m)]) (env2 := [x, y, some (.int ((s * 20011 + m).fmod 1000000021)), some (.int m)]) (st' := st) rfl (by simp [fnOf_ap, env0, fnRes, sSeq_ap, sIf_ap, sRet_ap, sSet_ap, sExp_ap, sPar_ap, sRaise_ap, bndS_ap, bnd_ap, ret_ap, lift_ap, liftS_ap, s1_ap, s2_ap, sVar_ap, sC_ap, sCons_ap, sNil_ap, sTup_ap, sLst_ap, sLstM_ap, sCall_ap, sIx_ap, sBs_ap, sTest_ap, sTru_ap, tNotI_ap, tOrI_ap, tAndI_ap, sNotV_ap, sAndV_ap, sOrV_ap, go_ap, sNop_ap, ite_ap, isB_bl, truth_bl, trimS_self, small_lt, M, oAdd, oMod])]
    exact e
theorem cell_eq {ns : List Int} {k : Int} (h0 : 0 ≤ k) (h6 : k < 64) : ∃ c : Int, F_l_cell [.scr (ns.map D.int), .int k] st = some (.ok (.int c), st) := by
  unfold F_l_cell b_l_cell
  by_cases h : k < ns.length
  · have hk : k.toNat < ns.length := by omega
    have e : L2.atI (ns.map D.int) k = some (.int ns[k.toNat]) := by
      unfold L2.atI L2.ixN
      rw [if_pos h0, List.length_map, if_pos h]
      simp [hk]
    refine ⟨ns[k.toNat], ?_⟩
    simp [fnOf_ap, env0, fnRes, sSeq_ap, sIf_ap, sRet_ap, sSet_ap, sExp_ap, sPar_ap, sRaise_ap, bndS_ap, bnd_ap, ret_ap, lift_ap, liftS_ap, s1_ap, s2_ap, sVar_ap, sC_ap, sCons_ap, sNil_ap, sTup_ap, sLst_ap, sLstM_ap, sCall_ap, sIx_ap, sBs_ap, sTest_ap, sTru_ap, tNotI_ap, tOrI_ap, tAndI_ap, sNotV_ap, sAndV_ap, sOrV_ap, go_ap, sNop_ap, ite_ap, isB_bl, truth_bl, trimS_self, small_lt, oLen, oLt, h, oIx, e]
  · have M1 : oMul (.int k) (.int k) = some (.int (k * k)) := oMul_l (by omega)
    have M2 : ∀ j : Int, oMul (.int 11) (.int j) = some (.int (11 * j)) := fun j => oMul_l (by omega)
    have M3 : ∀ j : Int, oMul (.int 70001) (.int j) = some (.int (70001 * j)) := fun j => oMul_l (by omega)
    obtain ⟨ms, hm⟩ : ∃ ms : List Int, I2.cutD (ns.map D.int) none (some 4) = ms.map D.int := ⟨_, by unfold I2.cutD; rw [← List.map_drop, ← List.map_take]⟩
    obtain ⟨s', z', e⟩ := cell_for (st := st) (x := some (.scr (ns.map D.int))) (y := some (.int k)) ms ((70001 * (k * k + 11 * k + 5)).fmod 1000000021) none
    refine ⟨s', ?_⟩
    simp [fnOf_ap, env0, fnRes, sSeq_ap, sIf_ap, sRet_ap, sSet_ap, sExp_ap, sPar_ap, sRaise_ap, bndS_ap, bnd_ap, ret_ap, lift_ap, liftS_ap, s1_ap, s2_ap, sVar_ap, sC_ap, sCons_ap, sNil_ap, sTup_ap, sLst_ap, sLstM_ap, sCall_ap, sIx_ap, sBs_ap, sTest_ap, sTru_ap, tNotI_ap, tOrI_ap, tAndI_ap, sNotV_ap, sAndV_ap, sOrV_ap, go_ap, sNop_ap, ite_ap, isB_bl, truth_bl, trimS_self, small_lt, oLen, oLt, h, M1, M2, M3, oAdd, oMod, sFor_ap, sSlX_ap, sNoPart_ap, sPart_ap, isI_int, oSlX, oSl, hm, seqOf, e]
theorem sApp_ap {f h : Sm} {env : DEnv} : sApp f h env st = bnd f (fun o => bnd (liftS fun st => isCL st o) fun i => bnd h fun v => fun env st => match st[i]? with
  | some (.lst ds) => if ds.length < sizeLine then some (.ok .non, st.set i (.lst (ds ++ [v]))) else none
  | _ => none) env st := rfl
theorem isCL_of {j : Nat} {ds : List D} (h : st[j]? = some (.lst ds)) : isCL st (.ref j) = some j := by simp [isCL, h]
structure Up2 (i j : Nat) (st st' : Sto) (ds : List D) : Prop where
  pu : PuAt st' i
  at' : st'[j]? = some (.lst ds)
  le : st.length ≤ st'.length
  ne : ∀ m, m < st.length → m ≠ i → m ≠ j → st'[m]? = st[m]?
theorem Up2.up {i j : Nat} {s0 s1 s2 : Sto} {ds : List D} (h : Up2 i j s0 s1 ds) (hij : j ≠ i) (u : Up i s1 s2) : Up2 i j s0 s2 ds := by
  have hj := (List.getElem?_eq_some_iff.mp h.at').1
  exact ⟨u.pu, (u.ne j hj hij).trans h.at', Nat.le_trans h.le u.le, fun m hm h1 h2 => (u.ne m (Nat.lt_of_lt_of_le hm h.le) h1).trans (h.ne m hm h1 h2)⟩
theorem Up2.app {i j : Nat} {s0 s1 : Sto} {ds : List D} {v : D} (h : Up2 i j s0 s1 ds) (hij : j ≠ i) : Up2 i j s0 (s1.set j (.lst (ds ++ [v]))) (ds ++ [v]) := by
  have hj := (List.getElem?_eq_some_iff.mp h.at').1
  obtain ⟨p, q, r, e⟩ := h.pu
  exact ⟨⟨p, q, r, by rw [List.getElem?_set_ne hij]; exact e⟩, List.getElem?_set_self hj, by rw [List.length_set]; exact h.le, fun m hm h1 h2 => by rw [List.getElem?_set_ne (Ne.symm h2)]; exact h.ne m hm h1 h2⟩
theorem rng_of {n : Nat} (h : n < 2 ^ 30) : rngOf [.int (n : Int)] = some (rngL 0 n) := by
  have h1 : -(2 ^ 62 : Int) ≤ (n : Int) ∧ (n : Int) < 2 ^ 62 := by omega
  unfold rngOf; dsimp only
  rw [if_pos h1, Int.toNat_natCast]
theorem sForR_of {bd : Bd} {fs : Sma} {u : Sms} {env : DEnv} {ds rs : List D} {st1 : Sto} (h1 : fs env st = some (.ok ds, st1)) (h2 : rngOf ds = some rs) : sForR bd fs u env st = forL bd u rs env st1 := by
  rw [sForR_ap]
  simp only [bndS_ap, h1, lift_ap, h2, Option.map_some]
end
end Law
set_option Elab.async false
set_option linter.all false
set_option maxRecDepth 100000
set_option maxHeartbeats 4000000
set_option exponentiation.threshold 100000
namespace Law
open PySem PySem.Spec PyProof.Rows L2 I2
section
variable {a : Ad} {st : Sto}
theorem lowD_sg {t b : Int} (hb : 0 < b) (ht : 0 ≤ t) : ∃ p q : Int, lowD t b = pr p q ∧ 0 < q ∧ Int.gcd p q = 1 ∧ 0 ≤ p ∧ p ≤ t ∧ q ≤ b ∧ (0 < t → 0 < p) := by
  have e1 : sg t b = (Int.gcd t b : Int) := by unfold sg; rw [if_neg (by omega)]
  have hp : 0 < Int.gcd t b := Int.gcd_pos_of_ne_zero_right t (by omega)
  refine ⟨t / (Int.gcd t b : Int), b / (Int.gcd t b : Int), ?_, ?_, Int.gcd_ediv_gcd_ediv_gcd hp, Int.ediv_nonneg ht (by omega), Int.ediv_le_self _ ht, Int.ediv_le_self _ (by omega), fun h => Int.ediv_pos_of_pos_of_dvd h (by omega) (Int.gcd_dvd_left t b)⟩
  · unfold lowD; rw [e1, Int.fdiv_eq_ediv_of_nonneg _ (by omega), Int.fdiv_eq_ediv_of_nonneg _ (by omega)]
  · exact Int.ediv_pos_of_pos_of_dvd hb (by omega) (Int.gcd_dvd_right t b)
theorem low_ab {t b : Int} (h1 : 1 ≤ t) (h2 : t ≤ 999) (h3 : 1 ≤ b) (h4 : b ≤ 999) : F_l_low [.int t, .int b] st = some (.ok (lowD t b), st) ∧ isAb (lowD t b) = true := by
  refine ⟨low_eq (by omega) (b9_lit (by omega)), ?_⟩
  obtain ⟨p, q, e, q0, g, p0, pt, qb, pp⟩ := lowD_sg (t := t) (b := b) (by omega) (by omega)
  have := pp (by omega)
  rw [e]
  have f1 : p ≤ 999 := by omega
  have f2 : q ≤ 999 := by omega
  simp [isAb, isFr, fTop, fBot, q0, g, this, f1, f2]
theorem low_bk {t b : Int} (h1 : 0 ≤ t) (h2 : t ≤ 999) (h3 : 1 ≤ b) (h4 : b ≤ 999) : F_l_low [.int t, .int b] st = some (.ok (lowD t b), st) ∧ isBk (lowD t b) = true := by
  refine ⟨low_eq (by omega) (b9_lit (by omega)), ?_⟩
  obtain ⟨p, q, e, q0, g, p0, pt, qb, pp⟩ := lowD_sg (t := t) (b := b) (by omega) (by omega)
  rw [e]
  have f1 : p ≤ 999 := by omega
  have f2 : q ≤ 999 := by omega
  simp [isBk, isFr, fTop, fBot, q0, g, p0, f1, f2]
end
end Law
set_option Elab.async false
set_option linter.all false
set_option maxRecDepth 100000
set_option maxHeartbeats 4000000
namespace Law
open PySem PySem.Spec PyProof.Rows L2 I2 Builtin Builtin.Str
def posC (c : Nat) : List Nat → Nat → List Nat
  | [], _ => []
  | x :: xs, k => if x = c then k :: posC c xs (k + 1) else posC c xs (k + 1)
theorem occ_walk (x : Str) (c lim : Nat) : ∀ (l : List Nat) (k : Nat) (f : Array Nat) (free : Nat), x.cps.toList.drop k = l → k ≤ x.length → free ≤ k → f.size ≤ lim →
    (forIn (List.range' k (l.length + 1)) (f, free) (StrLaws.occBody x ⟨#[c]⟩ x.length lim)).run.fst.toList = f.toList ++ (posC c l k).take (lim - f.size)
  | [], k, f, free, hl, hk, hf, hs => by
    have e : ¬ (((f.size < lim ∧ free ≤ k) ∧ k + (⟨#[c]⟩ : Str).length ≤ x.length) ∧ subAt x ⟨#[c]⟩ k = true) := fun h => by
      have := (StrLaws.subAt_one x c k).mp ⟨h.1.2, h.2⟩
      have h0 : (x.cps.toList.drop k)[0]? = some c := by rw [List.getElem?_drop]; exact this
      rw [hl] at h0; cases h0
    show (forIn [k] (f, free) (StrLaws.occBody x ⟨#[c]⟩ x.length lim)).run.fst.toList = _
    rw [List.forIn_cons]
    unfold StrLaws.occBody
    rw [if_neg e]
    simp [posC]
  | y :: l, k, f, free, hl, hk, hf, hs => by
    have lt : k < x.length := by
      have := congrArg List.length hl
      simp [Str.length] at this ⊢
      omega
    have hy : x.cps.toList[k]? = some y := by
      have h0 : (x.cps.toList.drop k)[0]? = some y := by rw [hl]; rfl
      rw [List.getElem?_drop] at h0; exact h0
    have hl' : x.cps.toList.drop (k + 1) = l := by
      rw [← List.drop_drop, hl]; rfl
    have so := StrLaws.subAt_one x c k
    rw [hy] at so
    have e2 : List.range' k ((y :: l).length + 1) = k :: List.range' (k + 1) (l.length + 1) := rfl
    rw [e2, List.forIn_cons]
    unfold StrLaws.occBody
    by_cases h : ((f.size < lim ∧ free ≤ k) ∧ k + (⟨#[c]⟩ : Str).length ≤ x.length) ∧ subAt x ⟨#[c]⟩ k = true
    · rw [if_pos h]
      have yc : y = c := by simpa using so.mp ⟨h.1.2, h.2⟩
      have ih := occ_walk x c lim l (k + 1) (f.push k) (k + 1) hl' (by omega) (Nat.le_refl _) (by simp; omega)
      have e3 : posC c (y :: l) k = k :: posC c l (k + 1) := by simp [posC, yc]
      show (forIn (List.range' (k + 1) (l.length + 1)) (f.push k, k + (⟨#[c]⟩ : Str).length) (StrLaws.occBody x ⟨#[c]⟩ x.length lim)).run.fst.toList = _
      have e4 : k + (⟨#[c]⟩ : Str).length = k + 1 := rfl
      rw [e4, ih, e3]
      have e5 : lim - f.size = (lim - (f.push k).size) + 1 := by simp; omega
      rw [e5, List.take_succ_cons]
      simp
    · rw [if_neg h]
      have ih := occ_walk x c lim l (k + 1) f free hl' (by omega) (by omega) hs
      show (forIn (List.range' (k + 1) (l.length + 1)) (f, free) (StrLaws.occBody x ⟨#[c]⟩ x.length lim)).run.fst.toList = _
      rw [ih]
      by_cases yc : y = c
      · have : ¬ f.size < lim := fun hlt => h ⟨⟨⟨hlt, hf⟩, (so.mpr (by rw [yc])).1⟩, (so.mpr (by rw [yc])).2⟩
        have e6 : lim - f.size = 0 := by omega
        rw [e6]; simp
      · have e3 : posC c (y :: l) k = posC c l (k + 1) := by simp [posC, yc]
        rw [e3]
theorem occ_one (x : Str) (c lim : Nat) : occurrences x ⟨#[c]⟩ 0 x.length lim = (posC c x.cps.toList 0).take lim := by
  rw [StrLaws.occ_eq]
  have h := occ_walk x c lim x.cps.toList 0 #[] 0 (by simp) (Nat.zero_le _) (Nat.le_refl _) (Nat.zero_le _)
  have e : x.length + 1 - 0 = x.cps.toList.length + 1 := by simp [Str.length]
  rw [e]
  rw [h]
  simp
theorem posC_len (c : Nat) : ∀ (l : List Nat) (k : Nat), (posC c l k).length ≤ l.length
  | [], _ => Nat.le_refl _
  | x :: l, k => by
    have := posC_len c l (k + 1)
    unfold posC
    split <;> simp <;> omega
def splitGo (c : Nat) : List Nat → List Nat → List (List Nat)
  | cur, [] => [cur]
  | cur, x :: xs => if x = c then cur :: splitGo c [] xs else splitGo c (cur ++ [x]) xs
def strL (l : List Nat) : Str := ⟨l.toArray⟩
theorem strL_to (x : Str) : strL x.cps.toList = x := by cases x; simp [strL]
theorem sub_eq (x : Str) (i j : Nat) : strSub x i j = strL ((x.cps.toList.drop i).take (j - i)) := by
  have h := StrLaws.strSub_toList x i j
  rw [← h, strL_to]
theorem parts_walk (x : Str) (c : Nat) : ∀ (l : List Nat) (k s : Nat), x.cps.toList.drop k = l → k + l.length = x.length → s ≤ k → StrLaws.partsFrom x 1 s (posC c l k) = (splitGo c ((x.cps.toList.drop s).take (k - s)) l).map strL
  | [], k, s, hl, hk, hs => by
    show [strSub x s x.length] = [strL _]
    rw [sub_eq]
    have : k = x.length := by simpa using hk
    rw [this]
  | y :: l, k, s, hl, hk, hs => by
    have hl' : x.cps.toList.drop (k + 1) = l := by rw [← List.drop_drop, hl]; rfl
    have hk' : k + 1 + l.length = x.length := by simp at hk; omega
    by_cases yc : y = c
    · have e1 : posC c (y :: l) k = k :: posC c l (k + 1) := by simp [posC, yc]
      have e2 : splitGo c ((x.cps.toList.drop s).take (k - s)) (y :: l) = (x.cps.toList.drop s).take (k - s) :: splitGo c [] l := by simp [splitGo, yc]
      rw [e1, e2]
      show strSub x s k :: StrLaws.partsFrom x 1 (k + 1) (posC c l (k + 1)) = _
      rw [parts_walk x c l (k + 1) (k + 1) hl' hk' (Nat.le_refl _), sub_eq]
      simp
    · have e1 : posC c (y :: l) k = posC c l (k + 1) := by simp [posC, yc]
      have e2 : splitGo c ((x.cps.toList.drop s).take (k - s)) (y :: l) = splitGo c ((x.cps.toList.drop s).take (k - s) ++ [y]) l := by simp [splitGo, yc]
      rw [e1, e2, parts_walk x c l (k + 1) s hl' hk' (by omega)]
      congr 2
      have hy : (x.cps.toList.drop s)[k - s]? = some y := by
        rw [List.getElem?_drop]
        have h0 : (x.cps.toList.drop k)[0]? = some y := by rw [hl]; rfl
        rw [List.getElem?_drop] at h0
        rw [show s + (k - s) = k + 0 by omega]; exact h0
      rw [show k + 1 - s = (k - s) + 1 by omega, List.take_succ, hy]
      rfl
theorem splitGo_free {c : Nat} : ∀ {l cur : List Nat}, (∀ x ∈ l, x ≠ c) → splitGo c cur l = [cur ++ l]
  | [], cur, _ => by simp [splitGo]
  | x :: l, cur, h => by
    have hx := h x (by simp)
    have ih := splitGo_free (c := c) (l := l) (cur := cur ++ [x]) fun y hy => h y (by simp [hy])
    simp only [splitGo, hx, if_false]
    rw [ih]; simp
theorem splitGo_cut {c : Nat} {r : List Nat} : ∀ {l cur : List Nat}, (∀ x ∈ l, x ≠ c) → splitGo c cur (l ++ c :: r) = (cur ++ l) :: splitGo c [] r
  | [], cur, _ => by simp [splitGo]
  | x :: l, cur, h => by
    have hx := h x (by simp)
    have ih := splitGo_cut (c := c) (r := r) (l := l) (cur := cur ++ [x]) fun y hy => h y (by simp [hy])
    simp only [List.cons_append, splitGo, hx, if_false]
    rw [ih]; simp
theorem posC_free {c : Nat} : ∀ {l : List Nat} {k : Nat}, (∀ x ∈ l, x ≠ c) → posC c l k = []
  | [], _, _ => rfl
  | x :: l, k, h => by
    have hx := h x (by simp)
    simp only [posC, hx, if_false]
    exact posC_free fun y hy => h y (by simp [hy])
theorem posC_cut {c : Nat} {r : List Nat} : ∀ {l : List Nat} {k : Nat}, (∀ x ∈ l, x ≠ c) → ∃ t, posC c (l ++ c :: r) k = (k + l.length) :: t
  | [], k, _ => ⟨posC c r (k + 1), by simp [posC]⟩
  | x :: l, k, h => by
    have hx := h x (by simp)
    obtain ⟨t, e⟩ := posC_cut (c := c) (r := r) (l := l) (k := k + 1) fun y hy => h y (by simp [hy])
    refine ⟨t, ?_⟩
    simp only [List.cons_append, posC, hx, if_false]
    rw [e]; simp; omega
theorem kind_one {c : Nat} (hc : c < 256) : Str.strKind ⟨#[c]⟩ = 1 := by
  unfold Str.strKind
  have : (#[c] : Array Nat).all (· < 256) = true := by simp [hc]
  rw [this]; rfl
theorem kind_ge (x : Str) : 1 ≤ Str.strKind x := by
  unfold Str.strKind
  split
  · omega
  · split <;> omega
theorem split_one (x : Str) {c : Nat} (hc : c < 256) : Txt.split x ⟨#[c]⟩ = (splitGo c [] x.cps.toList).map strL := by
  have pw := parts_walk x c x.cps.toList 0 0 (by simp) (by simp [Str.length]) (Nat.le_refl _)
  have e0 : (x.cps.toList.drop 0).take (0 - 0) = [] := by simp
  rw [e0] at pw
  have oc := occ_one x c (x.length + 1)
  have e1 : (posC c x.cps.toList 0).take (x.length + 1) = posC c x.cps.toList 0 := List.take_of_length_le (by have := posC_len c x.cps.toList 0; simp [Str.length] at this ⊢; omega)
  rw [e1] at oc
  have one : ∀ r : List (List Nat), posC c x.cps.toList 0 = [] → [x] = (splitGo c [] x.cps.toList).map strL := fun _ h => by
    rw [h] at pw
    rw [← pw]
    show [x] = [strSub x 0 x.length]
    rw [StrLaws.sub_whole]
  unfold Txt.split
  have w1 : (⟨#[c]⟩ : Str).length = 1 := rfl
  rw [w1]
  have k1 := kind_one hc
  have k2 := kind_ge x
  rw [k1, decide_eq_false (show ¬ Str.strKind x < 1 by omega), Bool.or_false]
  by_cases lz : x.length < 1
  · rw [if_pos (decide_eq_true lz)]
    refine one [] ?_
    have : x.cps.toList = [] := List.eq_nil_of_length_eq_zero (by simp [Str.length] at lz ⊢; exact lz)
    rw [this]; rfl
  · rw [if_neg (by simpa using lz), oc]
    by_cases em : posC c x.cps.toList 0 = []
    · rw [if_pos (by rw [em]; rfl)]
      exact one [] em
    · rw [if_neg (by simpa using em), StrLaws.partsBetween_eq]
      exact pw
theorem part_free {x : Str} {c : Nat} (h : ∀ y ∈ x.cps.toList, y ≠ c) : Txt.partition x ⟨#[c]⟩ = (x, Str.empty, Str.empty) := by
  unfold Txt.partition
  rw [occ_one, posC_free h]; rfl
theorem part_cut {a b : List Nat} {c : Nat} (h : ∀ y ∈ a, y ≠ c) : Txt.partition (strL (a ++ c :: b)) ⟨#[c]⟩ = (strL a, ⟨#[c]⟩, strL b) := by
  have el : (strL (a ++ c :: b)).cps.toList = a ++ c :: b := by simp [strL]
  obtain ⟨t, e⟩ := posC_cut (r := b) (k := 0) h
  unfold Txt.partition
  rw [occ_one, el, e]
  show (strSub _ 0 (0 + a.length), _, strSub _ (0 + a.length + 1) (strL (a ++ c :: b)).length) = _
  have ln : (strL (a ++ c :: b)).length = a.length + (b.length + 1) := by simp [strL, Str.length]
  rw [sub_eq, sub_eq, el, ln]
  congr 1
  · congr 1; simp
  · congr 1
    congr 1
    rw [Nat.zero_add, ← List.drop_drop, List.drop_left]
    show List.take _ b = b
    exact List.take_of_length_le (by omega)
theorem join_to (c : Nat) : ∀ (ls : List (List Nat)) (l : List Nat), Txt.join ⟨#[c]⟩ ((l :: ls).map strL) = strL (l ++ (ls.map fun r => c :: r).flatten)
  | [], l => by
    unfold Txt.join
    rw [StrLaws.glued_eq_join]
    simp [Str.join]
  | r :: ls, l => by
    have ih := join_to c ls r
    unfold Txt.join at ih ⊢
    rw [StrLaws.glued_eq_join] at ih ⊢
    show strL l ++ ⟨#[c]⟩ ++ Str.join ⟨#[c]⟩ ((r :: ls).map strL) = _
    rw [ih]
    apply Str.ext'
    apply Array.toList_inj.mp
    rw [Str.cps_append, Str.cps_append]
    simp [strL]
end Law
set_option Elab.async false
set_option linter.all false
set_option maxRecDepth 100000
set_option maxHeartbeats 4000000
namespace Law
open PySem PySem.Spec PyProof.Rows L2 I2
def nL (i : Int) : List Nat := (Str.ofString (toString i)).cps.toList
theorem nL_str (i : Int) : Str.ofString (toString i) = strL (nL i) := (strL_to _).symm
def chk (n : Nat) : Bool :=
  decide (1 ≤ (nL n).length) && decide ((nL n).length ≤ 3) && (nL n).all (fun c => decide (48 ≤ c) && decide (c ≤ 57)) && (match intText? (strL (nL n)) with | some i => decide (i = (n : Int)) | none => false)
  && (!(Txt.startswith (strL (nL n)) (strL [48])) || decide (nL n = [48])) && (decide (nL n = [49]) == decide (n = 1)) && decide ((n : Int).natAbs.log2 < 1920)
theorem chk_all : (List.range 1000).all chk = true := by decide +kernel
structure Num (n : Int) : Prop where
  l1 : 1 ≤ (nL n).length
  l3 : (nL n).length ≤ 3
  dg : ∀ c ∈ nL n, 48 ≤ c ∧ c ≤ 57
  rd : intText? (strL (nL n)) = some n
  zr : Txt.startswith (strL (nL n)) (strL [48]) = true → nL n = [48]
  on : nL n = [49] ↔ n = 1
  lg : n.natAbs.log2 < 1920
theorem num_of {n : Int} (h0 : 0 ≤ n) (h1 : n ≤ 999) : Num n := by
  obtain ⟨k, rfl⟩ : ∃ k : Nat, n = (k : Int) := ⟨n.toNat, by omega⟩
  have h := List.all_eq_true.mp chk_all k (List.mem_range.mpr (by omega))
  unfold chk at h
  simp only [Bool.and_eq_true, decide_eq_true_eq, List.all_eq_true, Bool.or_eq_true, Bool.not_eq_true', beq_iff_eq] at h
  obtain ⟨⟨⟨⟨⟨⟨h1, h2⟩, h3⟩, h4⟩, h5⟩, h6⟩, h7⟩ := h
  refine ⟨h1, h2, h3, ?_, fun e => ?_, ?_, h7⟩
  · split at h4
    · rename_i i e; rw [e]; rw [of_decide_eq_true h4]
    · cases h4
  · rcases h5 with h5 | h5
    · rw [e] at h5; cases h5
    · exact h5
  · have : (nL (k : Int) = [49]) ↔ k = 1 := by simpa using h6
    rw [this]; omega
theorem Num.free {n : Int} (h : Num n) {c : Nat} (hc : c < 48 ∨ 57 < c) : ∀ y ∈ nL n, y ≠ c := fun y hy e => by
  have := h.dg y hy; omega
theorem strL_len (l : List Nat) : (strL l).length = l.length := by simp [strL, Str.length]
theorem strL_app (a b : List Nat) : strL a ++ strL b = strL (a ++ b) := by
  apply Str.ext'
  rw [Str.cps_append]
  simp [strL]
theorem strL_inj {a b : List Nat} (h : strL a = strL b) : a = b := by
  have : (strL a).cps.toList = (strL b).cps.toList := by rw [h]
  simpa [strL] using this
def frL (n d : Int) : List Nat := nL n ++ (if d = 1 then [] else 47 :: nL d)
structure Frc (n d : Int) : Prop where
  nn : Num n
  nd : Num d
  n0 : 0 ≤ n
  n1 : n ≤ 999
  d0 : 1 ≤ d
  d1 : d ≤ 999
  fr : isFr (pr n d) = true
theorem Frc.len {n d : Int} (h : Frc n d) : 1 ≤ (frL n d).length ∧ (frL n d).length ≤ 7 := by
  have h1 := h.nn.l1
  have h2 := h.nn.l3
  have h3 := h.nd.l3
  unfold frL
  split <;> simp <;> omega
theorem Frc.free {n d : Int} (h : Frc n d) {c : Nat} (hc : c < 47 ∨ 57 < c) : ∀ y ∈ frL n d, y ≠ c := fun y hy e => by
  unfold frL at hy
  rcases List.mem_append.mp hy with hy | hy
  · exact h.nn.free (c := c) (by omega) y hy e
  · split at hy
    · cases hy
    · rcases List.mem_cons.mp hy with rfl | hy
      · omega
      · exact h.nd.free (c := c) (by omega) y hy e
theorem frc_ab {n d : Int} (h : isAb (pr n d) = true) : Frc n d ∧ 0 < n := by
  unfold isAb at h
  simp only [Bool.and_eq_true, decide_eq_true_eq] at h
  obtain ⟨⟨⟨h1, h2⟩, h3⟩, h4⟩ := h
  have h2 : 0 < n := h2
  have h3 : n ≤ 999 := h3
  have h4 : d ≤ 999 := h4
  obtain ⟨t, b, e, b0, _⟩ := fr_pair h1
  cases e
  exact ⟨⟨num_of (by omega) h3, num_of (by omega) h4, by omega, h3, by omega, h4, h1⟩, h2⟩
theorem frc_bk {n d : Int} (h : isBk (pr n d) = true) : Frc n d := by
  unfold isBk at h
  simp only [Bool.and_eq_true, decide_eq_true_eq] at h
  obtain ⟨⟨⟨h1, h2⟩, h3⟩, h4⟩ := h
  have h2 : 0 ≤ n := h2
  have h3 : n ≤ 999 := h3
  have h4 : d ≤ 999 := h4
  obtain ⟨t, b, e, b0, _⟩ := fr_pair h1
  cases e
  exact ⟨num_of (by omega) h3, num_of (by omega) h4, by omega, h3, by omega, h4, h1⟩
structure Ln where
  s : Int
  t : Int
  b : Int
def Ln.D (l : Ln) : D := .tup [.int l.s, pr l.t l.b]
structure Cl where
  ls : List Ln
  t : Int
  b : Int
def Cl.D (c : Cl) : D := .tup [.tup (c.ls.map Ln.D), pr c.t c.b]
structure LnOk (l : Ln) : Prop where
  s1 : 1 ≤ l.s
  s9 : l.s ≤ 999
  ab : isAb (pr l.t l.b) = true
structure ClOk (c : Cl) : Prop where
  l1 : 1 ≤ c.ls.length
  l12 : c.ls.length ≤ 12
  ls : ∀ l ∈ c.ls, LnOk l
  bk : isBk (pr c.t c.b) = true
theorem LnOk.num {l : Ln} (h : LnOk l) : Num l.s := num_of (by have := h.s1; omega) h.s9
theorem LnOk.len {l : Ln} (h : LnOk l) : isLen l.D = true := by
  show (decide (1 ≤ l.s) && decide (l.s ≤ 999) && isAb (pr l.t l.b)) = true
  rw [decide_eq_true h.s1, decide_eq_true h.s9, h.ab]; rfl
theorem hp_i {i : Int} (h0 : 0 ≤ i) (h1 : i ≤ 999) : Hp (.int i) := .int (Nat.lt_of_le_of_lt (show i.natAbs ≤ 999 by omega) (by decide))
theorem hp_pr {n d : Int} (h : Frc n d) : Hp (pr n d) := .tup (List.forall_mem_cons.mpr ⟨hp_i h.n0 h.n1, List.forall_mem_cons.mpr ⟨hp_i (by have := h.d0; omega) h.d1, List.forall_mem_nil _⟩⟩)
theorem LnOk.hp {l : Ln} (h : LnOk l) : Hp l.D := .tup (List.forall_mem_cons.mpr ⟨hp_i (by have := h.s1; omega) h.s9, List.forall_mem_cons.mpr ⟨hp_pr (frc_ab h.ab).1, List.forall_mem_nil _⟩⟩)
theorem ClOk.hp {c : Cl} (h : ClOk c) : Hp c.D := .tup (List.forall_mem_cons.mpr ⟨.tup fun d hd => by
  obtain ⟨l, hl, rfl⟩ := List.mem_map.mp hd
  exact (h.ls l hl).hp, List.forall_mem_cons.mpr ⟨hp_pr (frc_bk h.bk), List.forall_mem_nil _⟩⟩)
theorem ClOk.cb {c : Cl} (h : ClOk c) : isCb c.D = true := by
  show (decide (1 ≤ (c.ls.map Ln.D).length) && decide ((c.ls.map Ln.D).length ≤ 12) && (c.ls.map Ln.D).all isLen && isBk (pr c.t c.b)) = true
  have al : (c.ls.map Ln.D).all isLen = true := List.all_eq_true.mpr fun d hd => by
    obtain ⟨l, hl, rfl⟩ := List.mem_map.mp hd
    exact (h.ls l hl).len
  rw [al, h.bk, List.length_map, decide_eq_true h.l1, decide_eq_true h.l12]; rfl
def bkL (c : Cl) : List Nat := [98, 97, 99, 107, 32] ++ frL c.t c.b
def lnL (l : Ln) : List Nat := nL l.s ++ [32, 120, 32] ++ frL l.t l.b
def txL (c : Cl) : List Nat := bkL c ++ (c.ls.map fun l => 10 :: lnL l).flatten
theorem len_ln {l : Ln} (h : LnOk l) : (lnL l).length ≤ 13 := by
  have h1 := h.num.l3
  have h2 := (frc_ab h.ab).1.len.2
  unfold lnL
  simp only [List.length_append, List.length_cons, List.length_nil]
  omega
theorem len_bk {c : Cl} (h : ClOk c) : (bkL c).length ≤ 12 := by
  have h2 := (frc_bk h.bk).len.2
  unfold bkL
  simp only [List.length_append, List.length_cons, List.length_nil]
  omega
theorem free_ln {l : Ln} (h : LnOk l) : ∀ y ∈ lnL l, y ≠ 10 := fun y hy e => by
  unfold lnL at hy
  rcases List.mem_append.mp hy with hy | hy
  · rcases List.mem_append.mp hy with hy | hy
    · exact h.num.free (c := 10) (by omega) y hy e
    · simp at hy; omega
  · exact (frc_ab h.ab).1.free (c := 10) (by omega) y hy e
theorem free_bk {c : Cl} (h : ClOk c) : ∀ y ∈ bkL c, y ≠ 10 := fun y hy e => by
  unfold bkL at hy
  rcases List.mem_append.mp hy with hy | hy
  · simp at hy; omega
  · exact (frc_bk h.bk).free (c := 10) (by omega) y hy e
section
variable {st : Sto} {env : DEnv} {n d : Int}
theorem sl64 {k : Nat} (h : k ≤ 1000) : k ≤ sizeLine := Nat.le_trans h (by decide)
theorem str_i (h : Num n) : oStr [.int n] = some (.str (strL (nL n))) := by
  unfold oStr
  dsimp only
  rw [if_pos h.lg]
  exact congrArg (fun x => some (D.str x)) (nL_str n)
theorem fmt_i (h : Num n) : fmtS (.int n) = some (strL (nL n)) := by
  unfold fmtS
  dsimp only
  rw [if_pos h.lg]
  exact congrArg some (nL_str n)
theorem fmt_s {l : List Nat} (h : l.length ≤ 1000) : fmtS (.str (strL l)) = some (strL l) := by
  unfold fmtS
  dsimp only
  rw [if_pos (decide_eq_true (by rw [strL_len]; exact sl64 h))]
theorem add_s {a b : List Nat} (h : a.length + b.length ≤ 1000) : oAdd (.str (strL a)) (.str (strL b)) = some (.str (strL (a ++ b))) := by
  show (if (strL a).length + (strL b).length ≤ sizeLine then some (D.str (strL a ++ strL b)) else none) = _
  rw [if_pos (by rw [strL_len, strL_len]; exact sl64 h), strL_app]
theorem sFmt_ap {f : Sm} : sFmt f env st = bnd f (fun d => I2.lift ((fmtS d).map D.str)) env st := rfl
theorem sJ_nil {out : Str} : sJ out [] env st = I2.lift (if decide (out.length ≤ sizeLine) then some (.str out) else none) env st := rfl
theorem sJ_cons {out : Str} {f : Sm} {fs : List Sm} {l y : List Nat} {st1 : Sto} (ho : out = strL l) (h : f env st = some (.ok (.str (strL y)), st1)) (hl : (l ++ y).length ≤ 1000) : sJ out (f :: fs) env st = sJ (strL (l ++ y)) fs env st1 := by
  show bnd f (fun d => match d with
    | .str y => if decide ((out ++ y).length ≤ sizeLine) then sJ (out ++ y) fs else I2.lift none
    | _ => I2.lift none) env st = _
  rw [bnd_ap, h]
  dsimp only
  rw [ho, strL_app, if_pos (decide_eq_true (by rw [strL_len]; exact sl64 hl))]
theorem sJ_end {l : List Nat} (hl : l.length ≤ 1000) : sJ (strL l) [] env st = some (.ok (.str (strL l)), st) := by
  rw [sJ_nil, if_pos (decide_eq_true (by rw [strL_len]; exact sl64 hl))]
  rfl
theorem empty_L : Str.empty = strL [] := rfl
theorem showfr_ok (h : Frc n d) : F_show_fraction [pr n d] st = some (.ok (.str (strL (frL n d))), st) := by
  have i0 : oIx st (pr n d) (.int 0) = some (.int n) := rfl
  have i1 : oIx st (pr n d) (.int 1) = some (.int d) := rfl
  have f0 := fmt_i h.nn
  have f1 := fmt_i h.nd
  have l3 := h.nn.l3
  have d3 := h.nd.l3
  generalize pr n d = x at *
  unfold F_show_fraction b_show_fraction frL
  by_cases hd : d = 1
  · have q1 : oEq (.int d) (.int 1) = some (.bl true) := by rw [oEq_int, decide_eq_true hd]
    rw [if_pos hd, List.append_nil]
    simp [fnOf_ap, env0, fnRes, sSeq_ap, sIf_ap, sRet_ap, sSet_ap, sExp_ap, sPar_ap, sRaise_ap, bndS_ap, bnd_ap, ret_ap, lift_ap, liftS_ap, s1_ap, s2_ap, sVar_ap, sC_ap, sCons_ap, sNil_ap, sTup_ap, sLst_ap, sLstM_ap, sCall_ap, sIx_ap, sBs_ap, sTest_ap, sTru_ap, tNotI_ap, tOrI_ap, tAndI_ap, sNotV_ap, sAndV_ap, sOrV_ap, go_ap, sNop_ap, ite_ap, isB_bl, truth_bl, trimS_self, small_lt, sIfE_ap, i0, i1, q1, sFmt_ap, f0]
  · have q1 : oEq (.int d) (.int 1) = some (.bl false) := by rw [oEq_int, decide_eq_false hd]
    rw [if_neg hd]
    have J : sJ Str.empty [(sFmt (I2.sIx (sVar 0) (sC (.int 0)))), (sC (.str "/")), (sFmt (I2.sIx (sVar 0) (sC (.int 1))))] [some x] st = some (.ok (.str (strL (nL n ++ 47 :: nL d))), st) := by
      rw [sJ_cons (l := []) (y := nL n) (st1 := st) empty_L (by simp [fnOf_ap, env0, fnRes, sSeq_ap, sIf_ap, sRet_ap, sSet_ap, sExp_ap, sPar_ap, sRaise_ap, bndS_ap, bnd_ap, ret_ap, lift_ap, liftS_ap, s1_ap, s2_ap, sVar_ap, sC_ap, sCons_ap, sNil_ap, sTup_ap, sLst_ap, sLstM_ap, sCall_ap, sIx_ap, sBs_ap, sTest_ap, sTru_ap, tNotI_ap, tOrI_ap, tAndI_ap, sNotV_ap, sAndV_ap, sOrV_ap, go_ap, sNop_ap, ite_ap, isB_bl, truth_bl, trimS_self, small_lt, sFmt_ap, i0, f0]) (by simp; omega)]
      rw [sJ_cons (y := [47]) (st1 := st) rfl (by rfl) (by simp; omega)]
      rw [sJ_cons (y := nL d) (st1 := st) rfl (by simp [fnOf_ap, env0, fnRes, sSeq_ap, sIf_ap, sRet_ap, sSet_ap, sExp_ap, sPar_ap, sRaise_ap, bndS_ap, bnd_ap, ret_ap, lift_ap, liftS_ap, s1_ap, s2_ap, sVar_ap, sC_ap, sCons_ap, sNil_ap, sTup_ap, sLst_ap, sLstM_ap, sCall_ap, sIx_ap, sBs_ap, sTest_ap, sTru_ap, tNotI_ap, tOrI_ap, tAndI_ap, sNotV_ap, sAndV_ap, sOrV_ap, go_ap, sNop_ap, ite_ap, isB_bl, truth_bl, trimS_self, small_lt, sFmt_ap, i1, f1]) (by simp; omega)]
      rw [sJ_end (by simp; omega)]
      simp
    simp [fnOf_ap, env0, fnRes, sSeq_ap, sIf_ap, sRet_ap, sSet_ap, sExp_ap, sPar_ap, sRaise_ap, bndS_ap, bnd_ap, ret_ap, lift_ap, liftS_ap, s1_ap, s2_ap, sVar_ap, sC_ap, sCons_ap, sNil_ap, sTup_ap, sLst_ap, sLstM_ap, sCall_ap, sIx_ap, sBs_ap, sTest_ap, sTru_ap, tNotI_ap, tOrI_ap, tAndI_ap, sNotV_ap, sAndV_ap, sOrV_ap, go_ap, sNop_ap, ite_ap, isB_bl, truth_bl, trimS_self, small_lt, sIfE_ap, i1, q1, J]
theorem lfr_ok (h : Frc n d) : F_l_fraction_text [pr n d] st = some (.ok (.str (strL (frL n d))), st) := by
  have i0 : oIx st (pr n d) (.int 0) = some (.int n) := rfl
  have i1 : oIx st (pr n d) (.int 1) = some (.int d) := rfl
  have f0 := str_i h.nn
  have f1 := str_i h.nd
  have l3 := h.nn.l3
  have d3 := h.nd.l3
  have A1 : oAdd (.str "/") (.str (strL (nL d))) = some (.str (strL (47 :: nL d))) := add_s (a := [47]) (b := nL d) (by simp; omega)
  have A2 : ∀ r : List Nat, r.length ≤ 4 → oAdd (.str (strL (nL n))) (.str (strL r)) = some (.str (strL (nL n ++ r))) := fun r hr => add_s (by omega)
  generalize pr n d = x at *
  unfold F_l_fraction_text b_l_fraction_text frL
  by_cases hd : d = 1
  · have q1 : oEq (.int d) (.int 1) = some (.bl true) := by rw [oEq_int, decide_eq_true hd]
    have I1 : oInt [.bl true] = some (.int 1) := rfl
    have X1 : oIx st (.lst [.str (strL (47 :: nL d)), .str ""]) (.int 1) = some (.str (strL [])) := rfl
    have A3 := A2 [] (by simp)
    rw [if_pos hd]
    generalize strL (nL n) = tn at *
    generalize strL (nL d) = td at *
    generalize strL (47 :: nL d) = ts at *
    generalize strL (nL n ++ []) = to at *
    simp [fnOf_ap, env0, fnRes, sSeq_ap, sIf_ap, sRet_ap, sSet_ap, sExp_ap, sPar_ap, sRaise_ap, bndS_ap, bnd_ap, ret_ap, lift_ap, liftS_ap, s1_ap, s2_ap, sVar_ap, sC_ap, sCons_ap, sNil_ap, sTup_ap, sLst_ap, sLstM_ap, sCall_ap, sIx_ap, sBs_ap, sTest_ap, sTru_ap, tNotI_ap, tOrI_ap, tAndI_ap, sNotV_ap, sAndV_ap, sOrV_ap, go_ap, sNop_ap, ite_ap, isB_bl, truth_bl, trimS_self, small_lt, i0, i1, f0, f1, A1, q1, I1, X1, A3]
  · have q1 : oEq (.int d) (.int 1) = some (.bl false) := by rw [oEq_int, decide_eq_false hd]
    have I1 : oInt [.bl false] = some (.int 0) := rfl
    have X1 : oIx st (.lst [.str (strL (47 :: nL d)), .str ""]) (.int 0) = some (.str (strL (47 :: nL d))) := rfl
    have A3 := A2 (47 :: nL d) (by simp; omega)
    rw [if_neg hd]
    generalize strL (nL n) = tn at *
    generalize strL (nL d) = td at *
    generalize strL (47 :: nL d) = ts at *
    generalize strL (nL n ++ 47 :: nL d) = to at *
    simp [fnOf_ap, env0, fnRes, sSeq_ap, sIf_ap, sRet_ap, sSet_ap, sExp_ap, sPar_ap, sRaise_ap, bndS_ap, bnd_ap, ret_ap, lift_ap, liftS_ap, s1_ap, s2_ap, sVar_ap, sC_ap, sCons_ap, sNil_ap, sTup_ap, sLst_ap, sLstM_ap, sCall_ap, sIx_ap, sBs_ap, sTest_ap, sTru_ap, tNotI_ap, tOrI_ap, tAndI_ap, sNotV_ap, sAndV_ap, sOrV_ap, go_ap, sNop_ap, ite_ap, isB_bl, truth_bl, trimS_self, small_lt, i0, i1, f0, f1, A1, q1, I1, X1, A3]
end
end Law
set_option Elab.async false
set_option linter.all false
set_option maxRecDepth 100000
set_option maxHeartbeats 4000000
set_option exponentiation.threshold 100000
namespace Law
open PySem PySem.Spec PyProof.Rows L2 I2
section
variable {st : Sto} {env : DEnv} {n d : Int}
theorem sMS_ap {op : D → List D → Option D} {f : Sm} {fs : Sma} : sMS op f fs env st = bnd f (fun x => bnd (I2.lift (isS x)) fun _ => bnd fs fun ds => I2.lift (op x ds)) env st := rfl
theorem isS_s {x : Str} : ∃ u, isS (.str x) = some u := ⟨_, rfl⟩
theorem shp_L {l : List Nat} (h : ∀ c ∈ l, c < 128) : SeqAt.shaped (.str (strL l)) = true := by
  have e : PyData.strOk (strL l) = true := by
    unfold PyData.strOk strL
    simp only [List.all_toArray, List.all_eq_true, decide_eq_true_eq]
    intro c hc
    have := h c hc; omega
  simp [SeqAt.shaped, PyData.canLay0, PyData.depth, e]
theorem eq_L {a b : List Nat} (ha : ∀ c ∈ a, c < 128) (hb : ∀ c ∈ b, c < 128) : oEq (.str (strL a)) (.str (strL b)) = some (.bl (decide (a = b))) := by
  have s1 := shp_L ha
  have s2 := shp_L hb
  unfold oEq
  rw [toPy_str, toPy_str]
  simp only [s1, s2, Bool.and_self, if_true]
  have : PyData.eqv (.str (strL a)) (.str (strL b)) = decide (a = b) := by
    by_cases h : a = b
    · rw [h, decide_eq_true rfl]
      exact PySem.SeqAt.eqv_refl _ (SeqAt.canLay_of_shaped s2)
    · rw [decide_eq_false h]
      have : strL a ≠ strL b := fun e => h (strL_inj e)
      simp [PyData.eqv, this]
  rw [this]
theorem ne_L {a b : List Nat} (ha : ∀ c ∈ a, c < 128) (hb : ∀ c ∈ b, c < 128) : oNe (.str (strL a)) (.str (strL b)) = some (.bl (!decide (a = b))) := by
  have h := eq_L ha hb
  unfold oEq at h
  unfold oNe
  rw [toPy_str, toPy_str] at h ⊢
  have s1 := shp_L ha
  have s2 := shp_L hb
  simp only [s1, s2, Bool.and_self, if_true, Option.some.injEq, D.bl.injEq] at h ⊢
  rw [h]
theorem sCompS_ap {T : Tgt} {f : Sm} {t : Smt} {h : Sm} {vs : List Nat} : sCompS T f t h vs env st = bnd f (fun d => bnd (I2.lift (signsOf d)) fun ds => compR T t h vs ds) env st := rfl
theorem any_f {α : Type} (xs : List α) : oAny st [.lst (xs.map fun _ => D.bl false)] = some (.bl false) := by
  show (I2.allB (xs.map fun x => D.bl ((fun _ => false) x))).map (fun bs => D.bl (bs.any id)) = _
  rw [allB_map]
  simp
theorem readnum_ok (h : Num n) : F_read_number [.str (strL (nL n)), .int 3] st = some (.ok (.int n), st) := by
  obtain ⟨u, IS⟩ := isS_s (x := strL (nL n))
  have l1 := h.l1
  have l3 := h.l3
  have OL : oLen st [.str (strL (nL n))] = some (.int ((nL n).length : Int)) := by
    show (if (strL (nL n)).length ≤ sizeLine then some (D.int ((strL (nL n)).length : Int)) else none) = _
    rw [strL_len, if_pos (sl64 (by omega))]
  have C1 : (oLe (.int 1) (.int ((nL n).length : Int))).bind isB = some true := by
    rw [oLe_i, decide_eq_true (by omega)]; rfl
  have C2 : oLe (.int ((nL n).length : Int)) (.int 3) = some (.bl true) := by rw [oLe_i, decide_eq_true (by omega)]
  have SG : signsOf (.str (strL (nL n))) = some ((nL n).map fun c => D.str ⟨#[c]⟩) := by
    show some ((strL (nL n)).cps.toList.map fun c => D.str ⟨#[c]⟩) = _
    rw [show (strL (nL n)).cps.toList = nL n by simp [strL]]
  have M := compL_map (bd := (Tgt.name 2).bd) (t := sYes) (h := s2 (oSign true) (sVar 2) (sC (.str "0123456789"))) (env := wipeD [some (.str (strL (nL n))), some (.int 3), none] [2]) (st := st) (fun c : Nat => D.str ⟨#[c]⟩) (fun _ => D.bl false) (nL n) (fun c hc => by
    have hd := h.dg c hc
    refine ⟨[some (.str (strL (nL n))), some (.int 3), some (.str ⟨#[c]⟩)], rfl, rfl, ?_⟩
    have mem : c ∈ (Str.ofString "0123456789").cps.toList := by
      have e : (Str.ofString "0123456789").cps.toList = [48, 49, 50, 51, 52, 53, 54, 55, 56, 57] := by decide +kernel
      rw [e]
      simp; omega
    have S : oSign true (.str ⟨#[c]⟩) (.str "0123456789") = some (.bl false) := by
      show some (D.bl (!decide (c ∈ (Str.ofString "0123456789").cps.toList))) = _
      rw [decide_eq_true mem]; rfl
    generalize D.str (strL (nL n)) = w at *
    simp [fnOf_ap, env0, fnRes, sSeq_ap, sIf_ap, sRet_ap, sSet_ap, sExp_ap, sPar_ap, sRaise_ap, bndS_ap, bnd_ap, ret_ap, lift_ap, liftS_ap, s1_ap, s2_ap, sVar_ap, sC_ap, sCons_ap, sNil_ap, sTup_ap, sLst_ap, sLstM_ap, sCall_ap, sIx_ap, sBs_ap, sTest_ap, sTru_ap, tNotI_ap, tOrI_ap, tAndI_ap, sNotV_ap, sAndV_ap, sOrV_ap, go_ap, sNop_ap, ite_ap, isB_bl, truth_bl, trimS_self, small_lt, S])
  have sm : small ((nL n).map fun _ => D.bl false) = true := small_map (by omega)
  have AF := any_f (st := st) (nL n)
  have z0 := h.zr
  have ST : oStarts (.str (strL (nL n))) [.str "0"] = some (.bl (Txt.startswith (strL (nL n)) (strL [48]))) := rfl
  have IT : oIntT [.str (strL (nL n))] = some (.int n) := by
    show (if (strL (nL n)).length ≤ 640 then (intText? (strL (nL n))).map D.int else none) = _
    rw [strL_len, if_pos (by omega), h.rd]; rfl
  have NE : Txt.startswith (strL (nL n)) (strL [48]) = true → oNe (.str (strL (nL n))) (.str "0") = some (.bl false) := fun e => by
    rw [z0 e]
    exact ne_L (a := [48]) (b := [48]) (by decide) (by decide)
  generalize Txt.startswith (strL (nL n)) (strL [48]) = sw at *
  generalize ((nL n).map fun _ => D.bl false) = fl at *
  generalize ((nL n).map fun c => D.str ⟨#[c]⟩) = cl at *
  generalize D.str (strL (nL n)) = w at *
  generalize ((nL n).length : Int) = ln at *
  unfold F_read_number b_read_number
  cases sw with
  | false => simp [fnOf_ap, env0, fnRes, sSeq_ap, sIf_ap, sRet_ap, sSet_ap, sExp_ap, sPar_ap, sRaise_ap, bndS_ap, bnd_ap, ret_ap, lift_ap, liftS_ap, s1_ap, s2_ap, sVar_ap, sC_ap, sCons_ap, sNil_ap, sTup_ap, sLst_ap, sLstM_ap, sCall_ap, sIx_ap, sBs_ap, sTest_ap, sTru_ap, tNotI_ap, tOrI_ap, tAndI_ap, sNotV_ap, sAndV_ap, sOrV_ap, go_ap, sNop_ap, ite_ap, isB_bl, truth_bl, trimS_self, small_lt, sChain_ap, OL, C1, C2, sCompS_ap, SG, compR_ap, M, sm, AF, sMS_ap, IS, ST, IT]
  | true =>
    have NE := NE rfl
    simp [fnOf_ap, env0, fnRes, sSeq_ap, sIf_ap, sRet_ap, sSet_ap, sExp_ap, sPar_ap, sRaise_ap, bndS_ap, bnd_ap, ret_ap, lift_ap, liftS_ap, s1_ap, s2_ap, sVar_ap, sC_ap, sCons_ap, sNil_ap, sTup_ap, sLst_ap, sLstM_ap, sCall_ap, sIx_ap, sBs_ap, sTest_ap, sTru_ap, tNotI_ap, tOrI_ap, tAndI_ap, sNotV_ap, sAndV_ap, sOrV_ap, go_ap, sNop_ap, ite_ap, isB_bl, truth_bl, trimS_self, small_lt, sChain_ap, OL, C1, C2, sCompS_ap, SG, compR_ap, M, sm, AF, sMS_ap, IS, ST, NE, IT]
theorem part_l {l : List Nat} {c : Nat} {p1 p2 p3 : Str} (hl : l.length ≤ 1000) (e : Txt.partition (strL l) ⟨#[c]⟩ = (p1, p2, p3)) : oPart (.str (strL l)) [.str ⟨#[c]⟩] = some (.tup [.str p1, .str p2, .str p3]) := by
  unfold oPart
  dsimp only
  rw [e]
  have : (!((⟨#[c]⟩ : Str).length == 0) && decide ((strL l).length ≤ sizeLine)) = true := by
    rw [strL_len, decide_eq_true (sl64 hl)]; rfl
  rw [if_pos this]
theorem eq_ss : oEq (.str "/") (.str "") = some (.bl false) := eq_L (a := [47]) (b := []) (by decide) (by decide)
theorem eq_ee : oEq (.str "") (.str "") = some (.bl true) := eq_L (a := []) (b := []) (by decide) (by decide)
theorem Num.lt {n : Int} (h : Num n) : ∀ c ∈ nL n, c < 128 := fun c hc => by have := h.dg c hc; omega
theorem readfr_ok (h : Frc n d) : F_read_fraction [.str (strL (frL n d)), .int 3] st = some (.ok (pr n d), st) := by
  have l7 := h.len.2
  have RN := readnum_ok (st := st) h.nn
  have FR := isfr_pair (t := n) (b := d) (st := st)
  have hf := h.fr
  have ep : pr n d = .tup [.int n, .int d] := rfl
  rw [ep] at hf ⊢
  rw [hf] at FR
  obtain ⟨u, IS⟩ := isS_s (x := strL (frL n d))
  by_cases hd : d = 1
  · have o1 : Num (1 : Int) := num_of (by decide) (by decide)
    have R1 := readnum_ok (st := st) o1
    have e1 : D.str (strL (nL 1)) = .str "1" := by rw [o1.on.mpr rfl]; rfl
    rw [e1] at R1
    have P := part_l (l := frL n d) (c := 47) (by omega) (part_free (fun y hy => by
      have e2 : (strL (frL n d)).cps.toList = frL n d := by simp [strL]
      rw [e2] at hy
      unfold frL at hy
      rw [if_pos hd, List.append_nil] at hy
      exact h.nn.free (c := 47) (by omega) y hy))
    have P : oPart (.str (strL (frL n d))) [.str "/"] = some (.tup [.str (strL (frL n d)), .str "", .str ""]) := P
    have e3 : frL n d = nL n := by unfold frL; rw [if_pos hd, List.append_nil]
    rw [e3] at P IS ⊢
    have Q := eq_ee
    subst hd
    have J : bTup [3, 4, 5] (.tup [.str (strL (nL n)), .str "", .str ""]) [some (.str (strL (nL n))), some (.int 3), none, none, none, none] = some [some (.str (strL (nL n))), some (.int 3), none, some (.str (strL (nL n))), some (.str ""), some (.str "")] := rfl
    generalize D.str (strL (nL n)) = w at *
    generalize D.tup [w, .str "", .str ""] = t3 at *
    unfold F_read_fraction b_read_fraction
    simp [fnOf_ap, env0, fnRes, sSeq_ap, sIf_ap, sRet_ap, sSet_ap, sExp_ap, sPar_ap, sRaise_ap, bndS_ap, bnd_ap, ret_ap, lift_ap, liftS_ap, s1_ap, s2_ap, sVar_ap, sC_ap, sCons_ap, sNil_ap, sTup_ap, sLst_ap, sLstM_ap, sCall_ap, sIx_ap, sBs_ap, sTest_ap, sTru_ap, tNotI_ap, tOrI_ap, tAndI_ap, sNotV_ap, sAndV_ap, sOrV_ap, go_ap, sNop_ap, ite_ap, isB_bl, truth_bl, trimS_self, small_lt, sAsg_ap, sMS_ap, IS, P, J, Q, RN, R1, FR, sIfE_ap]
  · have RD := readnum_ok (st := st) h.nd
    have P := part_l (l := frL n d) (c := 47) (p1 := strL (nL n)) (p2 := ⟨#[47]⟩) (p3 := strL (nL d)) (by omega) (by
      unfold frL
      rw [if_neg hd]
      exact part_cut (h.nn.free (c := 47) (by omega)))
    have P : oPart (.str (strL (frL n d))) [.str "/"] = some (.tup [.str (strL (nL n)), .str "/", .str (strL (nL d))]) := P
    have Q := eq_ss
    have Q2 : oEq (.str (strL (nL d))) (.str "1") = some (.bl false) := by
      have z := eq_L (a := nL d) (b := [49]) h.nd.lt (by decide)
      rw [decide_eq_false (fun e => hd (h.nd.on.mp e))] at z
      exact z
    have J : bTup [3, 4, 5] (.tup [.str (strL (nL n)), .str "/", .str (strL (nL d))]) [some (.str (strL (frL n d))), some (.int 3), none, none, none, none] = some [some (.str (strL (frL n d))), some (.int 3), none, some (.str (strL (nL n))), some (.str "/"), some (.str (strL (nL d)))] := rfl
    generalize D.str (strL (frL n d)) = w at *
    generalize D.str (strL (nL n)) = w1 at *
    generalize D.str (strL (nL d)) = w2 at *
    generalize D.tup [w1, .str "/", w2] = t3 at *
    unfold F_read_fraction b_read_fraction
    simp [fnOf_ap, env0, fnRes, sSeq_ap, sIf_ap, sRet_ap, sSet_ap, sExp_ap, sPar_ap, sRaise_ap, bndS_ap, bnd_ap, ret_ap, lift_ap, liftS_ap, s1_ap, s2_ap, sVar_ap, sC_ap, sCons_ap, sNil_ap, sTup_ap, sLst_ap, sLstM_ap, sCall_ap, sIx_ap, sBs_ap, sTest_ap, sTru_ap, tNotI_ap, tOrI_ap, tAndI_ap, sNotV_ap, sAndV_ap, sOrV_ap, go_ap, sNop_ap, ite_ap, isB_bl, truth_bl, trimS_self, small_lt, sAsg_ap, sMS_ap, IS, P, J, Q, Q2, RN, RD, FR, sIfE_ap]
theorem split_l {l : List Nat} {c : Nat} {ps : List (List Nat)} (hl : l.length ≤ 1000) (hc : c < 256) (e : splitGo c [] l = ps) : oSplit (.str (strL l)) [.str ⟨#[c]⟩] = some (.lst (ps.map fun p => D.str (strL p))) := by
  unfold oSplit
  dsimp only
  have : (!((⟨#[c]⟩ : Str).length == 0) && decide ((strL l).length + 2 ≤ sizeLine)) = true := by
    rw [strL_len, decide_eq_true (Nat.le_trans (show l.length + 2 ≤ 1002 by omega) (by decide))]; rfl
  rw [if_pos this, split_one _ hc]
  have e2 : (strL l).cps.toList = l := by simp [strL]
  rw [e2, e, List.map_map]; rfl
theorem readbk_ok {c : Cl} (h : ClOk c) : F_read_back [.str (strL (bkL c))] st = some (.ok (pr c.t c.b), st) := by
  have hf := frc_bk h.bk
  have lb := len_bk h
  have S := split_l (l := bkL c) (c := 32) (ps := [[98, 97, 99, 107], frL c.t c.b]) (by omega) (by decide) (by
    have e : bkL c = [98, 97, 99, 107] ++ 32 :: frL c.t c.b := rfl
    rw [e, splitGo_cut (by decide), splitGo_free (hf.free (c := 32) (by omega))]
    rfl)
  have S : oSplit (.str (strL (bkL c))) [.str " "] = some (.lst [.str "back", .str (strL (frL c.t c.b))]) := S
  obtain ⟨u, IS⟩ := isS_s (x := strL (bkL c))
  have OL : oLen st [.lst [.str "back", .str (strL (frL c.t c.b))]] = some (.int 2) := rfl
  have i0 : oIx st (.lst [.str "back", .str (strL (frL c.t c.b))]) (.int 0) = some (.str "back") := rfl
  have i1 : oIx st (.lst [.str "back", .str (strL (frL c.t c.b))]) (.int 1) = some (.str (strL (frL c.t c.b))) := rfl
  have NE : oNe (.str "back") (.str "back") = some (.bl false) := ne_L (a := [98, 97, 99, 107]) (b := [98, 97, 99, 107]) (by decide) (by decide)
  have RF := readfr_ok (st := st) hf
  have BK := back_eq (st := st) (hp_pr hf)
  rw [h.bk] at BK
  generalize D.lst [.str "back", .str (strL (frL c.t c.b))] = ll at *
  generalize D.str (strL (frL c.t c.b)) = w1 at *
  generalize D.str (strL (bkL c)) = w0 at *
  generalize pr c.t c.b = r at *
  unfold F_read_back b_read_back
  simp [fnOf_ap, env0, fnRes, sSeq_ap, sIf_ap, sRet_ap, sSet_ap, sExp_ap, sPar_ap, sRaise_ap, bndS_ap, bnd_ap, ret_ap, lift_ap, liftS_ap, s1_ap, s2_ap, sVar_ap, sC_ap, sCons_ap, sNil_ap, sTup_ap, sLst_ap, sLstM_ap, sCall_ap, sIx_ap, sBs_ap, sTest_ap, sTru_ap, tNotI_ap, tOrI_ap, tAndI_ap, sNotV_ap, sAndV_ap, sOrV_ap, go_ap, sNop_ap, ite_ap, isB_bl, truth_bl, trimS_self, small_lt, sMS_ap, IS, S, OL, oNe_int, i0, NE, i1, RF, BK, sIfE_ap]
theorem readln_ok {l : Ln} (h : LnOk l) : F_read_length [.str (strL (lnL l))] st = some (.ok l.D, st) := by
  have hf := (frc_ab h.ab).1
  have lb := len_ln h
  have S := split_l (l := lnL l) (c := 32) (ps := [nL l.s, [120], frL l.t l.b]) (by omega) (by decide) (by
    have e : lnL l = nL l.s ++ 32 :: ([120] ++ 32 :: frL l.t l.b) := by simp [lnL]
    rw [e, splitGo_cut (h.num.free (c := 32) (by omega)), splitGo_cut (by decide), splitGo_free (hf.free (c := 32) (by omega))]
    rfl)
  have S : oSplit (.str (strL (lnL l))) [.str " "] = some (.lst [.str (strL (nL l.s)), .str "x", .str (strL (frL l.t l.b))]) := S
  obtain ⟨u, IS⟩ := isS_s (x := strL (lnL l))
  have OL : oLen st [.lst [.str (strL (nL l.s)), .str "x", .str (strL (frL l.t l.b))]] = some (.int 3) := rfl
  have i0 : oIx st (.lst [.str (strL (nL l.s)), .str "x", .str (strL (frL l.t l.b))]) (.int 0) = some (.str (strL (nL l.s))) := rfl
  have i1 : oIx st (.lst [.str (strL (nL l.s)), .str "x", .str (strL (frL l.t l.b))]) (.int 1) = some (.str "x") := rfl
  have i2 : oIx st (.lst [.str (strL (nL l.s)), .str "x", .str (strL (frL l.t l.b))]) (.int 2) = some (.str (strL (frL l.t l.b))) := rfl
  have NE : oNe (.str "x") (.str "x") = some (.bl false) := ne_L (a := [120]) (b := [120]) (by decide) (by decide)
  have RF := readfr_ok (st := st) hf
  have RN := readnum_ok (st := st) h.num
  have LE := length_eq (st := st) h.hp
  rw [h.len] at LE
  have el : l.D = .tup [.int l.s, pr l.t l.b] := rfl
  rw [el] at LE ⊢
  generalize D.lst [.str (strL (nL l.s)), .str "x", .str (strL (frL l.t l.b))] = ll at *
  generalize D.str (strL (frL l.t l.b)) = w1 at *
  generalize D.str (strL (nL l.s)) = w2 at *
  generalize D.str (strL (lnL l)) = w0 at *
  generalize pr l.t l.b = r at *
  unfold F_read_length b_read_length
  simp [fnOf_ap, env0, fnRes, sSeq_ap, sIf_ap, sRet_ap, sSet_ap, sExp_ap, sPar_ap, sRaise_ap, bndS_ap, bnd_ap, ret_ap, lift_ap, liftS_ap, s1_ap, s2_ap, sVar_ap, sC_ap, sCons_ap, sNil_ap, sTup_ap, sLst_ap, sLstM_ap, sCall_ap, sIx_ap, sBs_ap, sTest_ap, sTru_ap, tNotI_ap, tOrI_ap, tAndI_ap, sNotV_ap, sAndV_ap, sOrV_ap, go_ap, sNop_ap, ite_ap, isB_bl, truth_bl, trimS_self, small_lt, sMS_ap, IS, S, OL, oNe_int, i0, NE, i1, i2, RF, RN, LE, sIfE_ap]
end
end Law
set_option Elab.async false
set_option linter.all false
set_option maxRecDepth 100000
set_option maxHeartbeats 4000000
set_option exponentiation.threshold 100000
namespace Law
open PySem PySem.Spec PyProof.Rows L2 I2
noncomputable abbrev sw0 : Sms := (sExp (sCall 1 F_need_cable (sCons (sVar 0) sNil)))
noncomputable abbrev sw1 : Sms := (sSet 1 (sLstM (sCons (sJ Str.empty [(sC (.str "back ")), (sFmt (sCall 1 F_show_fraction (sCons (I2.sIx (sVar 0) (sC (.int 1))) sNil)))]) sNil)))
noncomputable abbrev sw2b0 : Sms := (sExp (sApp (sVar 1) (sJ Str.empty [(sFmt (sVar 2)), (sC (.str " x ")), (sFmt (sCall 1 F_show_fraction (sCons (sVar 3) sNil)))])))
noncomputable abbrev sw2B : Sms := sw2b0
noncomputable abbrev sw2 : Sms := (sFor (bTup [2, 3]) (I2.sIx (sVar 0) (sC (.int 0))) sw2B)
noncomputable abbrev sw3 : Sms := (sRet (sMS oJoin (sC (.str "\n")) (sCons (sFz (sVar 1)) sNil)))
theorem b_show_cable_is : b_show_cable = (sSeq sw0 (sSeq sw1 (sSeq sw2 sw3))) := rfl
noncomputable abbrev lt0 : Sms := (sSet 1 (sLstM (sCons (s2 oAdd (sC (.str "back ")) (sCall 1 F_l_fraction_text (sCons (I2.sIx (sVar 0) (sC (.int 1))) sNil))) sNil)))
noncomputable abbrev lt1b0 : Sms := (sExp (sApp (sVar 1) (s2 oAdd (s2 oAdd (sBs (fun _ => oStr) (sCons (sVar 2) sNil)) (sC (.str " x "))) (sCall 1 F_l_fraction_text (sCons (sVar 3) sNil)))))
noncomputable abbrev lt1B : Sms := lt1b0
noncomputable abbrev lt1 : Sms := (sFor (bTup [2, 3]) (I2.sIx (sVar 0) (sC (.int 0))) lt1B)
noncomputable abbrev lt2 : Sms := (sRet (sMS oJoin (sC (.str "\n")) (sCons (sFz (sVar 1)) sNil)))
theorem b_l_text_is : b_l_text = (sSeq lt0 (sSeq lt1 lt2)) := rfl
noncomputable abbrev rl0 : Sms := (sSet 1 (sLstM sNil))
noncomputable abbrev rl1b0 : Sms := (sSet 4 (sCall 1 F_read_length (sCons (sVar 3) sNil)))
noncomputable abbrev rl1b1 : Sms := (sIf (tOrI (sTest (s2 oIs (sVar 4) (sC .non))) (sTest (s2 oGt (sVar 2) (sC (.int 12))))) sNever sNop)
noncomputable abbrev rl1b2 : Sms := (sExp (sApp (sVar 1) (sVar 4)))
noncomputable abbrev rl1B : Sms := (sSeq rl1b0 (sSeq rl1b1 rl1b2))
noncomputable abbrev rl1 : Sms := (sForE1 (bTup [2, 3]) (sCons (sVar 0) sNil) rl1B)
noncomputable abbrev rl2 : Sms := (sRet (sBs oTuple (sCons (sVar 1) sNil)))
theorem b_read_lengths_is : b_read_lengths = (sSeq rl0 (sSeq rl1 rl2)) := rfl
def Gw (st st' : Sto) : Prop := ∃ r, st' = st ++ r
theorem Gw.refl (st : Sto) : Gw st st := ⟨[], by simp⟩
theorem Gw.trans {s0 s1 s2 : Sto} (h : Gw s0 s1) (k : Gw s1 s2) : Gw s0 s2 := by
  obtain ⟨r, rfl⟩ := h
  obtain ⟨r', rfl⟩ := k
  exact ⟨r ++ r', by simp⟩
theorem Gw.trim {s0 s1 : Sto} {d : D} (h : Gw s0 s1) : Gw s0 (trimS s0.length d s1) := by
  obtain ⟨r, rfl⟩ := h
  unfold trimS
  split
  · exact ⟨[], by simp⟩
  · exact ⟨r, rfl⟩
theorem Gw.up {i : Nat} {s0 s1 : Sto} (h : Gw s0 s1) (hp : PuAt s0 i) : Up i s0 s1 := by
  obtain ⟨r, rfl⟩ := h
  obtain ⟨a, b, c, e⟩ := hp
  have hi := (List.getElem?_eq_some_iff.mp e).1
  exact ⟨⟨a, b, c, by rw [List.getElem?_append_left hi]; exact e⟩, by simp, fun j hj _ => List.getElem?_append_left hj⟩
section
variable {st : Sto} {env : DEnv}
theorem app_one {f h : Sm} {v : D} {ds : List D} {env : DEnv} (hf : f env (st ++ [.lst ds]) = some (.ok (.ref st.length), st ++ [.lst ds])) (hh : h env (st ++ [.lst ds]) = some (.ok v, st ++ [.lst ds])) (hl : ds.length < 60) : sExp (sApp f h) env (st ++ [.lst ds]) = some (.nx, env, st ++ [.lst (ds ++ [v])]) := by
  have a : (st ++ [Cell.lst ds])[st.length]? = some (.lst ds) := by simp
  have cl := isCL_of a
  have sl : ds.length < sizeLine := by have : 64 ≤ sizeLine := by decide
                                       omega
  have se : (st ++ [Cell.lst ds]).set st.length (.lst (ds ++ [v])) = st ++ [.lst (ds ++ [v])] := by simp
  simp [fnOf_ap, env0, fnRes, sSeq_ap, sIf_ap, sRet_ap, sSet_ap, sExp_ap, sPar_ap, sRaise_ap, bndS_ap, bnd_ap, ret_ap, lift_ap, liftS_ap, s1_ap, s2_ap, sVar_ap, sC_ap, sCons_ap, sNil_ap, sTup_ap, sLst_ap, sLstM_ap, sCall_ap, sIx_ap, sBs_ap, sTest_ap, sTru_ap, tNotI_ap, tOrI_ap, tAndI_ap, sNotV_ap, sAndV_ap, sOrV_ap, go_ap, sNop_ap, ite_ap, isB_bl, truth_bl, trimS_self, small_lt, sApp_ap, hf, cl, hh, a, sl, se]
theorem sFz_ap {f : Sm} : sFz f env st = bnd f fzD env st := rfl
def lnD (l : Ln) : D := .str (strL (lnL l))
theorem strs_map : ∀ ls : List (List Nat), strsOf (ls.map fun l => D.str (strL l)) = some (ls.map strL)
  | [] => rfl
  | l :: ls => by
    show (strsOf (ls.map fun l => D.str (strL l))).map (strL l :: ·) = _
    rw [strs_map ls]; rfl
theorem sum_le : ∀ ls : List (List Nat), (∀ l ∈ ls, l.length ≤ 20) → ((ls.map strL).map (·.length)).sum ≤ 20 * ls.length
  | [], _ => Nat.le_refl _
  | l :: ls, h => by
    have ih := sum_le ls fun x hx => h x (by simp [hx])
    have h1 := h l (by simp)
    have h2 := strL_len l
    simp only [List.map_cons, List.sum_cons, List.length_cons]
    omega
theorem join_l {l : List Nat} {ls : List (List Nat)} (h : ∀ x ∈ l :: ls, x.length ≤ 20) (hl : ls.length ≤ 20) : oJoin (.str "\n") [.lst ((l :: ls).map fun l => D.str (strL l))] = some (.str (strL (l ++ (ls.map fun r => 10 :: r).flatten))) := by
  have S := sum_le (l :: ls) h
  have J := join_to 10 ls l
  unfold oJoin
  dsimp only
  rw [strs_map]
  have le : ((((l :: ls).map strL).map (·.length)).sum + ((l :: ls).map strL).length * (Str.ofString "\n").length ≤ 16777216) := by
    have e1 : (Str.ofString "\n").length = 1 := rfl
    rw [e1, List.length_map]
    simp only [List.length_cons] at S ⊢
    omega
  show (if decide _ = true then _ else _) = _
  rw [if_pos (decide_eq_true le)]
  have J : Txt.join "\n" ((l :: ls).map strL) = strL (l ++ (ls.map fun r => 10 :: r).flatten) := J
  rw [J]
theorem rows_flat (ls : List Ln) : ((ls.map lnL).map fun r => 10 :: r).flatten = (ls.map fun l => 10 :: lnL l).flatten := by rw [List.map_map]; rfl
theorem join_tx {c : Cl} (h : ClOk c) : oJoin (.str "\n") [.lst (D.str (strL (bkL c)) :: c.ls.map lnD)] = some (.str (strL (txL c))) := by
  have J := join_l (l := bkL c) (ls := c.ls.map lnL) (fun x hx => by
    rcases List.mem_cons.mp hx with rfl | hx
    · have := len_bk h; omega
    · obtain ⟨l, hl, rfl⟩ := List.mem_map.mp hx
      have := len_ln (h.ls l hl); omega) (by rw [List.length_map]; have := h.l12; omega)
  rw [rows_flat] at J
  have e : (bkL c :: c.ls.map lnL).map (fun l => D.str (strL l)) = D.str (strL (bkL c)) :: c.ls.map lnD := by
    rw [List.map_cons, List.map_map]; rfl
  rw [e] at J
  exact J
theorem sh_loop {x0 : Option D} : ∀ (ls : List Ln) (xs : List D) (z2 z3 : Option D), (∀ l ∈ ls, LnOk l) → xs.length + ls.length ≤ 50 → ∃ y2 y3, forL (bTup [2, 3]) sw2B (ls.map Ln.D) [x0, some (.ref st.length), z2, z3] (st ++ [.lst xs]) = some (.nx, [x0, some (.ref st.length), y2, y3], st ++ [.lst (xs ++ ls.map lnD)])
  | [], xs, z2, z3, _, _ => ⟨z2, z3, by simp [forL_nil]⟩
  | l :: ls, xs, z2, z3, h, hl => by
    simp only [List.length_cons] at hl
    have ok := h l (by simp)
    have lb := len_ln ok
    have hf := (frc_ab ok.ab).1
    have l7 := hf.len.2
    have s3 := ok.num.l3
    have SF := showfr_ok (st := st ++ [.lst xs]) hf
    have F0 := fmt_i ok.num
    have F1 := fmt_s (l := frL l.t l.b) (by omega)
    have J : sJ Str.empty [(sFmt (sVar 2)), (sC (.str " x ")), (sFmt (sCall 1 F_show_fraction (sCons (sVar 3) sNil)))] [x0, some (.ref st.length), some (.int l.s), some (pr l.t l.b)] (st ++ [.lst xs]) = some (.ok (lnD l), st ++ [.lst xs]) := by
      generalize pr l.t l.b = r at *
      rw [sJ_cons (l := []) (y := nL l.s) (st1 := st ++ [.lst xs]) empty_L (by simp [fnOf_ap, env0, fnRes, sSeq_ap, sIf_ap, sRet_ap, sSet_ap, sExp_ap, sPar_ap, sRaise_ap, bndS_ap, bnd_ap, ret_ap, lift_ap, liftS_ap, s1_ap, s2_ap, sVar_ap, sC_ap, sCons_ap, sNil_ap, sTup_ap, sLst_ap, sLstM_ap, sCall_ap, sIx_ap, sBs_ap, sTest_ap, sTru_ap, tNotI_ap, tOrI_ap, tAndI_ap, sNotV_ap, sAndV_ap, sOrV_ap, go_ap, sNop_ap, ite_ap, isB_bl, truth_bl, trimS_self, small_lt, sFmt_ap, F0]) (by simp; omega)]
      rw [sJ_cons (y := [32, 120, 32]) (st1 := st ++ [.lst xs]) rfl (by rfl) (by simp; omega)]
      rw [sJ_cons (y := frL l.t l.b) (st1 := st ++ [.lst xs]) rfl (by simp [fnOf_ap, env0, fnRes, sSeq_ap, sIf_ap, sRet_ap, sSet_ap, sExp_ap, sPar_ap, sRaise_ap, bndS_ap, bnd_ap, ret_ap, lift_ap, liftS_ap, s1_ap, s2_ap, sVar_ap, sC_ap, sCons_ap, sNil_ap, sTup_ap, sLst_ap, sLstM_ap, sCall_ap, sIx_ap, sBs_ap, sTest_ap, sTru_ap, tNotI_ap, tOrI_ap, tAndI_ap, sNotV_ap, sAndV_ap, sOrV_ap, go_ap, sNop_ap, ite_ap, isB_bl, truth_bl, trimS_self, small_lt, sFmt_ap, SF, F1]) (by simp; omega)]
      rw [sJ_end (by simp; omega)]
      rfl
    have A := app_one (st := st) (f := sVar 1) (env := [x0, some (.ref st.length), some (.int l.s), some (pr l.t l.b)]) (ds := xs) rfl J (by omega)
    obtain ⟨y2, y3, e⟩ := sh_loop ls (xs ++ [lnD l]) (some (.int l.s)) (some (pr l.t l.b)) (fun x hx => h x (by simp [hx])) (by simp; omega)
    refine ⟨y2, y3, ?_⟩
    rw [List.map_cons, forL_cons (env1 := [x0, some (.ref st.length), some (.int l.s), some (pr l.t l.b)]) rfl A, e]
    simp
theorem needc_ok {c : Cl} (h : ClOk c) : F_need_cable [c.D] st = some (.ok .non, st) := by
  have C := cable_eq (st := st) h.hp
  rw [h.cb] at C
  generalize c.D = cc at *
  unfold F_need_cable b_need_cable
  simp [fnOf_ap, env0, fnRes, sSeq_ap, sIf_ap, sRet_ap, sSet_ap, sExp_ap, sPar_ap, sRaise_ap, bndS_ap, bnd_ap, ret_ap, lift_ap, liftS_ap, s1_ap, s2_ap, sVar_ap, sC_ap, sCons_ap, sNil_ap, sTup_ap, sLst_ap, sLstM_ap, sCall_ap, sIx_ap, sBs_ap, sTest_ap, sTru_ap, tNotI_ap, tOrI_ap, tAndI_ap, sNotV_ap, sAndV_ap, sOrV_ap, go_ap, sNop_ap, ite_ap, isB_bl, truth_bl, trimS_self, small_lt, C]
theorem cl_i0 {c : Cl} : oIx st c.D (.int 0) = some (.tup (c.ls.map Ln.D)) := rfl
theorem cl_i1 {c : Cl} : oIx st c.D (.int 1) = some (pr c.t c.b) := rfl
theorem set_gone {xs : List D} {c : Cell} : (st ++ [Cell.lst xs]).set st.length c = st ++ [c] := by simp
theorem show_ok {c : Cl} (h : ClOk c) : ∃ st', F_show_cable [c.D] st = some (.ok (.str (strL (txL c))), st') ∧ Gw st st' := by
  have hf := frc_bk h.bk
  have lb := len_bk h
  have l7 := hf.len.2
  have NC := needc_ok (st := st) h
  have SF := showfr_ok (st := st) hf
  have F1 := fmt_s (l := frL c.t c.b) (by omega)
  have i0 := fun s : Sto => cl_i0 (st := s) (c := c)
  have i1 := cl_i1 (st := st) (c := c)
  have JT := join_tx h
  obtain ⟨y2, y3, e⟩ := sh_loop (st := st) (x0 := some c.D) c.ls [.str (strL (bkL c))] none none h.ls (by have := h.l12; simp; omega)
  have hj : (st ++ [Cell.lst ([D.str (strL (bkL c))] ++ c.ls.map lnD)])[st.length]? = some (.lst ([D.str (strL (bkL c))] ++ c.ls.map lnD)) := by simp
  have sg := set_gone (st := st) (xs := [D.str (strL (bkL c))] ++ c.ls.map lnD) (c := .gone)
  refine ⟨trimS st.length (.str (strL (txL c))) (st ++ [.gone]), ?_, Gw.trim ⟨_, rfl⟩⟩
  have J : sJ Str.empty [(sC (.str "back ")), (sFmt (sCall 1 F_show_fraction (sCons (I2.sIx (sVar 0) (sC (.int 1))) sNil)))] [some c.D, none, none, none] st = some (.ok (.str (strL (bkL c))), st) := by
    generalize c.D = cc at *
    generalize pr c.t c.b = r at *
    rw [sJ_cons (l := []) (y := [98, 97, 99, 107, 32]) (st1 := st) empty_L (by rfl) (by simp)]
    rw [sJ_cons (y := frL c.t c.b) (st1 := st) rfl (by simp [fnOf_ap, env0, fnRes, sSeq_ap, sIf_ap, sRet_ap, sSet_ap, sExp_ap, sPar_ap, sRaise_ap, bndS_ap, bnd_ap, ret_ap, lift_ap, liftS_ap, s1_ap, s2_ap, sVar_ap, sC_ap, sCons_ap, sNil_ap, sTup_ap, sLst_ap, sLstM_ap, sCall_ap, sIx_ap, sBs_ap, sTest_ap, sTru_ap, tNotI_ap, tOrI_ap, tAndI_ap, sNotV_ap, sAndV_ap, sOrV_ap, go_ap, sNop_ap, ite_ap, isB_bl, truth_bl, trimS_self, small_lt, sFmt_ap, i1, SF, F1]) (by simp; omega)]
    rw [sJ_end (by simp; omega)]
    rfl
  have E0 : sw0 [some c.D, none, none, none] st = some (.nx, [some c.D, none, none, none], st) := by
    clear e JT hj sg J i0 i1
    generalize c.D = cc at *
    simp [fnOf_ap, env0, fnRes, sSeq_ap, sIf_ap, sRet_ap, sSet_ap, sExp_ap, sPar_ap, sRaise_ap, bndS_ap, bnd_ap, ret_ap, lift_ap, liftS_ap, s1_ap, s2_ap, sVar_ap, sC_ap, sCons_ap, sNil_ap, sTup_ap, sLst_ap, sLstM_ap, sCall_ap, sIx_ap, sBs_ap, sTest_ap, sTru_ap, tNotI_ap, tOrI_ap, tAndI_ap, sNotV_ap, sAndV_ap, sOrV_ap, go_ap, sNop_ap, ite_ap, isB_bl, truth_bl, trimS_self, small_lt, NC]
  have E1 : sw1 [some c.D, none, none, none] st = some (.nx, [some c.D, some (.ref st.length), none, none], st ++ [.lst [.str (strL (bkL c))]]) := by
    clear e JT hj sg E0 i0 i1
    generalize c.D = cc at *
    simp [fnOf_ap, env0, fnRes, sSeq_ap, sIf_ap, sRet_ap, sSet_ap, sExp_ap, sPar_ap, sRaise_ap, bndS_ap, bnd_ap, ret_ap, lift_ap, liftS_ap, s1_ap, s2_ap, sVar_ap, sC_ap, sCons_ap, sNil_ap, sTup_ap, sLst_ap, sLstM_ap, sCall_ap, sIx_ap, sBs_ap, sTest_ap, sTru_ap, tNotI_ap, tOrI_ap, tAndI_ap, sNotV_ap, sAndV_ap, sOrV_ap, go_ap, sNop_ap, ite_ap, isB_bl, truth_bl, trimS_self, small_lt, J]
  have E2 : sw2 [some c.D, some (.ref st.length), none, none] (st ++ [.lst [.str (strL (bkL c))]]) = some (.nx, [some c.D, some (.ref st.length), y2, y3], st ++ [.lst ([D.str (strL (bkL c))] ++ c.ls.map lnD)]) := by
    show sFor (bTup [2, 3]) (I2.sIx (sVar 0) (sC (.int 0))) sw2B _ _ = _
    rw [sFor_ap]
    have V : (I2.sIx (sVar 0) (sC (.int 0))) [some c.D, some (.ref st.length), none, none] (st ++ [.lst [.str (strL (bkL c))]]) = some (.ok (.tup (c.ls.map Ln.D)), st ++ [.lst [.str (strL (bkL c))]]) := by
      clear e
      have i0 := i0 (st ++ [.lst [.str (strL (bkL c))]])
      generalize c.D = cc at *
      simp [fnOf_ap, env0, fnRes, sSeq_ap, sIf_ap, sRet_ap, sSet_ap, sExp_ap, sPar_ap, sRaise_ap, bndS_ap, bnd_ap, ret_ap, lift_ap, liftS_ap, s1_ap, s2_ap, sVar_ap, sC_ap, sCons_ap, sNil_ap, sTup_ap, sLst_ap, sLstM_ap, sCall_ap, sIx_ap, sBs_ap, sTest_ap, sTru_ap, tNotI_ap, tOrI_ap, tAndI_ap, sNotV_ap, sAndV_ap, sOrV_ap, go_ap, sNop_ap, ite_ap, isB_bl, truth_bl, trimS_self, small_lt, i0]
    simp only [bndS_ap, V, lift_ap, seqOf_tup, Option.map_some]
    exact e
  have E3 : sw3 [some c.D, some (.ref st.length), y2, y3] (st ++ [.lst ([D.str (strL (bkL c))] ++ c.ls.map lnD)]) = some (.rt (.str (strL (txL c))), [some c.D, some (.ref st.length), y2, y3], st ++ [.gone]) := by
    clear e i0 i1 J E0 E1 E2
    generalize hst1 : st ++ [Cell.lst ([D.str (strL (bkL c))] ++ c.ls.map lnD)] = st1 at *
    obtain ⟨u, IS⟩ := isS_s (x := Str.ofString "\n")
    have JT : oJoin (.str "\n") [.lst ([D.str (strL (bkL c))] ++ c.ls.map lnD)] = some (.str (strL (txL c))) := JT
    generalize [D.str (strL (bkL c))] ++ c.ls.map lnD = rows at *
    simp [fnOf_ap, env0, fnRes, sSeq_ap, sIf_ap, sRet_ap, sSet_ap, sExp_ap, sPar_ap, sRaise_ap, bndS_ap, bnd_ap, ret_ap, lift_ap, liftS_ap, s1_ap, s2_ap, sVar_ap, sC_ap, sCons_ap, sNil_ap, sTup_ap, sLst_ap, sLstM_ap, sCall_ap, sIx_ap, sBs_ap, sTest_ap, sTru_ap, tNotI_ap, tOrI_ap, tAndI_ap, sNotV_ap, sAndV_ap, sOrV_ap, go_ap, sNop_ap, ite_ap, isB_bl, truth_bl, trimS_self, small_lt, sMS_ap, IS, sFz_ap, fzD, hj, sg, JT]
  unfold F_show_cable
  rw [b_show_cable_is]
  show (if [c.D].length = 1 then fnRes st.length (sSeq sw0 (sSeq sw1 (sSeq sw2 sw3)) [some c.D, none, none, none] st) else none) = _
  rw [if_pos (by rfl), seq_of E0, seq_of E1, seq_of E2, E3]
  rfl
theorem lt_loop {x0 : Option D} : ∀ (ls : List Ln) (xs : List D) (z2 z3 : Option D), (∀ l ∈ ls, LnOk l) → xs.length + ls.length ≤ 50 → ∃ y2 y3, forL (bTup [2, 3]) lt1B (ls.map Ln.D) [x0, some (.ref st.length), z2, z3] (st ++ [.lst xs]) = some (.nx, [x0, some (.ref st.length), y2, y3], st ++ [.lst (xs ++ ls.map lnD)])
  | [], xs, z2, z3, _, _ => ⟨z2, z3, by simp [forL_nil]⟩
  | l :: ls, xs, z2, z3, h, hl => by
    simp only [List.length_cons] at hl
    have ok := h l (by simp)
    have hf := (frc_ab ok.ab).1
    have l7 := hf.len.2
    have s3 := ok.num.l3
    have LF := lfr_ok (st := st ++ [.lst xs]) hf
    have F0 := str_i ok.num
    have A1 : oAdd (.str (strL (nL l.s))) (.str " x ") = some (.str (strL (nL l.s ++ [32, 120, 32]))) := add_s (b := [32, 120, 32]) (by simp; omega)
    have A2 : oAdd (.str (strL (nL l.s ++ [32, 120, 32]))) (.str (strL (frL l.t l.b))) = some (lnD l) := add_s (a := nL l.s ++ [32, 120, 32]) (b := frL l.t l.b) (by simp; omega)
    have J : (s2 oAdd (s2 oAdd (sBs (fun _ => oStr) (sCons (sVar 2) sNil)) (sC (.str " x "))) (sCall 1 F_l_fraction_text (sCons (sVar 3) sNil))) [x0, some (.ref st.length), some (.int l.s), some (pr l.t l.b)] (st ++ [.lst xs]) = some (.ok (lnD l), st ++ [.lst xs]) := by
      generalize pr l.t l.b = r at *
      generalize D.str (strL (nL l.s)) = t1 at *
      generalize D.str (strL (nL l.s ++ [32, 120, 32])) = t2 at *
      generalize D.str (strL (frL l.t l.b)) = t3 at *
      simp [fnOf_ap, env0, fnRes, sSeq_ap, sIf_ap, sRet_ap, sSet_ap, sExp_ap, sPar_ap, sRaise_ap, bndS_ap, bnd_ap, ret_ap, lift_ap, liftS_ap, s1_ap, s2_ap, sVar_ap, sC_ap, sCons_ap, sNil_ap, sTup_ap, sLst_ap, sLstM_ap, sCall_ap, sIx_ap, sBs_ap, sTest_ap, sTru_ap, tNotI_ap, tOrI_ap, tAndI_ap, sNotV_ap, sAndV_ap, sOrV_ap, go_ap, sNop_ap, ite_ap, isB_bl, truth_bl, trimS_self, small_lt, F0, A1, LF, A2]
    have A := app_one (st := st) (f := sVar 1) (env := [x0, some (.ref st.length), some (.int l.s), some (pr l.t l.b)]) (ds := xs) rfl J (by omega)
    obtain ⟨y2, y3, e⟩ := lt_loop ls (xs ++ [lnD l]) (some (.int l.s)) (some (pr l.t l.b)) (fun x hx => h x (by simp [hx])) (by simp; omega)
    refine ⟨y2, y3, ?_⟩
    rw [List.map_cons, forL_cons (env1 := [x0, some (.ref st.length), some (.int l.s), some (pr l.t l.b)]) rfl A, e]
    simp
theorem ltext_ok {c : Cl} (h : ClOk c) : ∃ st', F_l_text [c.D] st = some (.ok (.str (strL (txL c))), st') ∧ Gw st st' := by
  have hf := frc_bk h.bk
  have l7 := hf.len.2
  have LF := lfr_ok (st := st) hf
  have A1 : oAdd (.str "back ") (.str (strL (frL c.t c.b))) = some (.str (strL (bkL c))) := add_s (a := [98, 97, 99, 107, 32]) (b := frL c.t c.b) (by simp; omega)
  have i0 := fun s : Sto => cl_i0 (st := s) (c := c)
  have i1 := cl_i1 (st := st) (c := c)
  have JT := join_tx h
  obtain ⟨y2, y3, e⟩ := lt_loop (st := st) (x0 := some c.D) c.ls [.str (strL (bkL c))] none none h.ls (by have := h.l12; simp; omega)
  have hj : (st ++ [Cell.lst ([D.str (strL (bkL c))] ++ c.ls.map lnD)])[st.length]? = some (.lst ([D.str (strL (bkL c))] ++ c.ls.map lnD)) := by simp
  have sg := set_gone (st := st) (xs := [D.str (strL (bkL c))] ++ c.ls.map lnD) (c := .gone)
  refine ⟨trimS st.length (.str (strL (txL c))) (st ++ [.gone]), ?_, Gw.trim ⟨_, rfl⟩⟩
  have E0 : lt0 [some c.D, none, none, none] st = some (.nx, [some c.D, some (.ref st.length), none, none], st ++ [.lst [.str (strL (bkL c))]]) := by
    clear e JT hj sg i0
    generalize c.D = cc at *
    generalize pr c.t c.b = r at *
    generalize D.str (strL (frL c.t c.b)) = t3 at *
    simp [fnOf_ap, env0, fnRes, sSeq_ap, sIf_ap, sRet_ap, sSet_ap, sExp_ap, sPar_ap, sRaise_ap, bndS_ap, bnd_ap, ret_ap, lift_ap, liftS_ap, s1_ap, s2_ap, sVar_ap, sC_ap, sCons_ap, sNil_ap, sTup_ap, sLst_ap, sLstM_ap, sCall_ap, sIx_ap, sBs_ap, sTest_ap, sTru_ap, tNotI_ap, tOrI_ap, tAndI_ap, sNotV_ap, sAndV_ap, sOrV_ap, go_ap, sNop_ap, ite_ap, isB_bl, truth_bl, trimS_self, small_lt, i1, LF, A1]
  have E1 : lt1 [some c.D, some (.ref st.length), none, none] (st ++ [.lst [.str (strL (bkL c))]]) = some (.nx, [some c.D, some (.ref st.length), y2, y3], st ++ [.lst ([D.str (strL (bkL c))] ++ c.ls.map lnD)]) := by
    show sFor (bTup [2, 3]) (I2.sIx (sVar 0) (sC (.int 0))) lt1B _ _ = _
    rw [sFor_ap]
    have V : (I2.sIx (sVar 0) (sC (.int 0))) [some c.D, some (.ref st.length), none, none] (st ++ [.lst [.str (strL (bkL c))]]) = some (.ok (.tup (c.ls.map Ln.D)), st ++ [.lst [.str (strL (bkL c))]]) := by
      clear e
      have i0 := i0 (st ++ [.lst [.str (strL (bkL c))]])
      generalize c.D = cc at *
      simp [fnOf_ap, env0, fnRes, sSeq_ap, sIf_ap, sRet_ap, sSet_ap, sExp_ap, sPar_ap, sRaise_ap, bndS_ap, bnd_ap, ret_ap, lift_ap, liftS_ap, s1_ap, s2_ap, sVar_ap, sC_ap, sCons_ap, sNil_ap, sTup_ap, sLst_ap, sLstM_ap, sCall_ap, sIx_ap, sBs_ap, sTest_ap, sTru_ap, tNotI_ap, tOrI_ap, tAndI_ap, sNotV_ap, sAndV_ap, sOrV_ap, go_ap, sNop_ap, ite_ap, isB_bl, truth_bl, trimS_self, small_lt, i0]
    simp only [bndS_ap, V, lift_ap, seqOf_tup, Option.map_some]
    exact e
  have E2 : lt2 [some c.D, some (.ref st.length), y2, y3] (st ++ [.lst ([D.str (strL (bkL c))] ++ c.ls.map lnD)]) = some (.rt (.str (strL (txL c))), [some c.D, some (.ref st.length), y2, y3], st ++ [.gone]) := by
    clear e i0 i1 E0 E1
    generalize hst1 : st ++ [Cell.lst ([D.str (strL (bkL c))] ++ c.ls.map lnD)] = st1 at *
    obtain ⟨u, IS⟩ := isS_s (x := Str.ofString "\n")
    have JT : oJoin (.str "\n") [.lst ([D.str (strL (bkL c))] ++ c.ls.map lnD)] = some (.str (strL (txL c))) := JT
    generalize [D.str (strL (bkL c))] ++ c.ls.map lnD = rows at *
    simp [fnOf_ap, env0, fnRes, sSeq_ap, sIf_ap, sRet_ap, sSet_ap, sExp_ap, sPar_ap, sRaise_ap, bndS_ap, bnd_ap, ret_ap, lift_ap, liftS_ap, s1_ap, s2_ap, sVar_ap, sC_ap, sCons_ap, sNil_ap, sTup_ap, sLst_ap, sLstM_ap, sCall_ap, sIx_ap, sBs_ap, sTest_ap, sTru_ap, tNotI_ap, tOrI_ap, tAndI_ap, sNotV_ap, sAndV_ap, sOrV_ap, go_ap, sNop_ap, ite_ap, isB_bl, truth_bl, trimS_self, small_lt, sMS_ap, IS, sFz_ap, fzD, hj, sg, JT]
  unfold F_l_text
  rw [b_l_text_is]
  show (if [c.D].length = 1 then fnRes st.length (sSeq lt0 (sSeq lt1 lt2) [some c.D, none, none, none] st) else none) = _
  rw [if_pos (by rfl), seq_of E0, seq_of E1, E2]
  rfl
theorem len_tx {c : Cl} (h : ClOk c) : (txL c).length ≤ 200 := by
  have h1 := len_bk h
  have h2 := h.l12
  have h3 : ∀ ls : List Ln, (∀ l ∈ ls, LnOk l) → ((ls.map fun l => 10 :: lnL l).flatten).length ≤ 14 * ls.length := by
    intro ls
    induction ls with
    | nil => intro _; simp
    | cons l ls ih =>
      intro hl
      have i := ih fun x hx => hl x (by simp [hx])
      have j := len_ln (hl l (by simp))
      simp only [List.map_cons, List.flatten_cons, List.length_append, List.length_cons] at i ⊢
      omega
  have h4 := h3 c.ls h.ls
  unfold txL
  rw [List.length_append]
  omega
theorem splitGo_rows : ∀ (ls : List Ln) (r cur : List Nat), (∀ y ∈ r, y ≠ 10) → (∀ l ∈ ls, LnOk l) → splitGo 10 cur (r ++ (ls.map fun l => 10 :: lnL l).flatten) = (cur ++ r) :: ls.map lnL
  | [], r, cur, hr, _ => by simp [splitGo_free hr]
  | l :: ls, r, cur, hr, h => by
    have ih := splitGo_rows ls (lnL l) [] (free_ln (h l (by simp))) fun x hx => h x (by simp [hx])
    have e : r ++ ((l :: ls).map fun l => 10 :: lnL l).flatten = r ++ 10 :: (lnL l ++ (ls.map fun l => 10 :: lnL l).flatten) := by simp
    rw [e, splitGo_cut hr, ih]
    simp
theorem split_tx {c : Cl} (h : ClOk c) : oSplit (.str (strL (txL c))) [.str "\n"] = some (.lst (D.str (strL (bkL c)) :: c.ls.map lnD)) := by
  have S := split_l (l := txL c) (c := 10) (ps := bkL c :: c.ls.map lnL) (by have := len_tx h; omega) (by decide) (by
    have := splitGo_rows c.ls (bkL c) [] (free_bk h) h.ls
    exact this)
  rw [List.map_cons, List.map_map] at S
  exact S
theorem rl_loop {x0 : Option D} : ∀ (ls : List Ln) (k : Nat) (xs : List D) (z2 z3 z4 : Option D), (∀ l ∈ ls, LnOk l) → k + ls.length ≤ 13 → xs.length + ls.length ≤ 50 → ∃ y2 y3 y4, forL (bTup [2, 3]) rl1B (enumD k (ls.map lnD)) [x0, some (.ref st.length), z2, z3, z4] (st ++ [.lst xs]) = some (.nx, [x0, some (.ref st.length), y2, y3, y4], st ++ [.lst (xs ++ ls.map Ln.D)])
  | [], k, xs, z2, z3, z4, _, _, _ => ⟨z2, z3, z4, by simp [enumD, forL_nil]⟩
  | l :: ls, k, xs, z2, z3, z4, h, hk, hl => by
    simp only [List.length_cons] at hl hk
    have ok := h l (by simp)
    have RL := readln_ok (st := st ++ [.lst xs]) ok
    have n1 : oIs l.D .non = some (.bl false) := rfl
    have n2 : oGt (.int (k : Int)) (.int 12) = some (.bl false) := by rw [oGt_i, decide_eq_false (by omega)]
    have B0 : rl1b0 [x0, some (.ref st.length), some (.int (k : Int)), some (lnD l), z4] (st ++ [.lst xs]) = some (.nx, [x0, some (.ref st.length), some (.int (k : Int)), some (lnD l), some l.D], st ++ [.lst xs]) := by
      have RL : F_read_length [lnD l] (st ++ [.lst xs]) = some (.ok l.D, st ++ [.lst xs]) := RL
      generalize lnD l = w at *
      generalize l.D = v at *
      simp [fnOf_ap, env0, fnRes, sSeq_ap, sIf_ap, sRet_ap, sSet_ap, sExp_ap, sPar_ap, sRaise_ap, bndS_ap, bnd_ap, ret_ap, lift_ap, liftS_ap, s1_ap, s2_ap, sVar_ap, sC_ap, sCons_ap, sNil_ap, sTup_ap, sLst_ap, sLstM_ap, sCall_ap, sIx_ap, sBs_ap, sTest_ap, sTru_ap, tNotI_ap, tOrI_ap, tAndI_ap, sNotV_ap, sAndV_ap, sOrV_ap, go_ap, sNop_ap, ite_ap, isB_bl, truth_bl, trimS_self, small_lt, RL]
    have B1 : rl1b1 [x0, some (.ref st.length), some (.int (k : Int)), some (lnD l), some l.D] (st ++ [.lst xs]) = some (.nx, [x0, some (.ref st.length), some (.int (k : Int)), some (lnD l), some l.D], st ++ [.lst xs]) := by
      generalize lnD l = w at *
      generalize l.D = v at *
      simp [fnOf_ap, env0, fnRes, sSeq_ap, sIf_ap, sRet_ap, sSet_ap, sExp_ap, sPar_ap, sRaise_ap, bndS_ap, bnd_ap, ret_ap, lift_ap, liftS_ap, s1_ap, s2_ap, sVar_ap, sC_ap, sCons_ap, sNil_ap, sTup_ap, sLst_ap, sLstM_ap, sCall_ap, sIx_ap, sBs_ap, sTest_ap, sTru_ap, tNotI_ap, tOrI_ap, tAndI_ap, sNotV_ap, sAndV_ap, sOrV_ap, go_ap, sNop_ap, ite_ap, isB_bl, truth_bl, trimS_self, small_lt, n1, n2]
    have B2 := app_one (st := st) (f := sVar 1) (h := sVar 4) (v := l.D) (env := [x0, some (.ref st.length), some (.int (k : Int)), some (lnD l), some l.D]) (ds := xs) rfl rfl (by omega)
    obtain ⟨y2, y3, y4, e⟩ := rl_loop ls (k + 1) (xs ++ [l.D]) (some (.int (k : Int))) (some (lnD l)) (some l.D) (fun x hx => h x (by simp [hx])) (by omega) (by simp; omega)
    refine ⟨y2, y3, y4, ?_⟩
    show forL (bTup [2, 3]) rl1B (D.tup [.int (k : Int), lnD l] :: enumD (k + 1) (ls.map lnD)) _ _ = _
    rw [forL_cons (env1 := [x0, some (.ref st.length), some (.int (k : Int)), some (lnD l), z4]) rfl (show rl1B _ _ = _ from by
      show sSeq rl1b0 (sSeq rl1b1 (sExp (sApp (sVar 1) (sVar 4)))) _ _ = _
      rw [seq_of B0, seq_of B1]; exact B2), e]
    simp
theorem readls_ok {ls : List Ln} (h : ∀ l ∈ ls, LnOk l) (hl : ls.length ≤ 12) : ∃ st', F_read_lengths [.lst (ls.map lnD)] st = some (.ok (.tup (ls.map Ln.D)), st') ∧ Gw st st' := by
  obtain ⟨y2, y3, y4, e⟩ := rl_loop (st := st) (x0 := some (.lst (ls.map lnD))) ls 1 [] none none none h (by omega) (by simp; omega)
  rw [List.nil_append] at e
  refine ⟨trimS st.length (.tup (ls.map Ln.D)) (st ++ [.lst (ls.map Ln.D)]), ?_, Gw.trim ⟨_, rfl⟩⟩
  have T : oTuple (st ++ [.lst (ls.map Ln.D)]) [.ref st.length] = some (.tup (ls.map Ln.D)) := by
    unfold oTuple
    dsimp only
    simp
  generalize hx : D.lst (ls.map lnD) = rows at *
  have E0 : rl0 [some rows, none, none, none, none] st = some (.nx, [some rows, some (.ref st.length), none, none, none], st ++ [.lst []]) := by simp [fnOf_ap, env0, fnRes, sSeq_ap, sIf_ap, sRet_ap, sSet_ap, sExp_ap, sPar_ap, sRaise_ap, bndS_ap, bnd_ap, ret_ap, lift_ap, liftS_ap, s1_ap, s2_ap, sVar_ap, sC_ap, sCons_ap, sNil_ap, sTup_ap, sLst_ap, sLstM_ap, sCall_ap, sIx_ap, sBs_ap, sTest_ap, sTru_ap, tNotI_ap, tOrI_ap, tAndI_ap, sNotV_ap, sAndV_ap, sOrV_ap, go_ap, sNop_ap, ite_ap, isB_bl, truth_bl, trimS_self, small_lt]
  have E1 : rl1 [some rows, some (.ref st.length), none, none, none] (st ++ [.lst []]) = some (.nx, [some rows, some (.ref st.length), y2, y3, y4], st ++ [.lst (ls.map Ln.D)]) := by
    show sForE1 (bTup [2, 3]) (sCons (sVar 0) sNil) rl1B _ _ = _
    rw [sForE1_ap]
    have V : (sCons (sVar 0) sNil) [some rows, some (.ref st.length), none, none, none] (st ++ [.lst []]) = some (.ok [rows], st ++ [.lst []]) := rfl
    have EO : enumOf1 [rows] = some (enumD 1 (ls.map lnD)) := by rw [← hx]; rfl
    simp only [bndS_ap, V, lift_ap, EO, Option.map_some]
    exact e
  have E2 : rl2 [some rows, some (.ref st.length), y2, y3, y4] (st ++ [.lst (ls.map Ln.D)]) = some (.rt (.tup (ls.map Ln.D)), [some rows, some (.ref st.length), y2, y3, y4], st ++ [.lst (ls.map Ln.D)]) := by
    clear e E0 E1
    generalize ls.map Ln.D = vs at *
    generalize st ++ [Cell.lst vs] = st1 at *
    simp [fnOf_ap, env0, fnRes, sSeq_ap, sIf_ap, sRet_ap, sSet_ap, sExp_ap, sPar_ap, sRaise_ap, bndS_ap, bnd_ap, ret_ap, lift_ap, liftS_ap, s1_ap, s2_ap, sVar_ap, sC_ap, sCons_ap, sNil_ap, sTup_ap, sLst_ap, sLstM_ap, sCall_ap, sIx_ap, sBs_ap, sTest_ap, sTru_ap, tNotI_ap, tOrI_ap, tAndI_ap, sNotV_ap, sAndV_ap, sOrV_ap, go_ap, sNop_ap, ite_ap, isB_bl, truth_bl, trimS_self, small_lt, T]
  unfold F_read_lengths
  rw [b_read_lengths_is]
  show (if [rows].length = 1 then fnRes st.length (sSeq rl0 (sSeq rl1 rl2) [some rows, none, none, none, none] st) else none) = _
  rw [if_pos (by rfl), seq_of E0, seq_of E1, E2]
  rfl
theorem cut_tail {ds : List D} : I2.cutD ds (some 1) none = ds.tail := by
  unfold I2.cutD
  have h2 : HT.sIx ds.length ds.length none = ds.length := rfl
  cases ds with
  | nil => rfl
  | cons x r =>
    have h1 : HT.sIx (x :: r).length 0 (some 1) = 1 := by simp [HT.sIx]
    rw [h1, h2]; simp
theorem read_ok {c : Cl} (h : ClOk c) : ∃ st', F_read_cable [.str (strL (txL c))] st = some (.ok c.D, st') ∧ Gw st st' := by
  have S := split_tx h
  have RB := readbk_ok (st := st) h
  obtain ⟨st1, RL, g⟩ := readls_ok (st := st) h.ls h.l12
  refine ⟨trimS st.length c.D st1, ?_, g.trim⟩
  obtain ⟨u, IS⟩ := isS_s (x := strL (txL c))
  have I0 : oIsiB "str" (.str (strL (txL c))) = some (.bl true) := rfl
  have i0 : oIx st (.lst (D.str (strL (bkL c)) :: c.ls.map lnD)) (.int 0) = some (.str (strL (bkL c))) := at_cons0
  have OL : oLen st [.lst (D.str (strL (bkL c)) :: c.ls.map lnD)] = some (.int ((c.ls.length : Int) + 1)) := by
    rw [oLen_lst]; simp
  have N1 : oEq (.int ((c.ls.length : Int) + 1)) (.int 1) = some (.bl false) := by rw [oEq_int, decide_eq_false (by have := h.l1; omega)]
  have SL : oSlX st (some 1) none (.lst (D.str (strL (bkL c)) :: c.ls.map lnD)) = some (.lst (c.ls.map lnD)) := by
    rw [show oSlX st (some 1) none (.lst (D.str (strL (bkL c)) :: c.ls.map lnD)) = some (.lst (I2.cutD (D.str (strL (bkL c)) :: c.ls.map lnD) (some 1) none)) from rfl, cut_tail]; rfl
  have IN : oIs (pr c.t c.b) .non = some (.bl false) := rfl
  have eD : c.D = .tup [.tup (c.ls.map Ln.D), pr c.t c.b] := rfl
  rw [eD]
  generalize D.tup (c.ls.map Ln.D) = tl at *
  generalize D.lst (c.ls.map lnD) = rl' at *
  generalize D.lst (D.str (strL (bkL c)) :: c.ls.map lnD) = ra at *
  generalize pr c.t c.b = r at *
  generalize D.str (strL (bkL c)) = wb at *
  generalize D.str (strL (txL c)) = w at *
  generalize (c.ls.length : Int) + 1 = ln at *
  unfold F_read_cable b_read_cable
  simp [fnOf_ap, env0, fnRes, sSeq_ap, sIf_ap, sRet_ap, sSet_ap, sExp_ap, sPar_ap, sRaise_ap, bndS_ap, bnd_ap, ret_ap, lift_ap, liftS_ap, s1_ap, s2_ap, sVar_ap, sC_ap, sCons_ap, sNil_ap, sTup_ap, sLst_ap, sLstM_ap, sCall_ap, sIx_ap, sBs_ap, sTest_ap, sTru_ap, tNotI_ap, tOrI_ap, tAndI_ap, sNotV_ap, sAndV_ap, sOrV_ap, go_ap, sNop_ap, ite_ap, isB_bl, truth_bl, trimS_self, small_lt, I0, sMS_ap, IS, S, i0, RB, IN, OL, N1, sSlX_ap, sNoPart_ap, sPart_ap, isI_int, SL, RL]
end
end Law
set_option Elab.async false
set_option linter.all false
set_option maxRecDepth 100000
set_option maxHeartbeats 4000000
set_option exponentiation.threshold 100000
namespace Law
open PySem PySem.Spec PyProof.Rows L2 I2
noncomputable abbrev lr0b0 : Sms := (sSet 3 (sCall 1 F_show_cable (sCons (sVar 2) sNil)))
noncomputable abbrev lr0b1 : Sms := (sIf (tOrI (tNotI (sTru (s1 (oIsiB "str") (sVar 3)))) (sTest (s2 oNe (sVar 3) (sCall 1 F_l_text (sCons (sVar 2) sNil))))) (sRet (sC (.bl false))) sNop)
noncomputable abbrev lr0b2 : Sms := (sSet 4 (sCall 1 F_read_cable (sCons (sCall 1 F_l_text (sCons (sVar 2) sNil)) sNil)))
noncomputable abbrev lr0b3 : Sms := (sIf (tOrI (tNotI (sTru (s1 (oIsiB "tuple") (sVar 4)))) (tOrI (tNotI (sTru (sCall 1 F_l_pure (sCons (sVar 4) sNil)))) (sTest (s2 oNe (sVar 4) (sVar 2))))) (sRet (sC (.bl false))) sNop)
noncomputable abbrev lr0B : Sms := (sSeq lr0b0 (sSeq lr0b1 (sSeq lr0b2 lr0b3)))
noncomputable abbrev lr0 : Sms := (sFor (bName 2) (sLst (sCons (sVar 0) (sCons (sVar 1) (sCons (sVar 0) sNil)))) lr0B)
noncomputable abbrev lr1 : Sms := (sRet (s2 oEq (s2 oEq (sCall 1 F_show_cable (sCons (sVar 0) sNil)) (sCall 1 F_show_cable (sCons (sVar 1) sNil))) (s2 oEq (sVar 0) (sVar 1))))
theorem b_l_right_is : b_l_right = (sSeq lr0 lr1) := rfl
noncomputable abbrev lc0 : Sms := (sSet 2 (sLstM sNil))
noncomputable abbrev lc1b0 : Sms := (sSet 4 (I2.sIx (sLst (sCons (sC (.int 1)) (sCons (sC (.int 999)) (sCons (s2 oAdd (sC (.int 1)) (sCall 2 F_l_pick (sCons (sVar 0) (sCons (sC (.int 9)) sNil)))) (sCons (s2 oAdd (sC (.int 1)) (sCall 2 F_l_pick (sCons (sVar 0) (sCons (sC (.int 999)) sNil)))) sNil))))) (sCall 2 F_l_pick (sCons (sVar 0) (sCons (sC (.int 4)) sNil)))))
noncomputable abbrev lc1b1 : Sms := (sExp (sApp (sVar 2) (sTup (sCons (sVar 4) (sCons (sCall 2 F_l_small (sCons (sVar 0) (sCons (sC (.int 1)) sNil))) sNil)))))
noncomputable abbrev lc1B : Sms := (sSeq lc1b0 lc1b1)
noncomputable abbrev lc1 : Sms := (sForR (bName 3) (sCons (sVar 1) sNil) lc1B)
noncomputable abbrev lc2 : Sms := (sRet (sTup (sCons (sBs oTuple (sCons (sVar 2) sNil)) (sCons (sCall 2 F_l_small (sCons (sVar 0) (sCons (sC (.int 0)) sNil))) sNil))))
theorem b_l_cable_is : b_l_cable = (sSeq lc0 (sSeq lc1 lc2)) := rfl
section
variable {st : Sto} {env : DEnv}
theorem all_t {α : Type} (xs : List α) : oAll st [.lst (xs.map fun _ => D.bl true)] = some (.bl true) := by
  show (I2.allB (xs.map fun x => D.bl ((fun _ => true) x))).map (fun bs => D.bl (bs.all id)) = _
  rw [allB_map]
  simp
theorem pure_int {m : Nat} {i : Int} : R_l_pure (m + 1) [.int i] st = some (.ok (.bl true), st) := by
  have W := lwhole_eq (x := .int i) (st := st) rfl
  have I : oIsiB "tuple" (.int i) = some (.bl false) := rfl
  have e : isInt (.int i) = true := rfl
  rw [e] at W
  show fnOf 1 2 (b_l_pure (R_l_pure m)) [.int i] st = _
  unfold b_l_pure
  simp [fnOf_ap, env0, fnRes, sSeq_ap, sIf_ap, sRet_ap, sSet_ap, sExp_ap, sPar_ap, sRaise_ap, bndS_ap, bnd_ap, ret_ap, lift_ap, liftS_ap, s1_ap, s2_ap, sVar_ap, sC_ap, sCons_ap, sNil_ap, sTup_ap, sLst_ap, sLstM_ap, sCall_ap, sIx_ap, sBs_ap, sTest_ap, sTru_ap, tNotI_ap, tOrI_ap, tAndI_ap, sNotV_ap, sAndV_ap, sOrV_ap, go_ap, sNop_ap, ite_ap, isB_bl, truth_bl, trimS_self, small_lt, I, W]
theorem pure_tup {m : Nat} {ds : List D} (h : ∀ d ∈ ds, ∀ st : Sto, R_l_pure m [d] st = some (.ok (.bl true), st)) (hl : ds.length < 60) : R_l_pure (m + 1) [.tup ds] st = some (.ok (.bl true), st) := by
  have I := oIsiB_tup (ds := ds)
  have M := compL_map (bd := (Tgt.name 1).bd) (t := sYes) (h := sCall 1 (R_l_pure m) (sCons (sVar 1) sNil)) (env := wipeD [some (.tup ds), none] [1]) (st := st) (fun d : D => d) (fun _ => D.bl true) ds (fun d hd => by
    have P := h d hd st
    refine ⟨[some (.tup ds), some d], rfl, rfl, ?_⟩
    generalize D.tup ds = t at *
    simp [fnOf_ap, env0, fnRes, sSeq_ap, sIf_ap, sRet_ap, sSet_ap, sExp_ap, sPar_ap, sRaise_ap, bndS_ap, bnd_ap, ret_ap, lift_ap, liftS_ap, s1_ap, s2_ap, sVar_ap, sC_ap, sCons_ap, sNil_ap, sTup_ap, sLst_ap, sLstM_ap, sCall_ap, sIx_ap, sBs_ap, sTest_ap, sTru_ap, tNotI_ap, tOrI_ap, tAndI_ap, sNotV_ap, sAndV_ap, sOrV_ap, go_ap, sNop_ap, ite_ap, isB_bl, truth_bl, trimS_self, small_lt, P])
  rw [List.map_id'] at M
  have S : small (ds.map fun _ => D.bl true) = true := small_map (by omega)
  have A := all_t (st := st) ds
  have Q := seqOf_tup (ds := ds)
  generalize (ds.map fun _ => D.bl true) = out at *
  show fnOf 1 2 (b_l_pure (R_l_pure m)) [.tup ds] st = _
  generalize D.tup ds = t at *
  unfold b_l_pure
  simp [fnOf_ap, env0, fnRes, sSeq_ap, sIf_ap, sRet_ap, sSet_ap, sExp_ap, sPar_ap, sRaise_ap, bndS_ap, bnd_ap, ret_ap, lift_ap, liftS_ap, s1_ap, s2_ap, sVar_ap, sC_ap, sCons_ap, sNil_ap, sTup_ap, sLst_ap, sLstM_ap, sCall_ap, sIx_ap, sBs_ap, sTest_ap, sTru_ap, tNotI_ap, tOrI_ap, tAndI_ap, sNotV_ap, sAndV_ap, sOrV_ap, go_ap, sNop_ap, ite_ap, isB_bl, truth_bl, trimS_self, small_lt, I, sComp_ap, Q, compR_ap, M, S, A]
theorem pure_ok {c : Cl} (h : ClOk c) : F_l_pure [c.D] st = some (.ok (.bl true), st) := by
  have p2 : ∀ (m : Nat) (n d : Int) (st : Sto), R_l_pure (m + 2) [pr n d] st = some (.ok (.bl true), st) := fun m n d st => pure_tup (m := m + 1) (fun x hx st => by
    simp only [List.mem_cons, List.not_mem_nil, or_false] at hx
    rcases hx with rfl | rfl <;> exact pure_int) (show 2 < 60 by decide)
  have pl : ∀ (m : Nat) (l : Ln) (st : Sto), R_l_pure (m + 3) [l.D] st = some (.ok (.bl true), st) := fun m l st => pure_tup (m := m + 2) (fun x hx st => by
    simp only [List.mem_cons, List.not_mem_nil, or_false] at hx
    rcases hx with rfl | rfl
    · exact pure_int
    · exact p2 m _ _ st) (show 2 < 60 by decide)
  show R_l_pure 8 [.tup [.tup (c.ls.map Ln.D), pr c.t c.b]] st = _
  refine pure_tup (m := 7) (fun x hx st => ?_) (show 2 < 60 by decide)
  simp only [List.mem_cons, List.not_mem_nil, or_false] at hx
  rcases hx with rfl | rfl
  · refine pure_tup (m := 6) (fun y hy st => ?_) (by rw [List.length_map]; have := h.l12; omega)
    obtain ⟨l, hl, rfl⟩ := List.mem_map.mp hy
    exact pl 3 l st
  · exact p2 5 _ _ st
def pyL (l : Ln) : PyData := .tuple [.int l.s, .tuple [.int l.t, .int l.b]]
def pyC (c : Cl) : PyData := .tuple [.tuple (c.ls.map pyL), .tuple [.int c.t, .int c.b]]
theorem py_ls : ∀ ls : List Ln, toPy.toPys (ls.map Ln.D) = some (ls.map pyL)
  | [] => rfl
  | l :: ls => by
    have e : toPy l.D = some (pyL l) := rfl
    rw [List.map_cons]
    simp only [toPy.toPys, e, py_ls ls]
    rfl
theorem py_c (c : Cl) : toPy c.D = some (pyC c) := by
  have e1 : toPy (.tup (c.ls.map Ln.D)) = some (.tuple (c.ls.map pyL)) := by
    simp only [toPy, py_ls, Option.map_some]
  have e2 : toPy (pr c.t c.b) = some (.tuple [.int c.t, .int c.b]) := rfl
  show (toPy.toPys [.tup (c.ls.map Ln.D), pr c.t c.b]).map PyData.tuple = _
  simp only [toPy.toPys, e1, e2, Option.map_some]
  rfl
theorem lay_ls : ∀ ls : List Ln, PyData.canLayAll0 (ls.map pyL) = true ∧ PyData.depthAll (ls.map pyL) ≤ 2
  | [] => by simp [PyData.canLayAll0, PyData.depthAll]
  | l :: ls => by
    have i := lay_ls ls
    have e1 : (pyL l).canLay0 = true := by simp [pyL, PyData.canLay0, PyData.canLayAll0]
    have e2 : (pyL l).depth ≤ 2 := by simp [pyL, PyData.depth, PyData.depthAll]
    simp only [List.map_cons, PyData.canLayAll0, PyData.depthAll, e1, i.1, Bool.and_self, true_and]
    omega
theorem shp_c (c : Cl) : SeqAt.shaped (pyC c) = true := by
  obtain ⟨h1, h2⟩ := lay_ls c.ls
  have e1 : (pyC c).canLay0 = true := by simp [pyC, PyData.canLay0, PyData.canLayAll0, h1]
  have e2 : (pyC c).depth ≤ 64 := by
    simp only [pyC, PyData.depth, PyData.depthAll]
    omega
  unfold SeqAt.shaped
  rw [e1, decide_eq_true e2]; rfl
theorem eqv_ls : ∀ as bs : List Ln, (PyData.eqvAll (as.map pyL) (bs.map pyL) = true ↔ as = bs)
  | [], [] => by simp [PyData.eqvAll]
  | [], b :: bs => by simp [PyData.eqvAll]
  | a :: as, [] => by simp [PyData.eqvAll]
  | a :: as, b :: bs => by
    have i := eqv_ls as bs
    simp only [List.map_cons, PyData.eqvAll, Bool.and_eq_true, i]
    have e : PyData.eqv (pyL a) (pyL b) = true ↔ a = b := by
      obtain ⟨s, t, u⟩ := a
      obtain ⟨s', t', u'⟩ := b
      simp [pyL, PyData.eqv, PyData.eqvAll]
    rw [e]; simp
theorem eqv_c (c o : Cl) : PyData.eqv (pyC c) (pyC o) = true ↔ c = o := by
  obtain ⟨l, t, u⟩ := c
  obtain ⟨l', t', u'⟩ := o
  have i := eqv_ls l l'
  simp [pyC, PyData.eqv, PyData.eqvAll, i]
theorem eq_c (c o : Cl) : ∃ bb : Bool, oEq c.D o.D = some (.bl bb) ∧ (bb = true ↔ c = o) := by
  refine ⟨PyData.eqv (pyC c) (pyC o), ?_, eqv_c c o⟩
  unfold oEq
  rw [py_c, py_c]
  simp only [shp_c, Bool.and_self, if_true]
theorem ne_c (c : Cl) : oNe c.D c.D = some (.bl false) := by
  unfold oNe
  rw [py_c]
  simp only [shp_c, Bool.and_self, if_true]
  rw [(eqv_c c c).mpr rfl]; rfl
theorem D_inj {c o : Cl} (h : c.D = o.D) : c = o := by
  have h1 := py_c c
  rw [h, py_c o] at h1
  exact (eqv_c c o).mp (by rw [← Option.some.inj h1]; exact (eqv_c o o).mpr rfl)
theorem tx_inj {c o : Cl} (hc : ClOk c) (ho : ClOk o) (h : txL c = txL o) : c = o := by
  obtain ⟨s1, e1, _⟩ := read_ok (st := []) hc
  obtain ⟨s2, e2, _⟩ := read_ok (st := []) ho
  rw [h, e2] at e1
  simp only [Option.some.injEq, Prod.mk.injEq, Out.ok.injEq] at e1
  exact (D_inj e1.1).symm
theorem tx_lt {c : Cl} (h : ClOk c) : ∀ x ∈ txL c, x < 128 := by
  have fl : ∀ {n d : Int}, Frc n d → ∀ x ∈ frL n d, x < 128 := fun {n d} hf x hx => by
    unfold frL at hx
    rcases List.mem_append.mp hx with hx | hx
    · exact hf.nn.lt x hx
    · split at hx
      · cases hx
      · rcases List.mem_cons.mp hx with rfl | hx
        · omega
        · exact hf.nd.lt x hx
  have ll : ∀ l : Ln, LnOk l → ∀ x ∈ lnL l, x < 128 := fun l hl x hx => by
    unfold lnL at hx
    rcases List.mem_append.mp hx with hx | hx
    · rcases List.mem_append.mp hx with hx | hx
      · exact hl.num.lt x hx
      · simp at hx; omega
    · exact fl (frc_ab hl.ab).1 x hx
  intro x hx
  unfold txL at hx
  rcases List.mem_append.mp hx with hx | hx
  · unfold bkL at hx
    rcases List.mem_append.mp hx with hx | hx
    · simp at hx; omega
    · exact fl (frc_bk h.bk) x hx
  · simp only [List.mem_flatten, List.mem_map] at hx
    obtain ⟨r, ⟨l, hl, rfl⟩, hx⟩ := hx
    rcases List.mem_cons.mp hx with rfl | hx
    · omega
    · exact ll l (h.ls l hl) x hx
theorem lr_step {c : Cl} (h : ClOk c) {x0 x1 z3 z4 : Option D} : ∃ y3 y4 st', lr0B [x0, x1, some c.D, z3, z4] st = some (.nx, [x0, x1, some c.D, y3, y4], st') ∧ Gw st st' := by
  obtain ⟨s1, e1, g1⟩ := show_ok (st := st) h
  obtain ⟨s2, e2, g2⟩ := ltext_ok (st := s1) h
  obtain ⟨s3, e3, g3⟩ := ltext_ok (st := s2) h
  obtain ⟨s4, e4, g4⟩ := read_ok (st := s3) h
  have P := pure_ok (st := s4) h
  have N1 := ne_L (tx_lt h) (tx_lt h)
  rw [decide_eq_true rfl] at N1
  have N1 : oNe (.str (strL (txL c))) (.str (strL (txL c))) = some (.bl false) := N1
  have N2 := ne_c c
  have I1 : oIsiB "str" (.str (strL (txL c))) = some (.bl true) := rfl
  have I2 : oIsiB "tuple" c.D = some (.bl true) := rfl
  refine ⟨some (.str (strL (txL c))), some c.D, s4, ?_, ((g1.trans g2).trans g3).trans g4⟩
  generalize D.str (strL (txL c)) = w at *
  generalize c.D = cc at *
  have B0 : lr0b0 [x0, x1, some cc, z3, z4] st = some (.nx, [x0, x1, some cc, some w, z4], s1) := by simp [fnOf_ap, env0, fnRes, sSeq_ap, sIf_ap, sRet_ap, sSet_ap, sExp_ap, sPar_ap, sRaise_ap, bndS_ap, bnd_ap, ret_ap, lift_ap, liftS_ap, s1_ap, s2_ap, sVar_ap, sC_ap, sCons_ap, sNil_ap, sTup_ap, sLst_ap, sLstM_ap, sCall_ap, sIx_ap, sBs_ap, sTest_ap, sTru_ap, tNotI_ap, tOrI_ap, tAndI_ap, sNotV_ap, sAndV_ap, sOrV_ap, go_ap, sNop_ap, ite_ap, isB_bl, truth_bl, trimS_self, small_lt, e1]
  have B1 : lr0b1 [x0, x1, some cc, some w, z4] s1 = some (.nx, [x0, x1, some cc, some w, z4], s2) := by simp [fnOf_ap, env0, fnRes, sSeq_ap, sIf_ap, sRet_ap, sSet_ap, sExp_ap, sPar_ap, sRaise_ap, bndS_ap, bnd_ap, ret_ap, lift_ap, liftS_ap, s1_ap, s2_ap, sVar_ap, sC_ap, sCons_ap, sNil_ap, sTup_ap, sLst_ap, sLstM_ap, sCall_ap, sIx_ap, sBs_ap, sTest_ap, sTru_ap, tNotI_ap, tOrI_ap, tAndI_ap, sNotV_ap, sAndV_ap, sOrV_ap, go_ap, sNop_ap, ite_ap, isB_bl, truth_bl, trimS_self, small_lt, I1, e2, N1]
  have B2 : lr0b2 [x0, x1, some cc, some w, z4] s2 = some (.nx, [x0, x1, some cc, some w, some cc], s4) := by simp [fnOf_ap, env0, fnRes, sSeq_ap, sIf_ap, sRet_ap, sSet_ap, sExp_ap, sPar_ap, sRaise_ap, bndS_ap, bnd_ap, ret_ap, lift_ap, liftS_ap, s1_ap, s2_ap, sVar_ap, sC_ap, sCons_ap, sNil_ap, sTup_ap, sLst_ap, sLstM_ap, sCall_ap, sIx_ap, sBs_ap, sTest_ap, sTru_ap, tNotI_ap, tOrI_ap, tAndI_ap, sNotV_ap, sAndV_ap, sOrV_ap, go_ap, sNop_ap, ite_ap, isB_bl, truth_bl, trimS_self, small_lt, e3, e4]
  have B3 : lr0b3 [x0, x1, some cc, some w, some cc] s4 = some (.nx, [x0, x1, some cc, some w, some cc], s4) := by simp [fnOf_ap, env0, fnRes, sSeq_ap, sIf_ap, sRet_ap, sSet_ap, sExp_ap, sPar_ap, sRaise_ap, bndS_ap, bnd_ap, ret_ap, lift_ap, liftS_ap, s1_ap, s2_ap, sVar_ap, sC_ap, sCons_ap, sNil_ap, sTup_ap, sLst_ap, sLstM_ap, sCall_ap, sIx_ap, sBs_ap, sTest_ap, sTru_ap, tNotI_ap, tOrI_ap, tAndI_ap, sNotV_ap, sAndV_ap, sOrV_ap, go_ap, sNop_ap, ite_ap, isB_bl, truth_bl, trimS_self, small_lt, I2, P, N2]
  show sSeq lr0b0 (sSeq lr0b1 (sSeq lr0b2 lr0b3)) _ _ = _
  rw [seq_of B0, seq_of B1, seq_of B2, B3]
theorem right_ok {c o : Cl} (hc : ClOk c) (ho : ClOk o) : ∃ st', F_l_right [c.D, o.D] st = some (.ok (.bl true), st') ∧ Gw st st' := by
  obtain ⟨y3, y4, s1, e1, g1⟩ := lr_step (st := st) hc (x0 := some c.D) (x1 := some o.D) (z3 := none) (z4 := none)
  obtain ⟨w3, w4, s2, e2, g2⟩ := lr_step (st := s1) ho (x0 := some c.D) (x1 := some o.D) (z3 := y3) (z4 := y4)
  obtain ⟨v3, v4, s3, e3, g3⟩ := lr_step (st := s2) hc (x0 := some c.D) (x1 := some o.D) (z3 := w3) (z4 := w4)
  obtain ⟨s4, e4, g4⟩ := show_ok (st := s3) hc
  obtain ⟨s5, e5, g5⟩ := show_ok (st := s4) ho
  have Q1 := eq_L (tx_lt hc) (tx_lt ho)
  obtain ⟨bb, Q2, hb⟩ := eq_c c o
  have Q3 : oEq (.bl (decide (txL c = txL o))) (.bl bb) = some (.bl true) := by
    rw [oEq_bl]
    have : decide (txL c = txL o) = bb := by
      cases bb with
      | true => exact decide_eq_true (by rw [hb.mp rfl])
      | false => exact decide_eq_false (fun e => Bool.false_ne_true (hb.mpr (tx_inj hc ho e)))
    rw [this]; simp
  refine ⟨trimS st.length (.bl true) s5, ?_, ((((g1.trans g2).trans g3).trans g4).trans g5).trim⟩
  have E0 : lr0 [some c.D, some o.D, none, none, none] st = some (.nx, [some c.D, some o.D, some c.D, v3, v4], s3) := by
    show sFor (bName 2) (sLst (sCons (sVar 0) (sCons (sVar 1) (sCons (sVar 0) sNil)))) lr0B _ _ = _
    rw [sFor_ap]
    have V : (sLst (sCons (sVar 0) (sCons (sVar 1) (sCons (sVar 0) sNil)))) [some c.D, some o.D, none, none, none] st = some (.ok (.lst [c.D, o.D, c.D]), st) := rfl
    simp only [bndS_ap, V, lift_ap, seqOf_lst, Option.map_some]
    rw [forL_cons (env1 := [some c.D, some o.D, some c.D, none, none]) rfl e1, forL_cons (env1 := [some c.D, some o.D, some o.D, y3, y4]) rfl e2, forL_cons (env1 := [some c.D, some o.D, some c.D, w3, w4]) rfl e3]
    rfl
  have E1 : lr1 [some c.D, some o.D, some c.D, v3, v4] s3 = some (.rt (.bl true), [some c.D, some o.D, some c.D, v3, v4], s5) := by
    clear E0 e1 e2 e3
    generalize decide (txL c = txL o) = dd at *
    generalize D.str (strL (txL c)) = w at *
    generalize D.str (strL (txL o)) = w' at *
    generalize c.D = cc at *
    generalize o.D = oo at *
    simp [fnOf_ap, env0, fnRes, sSeq_ap, sIf_ap, sRet_ap, sSet_ap, sExp_ap, sPar_ap, sRaise_ap, bndS_ap, bnd_ap, ret_ap, lift_ap, liftS_ap, s1_ap, s2_ap, sVar_ap, sC_ap, sCons_ap, sNil_ap, sTup_ap, sLst_ap, sLstM_ap, sCall_ap, sIx_ap, sBs_ap, sTest_ap, sTru_ap, tNotI_ap, tOrI_ap, tAndI_ap, sNotV_ap, sAndV_ap, sOrV_ap, go_ap, sNop_ap, ite_ap, isB_bl, truth_bl, trimS_self, small_lt, e4, e5, Q1, Q2, Q3]
  unfold F_l_right
  rw [b_l_right_is]
  show (if [c.D, o.D].length = 2 then fnRes st.length (sSeq lr0 lr1 [some c.D, some o.D, none, none, none] st) else none) = _
  rw [if_pos (by rfl), seq_of E0, E1]
  rfl
variable {i j : Nat}
theorem ix_4 {a b c d : Int} {k : Int} (h0 : 0 ≤ k) (h1 : k < 4) {P : Int → Prop} (pa : P a) (pb : P b) (pc : P c) (pd : P d) : ∃ v : Int, P v ∧ ∀ t : Sto, oIx t (.lst [.int a, .int b, .int c, .int d]) (.int k) = some (.int v) := by
  rcases (by omega : k = 0 ∨ k = 1 ∨ k = 2 ∨ k = 3) with rfl | rfl | rfl | rfl
  · exact ⟨a, pa, fun _ => rfl⟩
  · exact ⟨b, pb, fun _ => rfl⟩
  · exact ⟨c, pc, fun _ => rfl⟩
  · exact ⟨d, pd, fun _ => rfl⟩
theorem ix_5 {a b c d e : Int} {k : Int} (h0 : 0 ≤ k) (h1 : k < 5) {P : Int → Prop} (pa : P a) (pb : P b) (pc : P c) (pd : P d) (pe : P e) : ∃ v : Int, P v ∧ ∀ t : Sto, oIx t (.lst [.int a, .int b, .int c, .int d, .int e]) (.int k) = some (.int v) := by
  rcases (by omega : k = 0 ∨ k = 1 ∨ k = 2 ∨ k = 3 ∨ k = 4) with rfl | rfl | rfl | rfl | rfl
  · exact ⟨a, pa, fun _ => rfl⟩
  · exact ⟨b, pb, fun _ => rfl⟩
  · exact ⟨c, pc, fun _ => rfl⟩
  · exact ⟨d, pd, fun _ => rfl⟩
  · exact ⟨e, pe, fun _ => rfl⟩
theorem pr_low {t b : Int} (h : isFr (lowD t b) = true) : ∃ p r : Int, lowD t b = pr p r := by
  obtain ⟨p, r, e, _, _⟩ := fr_pair h
  exact ⟨p, r, e⟩
theorem small_ok {m : Int} (hm : m = 0 ∨ m = 1) (h : PuAt st i) : ∃ (t b : Int) (st' : Sto), F_l_small [.ref i, .int m] st = some (.ok (pr t b), st') ∧ (m = 1 → isAb (pr t b) = true) ∧ (m = 0 → isBk (pr t b) = true) ∧ Up i st st' := by
  obtain ⟨k1, t1, e1, p1, q1, u1⟩ := pick_eq h (n := 9) (by omega) (b9_lit (by decide))
  obtain ⟨k2, t2, e2, p2, q2, u2⟩ := pick_eq u1.pu (n := 999) (by omega) (b9_lit (by decide))
  obtain ⟨k3, t3, e3, p3, q3, u3⟩ := pick_eq u2.pu (n := 4) (by omega) (b9_lit (by decide))
  obtain ⟨k4, t4, e4, p4, q4, u4⟩ := pick_eq u3.pu (n := 9) (by omega) (b9_lit (by decide))
  obtain ⟨k5, t5, e5, p5, q5, u5⟩ := pick_eq u4.pu (n := 999) (by omega) (b9_lit (by decide))
  obtain ⟨k6, t6, e6, p6, q6, u6⟩ := pick_eq u5.pu (n := 5) (by omega) (b9_lit (by decide))
  obtain ⟨tp, ht, it⟩ := ix_4 (a := m) (b := 999) (c := m + k1) (d := m + k2) p3 q3 (P := fun v => m ≤ v ∧ v ≤ 999) (by omega) (by omega) (by omega) (by omega)
  obtain ⟨bo, hb, ib⟩ := ix_5 (a := 1) (b := 1) (c := 999) (d := 1 + k4) (e := 1 + k5) p6 q6 (P := fun v => 1 ≤ v ∧ v ≤ 999) (by omega) (by omega) (by omega) (by omega) (by omega)
  have up := ((((u1.trans u2).trans u3).trans u4).trans u5).trans u6
  have L : F_l_low [.int tp, .int bo] t6 = some (.ok (lowD tp bo), t6) := low_eq (by omega) (b9_lit (by omega))
  have key : isFr (lowD tp bo) = true ∧ (m = 1 → isAb (lowD tp bo) = true) ∧ (m = 0 → isBk (lowD tp bo) = true) := by
    rcases hm with rfl | rfl
    · have := (low_bk (st := st) (t := tp) (b := bo) (by omega) (by omega) (by omega) (by omega)).2
      refine ⟨?_, fun e => by omega, fun _ => this⟩
      unfold isBk at this
      simp only [Bool.and_eq_true] at this
      exact this.1.1.1
    · have := (low_ab (st := st) (t := tp) (b := bo) (by omega) (by omega) (by omega) (by omega)).2
      refine ⟨?_, fun _ => this, fun e => by omega⟩
      unfold isAb at this
      simp only [Bool.and_eq_true] at this
      exact this.1.1.1
  obtain ⟨f1, f2, f3⟩ := key
  obtain ⟨pp, rr, e⟩ := pr_low f1
  rw [e] at L f2 f3
  refine ⟨pp, rr, trimS st.length (pr pp rr) t6, ?_, f2, f3, up.trim h.lt⟩
  generalize pr pp rr = r at *
  have A1 : oAdd (.int m) (.int k1) = some (.int (m + k1)) := rfl
  have A2 : oAdd (.int m) (.int k2) = some (.int (m + k2)) := rfl
  have A3 : oAdd (.int 1) (.int k4) = some (.int (1 + k4)) := rfl
  have A4 : oAdd (.int 1) (.int k5) = some (.int (1 + k5)) := rfl
  generalize m + k1 = m1 at *
  generalize m + k2 = m2 at *
  generalize 1 + k4 = m3 at *
  generalize 1 + k5 = m4 at *
  unfold F_l_small b_l_small
  simp [fnOf_ap, env0, fnRes, sSeq_ap, sIf_ap, sRet_ap, sSet_ap, sExp_ap, sPar_ap, sRaise_ap, bndS_ap, bnd_ap, ret_ap, lift_ap, liftS_ap, s1_ap, s2_ap, sVar_ap, sC_ap, sCons_ap, sNil_ap, sTup_ap, sLst_ap, sLstM_ap, sCall_ap, sIx_ap, sBs_ap, sTest_ap, sTru_ap, tNotI_ap, tOrI_ap, tAndI_ap, sNotV_ap, sAndV_ap, sOrV_ap, go_ap, sNop_ap, ite_ap, isB_bl, truth_bl, trimS_self, small_lt, e1, A1, e2, A2, e3, it, e4, A3, e5, A4, e6, ib, L]
theorem lc_loop {s0 : Sto} {x1 : Option D} (hij : j ≠ i) : ∀ (m : Nat) (lo : Int) (ls : List Ln) (z3 z4 : Option D) (st : Sto), Up2 i j s0 st (ls.map Ln.D) → (∀ l ∈ ls, LnOk l) → ls.length + m ≤ 12 →
    ∃ (ls' : List Ln) (y3 y4 : Option D) (st' : Sto), forL (bName 3) lc1B (rngL lo m) [some (.ref i), x1, some (.ref j), z3, z4] st = some (.nx, [some (.ref i), x1, some (.ref j), y3, y4], st') ∧ Up2 i j s0 st' (ls'.map Ln.D) ∧ (∀ l ∈ ls', LnOk l) ∧ ls'.length = ls.length + m
  | 0, lo, ls, z3, z4, st, u, h, hl => ⟨ls, z3, z4, st, rfl, u, h, rfl⟩
  | m + 1, lo, ls, z3, z4, st, u, h, hl => by
    obtain ⟨k1, t1, e1, p1, q1, u1⟩ := pick_eq u.pu (n := 9) (by omega) (b9_lit (by decide))
    obtain ⟨k2, t2, e2, p2, q2, u2⟩ := pick_eq u1.pu (n := 999) (by omega) (b9_lit (by decide))
    obtain ⟨k3, t3, e3, p3, q3, u3⟩ := pick_eq u2.pu (n := 4) (by omega) (b9_lit (by decide))
    obtain ⟨sp, hs, is⟩ := ix_4 (a := 1) (b := 999) (c := 1 + k1) (d := 1 + k2) p3 q3 (P := fun v => 1 ≤ v ∧ v ≤ 999) (by omega) (by omega) (by omega) (by omega)
    obtain ⟨t, b, t4, e4, ab, _, u4⟩ := small_ok (m := 1) (.inr rfl) u3.pu
    have v3 := ((u.up hij u1).up hij u2).up hij u3
    have v4 := v3.up hij u4
    have v5 := v4.app (v := Ln.D ⟨sp, t, b⟩) hij
    have em : ls.map Ln.D ++ [Ln.D ⟨sp, t, b⟩] = (ls ++ [(⟨sp, t, b⟩ : Ln)]).map Ln.D := by simp
    rw [em] at v5
    obtain ⟨ls', y3, y4, st', FF, w, h', l'⟩ := lc_loop (x1 := x1) hij m (lo + 1) (ls ++ [(⟨sp, t, b⟩ : Ln)]) (some (.int lo)) (some (.int sp)) _ v5 (fun l hl => by
      rcases List.mem_append.mp hl with hl | hl
      · exact h l hl
      · rw [List.mem_singleton.mp hl]; exact ⟨hs.1, hs.2, ab rfl⟩) (by simp; omega)
    refine ⟨ls', y3, y4, st', ?_, w, h', by rw [l']; simp; omega⟩
    have cl := isCL_of v3.at'
    have hj := v4.at'
    have sl' : (ls.map Ln.D).length < sizeLine := by rw [List.length_map]; exact Nat.lt_of_le_of_lt (show ls.length ≤ 12 by omega) (by decide)
    have eD : Ln.D ⟨sp, t, b⟩ = .tup [.int sp, pr t b] := rfl
    have A1 : oAdd (.int 1) (.int k1) = some (.int (1 + k1)) := rfl
    have A2 : oAdd (.int 1) (.int k2) = some (.int (1 + k2)) := rfl
    have B0 : lc1b0 [some (.ref i), x1, some (.ref j), some (.int lo), z4] st = some (.nx, [some (.ref i), x1, some (.ref j), some (.int lo), some (.int sp)], t3) := by
      clear FF
      generalize 1 + k1 = m1 at *
      generalize 1 + k2 = m2 at *
      simp [fnOf_ap, env0, fnRes, sSeq_ap, sIf_ap, sRet_ap, sSet_ap, sExp_ap, sPar_ap, sRaise_ap, bndS_ap, bnd_ap, ret_ap, lift_ap, liftS_ap, s1_ap, s2_ap, sVar_ap, sC_ap, sCons_ap, sNil_ap, sTup_ap, sLst_ap, sLstM_ap, sCall_ap, sIx_ap, sBs_ap, sTest_ap, sTru_ap, tNotI_ap, tOrI_ap, tAndI_ap, sNotV_ap, sAndV_ap, sOrV_ap, go_ap, sNop_ap, ite_ap, isB_bl, truth_bl, trimS_self, small_lt, e1, A1, e2, A2, e3, is]
    have B1 : lc1b1 [some (.ref i), x1, some (.ref j), some (.int lo), some (.int sp)] t3 = some (.nx, [some (.ref i), x1, some (.ref j), some (.int lo), some (.int sp)], t4.set j (.lst (ls.map Ln.D ++ [Ln.D ⟨sp, t, b⟩]))) := by
      clear FF
      rw [eD]
      generalize pr t b = r at *
      generalize ls.map Ln.D = vl at *
      simp [fnOf_ap, env0, fnRes, sSeq_ap, sIf_ap, sRet_ap, sSet_ap, sExp_ap, sPar_ap, sRaise_ap, bndS_ap, bnd_ap, ret_ap, lift_ap, liftS_ap, s1_ap, s2_ap, sVar_ap, sC_ap, sCons_ap, sNil_ap, sTup_ap, sLst_ap, sLstM_ap, sCall_ap, sIx_ap, sBs_ap, sTest_ap, sTru_ap, tNotI_ap, tOrI_ap, tAndI_ap, sNotV_ap, sAndV_ap, sOrV_ap, go_ap, sNop_ap, ite_ap, isB_bl, truth_bl, trimS_self, small_lt, sApp_ap, cl, e4, hj, sl']
    rw [← em] at FF
    show forL (bName 3) lc1B (.int lo :: rngL (lo + 1) m) _ _ = _
    rw [forL_cons (env1 := [some (.ref i), x1, some (.ref j), some (.int lo), z4]) rfl (show lc1B _ _ = _ from by
      show sSeq lc1b0 lc1b1 _ _ = _
      rw [seq_of B0, B1])]
    exact FF
theorem cable_ok {m : Nat} (h : PuAt st i) (m1 : 1 ≤ m) (m12 : m ≤ 12) : ∃ (c : Cl) (st' : Sto), F_l_cable [.ref i, .int (m : Int)] st = some (.ok c.D, st') ∧ ClOk c ∧ Up i st st' := by
  have hi := h.lt
  have hij : st.length ≠ i := by omega
  have u0 : Up2 i st.length st (st ++ [.lst []]) (([] : List Ln).map Ln.D) := by
    obtain ⟨p, q', r, e⟩ := h
    refine ⟨⟨p, q', r, ?_⟩, by simp, by simp, fun k hk _ _ => List.getElem?_append_left hk⟩
    rw [List.getElem?_append_left (List.getElem?_eq_some_iff.mp e).1]; exact e
  obtain ⟨ls, y3, y4, t1, FF, u1, hl, ln⟩ := lc_loop (x1 := some (.int (m : Int))) hij m 0 [] none none _ u0 (fun l hl => by cases hl) (by simpa using m12)
  simp only [List.length_nil, Nat.zero_add] at ln
  obtain ⟨t, b, t2, e2, _, bk, u2⟩ := small_ok (m := 0) (.inl rfl) u1.pu
  have ok : ClOk ⟨ls, t, b⟩ := ⟨by show 1 ≤ ls.length; omega, by show ls.length ≤ 12; omega, hl, bk rfl⟩
  have T : oTuple t1 [.ref st.length] = some (.tup (ls.map Ln.D)) := by
    have a := u1.at'
    unfold oTuple
    dsimp only
    rw [a]
  refine ⟨⟨ls, t, b⟩, trimS st.length (Cl.D ⟨ls, t, b⟩) t2, ?_, ok, Up.trim ((show Up i st t1 from ⟨u1.pu, u1.le, fun k hk h1 => u1.ne k hk h1 (by omega)⟩).trans u2) hi⟩
  have R := rng_of (n := m) (by omega)
  have eD : Cl.D ⟨ls, t, b⟩ = .tup [.tup (ls.map Ln.D), pr t b] := rfl
  rw [eD]
  have E0 : lc0 [some (.ref i), some (.int (m : Int)), none, none, none] st = some (.nx, [some (.ref i), some (.int (m : Int)), some (.ref st.length), none, none], st ++ [.lst []]) := by
    generalize (m : Int) = mm at *
    simp [fnOf_ap, env0, fnRes, sSeq_ap, sIf_ap, sRet_ap, sSet_ap, sExp_ap, sPar_ap, sRaise_ap, bndS_ap, bnd_ap, ret_ap, lift_ap, liftS_ap, s1_ap, s2_ap, sVar_ap, sC_ap, sCons_ap, sNil_ap, sTup_ap, sLst_ap, sLstM_ap, sCall_ap, sIx_ap, sBs_ap, sTest_ap, sTru_ap, tNotI_ap, tOrI_ap, tAndI_ap, sNotV_ap, sAndV_ap, sOrV_ap, go_ap, sNop_ap, ite_ap, isB_bl, truth_bl, trimS_self, small_lt]
  have E1 : lc1 [some (.ref i), some (.int (m : Int)), some (.ref st.length), none, none] (st ++ [.lst []]) = some (.nx, [some (.ref i), some (.int (m : Int)), some (.ref st.length), y3, y4], t1) := by
    have A' : (sCons (sVar 1) sNil) [some (.ref i), some (.int (m : Int)), some (.ref st.length), none, none] (st ++ [.lst []]) = some (.ok [.int (m : Int)], st ++ [.lst []]) := rfl
    exact (sForR_of A' R).trans FF
  have E2 : lc2 [some (.ref i), some (.int (m : Int)), some (.ref st.length), y3, y4] t1 = some (.rt (.tup [.tup (ls.map Ln.D), pr t b]), [some (.ref i), some (.int (m : Int)), some (.ref st.length), y3, y4], t2) := by
    clear E0 E1 FF
    generalize (m : Int) = mm at *
    generalize D.tup (ls.map Ln.D) = tl at *
    generalize pr t b = r at *
    simp [fnOf_ap, env0, fnRes, sSeq_ap, sIf_ap, sRet_ap, sSet_ap, sExp_ap, sPar_ap, sRaise_ap, bndS_ap, bnd_ap, ret_ap, lift_ap, liftS_ap, s1_ap, s2_ap, sVar_ap, sC_ap, sCons_ap, sNil_ap, sTup_ap, sLst_ap, sLstM_ap, sCall_ap, sIx_ap, sBs_ap, sTest_ap, sTru_ap, tNotI_ap, tOrI_ap, tAndI_ap, sNotV_ap, sAndV_ap, sOrV_ap, go_ap, sNop_ap, ite_ap, isB_bl, truth_bl, trimS_self, small_lt, T, e2]
  unfold F_l_cable
  rw [b_l_cable_is]
  show (if [D.ref i, .int (m : Int)].length = 2 then fnRes st.length (sSeq lc0 (sSeq lc1 lc2) [some (.ref i), some (.int (m : Int)), none, none, none] st) else none) = _
  rw [if_pos (by rfl), seq_of E0, seq_of E1, E2]
  rfl
theorem ClOk.rev {c : Cl} (h : ClOk c) : ClOk ⟨c.ls.reverse, c.t, c.b⟩ := ⟨by simpa using h.l1, by simpa using h.l12, fun l hl => h.ls l (by simpa using hl), h.bk⟩
def cl0 : Cl := ⟨List.replicate 11 ⟨1, 1, 1⟩ ++ [⟨999, 999, 998⟩], 999, 998⟩
theorem cl0_ok : ClOk cl0 := ⟨by decide, by decide, fun l hl => by
  have : l = ⟨1, 1, 1⟩ ∨ l = ⟨999, 999, 998⟩ := by
    rcases List.mem_append.mp hl with hl | hl
    · exact .inl (List.eq_of_mem_replicate hl)
    · exact .inr (List.mem_singleton.mp hl)
  rcases this with rfl | rfl
  · exact ⟨by decide, by decide, by decide +kernel⟩
  · exact ⟨by decide, by decide, by decide +kernel⟩, by decide +kernel⟩
end
end Law
set_option Elab.async false
set_option linter.all false
set_option maxRecDepth 100000
set_option maxHeartbeats 4000000
set_option exponentiation.threshold 100000
namespace Law
open PySem PySem.Spec PyProof.Rows L2 I2
noncomputable abbrev v0 : Sms := (sSet 1 (sTup (sCons (s2 oAddX (s2 oMulX (sTup (sCons (sTup (sCons (sC (.int 1)) (sCons (sTup (sCons (sC (.int 1)) (sCons (sC (.int 1)) sNil))) sNil))) sNil)) (sC (.int 11))) (sTup (sCons (sTup (sCons (sC (.int 999)) (sCons (sTup (sCons (sC (.int 999)) (sCons (sC (.int 998)) sNil))) sNil))) sNil))) (sCons (sTup (sCons (sC (.int 999)) (sCons (sC (.int 998)) sNil))) sNil))))
noncomputable abbrev v1b0 : Sms := (sSet 3 (sCall 1 F_l_purse (sCons (sCall 2 F_l_cell (sCons (sVar 0) (sCons (sVar 2) sNil))) sNil)))
noncomputable abbrev v1b1 : Sms := (sSet 4 (sCall 2 F_l_cable (sCons (sVar 3) (sCons (I2.sIx (sLst (sCons (sC (.int 1)) (sCons (sC (.int 2)) (sCons (sC (.int 3)) (sCons (sC (.int 4)) (sCons (sC (.int 5)) (sCons (I2.sIx (sLst (sCons (sC (.int 2)) (sCons (sC (.int 12)) sNil))) (sBs (fun _ => oInt) (sCons (s2 oLt (sVar 2) (sC (.int 2))) sNil))) (sCons (I2.sIx (sLst (sCons (sC (.int 1)) (sCons (sC (.int 11)) sNil))) (sBs (fun _ => oInt) (sCons (s2 oLt (sVar 2) (sC (.int 2))) sNil))) (sCons (sC (.int 1)) sNil))))))))) (sCall 2 F_l_pick (sCons (sVar 3) (sCons (sC (.int 8)) sNil)))) sNil))))
noncomputable abbrev v1b2 : Sms := (sIf (tOrI (tNotI (sTru (sCall 2 F_l_right (sCons (sVar 4) (sCons (sVar 1) sNil))))) (tNotI (sTru (sCall 2 F_l_right (sCons (sVar 4) (sCons (sTup (sCons (sRev (I2.sIx (sVar 4) (sC (.int 0)))) (sCons (I2.sIx (sVar 4) (sC (.int 1))) sNil))) sNil)))))) (sRet (sC (.bl false))) sNop)
noncomputable abbrev v1b3 : Sms := (sSet 1 (sVar 4))
noncomputable abbrev v1B : Sms := (sSeq v1b0 (sSeq v1b1 (sSeq v1b2 v1b3)))
noncomputable abbrev v1 : Sms := (sForR (bName 2) (sCons (sBs (fun _ => oMax) (sCons (sC (.int 2)) (sCons (sBs (fun _ => oMin) (sCons (sC (.int 8)) (sCons (sBs oLen (sCons (sVar 0) sNil)) sNil))) sNil))) sNil) v1B)
noncomputable abbrev v2 : Sms := (sRet (sC (.bl true)))
theorem b_law_is : b_law = (sSeq v0 (sSeq v1 v2)) := rfl
noncomputable abbrev vArgs : Sma := (sCons (sBs (fun _ => oMax) (sCons (sC (.int 2)) (sCons (sBs (fun _ => oMin) (sCons (sC (.int 8)) (sCons (sBs oLen (sCons (sVar 0) sNil)) sNil))) sNil))) sNil)
section
variable {st : Sto} {env : DEnv}
def Sh (sc : D) (env : DEnv) : Prop := ∃ (c : Cl) (z2 z3 z4 : Option D), ClOk c ∧ env = [some sc, some c.D, z2, z3, z4]
theorem ix_8 {k : Int} {w : Int} (h0 : 0 ≤ k) (h1 : k < 8) (x y : Int) (hx : 1 ≤ x ∧ x ≤ 12) (hy : 1 ≤ y ∧ y ≤ 12) : ∃ m : Nat, 1 ≤ m ∧ m ≤ 12 ∧ ∀ t : Sto, oIx t (.lst [.int 1, .int 2, .int 3, .int 4, .int 5, .int x, .int y, .int 1]) (.int k) = some (.int (m : Int)) := by
  rcases (by omega : k = 0 ∨ k = 1 ∨ k = 2 ∨ k = 3 ∨ k = 4 ∨ k = 5 ∨ k = 6 ∨ k = 7) with rfl | rfl | rfl | rfl | rfl | rfl | rfl | rfl
  · exact ⟨1, by omega, by omega, fun _ => rfl⟩
  · exact ⟨2, by omega, by omega, fun _ => rfl⟩
  · exact ⟨3, by omega, by omega, fun _ => rfl⟩
  · exact ⟨4, by omega, by omega, fun _ => rfl⟩
  · exact ⟨5, by omega, by omega, fun _ => rfl⟩
  · exact ⟨x.toNat, by omega, by omega, fun _ => by rw [show ((x.toNat : Nat) : Int) = x by omega]; rfl⟩
  · exact ⟨y.toNat, by omega, by omega, fun _ => by rw [show ((y.toNat : Nat) : Int) = y by omega]; rfl⟩
  · exact ⟨1, by omega, by omega, fun _ => rfl⟩
theorem body_step {ns : List Int} {k : Int} (h0 : 0 ≤ k) (h6 : k < 64) {a : Cl} (ha : ClOk a) {z3 z4 : Option D} : ∃ env' st', v1B [some (.scr (ns.map D.int)), some a.D, some (.int k), z3, z4] st = some (.nx, env', st') ∧ Sh (.scr (ns.map D.int)) env' := by
  obtain ⟨cc, hc⟩ := cell_eq (st := st) (ns := ns) h0 h6
  obtain ⟨p0, q0', r0', hp⟩ := purse_eq (st := st) (c := cc)
  have u1 : PuAt (st ++ [.lst [.int p0, .int q0', .int r0']]) st.length := ⟨p0, q0', r0', by simp⟩
  generalize st ++ [.lst [.int p0, .int q0', .int r0']] = st1 at hp u1
  generalize st.length = i at hp u1
  obtain ⟨k8, t1, e1, p8, q8, u2⟩ := pick_eq u1 (n := 8) (by omega) (b9_lit (by decide))
  obtain ⟨x, hx, ix⟩ : ∃ x : Int, (1 ≤ x ∧ x ≤ 12) ∧ ∀ (t : Sto) (w : Int), w = (if k < 2 then 1 else 0) → oIx t (.lst [.int 2, .int 12]) (.int w) = some (.int x) := by
    by_cases h : k < 2
    · exact ⟨12, by omega, fun t w hw => by rw [if_pos h] at hw; rw [hw]; rfl⟩
    · exact ⟨2, by omega, fun t w hw => by rw [if_neg h] at hw; rw [hw]; rfl⟩
  obtain ⟨y, hy, iy⟩ : ∃ y : Int, (1 ≤ y ∧ y ≤ 12) ∧ ∀ (t : Sto) (w : Int), w = (if k < 2 then 1 else 0) → oIx t (.lst [.int 1, .int 11]) (.int w) = some (.int y) := by
    by_cases h : k < 2
    · exact ⟨11, by omega, fun t w hw => by rw [if_pos h] at hw; rw [hw]; rfl⟩
    · exact ⟨1, by omega, fun t w hw => by rw [if_neg h] at hw; rw [hw]; rfl⟩
  have OL : oLt (.int k) (.int 2) = some (.bl (decide (k < 2))) := rfl
  have OI : oInt [.bl (decide (k < 2))] = some (.int (if k < 2 then 1 else 0)) := by
    by_cases h : k < 2
    · rw [if_pos h, decide_eq_true h]; rfl
    · rw [if_neg h, decide_eq_false h]; rfl
  have ix := fun t : Sto => ix t _ rfl
  have iy := fun t : Sto => iy t _ rfl
  obtain ⟨m, m1, m12, im⟩ := ix_8 (w := k) p8 q8 x y hx hy
  obtain ⟨c, t2, e2, ok, u3⟩ := cable_ok (m := m) u2.pu m1 m12
  obtain ⟨t3, e3, g3⟩ := right_ok (st := t2) ok ha
  obtain ⟨t4, e4, g4⟩ := right_ok (st := t3) ok ok.rev
  have j0 : ∀ s : Sto, oIx s c.D (.int 0) = some (.tup (c.ls.map Ln.D)) := fun _ => rfl
  have j1 : ∀ s : Sto, oIx s c.D (.int 1) = some (pr c.t c.b) := fun _ => rfl
  have RV : oRev (.tup (c.ls.map Ln.D)) = some (.tup (c.ls.map Ln.D).reverse) := rfl
  have eR : Cl.D ⟨c.ls.reverse, c.t, c.b⟩ = .tup [.tup (c.ls.map Ln.D).reverse, pr c.t c.b] := by
    show D.tup [.tup (c.ls.reverse.map Ln.D), pr c.t c.b] = _
    rw [List.map_reverse]
  rw [eR] at e4
  refine ⟨[some (.scr (ns.map D.int)), some c.D, some (.int k), some (.ref i), some c.D], t4, ?_, c, _, _, _, ok, rfl⟩
  clear eR g3 g4 u3 u2 u1 hx hy
  generalize (if k < 2 then (1 : Int) else 0) = w at *
  generalize decide (k < 2) = dk at *
  generalize (m : Int) = mm at *
  generalize D.tup (c.ls.map Ln.D) = tl at *
  generalize D.tup (c.ls.map Ln.D).reverse = tr at *
  generalize pr c.t c.b = r at *
  generalize c.D = cd at *
  generalize a.D = ad at *
  generalize D.scr (ns.map D.int) = sc at *
  have V0 : v1b0 [some sc, some ad, some (.int k), z3, z4] st = some (.nx, [some sc, some ad, some (.int k), some (.ref i), z4], st1) := by simp [fnOf_ap, env0, fnRes, sSeq_ap, sIf_ap, sRet_ap, sSet_ap, sExp_ap, sPar_ap, sRaise_ap, bndS_ap, bnd_ap, ret_ap, lift_ap, liftS_ap, s1_ap, s2_ap, sVar_ap, sC_ap, sCons_ap, sNil_ap, sTup_ap, sLst_ap, sLstM_ap, sCall_ap, sIx_ap, sBs_ap, sTest_ap, sTru_ap, tNotI_ap, tOrI_ap, tAndI_ap, sNotV_ap, sAndV_ap, sOrV_ap, go_ap, sNop_ap, ite_ap, isB_bl, truth_bl, trimS_self, small_lt, hc, hp]
  have V1 : v1b1 [some sc, some ad, some (.int k), some (.ref i), z4] st1 = some (.nx, [some sc, some ad, some (.int k), some (.ref i), some cd], t2) := by simp [fnOf_ap, env0, fnRes, sSeq_ap, sIf_ap, sRet_ap, sSet_ap, sExp_ap, sPar_ap, sRaise_ap, bndS_ap, bnd_ap, ret_ap, lift_ap, liftS_ap, s1_ap, s2_ap, sVar_ap, sC_ap, sCons_ap, sNil_ap, sTup_ap, sLst_ap, sLstM_ap, sCall_ap, sIx_ap, sBs_ap, sTest_ap, sTru_ap, tNotI_ap, tOrI_ap, tAndI_ap, sNotV_ap, sAndV_ap, sOrV_ap, go_ap, sNop_ap, ite_ap, isB_bl, truth_bl, trimS_self, small_lt, OL, OI, ix, iy, e1, im, e2]
  have V2 : v1b2 [some sc, some ad, some (.int k), some (.ref i), some cd] t2 = some (.nx, [some sc, some ad, some (.int k), some (.ref i), some cd], t4) := by simp [fnOf_ap, env0, fnRes, sSeq_ap, sIf_ap, sRet_ap, sSet_ap, sExp_ap, sPar_ap, sRaise_ap, bndS_ap, bnd_ap, ret_ap, lift_ap, liftS_ap, s1_ap, s2_ap, sVar_ap, sC_ap, sCons_ap, sNil_ap, sTup_ap, sLst_ap, sLstM_ap, sCall_ap, sIx_ap, sBs_ap, sTest_ap, sTru_ap, tNotI_ap, tOrI_ap, tAndI_ap, sNotV_ap, sAndV_ap, sOrV_ap, go_ap, sNop_ap, ite_ap, isB_bl, truth_bl, trimS_self, small_lt, e3, j0, j1, sRev_ap, RV, e4]
  have V3 : v1b3 [some sc, some ad, some (.int k), some (.ref i), some cd] t4 = some (.nx, [some sc, some cd, some (.int k), some (.ref i), some cd], t4) := by simp [fnOf_ap, env0, fnRes, sSeq_ap, sIf_ap, sRet_ap, sSet_ap, sExp_ap, sPar_ap, sRaise_ap, bndS_ap, bnd_ap, ret_ap, lift_ap, liftS_ap, s1_ap, s2_ap, sVar_ap, sC_ap, sCons_ap, sNil_ap, sTup_ap, sLst_ap, sLstM_ap, sCall_ap, sIx_ap, sBs_ap, sTest_ap, sTru_ap, tNotI_ap, tOrI_ap, tAndI_ap, sNotV_ap, sAndV_ap, sOrV_ap, go_ap, sNop_ap, ite_ap, isB_bl, truth_bl, trimS_self, small_lt]
  show sSeq v1b0 (sSeq v1b1 (sSeq v1b2 v1b3)) _ _ = _
  rw [seq_of V0, seq_of V1, seq_of V2, V3]
theorem loop_all {ns : List Int} : ∀ (n : Nat) (lo : Int), 0 ≤ lo → lo + n ≤ 64 → ∀ (env : DEnv) (st : Sto), Sh (.scr (ns.map D.int)) env → ∃ env' st', forL (bName 2) v1B (rngL lo n) env st = some (.nx, env', st')
  | 0, lo, _, _, env, st, _ => ⟨env, st, rfl⟩
  | n + 1, lo, h0, h6, env, st, ⟨c, z2, z3, z4, hc, e⟩ => by
    subst e
    obtain ⟨env1, st1, e1, s1⟩ := body_step (st := st) (ns := ns) (k := lo) h0 (by omega) hc (z3 := z3) (z4 := z4)
    obtain ⟨env2, st2, e2⟩ := loop_all (ns := ns) n (lo + 1) (by omega) (by omega) env1 st1 s1
    refine ⟨env2, st2, ?_⟩
    show forL (bName 2) v1B (.int lo :: rngL (lo + 1) n) _ _ = _
    rw [forL_cons rfl e1]
    exact e2
theorem law_eq {ns : List Int} (hl : ns.length ≤ 63) : ∃ st', F_law [.scr (ns.map D.int)] st = some (.ok (.bl true), st') := by
  obtain ⟨m, hm6, em⟩ : ∃ m : Nat, m ≤ 64 ∧ (if (if (ns.length : Int) < 8 then (ns.length : Int) else 8) > 2 then (if (ns.length : Int) < 8 then (ns.length : Int) else 8) else 2) = (m : Int) := by
    refine ⟨max 2 (min 8 ns.length), by omega, ?_⟩
    split <;> split <;> omega
  obtain ⟨env', st', e⟩ := loop_all (ns := ns) m 0 (by omega) (by omega) [some (.scr (ns.map D.int)), some cl0.D, none, none, none] st ⟨cl0, _, _, _, cl0_ok, rfl⟩
  have Q0 : v0 [some (.scr (ns.map D.int)), none, none, none, none] st = some (.nx, [some (.scr (ns.map D.int)), some cl0.D, none, none, none], st) := by
    have mx : oMulX (.tup [.tup [.int 1, .tup [.int 1, .int 1]]]) (.int 11) = some (.tup (List.replicate 11 (Ln.D ⟨1, 1, 1⟩))) := rfl
    have ax : oAddX (.tup (List.replicate 11 (Ln.D ⟨1, 1, 1⟩))) (.tup [.tup [.int 999, .tup [.int 999, .int 998]]]) = some (.tup (cl0.ls.map Ln.D)) := rfl
    have eD : cl0.D = .tup [.tup (cl0.ls.map Ln.D), .tup [.int 999, .int 998]] := rfl
    rw [eD]
    generalize D.tup (cl0.ls.map Ln.D) = t1 at *
    generalize D.tup (List.replicate 11 (Ln.D ⟨1, 1, 1⟩)) = t2 at *
    generalize D.scr (ns.map D.int) = sc at *
    simp [fnOf_ap, env0, fnRes, sSeq_ap, sIf_ap, sRet_ap, sSet_ap, sExp_ap, sPar_ap, sRaise_ap, bndS_ap, bnd_ap, ret_ap, lift_ap, liftS_ap, s1_ap, s2_ap, sVar_ap, sC_ap, sCons_ap, sNil_ap, sTup_ap, sLst_ap, sLstM_ap, sCall_ap, sIx_ap, sBs_ap, sTest_ap, sTru_ap, tNotI_ap, tOrI_ap, tAndI_ap, sNotV_ap, sAndV_ap, sOrV_ap, go_ap, sNop_ap, ite_ap, isB_bl, truth_bl, trimS_self, small_lt, mx, ax]
  have Q : v1 [some (.scr (ns.map D.int)), some cl0.D, none, none, none] st = some (.nx, env', st') := by
    have A : vArgs [some (.scr (ns.map D.int)), some cl0.D, none, none, none] st = some (.ok [.int (m : Int)], st) := by
      rw [← em]
      clear e Q0
      generalize cl0.D = cd at *
      simp [fnOf_ap, env0, fnRes, sSeq_ap, sIf_ap, sRet_ap, sSet_ap, sExp_ap, sPar_ap, sRaise_ap, bndS_ap, bnd_ap, ret_ap, lift_ap, liftS_ap, s1_ap, s2_ap, sVar_ap, sC_ap, sCons_ap, sNil_ap, sTup_ap, sLst_ap, sLstM_ap, sCall_ap, sIx_ap, sBs_ap, sTest_ap, sTru_ap, tNotI_ap, tOrI_ap, tAndI_ap, sNotV_ap, sAndV_ap, sOrV_ap, go_ap, sNop_ap, ite_ap, isB_bl, truth_bl, trimS_self, small_lt, oLen, oMin, oMax]
    exact (sForR_of A (rng_of (n := m) (by omega))).trans e
  refine ⟨trimS st.length (.bl true) st', ?_⟩
  unfold F_law
  rw [b_law_is]
  show (if [D.scr (ns.map D.int)].length = 1 then fnRes st.length (sSeq v0 (sSeq v1 v2) [some (.scr (ns.map D.int)), none, none, none, none] st) else none) = _
  rw [if_pos (by rfl), seq_of Q0, seq_of Q]
  rfl
end
end Law
namespace Law
open PySem PySem.Spec PyProof.Rows L2 I2
def spLaw (K : PySem.W.Frag) : L2.Sp := fun vs H Q _ => ∃ (a : Addr) (ns : List Int), vs = [.ref a] ∧ Only H ∧ SqL K H a (ns.map V.int) ∧ ns.length ≤ 63 ∧ ∀ H', Q (.bl true) H'
theorem rds_ints {g : GX} {m : MM} {H : L2.Hp} : ∀ ns : List Int, RDs g m H (ns.map D.int) (ns.map V.int)
  | [] => .nil
  | n :: ns => .cons (.int n) (rds_ints ns)
theorem spLaw_of {K : PySem.W.Frag} {a : Ad} (hK : a.K = K) (vs : List V) (H : L2.Hp) (Q : VK) (E : XK) (h : spLaw K vs H Q E) : spF (gx a) 1 F_law vs H Q E := by
  obtain ⟨p, ns, rfl, hO, hS, hl, hQ⟩ := h
  have sf : SF (gx a).K H p (ns.map V.int) := by
    show SF a.K H p _
    rw [hK]
    rcases hS with (h | ⟨o, h⟩) | h
    · rcases hO p with e | ⟨o, xs, e⟩
      · rw [e] at h; cases h
      · rw [e] at h; cases h
    · exact .inl ⟨o, h⟩
    · exact .inr h
  obtain ⟨st', e⟩ := law_eq (st := []) hl
  refine ⟨[.scr (ns.map D.int)], ⟨[], [], []⟩, [], rfl, .cons (.scr sf (rds_ints ns)) .nil, ⟨rfl, List.nodup_nil, fun i c a h => by simp at h, fun a h => by simp at h, fun a h => by simp at h, fun i c a h => by simp at h, fun a h => by simp at h⟩, ?_⟩
  rw [e]
  intro m' H' _ _ v r
  cases r
  exact hQ H'
theorem walk {l : PySem.W.OpenLaw} {q : Program} {loose : List Str} {XP : (Str → Option Value) → Heap → Prop} {YP : World → Heap → Prop} {d : DefRec} {K : Params → PySem.W.Frag} (hn : l.most = some 63) (hdf : d.params.defaults = [])
    (hY : ∀ (w : World) (h : Heap), YP w h → (K w.params).In h)
    (F : ∀ (w : World) (mg : Str → Option Value) (fa : Addr) (h : Heap), (K w.params).In h → h.Ns mainGlobals mg → mg d.name = some (.ref fa) →
      ∃ (a : Ad) (fd : FuncData), a.K = K w.params ∧ Tx mg a ∧ (∀ (s : Shared) (u : Value), BindsTo s fd ⟨[u], []⟩ [("_law_script", u)]) ∧ ∀ base : Heap, FnOk l.prog w (K w.params) mg base (CXe l.prog w) 12 fa fd ["_law_script"] (spF (gx a) 1 F_law)) :
    PySem.W.WalkO q loose XP YP l.row.toRowW d [] (fun f vs => PySem.call f vs) := by
  refine L2.walk_of (n := 63) (k := 12) (x := "_law_script") (CX := fun w => CXe l.prog w) (sp := fun w => spLaw (K w.params)) hn (by decide) hdf ⟨rfl, by decide, by decide⟩ hY (fun w mg fa h KX G hm => ?_) (fun w H a ns hl hO hS => ⟨a, ns, rfl, hO, hS, hl, fun _ => rfl⟩) fun _ _ _ _ _ ⟨_, _, _, _, _, _, _, _, _, z⟩ => z
  obtain ⟨a, fd, hK, T, hb, hF⟩ := F w mg fa h KX G hm
  exact ⟨fd, hb, fun base _ _ => (hF base).imp (spLaw_of hK)⟩
end Law
open PySem PySem.W PyProof.Rows
set_option maxRecDepth 100000 in
set_option maxHeartbeats 0 in
theorem PySem.Challenge.cw_earthends_k05_cables_as_texts_holds : PySem.Challenge.rw_earthends_k05_cables_as_texts.Holds := by
  w_on; o_law; k_head; (case hw => w_witness2)
  k_fill
  refine Law.walk (l := PySem.Challenge.rw_earthends_k05_cables_as_texts) rfl rfl (fun w h Y => PySem.W.kIn_of Y) ?F
  case F =>
    intro w mg fa h KX G hmg
    refine' Law.all_mk KX G hmg ?a_is_whole ?l_is_whole ?e_is_whole ?k_is_whole ?a_is_tuple_of ?l_is_tuple_of ?e_is_tuple_of ?k_is_tuple_of ?a_common_divisor ?l_common_divisor ?e_common_divisor ?k_common_divisor ?a_is_small ?l_is_small ?e_is_small ?k_is_small ?a_show_fraction ?l_show_fraction ?e_show_fraction ?k_show_fraction ?a_read_number ?l_read_number ?e_read_number ?k_read_number ?a_l_cell ?l_l_cell ?e_l_cell ?k_l_cell ?a_l_purse ?l_l_purse ?e_l_purse ?k_l_purse ?a_l_pick ?l_l_pick ?e_l_pick ?k_l_pick ?a_l_whole ?l_l_whole ?e_l_whole ?k_l_whole ?a_l_low ?l_l_low ?e_l_low ?k_l_low ?a_l_fraction_text ?l_l_fraction_text ?e_l_fraction_text ?k_l_fraction_text ?a_is_fraction ?l_is_fraction ?e_is_fraction ?k_is_fraction ?a_l_text ?l_l_text ?e_l_text ?k_l_text ?a_l_small ?l_l_small ?e_l_small ?k_l_small ?a_is_from_zero ?l_is_from_zero ?e_is_from_zero ?k_is_from_zero ?a_is_above_zero ?l_is_above_zero ?e_is_above_zero ?k_is_above_zero ?a_read_fraction ?l_read_fraction ?e_read_fraction ?k_read_fraction ?a_l_cable ?l_l_cable ?e_l_cable ?k_l_cable ?a_is_length ?l_is_length ?e_is_length ?k_is_length ?a_is_back ?l_is_back ?e_is_back ?k_is_back ?a_is_cable ?l_is_cable ?e_is_cable ?k_is_cable ?a_read_back ?l_read_back ?e_read_back ?k_read_back ?a_read_length ?l_read_length ?e_read_length ?k_read_length ?a_need_cable ?l_need_cable ?e_need_cable ?k_need_cable ?a_read_lengths ?l_read_lengths ?e_read_lengths ?k_read_lengths ?a_show_cable ?l_show_cable ?e_show_cable ?k_show_cable ?a_read_cable ?l_read_cable ?e_read_cable ?k_read_cable ?a_l_pure ?l_l_pure ?e_l_pure ?k_l_pure ?a_l_right ?l_l_right ?e_l_right ?k_l_right ?a_law ?l_law ?e_law ?k_law ?cc_EarthError ?cc_NoCable ?cc_NoText ?x1_NoCable ?x2_NoCable ?x3_NoCable ?x4_NoCable ?kc_MOST_LENGTHS ?kc_MOST_NUMBER ?kc_FIGURES ?kc_MOST_FIGURES ?z_abs ?z_all ?z_any ?z_bool ?z_enumerate ?z_int ?z_isinstance ?z_len ?z_max ?z_min ?z_range ?z_str ?z_tuple
    (case a_is_whole => k_is); (case l_is_whole => k_is); (case e_is_whole => k_is); (case k_is_whole => k_is); (case a_is_tuple_of => k_is); (case l_is_tuple_of => k_is)
    (case e_is_tuple_of => k_is); (case k_is_tuple_of => k_is); (case a_common_divisor => k_is); (case l_common_divisor => k_is); (case e_common_divisor => k_is); (case k_common_divisor => k_is)
    (case a_is_small => k_is); (case l_is_small => k_is); (case e_is_small => k_is); (case k_is_small => k_is); (case a_show_fraction => k_is); (case l_show_fraction => k_is)
    (case e_show_fraction => k_is); (case k_show_fraction => k_is); (case a_read_number => k_is); (case l_read_number => k_is); (case e_read_number => k_is); (case k_read_number => k_is)
    (case a_l_cell => k_is); (case l_l_cell => k_is); (case e_l_cell => k_is); (case k_l_cell => k_is); (case a_l_purse => k_is); (case l_l_purse => k_is)
    (case e_l_purse => k_is); (case k_l_purse => k_is); (case a_l_pick => k_is); (case l_l_pick => k_is); (case e_l_pick => k_is); (case k_l_pick => k_is)
    (case a_l_whole => k_is); (case l_l_whole => k_is); (case e_l_whole => k_is); (case k_l_whole => k_is); (case a_l_low => k_is); (case l_l_low => k_is)
    (case e_l_low => k_is); (case k_l_low => k_is); (case a_l_fraction_text => k_is); (case l_l_fraction_text => k_is); (case e_l_fraction_text => k_is); (case k_l_fraction_text => k_is)
    (case a_is_fraction => k_is); (case l_is_fraction => k_is); (case e_is_fraction => k_is); (case k_is_fraction => k_is); (case a_l_text => k_is); (case l_l_text => k_is)
    (case e_l_text => k_is); (case k_l_text => k_is); (case a_l_small => k_is); (case l_l_small => k_is); (case e_l_small => k_is); (case k_l_small => k_is)
    (case a_is_from_zero => k_is); (case l_is_from_zero => k_is); (case e_is_from_zero => k_is); (case k_is_from_zero => k_is); (case a_is_above_zero => k_is); (case l_is_above_zero => k_is)
    (case e_is_above_zero => k_is); (case k_is_above_zero => k_is); (case a_read_fraction => k_is); (case l_read_fraction => k_is); (case e_read_fraction => k_is); (case k_read_fraction => k_is)
    (case a_l_cable => k_is); (case l_l_cable => k_is); (case e_l_cable => k_is); (case k_l_cable => k_is); (case a_is_length => k_is); (case l_is_length => k_is)
    (case e_is_length => k_is); (case k_is_length => k_is); (case a_is_back => k_is); (case l_is_back => k_is); (case e_is_back => k_is); (case k_is_back => k_is)
    (case a_is_cable => k_is); (case l_is_cable => k_is); (case e_is_cable => k_is); (case k_is_cable => k_is); (case a_read_back => k_is); (case l_read_back => k_is)
    (case e_read_back => k_is); (case k_read_back => k_is); (case a_read_length => k_is); (case l_read_length => k_is); (case e_read_length => k_is); (case k_read_length => k_is)
    (case a_need_cable => k_is); (case l_need_cable => k_is); (case e_need_cable => k_is); (case k_need_cable => k_is); (case a_read_lengths => k_is); (case l_read_lengths => k_is)
    (case e_read_lengths => k_is); (case k_read_lengths => k_is); (case a_show_cable => k_is); (case l_show_cable => k_is); (case e_show_cable => k_is); (case k_show_cable => k_is)
    (case a_read_cable => k_is); (case l_read_cable => k_is); (case e_read_cable => k_is); (case k_read_cable => k_is); (case a_l_pure => k_is); (case l_l_pure => k_is)
    (case e_l_pure => k_is); (case k_l_pure => k_is); (case a_l_right => k_is); (case l_l_right => k_is); (case e_l_right => k_is); (case k_l_right => k_is)
    (case a_law => k_is); (case l_law => k_is); (case e_law => k_is); (case k_law => k_is); (case cc_EarthError => k_is); (case cc_NoCable => k_is)
    (case cc_NoText => k_is); (case x1_NoCable => k_exc); (case x2_NoCable => k_is); (case x3_NoCable => k_is); (case x4_NoCable => k_is); (case kc_MOST_LENGTHS => k_is)
    (case kc_MOST_NUMBER => k_is); (case kc_FIGURES => k_is); (case kc_MOST_FIGURES => k_is); (case z_abs => k_is); (case z_all => k_is); (case z_any => k_is)
    (case z_bool => k_is); (case z_enumerate => k_is); (case z_int => k_is); (case z_isinstance => k_is); (case z_len => k_is); (case z_max => k_is)
    (case z_min => k_is); (case z_range => k_is); (case z_str => k_is); (case z_tuple => k_is)
