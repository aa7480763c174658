import PyProof.Rows.All
import Wide.All
import OpenK.AllK
import Wide.FinOn
import Lean
import PyProof.EqAt
import PyProof.EqKinds
import PyProof.TupleCall
import PyProof.NeKinds
import KE.LcSums
import PyProof.FitsBits
import PyProof.EnumMake
import PyProof.WalksEnum
import PyProof.WalksMore
import PyProof.Draws
import PyProof.StrCalls2
import PyProof.Rows.StrJoin2
import PySem.Challenge.RW_setchains_k15_middle
set_option Elab.async false
set_option linter.all false
set_option maxRecDepth 100000
namespace L2
open PySem PySem.Spec PyProof.Rows

abbrev Key := Sum Int Str
def keyIs : Key → Value → Bool
  | .inl k, v => Value.isInt k v
  | .inr x, v => Value.isStrOf x v
def keyH (w : World) : Key → Int
  | .inl k => hashInt k
  | .inr x => hashStr w x
theorem keyIs_shape : ∀ {k : Key} {v : Value}, keyIs k v = true → (∃ i t, k = Sum.inl i ∧ v = Value.int i t) ∨ (∃ x t, k = Sum.inr x ∧ v = Value.str x t)
  | .inl i, v, h => by
    obtain ⟨t, e⟩ := Value.isInt_shape (k := i) (v := v) h
    exact .inl ⟨i, t, rfl, e⟩
  | .inr x, v, h => by
    obtain ⟨t, e⟩ := Value.isStrOf_shape (x := x) (v := v) h
    exact .inr ⟨x, t, rfl, e⟩
theorem keyIs_int (i : Int) (t : Tok) : keyIs (.inl i) (.int i t) = true := by simp [keyIs, Value.isInt]
theorem keyIs_str (x : Str) (t : Tok) : keyIs (.inr x) (.str x t) = true := by simp [keyIs, Value.isStrOf]
theorem key_ll (a b : Int) : decide ((Sum.inl a : Key) = Sum.inl b) = (a == b) := by
  by_cases e : a = b
  · subst e; simp
  · have h : ¬ (Sum.inl a : Key) = Sum.inl b := fun q => e (Sum.inl.inj q)
    rw [decide_eq_false h]
    exact (beq_eq_false_iff_ne.mpr e).symm
theorem key_rr (a b : Str) : decide ((Sum.inr a : Key) = Sum.inr b) = decide (a = b) := by
  by_cases e : a = b
  · subst e; simp
  · have h : ¬ (Sum.inr a : Key) = Sum.inr b := fun q => e (Sum.inr.inj q)
    rw [decide_eq_false h, decide_eq_false e]
theorem key_lr (a : Int) (b : Str) : decide ((Sum.inl a : Key) = Sum.inr b) = false := decide_eq_false (fun q => nomatch q)
theorem key_rl (a : Str) (b : Int) : decide ((Sum.inr a : Key) = Sum.inl b) = false := decide_eq_false (fun q => nomatch q)

def mixKind (prog : Program) (w : World) : PySem.KeyKind prog w Key where
  is := keyIs
  hash := keyH w
  inj := fun v a b ha hb => by
    rcases keyIs_shape ha with ⟨i, t, rfl, rfl⟩ | ⟨x, t, rfl, rfl⟩
    · rcases keyIs_shape hb with ⟨j, u, rfl, e⟩ | ⟨y, u, rfl, e⟩
      · injection e with e1 _; rw [e1]
      · exact nomatch e
    · rcases keyIs_shape hb with ⟨j, u, rfl, e⟩ | ⟨y, u, rfl, e⟩
      · exact nomatch e
      · injection e with e1 _; rw [e1]
  byValue := fun k v h => by
    rcases keyIs_shape h with ⟨i, t, rfl, rfl⟩ | ⟨x, t, rfl, rfl⟩ <;> rfl
  pyHash := fun hv h => by
    rcases keyIs_shape hv with ⟨i, t, rfl, rfl⟩ | ⟨x, t, rfl, rfl⟩
    · exact wpAny_pyHash_int h
    · exact wpAny_pyHash_str h
  eqBool := fun hu hv h => by
    rcases keyIs_shape hu with ⟨i, t, rfl, rfl⟩ | ⟨x, t, rfl, rfl⟩
    · rcases keyIs_shape hv with ⟨j, u, rfl, rfl⟩ | ⟨y, u, rfl, rfl⟩
      · rw [key_ll] at h; exact wpAny_eqBool_int h
      · rw [key_lr] at h; exact SeqAt.EqAt.int_str i t y u _ _ _ _ h
    · rcases keyIs_shape hv with ⟨j, u, rfl, rfl⟩ | ⟨y, u, rfl, rfl⟩
      · rw [key_rl] at h; exact SeqAt.EqAt.str_int x t j u _ _ _ _ h
      · rw [key_rr] at h; exact wpAny_eqBool_str h
  «strs» := fun k x t v h => by
    rcases keyIs_shape h with ⟨i, u, rfl, e⟩ | ⟨y, u, rfl, e⟩
    · exact nomatch e
    · injection e with e1 _
      subst e1
      cases v <;> rfl

theorem mixKind_is (prog : Program) (w : World) (k : Key) (v : Value) : (mixKind prog w).is k v = keyIs k v := rfl
theorem mixKind_int (prog : Program) (w : World) (i : Int) (t : Tok) : (mixKind prog w).is (.inl i) (.int i t) = true := keyIs_int i t
theorem mixKind_str (prog : Program) (w : World) (x : Str) (t : Tok) : (mixKind prog w).is (.inr x) (.str x t) = true := keyIs_str x t
end L2

namespace L2
open PySem PySem.Spec PyProof.Rows

inductive V where
  | non | bl (b : Bool) | int (i : Int) | str (x : Str) | byt (b : Array UInt8) | flt (b : UInt64) | ref (a : Addr) | ty (n : String)
  deriving DecidableEq

def RelV : V → Value → Prop
  | .non, u => u = Value.none
  | .bl b, u => u = Value.bool b
  | .int i, u => ∃ t, u = Value.int i t
  | .str x, u => ∃ t, u = Value.str x t
  | .byt b, u => ∃ t, u = Value.bytes b t
  | .flt b, u => ∃ t, u = Value.float b t
  | .ref a, u => u = Value.ref a
  | .ty n, u => u = Value.type n

abbrev Vals : List V → List Value → Prop := Paired RelV
theorem Vals.length {xs : List V} {us : List Value} (r : Vals xs us) : xs.length = us.length := Paired.length r
theorem Vals.get : ∀ {xs : List V} {us : List Value} {i : Nat} {x : V}, Vals xs us → xs[i]? = some x → ∃ u, us[i]? = some u ∧ RelV x u
  | _, _, _, _, .nil, e => by simp at e
  | _, _, 0, _, .cons r _, e => by simp at e; subst e; exact ⟨_, rfl, r⟩
  | _, _, i + 1, x, .cons _ t, e => by
    obtain ⟨u, h1, h2⟩ := Vals.get (i := i) (x := x) t (by simpa using e)
    exact ⟨u, by simpa using h1, h2⟩
theorem Vals.set {x : V} {u : Value} (r : RelV x u) : ∀ {xs : List V} {us : List Value} (i : Nat), Vals xs us → Vals (xs.set i x) (us.set i u)
  | _, _, _, .nil => .nil
  | _, _, 0, .cons _ t => .cons r t
  | _, _, i + 1, .cons q t => .cons q (Vals.set r i t)
theorem Vals.append : ∀ {xs ys : List V} {us ws : List Value}, Vals xs us → Vals ys ws → Vals (xs ++ ys) (us ++ ws)
  | _, _, _, _, .nil, s => s
  | _, _, _, _, .cons r t, s => .cons r (Vals.append t s)
theorem Vals.take : ∀ {xs : List V} {us : List Value} (n : Nat), Vals xs us → Vals (xs.take n) (us.take n)
  | _, _, 0, _ => .nil
  | _, _, _ + 1, .nil => .nil
  | _, _, n + 1, .cons r t => .cons r (Vals.take n t)
theorem Vals.drop : ∀ {xs : List V} {us : List Value} (n : Nat), Vals xs us → Vals (xs.drop n) (us.drop n)
  | _, _, 0, r => r
  | _, _, _ + 1, .nil => .nil
  | _, _, n + 1, .cons _ t => Vals.drop n t
theorem Vals.none_of : ∀ {xs : List V} {us : List Value} {i : Nat}, Vals xs us → xs[i]? = none → us[i]? = none := fun {xs us i} r e => by
  have h1 := r.length
  have h2 : xs.length ≤ i := List.getElem?_eq_none_iff.mp e
  exact List.getElem?_eq_none_iff.mpr (by omega)

def RelO : Option V → Option Value → Prop
  | some v, some u => RelV v u
  | none, none => True
  | _, _ => False
def KV {κ : Type} : List (κ × V) → List (κ × Value) → Prop := Paired fun (p : κ × V) (q : κ × Value) => p.1 = q.1 ∧ RelV p.2 q.2

def kV : Key → V
  | .inl i => .int i
  | .inr x => .str x

inductive HO where
  | lst (xs : List V)
  | tup (xs : List V)
  | dK (kvs : List (Key × V)) | dT (kvs : List (List Key × V))
  | set (S : Int → Bool) (n : Nat)
  | ins (C dx : Addr) (fs : List (Str × V))
  | own (x : Addr)
  | xd (fs : List (Str × V))
  | met (f x : Addr)
  | rng (lo hi : Int)
  | frz (o : Obj) (u : HO)
  | tbl (ps : Array Value)
  | ext (φ : Heap → Prop)

abbrev Hp := Addr → Option HO
def upd (H : Hp) (a : Addr) (o : HO) : Hp := fun b => if b = a then some o else H b
theorem upd_same {H : Hp} {a : Addr} {o : HO} : upd H a o a = some o := by unfold upd; rw [if_pos rfl]
theorem upd_ne {H : Hp} {a b : Addr} {o : HO} (h : b ≠ a) : upd H a o b = H b := by unfold upd; rw [if_neg h]
theorem upd_upd {H : Hp} {a : Addr} {o u : HO} : upd (upd H a o) a u = upd H a u := by
  funext b; unfold upd; split <;> rfl
theorem ne_of {H : Hp} {a b : Addr} {o u : HO} (h : H a = some o) (h' : H b = some u) (d : o ≠ u) : a ≠ b := by
  intro e; subst e; rw [h] at h'; exact d (Option.some.inj h')
theorem ne_of_none {H : Hp} {a b : Addr} {o : HO} (h : H a = some o) (h' : H b = none) : a ≠ b := by
  intro e; subst e; rw [h] at h'; cases h'

section
variable (P : Program) (w : World)
def ObjOk (H : Hp) (h : Heap) (a : Addr) : HO → Prop
  | .lst xs => xs.length ≤ sizeLine ∧ ∃ (its : List Value) (n : Nat), Vals xs its ∧ h.get? a = some { cls := .type "list", data := .seq its.toArray n }
  | .tup xs => xs.length ≤ sizeLine ∧ ∃ its : List Value, Vals xs its ∧ IsTup h a its.toArray
  | .dK kvs => kvs.length ≤ sizeLine ∧ (a == sysModules) = false ∧ ∃ vs, KV kvs vs ∧ h.DictOf (mixKind P w) a vs
  | .dT kvs => kvs.length ≤ sizeLine ∧ (a == sysModules) = false ∧ ∃ xs : List (List Key × Addr × Value),
      Paired (fun (p : List Key × V) (q : List Key × Addr × Value) => p.1 = q.1 ∧ H q.2.1 = some (.tup (p.1.map kV)) ∧ RelV p.2 q.2.2) kvs xs ∧
      ∃ o es ep, h.get? a = some o ∧ o.ExactDict ∧ o.data = .dict es ep ∧ es.toList = xs.map (entryOfKey (tupleKind (mixKind P w))) ∧ (xs.map (·.1)).Nodup
  | .set S n => h.SetOf (intKind P w) a S n
  | .ins C dx fs => H dx = some (.own a) ∧ fs.length ≤ 1000 ∧ dx ≠ a ∧ h.get? a = some (PySem.W.instObj C dx) ∧
      ∃ mA, h.Ns1 dx mA ∧ (∀ f, RelO (fs.lookup f) (mA f)) ∧ PySem.Within mA (fs.map (·.1))
  | .own _ => ∃ o, h.get? a = some o
  | .xd fs => ∃ mA, h.Ns1 a mA ∧ ∀ f, RelO (fs.lookup f) (mA f)
  | .rng lo hi => ∃ t u v, h.get? a = some { cls := .type "range", data := .fields #[.int lo t, .int hi u, .int 1 v] }
  | .frz o u => h.get? a = some o ∧ ObjOk H h a u
  | .tbl ps => h.get? a = some { cls := .none, data := .fields ps }
  | .met f x => h.get? a = some (PySem.W.methodObj (.ref f) (.ref x))
  | .ext φ => φ h ∧ (∃ o, h.get? a = some o) ∧ ∀ h1 h2 : Heap, φ h1 → (∀ o, h1.get? a = some o → h2.get? a = some o) → φ h2
def HOk (H : Hp) (h : Heap) : Prop := ∀ a o, H a = some o → ObjOk P w H h a o
end

section
variable {P : Program} {w : World} {H H' : Hp} {h h' : Heap} {a : Addr} {o : HO}
theorem ObjOk.lt (x : ObjOk P w H h a o) : a < h.objs.size := by
  cases o with
  | lst xs => obtain ⟨_, _, _, _, e⟩ := x; exact Heap.lt_size e
  | tup xs => obtain ⟨_, _, _, p⟩ := x; exact p.lt
  | dK kvs => obtain ⟨_, _, _, _, o, _, _, e, _⟩ := x; exact Heap.lt_size e
  | dT kvs => obtain ⟨_, _, _, _, o, _, _, e, _⟩ := x; exact Heap.lt_size e
  | set S n => obtain ⟨o, _, _, _, e, _⟩ := x; exact Heap.lt_size e
  | ins C dx fs => obtain ⟨_, _, _, e, _⟩ := x; exact Heap.lt_size e
  | own y => obtain ⟨_, e⟩ := x; exact Heap.lt_size e
  | xd fs => obtain ⟨_, ⟨_, _, _, e, _⟩, _⟩ := x; exact Heap.lt_size e
  | rng lo hi => obtain ⟨_, _, _, e⟩ := x; exact Heap.lt_size e
  | frz ob u => obtain ⟨e, _⟩ := x; exact Heap.lt_size e
  | tbl ps => exact Heap.lt_size (show h.get? a = some _ from x)
  | met f y => exact Heap.lt_size (show h.get? a = some _ from x)
  | ext φ => obtain ⟨_, ⟨_, e⟩, _⟩ := x; exact Heap.lt_size e
theorem Paired.mapP {α β : Type} {F G : α → β → Prop} : ∀ {l₁ : List α} {l₂ : List β}, Paired F l₁ l₂ → (∀ a b, F a b → G a b) → Paired G l₁ l₂
  | _, _, .nil, _ => .nil
  | _, _, .cons r t, f => .cons (f _ _ r) (Paired.mapP t f)
theorem Paired.imp' {α β : Type} {F G : α → β → Prop} (f : ∀ a b, F a b → G a b) {l₁ : List α} {l₂ : List β} (r : Paired F l₁ l₂) : Paired G l₁ l₂ := Paired.mapP r f
theorem ObjOk.stay (x : ObjOk P w H h a o) (k : ∀ b u, (b = a ∨ H b = some (.own a)) → h.get? b = some u → h'.get? b = some u)
    (ho : ∀ b, H b = some (.own a) → H' b = some (.own a)) (ht : ∀ b xs, H b = some (.tup xs) → H' b = some (.tup xs)) : ObjOk P w H' h' a o := by
  induction o with
  | lst xs => obtain ⟨z, its, n, r, e⟩ := x; exact ⟨z, its, n, r, k _ _ (.inl rfl) e⟩
  | tup xs => obtain ⟨z, its, r, ob, e, c⟩ := x; exact ⟨z, its, r, ob, k _ _ (.inl rfl) e, c⟩
  | dK kvs => obtain ⟨z, y, vs, r, ob, es, ep, e, c⟩ := x; exact ⟨z, y, vs, r, ob, es, ep, k _ _ (.inl rfl) e, c⟩
  | dT kvs =>
    obtain ⟨z, y, xs, r, ob, es, ep, e, c⟩ := x
    exact ⟨z, y, xs, Paired.mapP r fun p q z => ⟨z.1, ht _ _ z.2.1, z.2.2⟩, ob, es, ep, k _ _ (.inl rfl) e, c⟩
  | set S n => obtain ⟨ob, es, ep, t, e, c⟩ := x; exact ⟨ob, es, ep, t, k _ _ (.inl rfl) e, c⟩
  | ins C dx fs =>
    obtain ⟨d, z, ne, e, mA, ⟨od, es, ep, e2, c⟩, r⟩ := x
    exact ⟨ho _ d, z, ne, k _ _ (.inl rfl) e, mA, ⟨od, es, ep, k _ _ (.inr d) e2, c⟩, r⟩
  | own y => obtain ⟨ob, e⟩ := x; exact ⟨ob, k _ _ (.inl rfl) e⟩
  | xd fs => obtain ⟨mA, ⟨od, es, ep, e, c⟩, r⟩ := x; exact ⟨mA, ⟨od, es, ep, k _ _ (.inl rfl) e, c⟩, r⟩
  | rng lo hi => obtain ⟨t, u, v, e⟩ := x; exact ⟨t, u, v, k _ _ (.inl rfl) e⟩
  | frz ob u ih => obtain ⟨e, q⟩ := x; exact ⟨k _ _ (.inl rfl) e, ih q⟩
  | tbl ps =>
    have e : h.get? a = some { cls := .none, data := .fields ps } := x
    show h'.get? a = some { cls := .none, data := .fields ps }
    exact k a _ (.inl rfl) e
  | met f y =>
    have e : h.get? a = some (PySem.W.methodObj (.ref f) (.ref y)) := x
    show h'.get? a = some (PySem.W.methodObj (.ref f) (.ref y))
    exact k a _ (.inl rfl) e
  | ext φ => obtain ⟨p, ⟨o, e⟩, st⟩ := x; exact ⟨st _ _ p fun o q => k _ _ (.inl rfl) q, ⟨o, k _ _ (.inl rfl) e⟩, st⟩
theorem HOk.lt (x : HOk P w H h) (e : H a = some o) : a < h.objs.size := (x a o e).lt
theorem HOk.fresh (x : HOk P w H h) (e : h.objs.size ≤ a) : H a = none := by
  cases q : H a with
  | none => rfl
  | some u => exact absurd (Nat.lt_of_lt_of_le (x.lt q) e) (Nat.lt_irrefl _)
theorem HOk.kept (x : HOk P w H h) (k : ∀ b u, h.get? b = some u → h'.get? b = some u) : HOk P w H h' := fun a o e =>
  (x a o e).stay (fun b u _ q => k b u q) (fun _ q => q) fun _ _ q => q
theorem HOk.laid (x : HOk P w H h) (k : ∀ b u, h.get? b = some u → h'.get? b = some u) (hp : h.objs.size ≤ a) (new : ObjOk P w (upd H a o) h' a o) : HOk P w (upd H a o) h' := fun b u e => by
  have hn := x.fresh hp
  by_cases hb : b = a
  · subst hb; rw [upd_same] at e; cases e; exact new
  · rw [upd_ne hb] at e
    exact (x b u e).stay (fun c v _ q => k c v q) (fun c q => by rw [upd_ne (ne_of_none q hn)]; exact q) fun c xs q => by rw [upd_ne (ne_of_none q hn)]; exact q
end

def Rd (H : Hp) (a : Addr) (u : HO) : Prop := H a = some u ∨ ∃ o, H a = some (.frz o u)
theorem Rd.of {H : Hp} {a : Addr} {u : HO} (h : H a = some u) : Rd H a u := .inl h
theorem Rd.ok {P : Program} {w : World} {H : Hp} {h : Heap} {a : Addr} {u : HO} (r : Rd H a u) (x : HOk P w H h) : ObjOk P w H h a u := by
  rcases r with r | ⟨o, r⟩
  · exact x a u r
  · obtain ⟨_, q⟩ := x a _ r
    exact q
def Mut : Option HO → Prop
  | some (.lst _) => True
  | some (.dK _) => True
  | some (.dT _) => True
  | some (.set _ _) => True
  | some (.ins _ _ _) => True
  | some (.ext _) => True
  | _ => False
section
variable {P : Program} {w : World} {H : Hp} {h h' : Heap} {x e : Addr} {o' : HO}
theorem HOk.write (ok : HOk P w H h) (mu : Mut (H x)) (he : e = x ∨ H e = some (.own x)) (k : ∀ b u, b ≠ e → h.get? b = some u → h'.get? b = some u) (heo : ∃ u, h'.get? e = some u)
    (new : ObjOk P w (upd H x o') h' x o') : HOk P w (upd H x o') h' := fun b u q => by
  have nown : ∀ c y, H c = some (.own y) → c ≠ x := fun c y r z => by subst z; rw [r] at mu; exact mu
  have ntup : ∀ c xs, H c = some (.tup xs) → c ≠ x := fun c xs r z => by subst z; rw [r] at mu; exact mu
  by_cases hb : b = x
  · subst hb; rw [upd_same] at q; cases q; exact new
  · rw [upd_ne hb] at q
    by_cases hbe : b = e
    · have q' : H b = some (.own x) := by
        rcases he with z | z
        · exact absurd (hbe.trans z) hb
        · rw [hbe]; exact z
      rw [q] at q'; cases q'
      obtain ⟨v, hv⟩ := heo
      exact ⟨v, by rw [hbe]; exact hv⟩
    · refine (ok b u q).stay (fun c v hc r => k c v ?_ r) (fun c r => by rw [upd_ne (nown c b r)]; exact r) fun c xs r => by rw [upd_ne (ntup c xs r)]; exact r
      rcases hc with rfl | hc
      · exact hbe
      · rintro rfl
        rcases he with z | z
        · exact nown c b hc z
        · rw [hc] at z; cases z; exact hb rfl
end

structure Un (fs ex : List Addr) (H H' : Hp) (h h' : Heap) : Prop where
  keep : ∀ b o, h.get? b = some o → H b = none → b ∉ fs → b ∉ ex → h'.get? b = some o
  slot : ∀ b o, h.get? b = some o → H b = none → b ∈ fs → b ∉ ex → ∃ sl, h'.get? b = some { o with slots := sl }
  free : ∀ b o, h.get? b = some o → H b = none → b ∉ ex → H' b = none
  there : ∀ b o, h.get? b = some o → b ∉ ex → ∃ o', h'.get? b = some o'
  tups : ∀ b xs, H b = some (.tup xs) → H' b = some (.tup xs)
  frzs : ∀ b o u, H b = some (.frz o u) → H' b = some (.frz o u)
  tbls : ∀ b ps, H b = some (.tbl ps) → ∃ more, H' b = some (.tbl (ps ++ more))
section
variable {fs fs' ex ex' : List Addr} {H H1 H2 : Hp} {h h1 h2 h' : Heap} {a x e : Addr} {o : HO}
theorem Un.any (u : Un fs ex H H1 h h1) {b : Addr} {ob : Obj} (q : h.get? b = some ob) (n : H b = none) (hx : b ∉ ex) : ∃ sl, h1.get? b = some { ob with slots := sl } := by
  by_cases hb : b ∈ fs
  · exact u.slot b ob q n hb hx
  · exact ⟨ob.slots, u.keep b ob q n hb hx⟩
theorem Un.trans (a : Un fs ex H H1 h h1) (b : Un fs ex H1 H2 h1 h2) : Un fs ex H H2 h h2 where
  keep := fun c ob q n hc hx => b.keep c ob (a.keep c ob q n hc hx) (a.free c ob q n hx) hc hx
  slot := fun c ob q n hc hx => by
    obtain ⟨sl, e1⟩ := a.slot c ob q n hc hx
    obtain ⟨sl', e2⟩ := b.slot c _ e1 (a.free c ob q n hx) hc hx
    exact ⟨sl', e2⟩
  free := fun c ob q n hx => by
    obtain ⟨o', e1⟩ := a.there c ob q hx
    exact b.free c o' e1 (a.free c ob q n hx) hx
  there := fun c ob q hx => by
    obtain ⟨o', e1⟩ := a.there c ob q hx
    exact b.there c o' e1 hx
  tups := fun c xs q => b.tups c xs (a.tups c xs q)
  frzs := fun c ob xs q => b.frzs c ob xs (a.frzs c ob xs q)
  tbls := fun c ps q => by
    obtain ⟨m1, e1⟩ := a.tbls c ps q
    obtain ⟨m2, e2⟩ := b.tbls c _ e1
    exact ⟨m1 ++ m2, by rw [e2, Array.append_assoc]⟩
theorem Un.kept (k : ∀ b u, h.get? b = some u → h'.get? b = some u) : Un fs ex H H h h' :=
  ⟨fun b ob q _ _ _ => k b ob q, fun b ob q _ _ _ => ⟨ob.slots, k b ob q⟩, fun _ _ _ n _ => n, fun b ob q _ => ⟨ob, k b ob q⟩, fun _ _ q => q, fun _ _ _ q => q, fun _ ps q => ⟨#[], by rw [q]; simp⟩⟩
theorem Un.refl : Un fs ex H H h h := Un.kept fun _ _ q => q
theorem Un.laid (k : ∀ b u, h.get? b = some u → h'.get? b = some u) (hp : h.objs.size ≤ a) (hn : H a = none) : Un fs ex H (upd H a o) h h' where
  keep := fun b u q _ _ _ => k b u q
  slot := fun b u q _ _ _ => ⟨u.slots, k b u q⟩
  free := fun b u q n _ => by rw [upd_ne (Nat.ne_of_lt (Nat.lt_of_lt_of_le (Heap.lt_size q) hp))]; exact n
  there := fun b u q _ => ⟨u, k b u q⟩
  tups := fun b xs q => by rw [upd_ne (ne_of_none q hn)]; exact q
  frzs := fun b u xs q => by rw [upd_ne (ne_of_none q hn)]; exact q
  tbls := fun b ps q => ⟨#[], by rw [upd_ne (ne_of_none q hn), q]; simp⟩
theorem Un.write (mu : Mut (H x)) (he : e = x ∨ H e = some (.own x)) (k : ∀ b u, b ≠ e → h.get? b = some u → h'.get? b = some u) (heo : ∃ u, h'.get? e = some u) : Un fs ex H (upd H x o) h h' := by
  have hx : ∀ b, H b = none → b ≠ x := fun b n z => by subst z; rw [n] at mu; exact mu
  have hb : ∀ b, H b = none → b ≠ e := fun b n z => by
    subst z
    rcases he with r | r
    · exact hx b n r
    · rw [n] at r; cases r
  have hm : ∀ b u, H b = some u → ¬ Mut (some u) → b ≠ x := fun b u q nm z => by subst z; rw [q] at mu; exact nm mu
  refine ⟨fun b u q n _ _ => k b u (hb b n) q, fun b u q n _ _ => ⟨u.slots, k b u (hb b n) q⟩, fun b u q n _ => by rw [upd_ne (hx b n)]; exact n, fun b u q _ => ?_,
    fun b xs q => by rw [upd_ne (hm b _ q fun z => z)]; exact q, fun b u xs q => by rw [upd_ne (hm b _ q fun z => z)]; exact q, fun b ps q => ⟨#[], by rw [upd_ne (hm b _ q fun z => z), q]; simp⟩⟩
  by_cases hbe : b = e
  · subst hbe; exact heo
  · exact ⟨u, k b u hbe q⟩
theorem Un.mono (u : Un fs ex H H1 h h1) (hs : ∀ b ∈ fs, b ∈ fs') (hx : ∀ b ∈ ex, b ∈ ex') : Un fs' ex' H H1 h h1 :=
  ⟨fun b ob q n hb he => u.keep b ob q n (fun z => hb (hs b z)) fun z => he (hx b z), fun _ _ q n _ he => u.any q n fun z => he (hx _ z), fun b ob q n he => u.free b ob q n fun z => he (hx b z), fun b ob q he => u.there b ob q fun z => he (hx b z), u.tups, u.frzs, u.tbls⟩
end

def trk (h : Heap) (H : Hp) : List Addr := (List.range h.objs.size).filter fun a => (H a).isSome
def hidT (h : Heap) (H : Hp) : Heap := PySem.W.hideAll h (trk h H)
theorem hidT_size (h : Heap) (H : Hp) : (hidT h H).objs.size = h.objs.size := PySem.W.hideAll_size _ _
theorem hidT_get {h : Heap} {H : Hp} {b : Addr} {o : Obj} (e : h.get? b = some o) (n : H b = none) : (hidT h H).get? b = some o :=
  PySem.W.hideAll_get _ e fun hm => by
    have q : (H b).isSome = true := (List.mem_filter.mp hm).2
    rw [n] at q; simp at q
theorem of_hidT {h : Heap} {H : Hp} {b : Addr} {o : Obj} (e : (hidT h H).get? b = some o) : h.get? b = some o ∧ H b = none := by
  have e' : h.get? b = some o := PySem.W.of_hideAll (trk h H) e
  refine ⟨e', ?_⟩
  cases q : H b with
  | none => rfl
  | some x =>
    have hm : b ∈ trk h H := List.mem_filter.mpr ⟨List.mem_range.mpr (Heap.lt_size e'), by simp [q]⟩
    have z : (hidT h H).get? b = none := PySem.W.hideAll_none (trk h H) hm
    rw [z] at e; cases e

def allNews (g h : Heap) (L : Addr) : List (Addr × Obj) := (List.range h.objs.size).filterMap fun a => if a = L ∨ (g.get? a).isSome = true then none else (h.get? a).map fun o => (a, o)
theorem mem_allNews {g h : Heap} {L a : Addr} {o : Obj} (h1 : a ≠ L) (h2 : g.get? a = none) (h3 : h.get? a = some o) : (a, o) ∈ allNews g h L :=
  List.mem_filterMap.mpr ⟨a, List.mem_range.mpr (Heap.lt_size h3), by simp [h1, h2, h3]⟩
theorem of_mem_allNews {g h : Heap} {L : Addr} {p : Addr × Obj} (hp : p ∈ allNews g h L) : p.1 ≠ L ∧ g.get? p.1 = none ∧ h.get? p.1 = some p.2 := by
  obtain ⟨b, _, e⟩ := List.mem_filterMap.mp hp
  split at e
  · cases e
  · rename_i hn
    cases q : h.get? b with
    | none => rw [q] at e; simp at e
    | some u =>
      rw [q] at e
      simp only [Option.map_some, Option.some.injEq] at e
      subst e
      refine ⟨fun z => hn (.inl z), ?_, q⟩
      show g.get? b = none
      cases r : g.get? b with
      | none => rfl
      | some v => exact (hn (.inr (by simp [r]))).elim
def rest (g h : Heap) (L d : Addr) : List (Addr × Obj) := (allNews g h L).filter fun p => decide (p.1 ≠ d)
theorem rest_ne {g h : Heap} {L d : Addr} : ∀ p ∈ rest g h L d, p.1 ≠ d := fun p hp => of_decide_eq_true (List.mem_filter.mp hp).2
theorem mem_rest {g h : Heap} {L d a : Addr} {o : Obj} (h1 : a ≠ L) (h2 : g.get? a = none) (h3 : h.get? a = some o) (h4 : a ≠ d) : (a, o) ∈ rest g h L d :=
  List.mem_filter.mpr ⟨mem_allNews h1 h2 h3, decide_eq_true h4⟩
theorem news_all {g h : Heap} {L : Addr} : News g L h (allNews g h L) := fun p hp => let ⟨a, b, c⟩ := of_mem_allNews hp; ⟨c, a, b⟩
theorem news_at {g h : Heap} {L d : Addr} {o : Obj} (h1 : d ≠ L) (h2 : g.get? d = none) (h3 : h.get? d = some o) : News g L h ((d, o) :: rest g h L d) := fun p hp => by
  rcases List.mem_cons.mp hp with rfl | hp
  · exact ⟨h3, h1, h2⟩
  · exact news_all p (List.mem_filter.mp hp).1
theorem kept_of_news {g h h' : Heap} {L d : Addr} {m : Str → Option Value} (k : ∀ b o, g.get? b = some o → h.get? b = some o) (F : Fr g L h' m) (N : News g L h' (rest g h L d)) :
    ∀ b o, b ≠ L → b ≠ d → h.get? b = some o → h'.get? b = some o := fun b o h1 h2 e => by
  cases q : g.get? b with
  | some u =>
    have := k b u q
    rw [e] at this; cases this
    exact F.keep b _ q
  | none => exact (N (b, o) (mem_rest h1 q e h2)).1
end L2

namespace L2
open PySem PySem.Spec PyProof.Rows

structure Mod (K : PySem.W.Frag) (mg : Str → Option Value) (base : Heap) : Prop where
  kin : K.In base
  glob : base.Ns mainGlobals mg
  blt : ∃ mb, base.Ns builtinsNs mb ∧ ∀ x : Str, x ≠ "__name__" → mb x = bootBuiltins x
  nolimit : base.NoLimit

structure Cx where
  prog : Program
  w : World
  K : PySem.W.Frag
  mg : Str → Option Value
  base : Heap
  A : Around
  N : List Str
  s₀ : Shared
  H₀ : Hp
  env : Env
  outer : List Env
  stack : List Env
  ex : List Addr
  fn : Str → Bool
  calm : Bool
  pn : List (Addr × Obj)
  xe : Value → Shared → Prop
def frs (l : List Env) : List Addr := l.filterMap (·.frame)
abbrev Cx.fs (X : Cx) : List Addr := frs X.outer

def Vis (sc : Scope) (x : Str) : Prop := sc.names.lookup x = some .local ∨ sc.names.lookup x = some .cell ∨ sc.names.lookup x = some .free
def Loc (sc : Scope) (x : Str) : Prop := sc.names.lookup x = some .local ∨ sc.names.lookup x = some .cell
def Look (env : Env) (h : Heap) (m : Str → Option Value) (x : Str) (u : Value) : Prop :=
  (env.kindOf x = some .local ∧ m x = some u) ∨ ((env.kindOf x = some .cell ∨ env.kindOf x = some .free) ∧ ∃ c, env.cells.lookup x = some c ∧ h.IsCell c (some u))

structure Cx.Ok (X : Cx) : Prop where
  mod : Mod X.K X.mg X.base
  kind : X.env.scope.kind = .function
  glob : X.env.globals = mainGlobals
  blt : X.env.builtins = builtinsNs
  above : X.s₀.heap.objs.size ≤ X.env.locals
  inj : ∀ x y c, X.env.cells.lookup x = some c → X.env.cells.lookup y = some c → x = y
  has : ∀ x, (X.env.kindOf x = some .cell ∨ X.env.kindOf x = some .free) → ∃ c, X.env.cells.lookup x = some c
  cab : ∀ x c, X.fn x = true → X.env.cells.lookup x = some c → X.s₀.heap.objs.size ≤ c
  hd : X.calm = true → X.A.handled = none
  frames : X.A.frames = some X.stack
  stk : X.stack = X.outer ∨ (X.stack = X.env :: X.outer ∧ X.env.frame = some X.env.locals)
  exf : ∀ b ∈ X.ex, b ≠ X.env.locals ∧ ∀ x c, X.env.cells.lookup x = some c → c ≠ b
  bs : ∀ b o, X.base.get? b = some o → X.s₀.heap.get? b = some o ∧ X.H₀ b = none
  bsz : X.base.objs.size ≤ X.s₀.heap.objs.size
  noex : ∀ b o, X.base.get? b = some o → b ∉ X.ex
  exfs : ∀ b ∈ X.ex, b ∉ X.fs
  funs : X.s₀.heap.FunFrames X.base X.outer
  frf : ∀ b ∈ X.fs, X.H₀ b = none

structure Inv (X : Cx) (pins : List (Addr × Obj)) (σ : List (Option V)) (H : Hp) (s : Shared) : Prop where
  ok : X.Ok
  os : s.os = X.s₀.os
  bare : AllBare s.gens
  base : Un X.fs X.ex X.H₀ H X.s₀.heap s.heap
  loc : ∃ m, s.heap.Ns X.env.locals m ∧ ∀ (i : Nat) (x : Str) (v : V), X.N[i]? = some x → σ[i]? = some (some v) → Vis X.env.scope x → ∃ u, RelV v u ∧ Look X.env s.heap m x u
  cell : ∀ x c, X.env.cells.lookup x = some c → ∃ v, s.heap.IsCell c v
  free : H X.env.locals = none
  freeC : ∀ x c, X.env.cells.lookup x = some c → H c = none
  pin : ∀ p ∈ X.pn ++ pins, s.heap.get? p.1 = some p.2 ∧ H p.1 = none ∧ p.1 ≠ X.env.locals ∧ p.1 ∉ X.fs ∧ ∀ v, p.2.data ≠ .cell v
  hok : HOk X.prog X.w H s.heap
  len : σ.length = X.N.length

section
variable {X : Cx} {pins : List (Addr × Obj)} {σ : List (Option V)} {H H' : Hp} {s : Shared} {h' : Heap}

theorem Cx.Ok.nofr (ok : X.Ok) {b : Addr} {o : Obj} (e : X.base.get? b = some o) : b ∉ X.fs := fun hb => by
  have := (ok.funs.mem hb).1
  rw [e] at this; cases this
theorem Inv.bs (I : Inv X pins σ H s) : ∀ b o, X.base.get? b = some o → s.heap.get? b = some o ∧ H b = none := fun b o e =>
  ⟨I.base.keep b o (I.ok.bs b o e).1 (I.ok.bs b o e).2 (I.ok.nofr e) (I.ok.noex b o e), I.base.free b o (I.ok.bs b o e).1 (I.ok.bs b o e).2 (I.ok.noex b o e)⟩
theorem Inv.bk (I : Inv X pins σ H s) : ∀ b o, X.base.get? b = some o → s.heap.get? b = some o := fun b o e => (I.bs b o e).1
theorem Inv.mod (I : Inv X pins σ H s) : Mod X.K X.mg X.base := I.ok.mod
theorem Inv.kIn (I : Inv X pins σ H s) : X.K.In s.heap := I.ok.mod.kin.keeps I.bk
theorem Inv.nolimit (I : Inv X pins σ H s) : s.heap.NoLimit := I.ok.mod.nolimit.keeps I.bk
theorem Inv.fr (I : Inv X pins σ H s) : ∃ m, Fr X.base X.env.locals s.heap m :=
  let ⟨m, hn, _⟩ := I.loc
  ⟨m, hn, I.bk, Nat.le_trans I.ok.bsz I.ok.above⟩
theorem Inv.lt (I : Inv X pins σ H s) : X.env.locals < s.heap.objs.size := let ⟨_, hn, _⟩ := I.loc; hn.lt
theorem Inv.sz (I : Inv X pins σ H s) : X.s₀.heap.objs.size ≤ s.heap.objs.size := Nat.le_trans I.ok.above (Nat.le_of_lt I.lt)
theorem Inv.nofs (I : Inv X pins σ H s) {a : Addr} (h : s.heap.objs.size ≤ a) : a ∉ X.fs := fun hb => by
  obtain ⟨_, o, ho, _⟩ := I.ok.funs.mem hb
  exact absurd (Nat.lt_of_lt_of_le (Heap.lt_size ho) (Nat.le_trans I.sz h)) (Nat.lt_irrefl _)
theorem Inv.cne (I : Inv X pins σ H s) : ∀ x c, X.env.cells.lookup x = some c → c ≠ X.env.locals := fun x c e z => by
  obtain ⟨v, o, ho, hd⟩ := I.cell x c e
  obtain ⟨m, ⟨o', es, ep, ho', hd', _⟩, _⟩ := I.loc
  rw [z, ho'] at ho; cases ho; rw [hd'] at hd; cases hd
theorem Inv.funs (I : Inv X pins σ H s) : s.heap.FunFrames X.base X.outer := by
  have all : ∀ (l : List Env), (∀ b ∈ frs l, b ∈ X.fs) → X.s₀.heap.FunFrames X.base l → s.heap.FunFrames X.base l := by
    intro l
    induction l with
    | nil => intro _ _; trivial
    | cons env r ih =>
      intro hs hl
      obtain ⟨hk, ⟨L, o, hf, hn, ho, hd⟩, hr⟩ := hl
      have hL : L ∈ X.fs := hs L (by unfold frs; rw [List.filterMap_cons, hf]; exact List.mem_cons_self)
      obtain ⟨sl, e⟩ := I.base.slot L o ho (I.ok.frf L hL) hL fun z => I.ok.exfs L z hL
      exact ⟨hk, ⟨L, _, hf, hn, e, hd⟩, ih (fun b hb => hs b (by unfold frs; rw [List.filterMap_cons, hf]; exact List.mem_cons_of_mem _ hb)) hr⟩
  exact all X.outer (fun _ hb => hb) I.ok.funs

theorem Inv.stack (I : Inv X pins σ H s) : s.heap.FunFrames X.base X.stack := by
  rcases I.ok.stk with e | ⟨e, hf⟩
  · rw [e]; exact I.funs
  · rw [e]
    obtain ⟨m, hn, _⟩ := I.loc
    refine .cons (by rw [I.ok.kind]; decide) hf hn ?_ I.funs
    exact Heap.get?_none_of_le (Nat.le_trans I.ok.bsz I.ok.above)
theorem Inv.stkSub (I : Inv X pins σ H s) : ∀ b ∈ frs X.stack, b ∈ X.env.locals :: X.fs := fun b hb => by
  rcases I.ok.stk with e | ⟨e, hf⟩
  · rw [e] at hb; exact List.mem_cons_of_mem _ hb
  · rw [e] at hb
    unfold frs at hb
    rw [List.filterMap_cons, hf] at hb
    exact hb
theorem Inv.stkFree (I : Inv X pins σ H s) : ∀ b ∈ frs X.stack, H b = none := fun b hb => by
  rcases List.mem_cons.mp (I.stkSub b hb) with e | hb
  · rw [e]; exact I.free
  · obtain ⟨_, o, ho, _⟩ := I.ok.funs.mem hb
    exact I.base.free b o ho (I.ok.frf b hb) fun z => I.ok.exfs b z hb

theorem Inv.step {g' : Array GenState} {t' : Nat} {d' : Drawn} {ch : List Addr} (I : Inv X pins σ H s)
    (hch : ∀ b ∈ ch, (b ∈ X.ex ∨ X.s₀.heap.objs.size ≤ b) ∧ b ≠ X.env.locals ∧ (∀ x c, X.env.cells.lookup x = some c → c ≠ b) ∧ ∀ p ∈ X.pn ++ pins, p.1 ≠ b)
    (keep : ∀ b o, b ≠ X.env.locals → b ∉ X.fs → b ∉ ch → s.heap.get? b = some o → H b = none → h'.get? b = some o)
    (slot : ∀ b o, b ≠ X.env.locals → b ∈ X.fs → b ∉ ch → s.heap.get? b = some o → H b = none → ∃ sl, h'.get? b = some { o with slots := sl }) (free : ∀ b o, b ∉ ch → s.heap.get? b = some o → H b = none → H' b = none)
    (there : ∀ b o, b ∉ ch → s.heap.get? b = some o → ∃ o', h'.get? b = some o')
    (tups : ∀ b xs, H b = some (.tup xs) → H' b = some (.tup xs)) (frzs : ∀ b o u, H b = some (.frz o u) → H' b = some (.frz o u)) (tbls : ∀ b ps, H b = some (.tbl ps) → ∃ more, H' b = some (.tbl (ps ++ more)))
    (ns : ∀ m, s.heap.Ns X.env.locals m → h'.Ns X.env.locals m) (hok : HOk X.prog X.w H' h') (hg : AllBare g') :
    Inv X pins σ H' { s with heap := h', gens := g', drawn := d', toks := t' } := by
  have neL : ∀ b o, X.s₀.heap.get? b = some o → b ≠ X.env.locals := fun b o e => Nat.ne_of_lt (Nat.lt_of_lt_of_le (Heap.lt_size e) I.ok.above)
  have neC : ∀ b o, X.s₀.heap.get? b = some o → b ∉ X.ex → b ∉ ch := fun b o e hx hb => by
    rcases (hch b hb).1 with z | z
    · exact hx z
    · exact absurd (Nat.lt_of_lt_of_le (Heap.lt_size e) z) (Nat.lt_irrefl _)
  have cellK : ∀ x c, X.env.cells.lookup x = some c → ∀ v, s.heap.IsCell c v → h'.IsCell c v := fun x c e v ⟨o, ho, hd⟩ => by
    have nch : c ∉ ch := fun z => (hch c z).2.2.1 x c e rfl
    by_cases hc : c ∈ X.fs
    · obtain ⟨sl, q⟩ := slot c o (I.cne x c e) hc nch ho (I.freeC x c e)
      exact ⟨_, q, hd⟩
    · exact ⟨o, keep c o (I.cne x c e) hc nch ho (I.freeC x c e), hd⟩
  refine ⟨I.ok, I.os, hg, ⟨fun b o e n hb hx => ?_, fun b o e n hb hx => ?_, fun b o e n hx => ?_, fun b o e hx => ?_, fun b xs e => tups b xs (I.base.tups b xs e), fun b o xs e => frzs b o xs (I.base.frzs b o xs e), fun b ps e => ?_⟩, ?_, fun x c e => ?_, ?_, fun x c e => ?_, fun p hp => ?_, hok, I.len⟩
  · exact keep b o (neL b o e) hb (neC b o e hx) (I.base.keep b o e n hb hx) (I.base.free b o e n hx)
  · obtain ⟨sl, e1⟩ := I.base.slot b o e n hb hx
    obtain ⟨sl', e2⟩ := slot b _ (neL b o e) hb (neC b o e hx) e1 (I.base.free b o e n hx)
    exact ⟨sl', e2⟩
  · obtain ⟨o', e1⟩ := I.base.there b o e hx
    exact free b o' (neC b o e hx) e1 (I.base.free b o e n hx)
  · obtain ⟨o', e1⟩ := I.base.there b o e hx
    exact there b o' (neC b o e hx) e1
  · obtain ⟨m1, e1⟩ := I.base.tbls b ps e
    obtain ⟨m2, e2⟩ := tbls b _ e1
    exact ⟨m1 ++ m2, by rw [e2, Array.append_assoc]⟩
  · obtain ⟨m, hn, hl⟩ := I.loc
    refine ⟨m, ns m hn, fun i x v e1 e2 e3 => ?_⟩
    obtain ⟨u, r, l⟩ := hl i x v e1 e2 e3
    refine ⟨u, r, ?_⟩
    rcases l with l | ⟨k, c, e, z⟩
    · exact .inl l
    · exact .inr ⟨k, c, e, cellK x c e _ z⟩
  · obtain ⟨v, z⟩ := I.cell x c e
    exact ⟨v, cellK x c e v z⟩
  · obtain ⟨m, ⟨o, _, _, ho, _⟩, _⟩ := I.loc
    exact free _ o (fun z => (hch _ z).2.1 rfl) ho I.free
  · obtain ⟨v, o, ho, hd⟩ := I.cell x c e
    exact free c o (fun z => (hch c z).2.2.1 x c e rfl) ho (I.freeC x c e)
  · obtain ⟨e, n, ne, nf, d⟩ := I.pin p hp
    have nch : p.1 ∉ ch := fun z => (hch p.1 z).2.2.2 p hp rfl
    exact ⟨keep p.1 p.2 ne nf nch e n, free p.1 p.2 nch e n, ne, nf, d⟩
theorem Inv.un {t' : Nat} (I : Inv X pins σ H s) (u : Un X.fs [] H H' s.heap h') (hok : HOk X.prog X.w H' h') : Inv X pins σ H' { s with heap := h', toks := t' } := by
  obtain ⟨m, ⟨o, es, ep, ho, r⟩, _⟩ := id I.loc
  obtain ⟨sl, hL⟩ := u.any ho I.free (by simp)
  exact I.step (g' := s.gens) (d' := s.drawn) (ch := []) (fun _ z => nomatch z) (fun b o _ hb _ e n => u.keep b o e n hb (by simp)) (fun b o _ hb _ e n => u.slot b o e n hb (by simp)) (fun b o _ e n => u.free b o e n (by simp)) (fun b o _ e => u.there b o e (by simp)) u.tups u.frzs u.tbls (fun m' hm => by
    obtain ⟨o', es', ep', ho', r'⟩ := hm
    rw [ho] at ho'; cases ho'
    exact ⟨_, es', ep', hL, r'⟩) hok I.bare
theorem Inv.call {g' : Array GenState} {t' : Nat} {d' : Drawn} {ch : List Addr} (I : Inv X pins σ H s) (u : Un (frs X.stack) ch H H' s.heap h') (hok : HOk X.prog X.w H' h') (hg : AllBare g')
    (hch : ∀ b ∈ ch, (b ∈ X.ex ∨ X.s₀.heap.objs.size ≤ b) ∧ b ≠ X.env.locals ∧ (∀ x c, X.env.cells.lookup x = some c → c ≠ b) ∧ ∀ p ∈ X.pn ++ pins, p.1 ≠ b) :
    Inv X pins σ H' { s with heap := h', gens := g', drawn := d', toks := t' } := by
  obtain ⟨m, ⟨o, es, ep, ho, r⟩, _⟩ := id I.loc
  obtain ⟨sl, hL⟩ := u.any ho I.free fun z => (hch _ z).2.1 rfl
  exact I.step (ch := ch) hch (fun b o hL hb hc e n => u.keep b o e n (fun z => (List.mem_cons.mp (I.stkSub b z)).elim hL hb) hc) (fun b o _ _ hc e n => u.any e n hc) (fun b o hc e n => u.free b o e n hc) (fun b o hc e => u.there b o e hc) u.tups u.frzs u.tbls (fun m' hm => by
    obtain ⟨o', es', ep', ho', r'⟩ := hm
    rw [ho] at ho'; cases ho'
    exact ⟨_, es', ep', hL, r'⟩) hok hg
theorem Inv.turned {t' : Nat} {it : Addr} (I : Inv X pins σ H s) (k : ∀ b o, b ≠ it → s.heap.get? b = some o → h'.get? b = some o) (hn : H it = none) (hL : it ≠ X.env.locals)
    (h1 : it ∈ X.ex ∨ X.s₀.heap.objs.size ≤ it) (h2 : ∀ x c, X.env.cells.lookup x = some c → c ≠ it) (h3 : ∀ p ∈ X.pn ++ pins, p.1 ≠ it) : Inv X pins σ H { s with heap := h', toks := t' } := by
  have nit : ∀ b u, H b = some u → b ≠ it := fun b u e z => by rw [z, hn] at e; cases e
  refine I.step (g' := s.gens) (d' := s.drawn) (ch := [it]) (fun b hb => ?_) (fun b o _ _ hc e _ => k b o (fun z => hc (by simp [z])) e) (fun b o _ _ hc e _ => ⟨o.slots, k b o (fun z => hc (by simp [z])) e⟩) (fun _ _ _ _ n => n)
    (fun b o hc e => ⟨o, k b o (fun z => hc (by simp [z])) e⟩) (fun _ _ e => e) (fun _ _ _ e => e) (fun b ps e => ⟨#[], by rw [e]; simp⟩) (fun m hm => ?_) (fun b u e => ?_) I.bare
  · have e : b = it := by simpa using hb
    subst e
    exact ⟨h1, hL, h2, h3⟩
  · obtain ⟨o, es, ep, ho, r⟩ := hm
    exact ⟨o, es, ep, k _ o (Ne.symm hL) ho, r⟩
  · refine (I.hok b u e).stay (fun c v hc q => k c v ?_ q) (fun _ q => q) fun _ _ q => q
    rcases hc with z | z
    · rw [z]; exact nit b u e
    · exact nit c _ z
theorem Inv.tok (I : Inv X pins σ H s) (t : Nat) : Inv X pins σ H { s with toks := t } := I.un (h' := s.heap) (t' := t) Un.refl I.hok
theorem Inv.kept {t' : Nat} (I : Inv X pins σ H s) (k : ∀ b u, s.heap.get? b = some u → h'.get? b = some u) : Inv X pins σ H { s with heap := h', toks := t' } := I.un (Un.kept k) (I.hok.kept k)
theorem Inv.laid {a : Addr} {o : HO} {t' : Nat} (I : Inv X pins σ H s) (k : ∀ b u, s.heap.get? b = some u → h'.get? b = some u) (hp : s.heap.objs.size ≤ a) (new : ObjOk X.prog X.w (upd H a o) h' a o) :
    Inv X pins σ (upd H a o) { s with heap := h', toks := t' } := I.un (Un.laid k hp (I.hok.fresh hp)) (I.hok.laid k hp new)
theorem Inv.write {x e : Addr} {o : HO} {t' : Nat} (I : Inv X pins σ H s) (mu : Mut (H x)) (he : e = x ∨ H e = some (.own x)) (k : ∀ b u, b ≠ e → s.heap.get? b = some u → h'.get? b = some u) (heo : ∃ u, h'.get? e = some u)
    (new : ObjOk X.prog X.w (upd H x o) h' x o) : Inv X pins σ (upd H x o) { s with heap := h', toks := t' } := I.un (Un.write mu he k heo) (I.hok.write mu he k heo new)
theorem Inv.weak {σ' : List (Option V)} (I : Inv X pins σ H s) (hl : σ'.length = σ.length) (w : ∀ (i : Nat) v, σ'[i]? = some (some v) → σ[i]? = some (some v)) : Inv X pins σ' H s :=
  ⟨I.ok, I.os, I.bare, I.base, let ⟨m, hn, hl'⟩ := I.loc; ⟨m, hn, fun i x v e1 e2 e3 => hl' i x v e1 (w i v e2) e3⟩, I.cell, I.free, I.freeC, I.pin, I.hok, hl.trans I.len⟩
theorem Inv.pins_of {pins' : List (Addr × Obj)} (I : Inv X pins σ H s) (h : ∀ p ∈ pins', s.heap.get? p.1 = some p.2 ∧ H p.1 = none ∧ p.1 ≠ X.env.locals ∧ p.1 ∉ X.fs ∧ ∀ v, p.2.data ≠ .cell v) : Inv X pins' σ H s :=
  ⟨I.ok, I.os, I.bare, I.base, I.loc, I.cell, I.free, I.freeC, fun p hp => (List.mem_append.mp hp).elim (fun z => I.pin p (List.mem_append_left _ z)) (h p), I.hok, I.len⟩

theorem nodup_ix {N : List Str} (hN : N.Nodup) {i j : Nat} {x : Str} (a : N[i]? = some x) (b : N[j]? = some x) : i = j := by
  obtain ⟨h1, e1⟩ := List.getElem?_eq_some_iff.mp a
  obtain ⟨h2, e2⟩ := List.getElem?_eq_some_iff.mp b
  exact (List.getElem_inj hN).mp (e1.trans e2.symm)

theorem store_ok2 {M : Model} {A : Around} {E : Value → Shared → Prop} {i : Nat} {x : Str} {v : V} {u : Value} {Q : Unit → Shared → Prop} (I : Inv X pins σ H s) (hN : X.N.Nodup) (hi : X.N[i]? = some x) (hx : Loc X.env.scope x) (r : RelV v u)
    (h : ∀ s', Inv X pins (σ.set i (some v)) H s' → (∃ a, Heap.SameBut a s.heap s'.heap ∧ (a = X.env.locals ∨ X.env.cells.lookup x = some a)) → Q () s') (hf : X.fn x = true ∨ X.env.scope.names.lookup x = some .local := by first | exact .inl rfl | exact .inr rfl | assumption) : wpAny M A (storeName X.env x u) Q E s := by
  obtain ⟨m, hn, hl⟩ := id I.loc
  have hcls : (X.env.scope.kind == .class || (X.env.scope.kind == .module && X.env.locals != X.env.globals)) = false := by rw [I.ok.kind]; rfl
  have hiσ : i < σ.length := by rw [I.len]; exact (List.getElem?_eq_some_iff.mp hi).1
  have cne := I.cne
  have tracked : ∀ {a : Addr} {h' : Heap}, (∃ o, s.heap.get? a = some o ∧ H a = none) → Heap.SameBut a s.heap h' → HOk X.prog X.w H h' := fun {a h'} ha hs b ob e => by
    obtain ⟨_, _, hfree⟩ := ha
    refine (I.hok b ob e).stay (fun c w' hc q => (hs.2 c ?_).trans q) (fun _ q => q) fun _ _ q => q
    rintro rfl
    rcases hc with rfl | hc
    · rw [hfree] at e; cases e
    · rw [hfree] at hc; cases hc
  rcases hx with hk | hk
  · refine wpAny_storeName_local hk hn (fun h' hn' hs => ?_) hcls
    obtain ⟨oL, _, _, hoL, _⟩ := id hn
    refine h _ ⟨I.ok, I.os, I.bare, ⟨fun b o e n hb hx => ?_, fun b o e n hb hx => ?_, I.base.free, fun b o e hx => ?_, I.base.tups, I.base.frzs, I.base.tbls⟩, ⟨_, hn', fun j y v' e1 e2 e3 => ?_⟩, fun y c e => ?_, I.free, I.freeC, fun p hp => ?_, tracked ⟨oL, hoL, I.free⟩ hs, by simpa using I.len⟩ ⟨_, hs, .inl rfl⟩
    · exact (hs.2 b (Nat.ne_of_lt (Nat.lt_of_lt_of_le (Heap.lt_size e) I.ok.above))).trans (I.base.keep b o e n hb hx)
    · obtain ⟨sl, e1⟩ := I.base.slot b o e n hb hx
      exact ⟨sl, (hs.2 b (Nat.ne_of_lt (Nat.lt_of_lt_of_le (Heap.lt_size e) I.ok.above))).trans e1⟩
    · obtain ⟨o', e1⟩ := I.base.there b o e hx
      exact ⟨o', (hs.2 b (Nat.ne_of_lt (Nat.lt_of_lt_of_le (Heap.lt_size e) I.ok.above))).trans e1⟩
    · by_cases hj : j = i
      · subst hj
        rw [hi] at e1; cases e1
        rw [List.getElem?_set_self hiσ] at e2
        cases e2
        exact ⟨u, r, .inl ⟨hk, by simp⟩⟩
      · rw [List.getElem?_set_ne (Ne.symm hj)] at e2
        obtain ⟨u', r', q⟩ := hl j y v' e1 e2 e3
        refine ⟨u', r', ?_⟩
        rcases q with ⟨k, e⟩ | ⟨k, c, e, z⟩
        · refine .inl ⟨k, ?_⟩
          have : y ≠ x := fun e => hj (nodup_ix hN e1 (e ▸ hi))
          simp [this, e]
        · exact .inr ⟨k, c, e, z.sameBut hs (cne y c e)⟩
    · obtain ⟨w', z⟩ := I.cell y c e
      exact ⟨w', z.sameBut hs (cne y c e)⟩
    · obtain ⟨e, n, ne, nf, d⟩ := I.pin p hp
      exact ⟨(hs.2 p.1 ne).trans e, n, ne, nf, d⟩
  · have hfn : X.fn x = true := by
      rcases hf with z | z
      · exact z
      · rw [z] at hk; cases hk
    obtain ⟨c, hc⟩ := I.ok.has x (.inl hk)
    obtain ⟨w', z⟩ := I.cell x c hc
    refine wpAny_storeName_cell I.ok.kind hk hc z (fun h' hc' hs => ?_)
    obtain ⟨oc, hoc, hocd⟩ := id z
    refine h { s with heap := h' } ⟨I.ok, I.os, I.bare, ⟨fun b o e n hb hx => ?_, fun b o e n hb hx => ?_, I.base.free, fun b o e hx => ?_, I.base.tups, I.base.frzs, I.base.tbls⟩, ⟨m, hn.sameBut hs (Ne.symm (cne x c hc)), fun j y v' e1 e2 e3 => ?_⟩, fun y c' e => ?_, I.free, I.freeC, fun p hp => ?_, tracked ⟨oc, hoc, I.freeC x c hc⟩ hs, by simpa using I.len⟩ ⟨c, hs, .inr hc⟩
    · exact (hs.2 b (Nat.ne_of_lt (Nat.lt_of_lt_of_le (Heap.lt_size e) (I.ok.cab x c hfn hc)))).trans (I.base.keep b o e n hb hx)
    · obtain ⟨sl, e1⟩ := I.base.slot b o e n hb hx
      exact ⟨sl, (hs.2 b (Nat.ne_of_lt (Nat.lt_of_lt_of_le (Heap.lt_size e) (I.ok.cab x c hfn hc)))).trans e1⟩
    · obtain ⟨o', e1⟩ := I.base.there b o e hx
      exact ⟨o', (hs.2 b (Nat.ne_of_lt (Nat.lt_of_lt_of_le (Heap.lt_size e) (I.ok.cab x c hfn hc)))).trans e1⟩
    · by_cases hj : j = i
      · subst hj
        rw [hi] at e1; cases e1
        rw [List.getElem?_set_self hiσ] at e2
        cases e2
        exact ⟨u, r, .inr ⟨.inl hk, c, hc, hc'⟩⟩
      · rw [List.getElem?_set_ne (Ne.symm hj)] at e2
        obtain ⟨u', r', q⟩ := hl j y v' e1 e2 e3
        refine ⟨u', r', ?_⟩
        rcases q with q | ⟨k, c', e, z'⟩
        · exact .inl q
        · refine .inr ⟨k, c', e, z'.sameBut hs ?_⟩
          rintro rfl
          exact hj (nodup_ix hN e1 (I.ok.inj _ _ _ e hc ▸ hi))
    · by_cases hcc : c' = c
      · subst hcc; exact ⟨_, hc'⟩
      · obtain ⟨w2, z2⟩ := I.cell y c' e
        exact ⟨w2, z2.sameBut hs hcc⟩
    · obtain ⟨e, n, ne, nf, d⟩ := I.pin p hp
      refine ⟨(hs.2 p.1 ?_).trans e, n, ne, nf, d⟩
      intro q
      rw [q, hoc] at e
      have q' : oc = p.2 := Option.some.inj e
      exact d w' (by rw [← q']; exact hocd)
theorem store_ok {M : Model} {A : Around} {E : Value → Shared → Prop} {i : Nat} {x : Str} {v : V} {u : Value} {Q : Unit → Shared → Prop} (I : Inv X pins σ H s) (hN : X.N.Nodup) (hi : X.N[i]? = some x) (hx : Loc X.env.scope x) (r : RelV v u)
    (h : ∀ s', Inv X pins (σ.set i (some v)) H s' → Q () s') (hf : X.fn x = true ∨ X.env.scope.names.lookup x = some .local := by first | exact .inl rfl | exact .inr rfl | assumption) : wpAny M A (storeName X.env x u) Q E s :=
  store_ok2 I hN hi hx r (fun s' I' _ => h s' I') hf
theorem Inv.call' {s' : Shared} {ch : List Addr} (I : Inv X pins σ H s) (ho : s'.os = s.os) (u : Un (frs X.stack) ch H H' s.heap s'.heap) (hok : HOk X.prog X.w H' s'.heap) (hg : AllBare s'.gens)
    (hch : ∀ b ∈ ch, (b ∈ X.ex ∨ X.s₀.heap.objs.size ≤ b) ∧ b ≠ X.env.locals ∧ (∀ x c, X.env.cells.lookup x = some c → c ≠ b) ∧ ∀ p ∈ X.pn ++ pins, p.1 ≠ b) : Inv X pins σ H' s' := by
  obtain ⟨h', g', d', t', o'⟩ := s'
  have e : o' = s.os := ho
  subst e
  exact I.call (g' := g') (t' := t') (d' := d') u hok hg hch
end

abbrev XK := Value → Option Addr → Hp → Prop
abbrev St := List (Option V)
abbrev VK := V → Hp → Prop
abbrev TE := St → Hp → VK → Prop
abbrev TT := St → Hp → (Bool → Hp → Prop) → Prop
abbrev TA := St → Hp → (List V → Hp → Prop) → Prop
structure Ends where
  nx : St → Hp → Prop
  rt : VK
  bk : St → Hp → Prop := fun _ _ => False
  ct : St → Hp → Prop := fun _ _ => False
abbrev TS := Ends → St → Hp → Prop

def EP (X : Cx) (pins : List (Addr × Obj)) (σ : St) (Q : VK) (u : Value) (s' : Shared) : Prop := ∃ v H', Inv X pins σ H' s' ∧ RelV v u ∧ Q v H'
def TP (X : Cx) (pins : List (Addr × Obj)) (σ : St) (Q : Bool → Hp → Prop) (b : Bool) (s' : Shared) : Prop := ∃ H', Inv X pins σ H' s' ∧ Q b H'
def AP (X : Cx) (pins : List (Addr × Obj)) (σ : St) (Q : List V → Hp → Prop) (us : List Value) (s' : Shared) : Prop := ∃ vs H', Inv X pins σ H' s' ∧ Vals vs us ∧ Q vs H'
def SP (X : Cx) (pins : List (Addr × Obj)) (D : Ends) (f : Flow) (s' : Shared) : Prop :=
  match f with
  | .next => ∃ σ' H', Inv X pins σ' H' s' ∧ D.nx σ' H'
  | .brk => ∃ σ' H', Inv X pins σ' H' s' ∧ D.bk σ' H'
  | .cont => ∃ σ' H', Inv X pins σ' H' s' ∧ D.ct σ' H'
  | .ret u => ∃ v σ' H', Inv X pins σ' H' s' ∧ RelV v u ∧ D.rt v H'

def PE (X : Cx) (e : Expr) (t : TE) : Prop :=
  ∀ (pins : List (Addr × Obj)) (s : Shared) (σ : St) (H : Hp) (Q : VK), Inv X pins σ H s → t σ H Q → wpAny (model X.prog X.w) X.A (eval e X.env) (EP X pins σ Q) X.xe s
def PT (X : Cx) (e : Expr) (t : TT) : Prop :=
  ∀ (pins : List (Addr × Obj)) (s : Shared) (σ : St) (H : Hp) (Q : Bool → Hp → Prop), Inv X pins σ H s → t σ H Q → wpAny (model X.prog X.w) X.A (isTrue e X.env (eval e X.env)) (TP X pins σ Q) X.xe s
def PW (X : Cx) (e : Expr) (t : TT) : Prop :=
  ∀ (whole : Sem Value) (pins : List (Addr × Obj)) (s : Shared) (σ : St) (H : Hp) (Q : Bool → Hp → Prop), Inv X pins σ H s → t σ H Q → wpAny (model X.prog X.w) X.A (isTrue e X.env whole) (TP X pins σ Q) X.xe s
theorem PW.pt {X : Cx} {e : Expr} {t : TT} (h : PW X e t) : PT X e t := h _
def PA (X : Cx) (es : List Expr) (t : TA) : Prop :=
  ∀ (pos : Pos) (pins : List (Addr × Obj)) (s : Shared) (σ : St) (H : Hp) (Q : List V → Hp → Prop), Inv X pins σ H s → t σ H Q → wpAny (model X.prog X.w) X.A (spliced (backTo pos (starEach es X.env))) (AP X pins σ Q) X.xe s
def PS (X : Cx) (st : Stmt) (t : TS) : Prop :=
  ∀ (pins : List (Addr × Obj)) (s : Shared) (σ : St) (H : Hp) (D : Ends), Inv X pins σ H s → t D σ H → wpAny (model X.prog X.w) X.A (exec st X.env) (SP X pins D) X.xe s
def PSs (X : Cx) (st : List Stmt) (t : TS) : Prop :=
  ∀ (pins : List (Addr × Obj)) (s : Shared) (σ : St) (H : Hp) (D : Ends), Inv X pins σ H s → t D σ H → wpAny (model X.prog X.w) X.A (execs st X.env) (SP X pins D) X.xe s
theorem thn {α : Type} {t : Sem α} {Q Q' : α → Shared → Prop} {M : Model} {A : Around} {E : Value → Shared → Prop} {s : Shared} (h : wpAny M A t Q E s) (hQ : ∀ a s, Q a s → Q' a s) : wpAny M A t Q' E s := wpAny_mono h hQ fun _ _ x => x
end L2

namespace L2
open PySem PySem.Spec PyProof.Rows
section
variable {X : Cx}

theorem bin {a b : Expr} {ta tb : TE} (ha : PE X a ta) (hb : PE X b tb) {pins : List (Addr × Obj)} {s : Shared} {σ : St} {H : Hp} {R : V → V → Hp → Prop} (I : Inv X pins σ H s) (h : ta σ H fun x H1 => tb σ H1 fun y H2 => R x y H2)
    {α : Type} {Q : α → Shared → Prop} {f : Value → Value → Sem α}
    (hf : ∀ v u s2 x y H2, Inv X pins σ H2 s2 → RelV x v → RelV y u → R x y H2 → wpAny (model X.prog X.w) X.A (f v u) Q X.xe s2) :
    wpAny (model X.prog X.w) X.A (eval a X.env) (fun v s₁ => wpAny (model X.prog X.w) X.A (eval b X.env) (fun u s₂ => wpAny (model X.prog X.w) X.A (f v u) Q X.xe s₂) X.xe s₁) X.xe s := by
  refine thn (ha pins s σ H _ I h) fun v s1 ⟨x, H1, I1, r1, q1⟩ => ?_
  refine thn (hb pins s1 σ H1 _ I1 q1) fun u s2 ⟨y, H2, I2, r2, q2⟩ => ?_
  exact hf v u s2 x y H2 I2 r1 r2 q2

def tVar (i : Nat) : TE := fun σ H Q => ∃ v, σ[i]? = some (some v) ∧ Q v H
def tC (v : V) : TE := fun _ H Q => Q v H
theorem pe_var {i : Nat} {x : Str} {pos : Pos} (hN : X.N[i]? = some x) (hv : Vis X.env.scope x) (hd : (x == ("__debug__" : Str)) = false := by decide) (hcd : (x == ("__classdict__" : Str)) = false := by decide) : PE X (.Name x pos) (tVar i) := by
  intro pins s σ H Q I h
  obtain ⟨v, e, h⟩ := h
  obtain ⟨m, hn, hl⟩ := I.loc
  obtain ⟨u, r, l⟩ := hl i x v hN e hv
  have fin : EP X pins σ Q u s := ⟨v, H, I, r, h⟩
  rcases l with ⟨hk, hm⟩ | ⟨hk, c, hc, hcell⟩
  · exact wpAny_Name (wpAny_loadName_local I.ok.kind hk hn hm fin) hd
  · rcases hk with hk | hk
    · exact wpAny_Name (wpAny_loadName_cell I.ok.kind hk hc hcell fin) hd
    · exact wpAny_Name (wpAny_loadName_free I.ok.kind hk hc hcell fin hcd) hd
theorem pe_int {i j pos} : PE X (.Constant (.int i) j pos) (tC (.int i)) := fun _ _ _ H _ I h => wpAny_Constant_int ⟨.int i, H, I.tok _, ⟨_, rfl⟩, h⟩
theorem pe_bl {b j pos} : PE X (.Constant (.bool b) j pos) (tC (.bl b)) := fun _ _ _ H _ I h => Constant_bool ⟨.bl b, H, I, rfl, h⟩
theorem pe_non {j pos} : PE X (.Constant .none j pos) (tC .non) := fun _ _ _ H _ I h => Constant_none ⟨.non, H, I, rfl, h⟩
theorem pe_str {x j pos} : PE X (.Constant (.str x) j pos) (tC (.str x)) := fun _ _ _ H _ I h => Calls.Constant_str ⟨.str x, H, I.tok _, ⟨_, rfl⟩, h⟩

def Gl (X : Cx) (x : Str) : Prop := X.env.kindOf x = some .globalImplicit
theorem ld_glob {E : Value → Shared → Prop} {pins : List (Addr × Obj)} {s : Shared} {σ : St} {H : Hp} {x : Str} {u : Value} {pos : Pos} {Q : Value → Shared → Prop} (I : Inv X pins σ H s) (hg : Gl X x) (hm : X.mg x = some u) (h : Q u s)
    (hd : (x == ("__debug__" : Str)) = false := by decide) : wpAny (model X.prog X.w) X.A (eval (.Name x pos) X.env) Q E s :=
  Calls.Name_function_global I.ok.kind hg (Calls.loadGlobal_global (by rw [I.ok.glob]; exact I.mod.glob.keeps I.bk) hm h) hd
theorem ld_blt {E : Value → Shared → Prop} {pins : List (Addr × Obj)} {s : Shared} {σ : St} {H : Hp} {x : Str} {u : Value} {pos : Pos} {Q : Value → Shared → Prop} (I : Inv X pins σ H s) (hg : Gl X x) (hm : X.mg x = none) (hv : bootBuiltins x = some u) (h : Q u s)
    (hn : x ≠ "__name__" := by decide) (hd : (x == ("__debug__" : Str)) = false := by decide) : wpAny (model X.prog X.w) X.A (eval (.Name x pos) X.env) Q E s := by
  obtain ⟨mb, h1, h2⟩ := I.mod.blt
  exact Calls.Name_function_global I.ok.kind hg (Calls.loadGlobal_builtin (by rw [I.ok.glob]; exact I.mod.glob.keeps I.bk) hm (by rw [I.ok.blt]; exact h1.keeps I.bk) ((h2 x hn).trans hv) h) hd
theorem pe_glob {x : Str} {v : V} {u : Value} {pos : Pos} (hg : Gl X x) (hm : X.mg x = some u) (r : RelV v u) (hd : (x == ("__debug__" : Str)) = false := by decide) : PE X (.Name x pos) (tC v) :=
  fun _ _ _ H _ I h => ld_glob I hg hm ⟨v, H, I, r, h⟩ hd
theorem pe_bltn {x : Str} {v : V} {u : Value} {pos : Pos} (hg : Gl X x) (hm : X.mg x = none) (hv : bootBuiltins x = some u) (r : RelV v u) (hn : x ≠ "__name__" := by decide) (hd : (x == ("__debug__" : Str)) = false := by decide) : PE X (.Name x pos) (tC v) :=
  fun _ _ _ H _ I h => ld_blt I hg hm hv ⟨v, H, I, r, h⟩ hn hd

def t2I (ta tb : TE) (k : Int → Int → Hp → Prop) : St → Hp → Prop := fun σ H => ta σ H fun x H1 => tb σ H1 fun y H2 => ∃ i j, x = .int i ∧ y = .int j ∧ k i j H2
def tAdd (ta tb : TE) : TE := fun σ H Q => t2I ta tb (fun i j H2 => Q (.int (i + j)) H2) σ H
def tSub (ta tb : TE) : TE := fun σ H Q => t2I ta tb (fun i j H2 => Q (.int (i - j)) H2) σ H
def tMul (ta tb : TE) : TE := fun σ H Q => t2I ta tb (fun i j H2 => (-(2 ^ 64) < i ∧ i < 2 ^ 64) ∧ Q (.int (i * j)) H2) σ H
variable {a b : Expr} {ta tb : TE} {pos : Pos}
theorem pe_add (ha : PE X a ta) (hb : PE X b tb) : PE X (.BinOp a .Add b pos) (tAdd ta tb) := by
  intro pins s σ H Q I h
  refine wpAny_BinOp (bin ha hb I h fun v u s2 x y H2 I2 rx ry q => ?_)
  obtain ⟨i, j, rfl, rfl, q⟩ := q
  obtain ⟨t, rfl⟩ := rx
  obtain ⟨t', rfl⟩ := ry
  exact add_int ⟨.int _, H2, I2.tok _, ⟨_, rfl⟩, q⟩
theorem pe_sub (ha : PE X a ta) (hb : PE X b tb) : PE X (.BinOp a .Sub b pos) (tSub ta tb) := by
  intro pins s σ H Q I h
  refine wpAny_BinOp (bin ha hb I h fun v u s2 x y H2 I2 rx ry q => ?_)
  obtain ⟨i, j, rfl, rfl, q⟩ := q
  obtain ⟨t, rfl⟩ := rx
  obtain ⟨t', rfl⟩ := ry
  exact sub_int ⟨.int _, H2, I2.tok _, ⟨_, rfl⟩, q⟩
theorem pe_mul (ha : PE X a ta) (hb : PE X b tb) : PE X (.BinOp a .Mult b pos) (tMul ta tb) := by
  intro pins s σ H Q I h
  refine wpAny_BinOp (bin ha hb I h fun v u s2 x y H2 I2 rx ry q => ?_)
  obtain ⟨i, j, rfl, rfl, ⟨q1, q2⟩, q⟩ := q
  obtain ⟨t, rfl⟩ := rx
  obtain ⟨t', rfl⟩ := ry
  exact mul_int ⟨.int _, H2, I2.tok _, ⟨_, rfl⟩, q⟩ (.of_left (intBits_le_64 q1 q2))

def PC (X : Cx) (op : CmpOp) (a b : Expr) (t : TE) : Prop :=
  ∀ (pins : List (Addr × Obj)) (s : Shared) (σ : St) (H : Hp) (Q : VK), Inv X pins σ H s → t σ H Q →
    wpAny (model X.prog X.w) X.A (eval a X.env) (fun v s₁ => wpAny (model X.prog X.w) X.A (eval b X.env) (fun u s₂ => wpAny (model X.prog X.w) X.A (compareOp op v u) (EP X pins σ Q) X.xe s₂) X.xe s₁) X.xe s
theorem nobehind (b : Expr) {op : CmpOp} (h : op ≠ .In) (h2 : op ≠ .NotIn) : behindInMarks op b = false := by
  have e1 : (op == CmpOp.In) = false := by cases op <;> first | rfl | exact absurd rfl h
  have e2 : (op == CmpOp.NotIn) = false := by cases op <;> first | rfl | exact absurd rfl h2
  cases b <;> simp [behindInMarks, e1, e2]
def tCmp (p : Int → Int → Bool) (ta tb : TE) : TE := fun σ H Q => t2I ta tb (fun i j H2 => Q (.bl (p i j)) H2) σ H
abbrev tLt : TE → TE → TE := tCmp fun i j => decide (i < j)
abbrev tLe : TE → TE → TE := tCmp fun i j => decide (i ≤ j)
abbrev tGt : TE → TE → TE := tCmp fun i j => decide (j < i)
abbrev tGe : TE → TE → TE := tCmp fun i j => decide (j ≤ i)
abbrev tEqI : TE → TE → TE := tCmp fun i j => decide (i = j)
abbrev tNeI : TE → TE → TE := tCmp fun i j => !decide (i = j)
theorem pc_int {op : CmpOp} {p : Int → Int → Bool} (ha : PE X a ta) (hb : PE X b tb)
    (rule : ∀ (i j : Int) (t u : Tok) (Q : Value → Shared → Prop) (s : Shared), Q (.bool (p i j)) s → wpAny (model X.prog X.w) X.A (compareOp op (.int i t) (.int j u)) Q X.xe s) : PC X op a b (tCmp p ta tb) := by
  intro pins s σ H Q I h
  refine bin ha hb I h fun v u s2 x y H2 I2 rx ry q => ?_
  obtain ⟨i, j, rfl, rfl, q⟩ := q
  obtain ⟨t, rfl⟩ := rx
  obtain ⟨t', rfl⟩ := ry
  exact rule i j t t' _ s2 ⟨.bl _, H2, I2, rfl, q⟩
theorem pc_lt (ha : PE X a ta) (hb : PE X b tb) : PC X .Lt a b (tLt ta tb) := pc_int ha hb fun _ _ _ _ _ _ h => lt_int h
theorem pc_le (ha : PE X a ta) (hb : PE X b tb) : PC X .LtE a b (tLe ta tb) := pc_int ha hb fun _ _ _ _ _ _ h => le_int h
theorem pc_gt (ha : PE X a ta) (hb : PE X b tb) : PC X .Gt a b (tGt ta tb) := pc_int ha hb fun _ _ _ _ _ _ h => gt_int h
theorem pc_ge (ha : PE X a ta) (hb : PE X b tb) : PC X .GtE a b (tGe ta tb) := pc_int ha hb fun _ _ _ _ _ _ h => ge_int h
theorem pc_eqI (ha : PE X a ta) (hb : PE X b tb) : PC X .Eq a b (tEqI ta tb) := pc_int ha hb fun _ _ _ _ _ _ h => eq_int (by rw [Bool.beq_eq_decide_eq]; exact h)
theorem pc_neI (ha : PE X a ta) (hb : PE X b tb) : PC X .NotEq a b (tNeI ta tb) := pc_int ha hb fun _ _ _ _ _ _ h => ne_int (by rw [bne, Bool.beq_eq_decide_eq]; exact h)
def tIsN (ta : TE) : TE := fun σ H Q => ta σ H fun x H1 => Q (.bl (decide (x = .non))) H1
def tNotN (ta : TE) : TE := fun σ H Q => ta σ H fun x H1 => Q (.bl (!decide (x = .non))) H1
theorem RelV.none_iff {x : V} {v : Value} (r : RelV x v) : (v == Value.none) = decide (x = .non) := by
  cases x with
  | non => cases r; rfl
  | bl _ => cases r; rfl
  | int _ => obtain ⟨t, rfl⟩ := r; rfl
  | str _ => obtain ⟨t, rfl⟩ := r; rfl
  | byt _ => obtain ⟨t, rfl⟩ := r; rfl
  | flt _ => obtain ⟨t, rfl⟩ := r; rfl
  | ref _ => cases r; rfl
  | ty _ => cases r; rfl
theorem pc_isN {j pos'} (ha : PE X a ta) : PC X .Is a (.Constant .none j pos') (tIsN ta) := by
  intro pins s σ H Q I h
  refine thn (ha pins s σ H _ I h) fun v s1 ⟨x, H1, I1, r1, q1⟩ => ?_
  exact Constant_none (is_none_gen ⟨.bl _, H1, I1, by rw [r1.none_iff]; rfl, q1⟩)
theorem pc_notN {j pos'} (ha : PE X a ta) : PC X .IsNot a (.Constant .none j pos') (tNotN ta) := by
  intro pins s σ H Q I h
  refine thn (ha pins s σ H _ I h) fun v s1 ⟨x, H1, I1, r1, q1⟩ => ?_
  exact Constant_none (isnot_none_gen ⟨.bl _, H1, I1, by rw [r1.none_iff]; rfl, q1⟩)
def tB (t : TE) : TT := fun σ H Q => t σ H fun x H1 => ∃ c, x = .bl c ∧ Q c H1
theorem pe_cmp {op : CmpOp} {t : TE} (h : PC X op a b t) (h1 : behindInMarks op b = false := by first | exact nobehind _ (by decide) (by decide) | rfl) : PE X (.Compare a [op] [b] pos) t := fun pins s σ H Q I hw => wpAny_Compare1 (h pins s σ H Q I hw) h1
theorem pt_cmp {op : CmpOp} {t : TE} (h : PC X op a b t) (h1 : behindInMarks op b = false := by first | exact nobehind _ (by decide) (by decide) | rfl) : PT X (.Compare a [op] [b] pos) (tB t) := by
  intro pins s σ H Q I hw
  refine wpAny_isTrue_Compare1 (thn (h pins s σ H _ I hw) fun v s1 h1 => thn h1 fun u s2 h2 => thn h2 fun c s3 ⟨x, H1, I1, r1, q1⟩ => ?_) h1
  obtain ⟨d, rfl, q⟩ := q1
  cases r1
  exact wpAny_truthy_bool ⟨H1, I1, q⟩
theorem pt_val {e : Expr} {t : TE} (h : PE X e t) (he : ∀ whole, isTrue e X.env whole = (do let v ← whole; standAt e.pos; holding [v] (truthy v)) := by intro _; rfl) : PT X e (tB t) := by
  intro pins s σ H Q I hw
  refine isTrue_plain (thn (h pins s σ H _ I hw) fun v s1 ⟨x, H1, I1, r1, q1⟩ => ?_) (he _)
  obtain ⟨d, rfl, q⟩ := q1
  cases r1
  exact wpAny_truthy_bool ⟨H1, I1, q⟩

variable {tA tB' : TT} {rest : List Expr}
def tAnd (t u : TT) : TT := fun σ H Q => t σ H fun c H1 => if c = true then u σ H1 Q else Q false H1
def tOr (t u : TT) : TT := fun σ H Q => t σ H fun c H1 => if c = true then Q true H1 else u σ H1 Q
def tNot (t : TT) : TT := fun σ H Q => t σ H fun c H1 => Q (!c) H1
theorem pw_and1 (ha : PT X a tA) : PW X (.BoolOp .And [a] pos) tA := by
  intro wh pins s σ H Q I h
  refine isTrue_and (thn (ha pins s σ H Q I h) fun c s1 e => ?_)
  cases c with
  | true => exact isTrue_and_nil e
  | false => exact e
theorem pw_or1 (ha : PT X a tA) : PW X (.BoolOp .Or [a] pos) tA := by
  intro wh pins s σ H Q I h
  refine isTrue_or (thn (ha pins s σ H Q I h) fun c s1 e => ?_)
  cases c with
  | false => exact isTrue_or_nil e
  | true => exact e
theorem pw_and (ha : PT X a tA) (hb : PW X (.BoolOp .And (b :: rest) pos) tB') : PW X (.BoolOp .And (a :: b :: rest) pos) (tAnd tA tB') := by
  intro wh pins s σ H Q I h
  refine isTrue_and (thn (ha pins s σ H _ I h) fun c s1 ⟨H1, I1, q1⟩ => ?_)
  cases c with
  | true => exact hb wh pins s1 σ H1 Q I1 q1
  | false => exact ⟨H1, I1, q1⟩
theorem pw_or (ha : PT X a tA) (hb : PW X (.BoolOp .Or (b :: rest) pos) tB') : PW X (.BoolOp .Or (a :: b :: rest) pos) (tOr tA tB') := by
  intro wh pins s σ H Q I h
  refine isTrue_or (thn (ha pins s σ H _ I h) fun c s1 ⟨H1, I1, q1⟩ => ?_)
  cases c with
  | true => exact ⟨H1, I1, q1⟩
  | false => exact hb wh pins s1 σ H1 Q I1 q1
theorem pt_not (ha : PT X a tA) : PT X (.UnaryOp .Not a pos) (tNot tA) := by
  intro pins s σ H Q I h
  exact isTrue_not (ha pins s σ H (fun c H1 => Q (!c) H1) I h)
def tAndV (ta tb : TE) : TE := fun σ H Q => ta σ H fun x H1 => ∃ c, x = .bl c ∧ if c = true then tb σ H1 Q else Q (.bl false) H1
def tOrV (ta tb : TE) : TE := fun σ H Q => ta σ H fun x H1 => ∃ c, x = .bl c ∧ if c = true then Q (.bl true) H1 else tb σ H1 Q
def tNotV (ta : TE) : TE := fun σ H Q => ta σ H fun x H1 => ∃ c, x = .bl c ∧ Q (.bl (!c)) H1
theorem pe_one {op} {t : TE} (h : PE X a t) : PE X (.BoolOp op [a] pos) t := fun pins s σ H Q I hw => BoolOp_one (h pins s σ H Q I hw)
theorem pe_and (ha : PE X a ta) (hb : PE X (.BoolOp .And (b :: rest) pos) tb) : PE X (.BoolOp .And (a :: b :: rest) pos) (tAndV ta tb) := by
  intro pins s σ H Q I h
  refine BoolOp_and (thn (ha pins s σ H _ I h) fun v s1 ⟨x, H1, I1, r1, q1⟩ => ?_)
  obtain ⟨c, rfl, q1⟩ := q1
  cases r1
  refine wpAny_truthy_bool ?_
  cases c with
  | true => exact hb pins s1 σ H1 Q I1 q1
  | false => exact ⟨.bl false, H1, I1, rfl, q1⟩
theorem pe_or (ha : PE X a ta) (hb : PE X (.BoolOp .Or (b :: rest) pos) tb) : PE X (.BoolOp .Or (a :: b :: rest) pos) (tOrV ta tb) := by
  intro pins s σ H Q I h
  refine BoolOp_or (thn (ha pins s σ H _ I h) fun v s1 ⟨x, H1, I1, r1, q1⟩ => ?_)
  obtain ⟨c, rfl, q1⟩ := q1
  cases r1
  refine wpAny_truthy_bool ?_
  cases c with
  | false => exact hb pins s1 σ H1 Q I1 q1
  | true => exact ⟨.bl true, H1, I1, rfl, q1⟩
theorem pe_not (ha : PE X a ta) : PE X (.UnaryOp .Not a pos) (tNotV ta) := by
  intro pins s σ H Q I h
  refine UnaryOp_ (thn (ha pins s σ H _ I h) fun v s1 ⟨x, H1, I1, r1, q1⟩ => ?_)
  obtain ⟨c, rfl, q1⟩ := q1
  cases r1
  exact not_of (wpAny_truthy_bool ⟨.bl (!c), H1, I1, rfl, q1⟩)
def tIf (t : TT) (ta tb : TE) : TE := fun σ H Q => t σ H fun c H1 => if c = true then ta σ H1 Q else tb σ H1 Q
theorem pe_ifExp {c : Expr} (hc : PT X c tA) (ha : PE X a ta) (hb : PE X b tb) : PE X (.IfExp c a b pos) (tIf tA ta tb) := by
  intro pins s σ H Q I h
  refine wpAny_IfExp (thn (hc pins s σ H _ I h) fun d s1 ⟨H1, I1, q1⟩ => ?_)
  cases d with
  | true => exact ha pins s1 σ H1 Q I1 q1
  | false => exact hb pins s1 σ H1 Q I1 q1
end
end L2

namespace L2
open PySem PySem.Spec PyProof.Rows

def SqL (K : PySem.W.Frag) (H : Hp) (a : Addr) (xs : List V) : Prop :=
  Rd H a (.lst xs) ∨
    ∃ (o : Obj) (its : Array Value) (n : Nat), K.lookup a = some o ∧ o.cls = .type "list" ∧ o.dict = none ∧ o.data = .seq its n ∧ its.size ≤ sizeLine ∧ Vals xs its.toList
def SqT (K : PySem.W.Frag) (H : Hp) (a : Addr) (xs : List V) : Prop :=
  Rd H a (.tup xs) ∨
    ∃ (o : Obj) (its : Array Value) (n : Nat), K.lookup a = some o ∧ o.cls = .type "tuple" ∧ o.data = .seq its n ∧ its.size ≤ sizeLine ∧ Vals xs its.toList
def absV : Value → Option V
  | .none => some .non
  | .bool b => some (.bl b)
  | .int i _ => some (.int i)
  | .str x _ => some (.str x)
  | .bytes b _ => some (.byt b)
  | .float b _ => some (.flt b)
  | .ref a => some (.ref a)
  | .type n => some (.ty n)
  | _ => none
theorem RelV.abs {x : V} {u : Value} (r : RelV x u) : absV u = some x := by
  cases x with
  | non => cases r; rfl
  | bl _ => cases r; rfl
  | int _ => obtain ⟨t, rfl⟩ := r; rfl
  | str _ => obtain ⟨t, rfl⟩ := r; rfl
  | byt _ => obtain ⟨t, rfl⟩ := r; rfl
  | flt _ => obtain ⟨t, rfl⟩ := r; rfl
  | ref _ => cases r; rfl
  | ty _ => cases r; rfl
theorem RelV.inj {x y : V} {u : Value} (r : RelV x u) (q : RelV y u) : x = y := Option.some.inj (r.abs.symm.trans q.abs)
theorem Vals.inj : ∀ {xs ys : List V} {us : List Value}, Vals xs us → Vals ys us → xs = ys
  | _, _, _, .nil, .nil => rfl
  | _, _, _, .cons r t, .cons r' t' => by rw [r.inj r', Vals.inj t t']
section
variable {X : Cx} {pins : List (Addr × Obj)} {σ : St} {H : Hp} {s : Shared} {a : Addr} {xs ys : List V}
theorem SqL.of {K : PySem.W.Frag} (h : H a = some (.lst xs)) : SqL K H a xs := .inl (.inl h)
theorem SqT.of {K : PySem.W.Frag} (h : H a = some (.tup xs)) : SqT K H a xs := .inl (.inl h)
theorem Inv.list (I : Inv X pins σ H s) (h : SqL X.K H a xs) : ∃ its : List Value, Vals xs its ∧ PlainL s.heap a its.toArray ∧ xs.length ≤ sizeLine := by
  rcases h with h | ⟨o, its, n, hk, hc, hd, hs, hz, r⟩
  · obtain ⟨z, its, n, r, e⟩ := h.ok I.hok
    exact ⟨its, r, ⟨_, n, e, rfl, rfl, rfl⟩, z⟩
  · refine ⟨its.toList, r, ⟨o, n, I.kIn a o hk, hc, hd, by simpa using hs⟩, ?_⟩
    have e := r.length
    simp only [Array.length_toList] at e
    omega
theorem Inv.tuple (I : Inv X pins σ H s) (h : SqT X.K H a xs) : ∃ its : List Value, Vals xs its ∧ IsTup s.heap a its.toArray ∧ xs.length ≤ sizeLine := by
  rcases h with h | ⟨o, its, n, hk, hc, hs, hz, r⟩
  · obtain ⟨z, its, r, p⟩ := h.ok I.hok
    exact ⟨its, r, p, z⟩
  · refine ⟨its.toList, r, ⟨o, I.kIn a o hk, hc, n, by simpa using hs⟩, ?_⟩
    have e := r.length
    simp only [Array.length_toList] at e
    omega
theorem Inv.list_inj (I : Inv X pins σ H s) (h : SqL X.K H a xs) (h' : SqL X.K H a ys) : xs = ys := by
  obtain ⟨its, r, ⟨o, n, e, _, _, d⟩, _⟩ := I.list h
  obtain ⟨its', r', ⟨o', n', e', _, _, d'⟩, _⟩ := I.list h'
  rw [e] at e'; cases e'
  rw [d] at d'
  injection d' with d1 _
  have : its = its' := by simpa using congrArg Array.toList d1
  subst this
  exact r.inj r'
theorem Inv.tuple_inj (I : Inv X pins σ H s) (h : SqT X.K H a xs) (h' : SqT X.K H a ys) : xs = ys := by
  obtain ⟨its, r, ⟨o, e, _, n, d⟩, _⟩ := I.tuple h
  obtain ⟨its', r', ⟨o', e', _, n', d'⟩, _⟩ := I.tuple h'
  rw [e] at e'; cases e'
  rw [d] at d'
  injection d' with d1 _
  have : its = its' := by simpa using congrArg Array.toList d1
  subst this
  exact r.inj r'
end

abbrev Cx.wish (X : Cx) (E : Value → Shared → Prop) : Cx := { X with xe := E }
abbrev Cx.nox (X : Cx) : Cx := X.wish fun _ _ => False
theorem Cx.Ok.wish {X : Cx} (ok : X.Ok) (E : Value → Shared → Prop) : (X.wish E).Ok :=
  ⟨ok.mod, ok.kind, ok.glob, ok.blt, ok.above, ok.inj, ok.has, ok.cab, ok.hd, ok.frames, ok.stk, ok.exf, ok.bs, ok.bsz, ok.noex, ok.exfs, ok.funs, ok.frf⟩
theorem Cx.Ok.unwish {X : Cx} {E : Value → Shared → Prop} (ok : (X.wish E).Ok) : X.Ok :=
  ⟨ok.mod, ok.kind, ok.glob, ok.blt, ok.above, ok.inj, ok.has, ok.cab, ok.hd, ok.frames, ok.stk, ok.exf, ok.bs, ok.bsz, ok.noex, ok.exfs, ok.funs, ok.frf⟩
section
variable {X : Cx} {pins : List (Addr × Obj)} {σ : St} {H : Hp} {s : Shared} {E : Value → Shared → Prop}
theorem Inv.wish (I : Inv X pins σ H s) (E : Value → Shared → Prop) : Inv (X.wish E) pins σ H s := ⟨I.ok.wish E, I.os, I.bare, I.base, I.loc, I.cell, I.free, I.freeC, I.pin, I.hok, I.len⟩
theorem Inv.unwish (I : Inv (X.wish E) pins σ H s) : Inv X pins σ H s := ⟨I.ok.unwish, I.os, I.bare, I.base, I.loc, I.cell, I.free, I.freeC, I.pin, I.hok, I.len⟩
theorem SP.unwish {D : Ends} {f : Flow} {s' : Shared} (h : SP (X.wish E) pins D f s') : SP X pins D f s' := by
  cases f with
  | next => obtain ⟨σ', H', I, q⟩ := h; exact ⟨σ', H', I.unwish, q⟩
  | brk => obtain ⟨σ', H', I, q⟩ := h; exact ⟨σ', H', I.unwish, q⟩
  | cont => obtain ⟨σ', H', I, q⟩ := h; exact ⟨σ', H', I.unwish, q⟩
  | ret u => obtain ⟨v, σ', H', I, r, q⟩ := h; exact ⟨v, σ', H', I.unwish, r, q⟩
theorem PE.nox {e : Expr} {t : TE} (h : PE X.nox e t) : PE X e t := fun pins s σ H Q I hw =>
  wpAny_mono (h pins s σ H Q (I.wish _) hw) (fun _ _ ⟨v, H', I', r, q⟩ => ⟨v, H', I'.unwish, r, q⟩) fun _ _ z => False.elim z
theorem PT.nox {e : Expr} {t : TT} (h : PT X.nox e t) : PT X e t := fun pins s σ H Q I hw =>
  wpAny_mono (h pins s σ H Q (I.wish _) hw) (fun _ _ ⟨H', I', q⟩ => ⟨H', I'.unwish, q⟩) fun _ _ z => False.elim z
theorem PSs.nox {st : List Stmt} {t : TS} (h : PSs X.nox st t) : PSs X st t := fun pins s σ H D I hw =>
  wpAny_mono (h pins s σ H D (I.wish _) hw) (fun _ _ q => q.unwish) fun _ _ z => False.elim z
end

section
variable {X : Cx} {st : Stmt} {rest : List Stmt} {t u : TS} {e : Expr} {te : TE} {pos : Pos}
def tNext : TS := fun D σ H => D.nx σ H
def tSeq (t u : TS) : TS := fun D σ H => t { D with nx := u D } σ H
theorem pss_nil : PSs X [] tNext := fun _ _ σ H _ I h => wpAny_execs_nil ⟨σ, H, I, h⟩
theorem pss_cons (h1 : PS X st t) (h2 : PSs X rest u) : PSs X (st :: rest) (tSeq t u) := by
  intro pins s σ H D I h
  refine wpAny_execs_cons (thn (h1 pins s σ H { D with nx := u D } I h) fun f s1 q => ?_)
  cases f with
  | next =>
    obtain ⟨σ', H', I', q⟩ := q
    exact h2 pins s1 σ' H' D I' q
  | ret v => exact q
  | brk => exact q
  | cont => exact q
theorem pss_one (h1 : PS X st t) : PSs X [st] t := by
  intro pins s σ H D I h
  refine wpAny_execs_cons (thn (h1 pins s σ H D I h) fun f s1 q => ?_)
  cases f with
  | next => exact wpAny_execs_nil q
  | ret v => exact q
  | brk => exact q
  | cont => exact q
def tBreak : TS := fun D σ H => D.bk σ H
def tCont : TS := fun D σ H => D.ct σ H
theorem ps_pass : PS X (.Pass pos) tNext := fun _ _ σ H _ I h => wpAny_Pass ⟨σ, H, I, h⟩
theorem ps_break : PS X (.Break pos) tBreak := fun _ _ σ H _ I h => wpAny_Break ⟨σ, H, I, h⟩
theorem ps_continue : PS X (.Continue pos) tCont := fun _ _ σ H _ I h => wpAny_Continue ⟨σ, H, I, h⟩
theorem Inv.quiet {pins : List (Addr × Obj)} {σ : St} {H : Hp} {s : Shared} (I : Inv X pins σ H s) : interactive X.env = false := by simp [interactive, I.ok.kind]
theorem ps_doc {x j pos pos'} : PS X (.Expr (.Constant (.str x) j pos) pos') tNext := fun _ s σ H _ I h => wpAny_Expr (Calls.Constant_str (show SP X _ _ .next { s with toks := s.toks + 1 } from ⟨σ, H, I.tok _, h⟩)) I.quiet
def tDrop (te : TE) : TS := fun D σ H => te σ H fun _ H1 => D.nx σ H1
theorem ps_expr (he : PE X e te) (hs : swapsWith e none pos.line X.env = pure false := by rfl) : PS X (.Expr e pos) (tDrop te) := by
  intro pins s σ H D I h
  exact wpAny_Expr_any (thn (he pins s σ H _ I h) fun v s1 ⟨x, H1, I1, r1, q1⟩ => ⟨σ, H1, I1, q1⟩) I.quiet hs
def tRet (te : TE) : TS := fun D σ H => te σ H D.rt
theorem ps_ret (he : PE X e te) : PS X (.Return (some e) pos) (tRet te) := by
  intro pins s σ H D I h
  exact wpAny_Return_some (thn (he pins s σ H _ I h) fun v s1 ⟨x, H1, I1, r1, q1⟩ => ⟨x, σ, H1, I1, r1, q1⟩)
def tRetN : TS := fun D _ H => D.rt .non H
theorem ps_retN : PS X (.Return none pos) tRetN := fun _ _ σ H _ I h => wpAny_Return_none ⟨.non, σ, H, I, rfl, h⟩
def tIfS (c : TT) (t u : TS) : TS := fun D σ H => c σ H fun b H1 => if b = true then t D σ H1 else u D σ H1
theorem ps_if {c : Expr} {a b : List Stmt} {tc : TT} (hc : PT X c tc) (ha : PSs X a t) (hb : PSs X b u) : PS X (.If c a b pos) (tIfS tc t u) := by
  intro pins s σ H D I h
  refine wpAny_If (thn (hc pins s σ H _ I h) fun d s1 ⟨H1, I1, q1⟩ => ?_)
  cases d with
  | true => exact ha pins s1 σ H1 D I1 q1
  | false => exact hb pins s1 σ H1 D I1 q1
def tNever : TS := fun _ _ _ => False
theorem ps_never : PS X st tNever := fun _ _ _ _ _ _ h => h.elim
theorem pss_never {sts : List Stmt} : PSs X sts tNever := fun _ _ _ _ _ _ h => h.elim
end

abbrev TG := V → St → Hp → (St → Hp → Prop) → Prop
abbrev TGs := List V → St → Hp → (St → Hp → Prop) → Prop
def PG (X : Cx) (target : Expr) (t : TG) : Prop :=
  ∀ (pins : List (Addr × Obj)) (s : Shared) (σ : St) (H : Hp) (v : V) (u : Value) (Q : St → Hp → Prop), Inv X pins σ H s → RelV v u → t v σ H Q →
    wpAny (model X.prog X.w) X.A (assign target X.env u) (fun _ s' => ∃ σ' H', Inv X pins σ' H' s' ∧ Q σ' H') X.xe s
def PGs (X : Cx) (ts : List Expr) (t : TGs) : Prop :=
  ∀ (pins : List (Addr × Obj)) (s : Shared) (σ : St) (H : Hp) (vs : List V) (us : List Value) (Q : St → Hp → Prop), Inv X pins σ H s → Vals vs us → t vs σ H Q →
    wpAny (model X.prog X.w) X.A (assignInOrder ((assignEach ts X.env).map (·.2)) us) (fun _ s' => ∃ σ' H', Inv X pins σ' H' s' ∧ Q σ' H') X.xe s
abbrev TSet := V → V → V → Hp → (Hp → Prop) → Prop
def PSet (X : Cx) (t : TSet) : Prop :=
  ∀ (pins : List (Addr × Obj)) (s : Shared) (σ : St) (H : Hp) (o i v : V) (ov iv u : Value) (Q : Hp → Prop), Inv X pins σ H s → RelV o ov → RelV i iv → RelV v u → t o i v H Q →
    wpAny (model X.prog X.w) X.A (setItem ov iv u) (fun _ s' => ∃ H', Inv X pins σ H' s' ∧ Q H') X.xe s
abbrev TIp := V → V → Hp → VK → Prop
def PIp (X : Cx) (op : Operator) (t : TIp) : Prop :=
  ∀ (pins : List (Addr × Obj)) (s : Shared) (σ : St) (H : Hp) (x y : V) (v u : Value) (Q : VK), Inv X pins σ H s → RelV x v → RelV y u → t x y H Q →
    wpAny (model X.prog X.w) X.A (inplaceOp op v u) (EP X pins σ Q) X.xe s
section
variable {X : Cx} {pos : Pos}
def gName (i : Nat) : TG := fun v σ H Q => Q (σ.set i (some v)) H
theorem pg_name {i : Nat} {x : Str} (hN : X.N.Nodup) (hi : X.N[i]? = some x) (hx : Loc X.env.scope x) (hf : X.fn x = true ∨ X.env.scope.names.lookup x = some .local := by first | exact .inl rfl | exact .inr rfl | assumption) : PG X (.Name x pos) (gName i) := by
  intro pins s σ H v u Q I r h
  exact wpAny_assign_Name (store_ok I hN hi hx r (fun s' I' => ⟨_, H, I', h⟩) hf)
def gNil : TGs := fun vs σ H Q => vs = [] ∧ Q σ H
def gCons (t : TG) (u : TGs) : TGs := fun vs σ H Q => ∃ v r, vs = v :: r ∧ t v σ H fun σ' H' => u r σ' H' Q
theorem pgs_nil : PGs X [] gNil := by
  intro pins s σ H vs us Q I r h
  obtain ⟨e, h⟩ := h
  subst e
  cases r
  exact assignInOrder_nil ⟨σ, H, I, h⟩
theorem pgs_cons {e : Expr} {es : List Expr} {t : TG} {u : TGs} (h1 : PG X e t) (h2 : PGs X es u)
    (hs : (assignEach (e :: es) X.env).map (·.2) = assign e X.env :: (assignEach es X.env).map (·.2) := by rfl) : PGs X (e :: es) (gCons t u) := by
  intro pins s σ H vs us Q I r h
  obtain ⟨v, vr, e1, h⟩ := h
  subst e1
  cases r with
  | cons r rr =>
    rw [hs]
    refine assignInOrder_cons (thn (h1 pins s σ H _ _ _ I r h) fun _ s1 ⟨σ1, H1, I1, q1⟩ => ?_)
    exact h2 pins s1 σ1 H1 _ _ Q I1 rr q1
def gTup (K : PySem.W.Frag) (n : Nat) (t : TGs) : TG := fun v σ H Q => ∃ a xs, v = .ref a ∧ SqT K H a xs ∧ xs.length = n ∧ t xs σ H Q
theorem pg_tup {es : List Expr} {k : Nat} {t : TGs} {n : Nat} (hc : X.calm = true) (h : PGs X es t)
    (hn : (assignEach es X.env).length = n := by rfl) (hst : (assignEach es X.env).findIdx? (·.1) = none := by rfl) : PG X (.Tuple es k pos) (gTup X.K n t) := by
  intro pins s σ H v u Q I r hw
  obtain ⟨a, xs, e1, hq, hl, hw⟩ := hw
  subst e1
  cases r
  obtain ⟨its, rv, ht, hz⟩ := I.tuple hq
  refine assign_Tuple_tuple (I.ok.hd hc) ht (by simp [hn, ← hl, rv.length]) hst fun h' hx => ?_
  have I1 : Inv X pins σ H { s with heap := h' } := I.kept (t' := s.toks) fun b o e => hx b o (Nat.ne_of_lt (Heap.lt_size e)) e
  exact h pins _ σ H xs _ Q I1 (by simpa using rv) hw
def gSub (to ti : TE) (t : TSet) : TG := fun v σ H Q => to σ H fun o H1 => ti σ H1 fun i H2 => t o i v H2 fun H3 => Q σ H3
theorem pg_sub {o i : Expr} {to ti : TE} {t : TSet} (ho : PE X o to) (hi : PE X i ti) (hs : PSet X t)
    (ha : ∀ v, assign (.Subscript o i pos) X.env v = (do
      let ov ← holding [v] (eval o X.env)
      let iv ← holding [v, ov] (eval i X.env)
      standAt pos
      holding [v, ov, iv] (setItem ov iv v)
      release [v, ov, iv] []) := by intro _; rfl) : PG X (.Subscript o i pos) (gSub to ti t) := by
  intro pins s σ H v u Q I r h
  rw [ha]
  refine wpAny_bind (wpAny_holding (thn (ho pins s σ H _ I h) fun ov s1 ⟨x, H1, I1, r1, q1⟩ => ?_))
  refine wpAny_bind (wpAny_holding (thn (hi pins s1 σ H1 _ I1 q1) fun iv s2 ⟨y, H2, I2, r2, q2⟩ => ?_))
  refine wpAny_bind (wpAny_standAt (wpAny_bind (wpAny_holding (thn (hs pins s2 σ H2 x y v ov iv u _ I2 r1 r2 r q2) fun _ s3 ⟨H3, I3, q3⟩ => ?_))))
  exact wpAny_release ⟨σ, H3, I3, q3⟩
def tAsg (te : TE) (g : TG) : TS := fun D σ H => te σ H fun x H1 => g x σ H1 D.nx
theorem ps_asg {tg e : Expr} {te : TE} {g : TG} (he : PE X e te) (hg : PG X tg g) (hs : swapsWithSole [tg] e pos.line X.env = pure false := by rfl) (hw : swappedStores [tg] e X.env = pure none := by rfl)
    (h1 : (assignEach [tg] X.env).map (·.2) = [assign tg X.env] := by rfl) : PS X (.Assign [tg] e pos) (tAsg te g) := by
  intro pins s σ H D I h
  refine wpAny_Assign_stores (thn (he pins s σ H _ I h) fun v s1 ⟨x, H1, I1, r1, q1⟩ => ?_) hs hw
  rw [h1]
  exact thn (hg pins s1 σ H1 x v _ I1 r1 q1) fun _ s2 q => q
theorem ps_set {i : Nat} {x : Str} {e : Expr} {te : TE} {pos' : Pos} (hN : X.N.Nodup) (hi : X.N[i]? = some x) (hx : Loc X.env.scope x) (he : PE X e te) (hs : swapsWith e (some (.Name x pos')) pos.line X.env = pure false := by rfl) (hf : X.fn x = true ∨ X.env.scope.names.lookup x = some .local := by first | exact .inl rfl | exact .inr rfl | assumption) :
    PS X (.Assign [.Name x pos'] e pos) (tAsg te (gName i)) := by
  intro pins s σ H D I h
  refine wpAny_Assign_Name (thn (he pins s σ H _ I h) fun v s1 ⟨y, H1, I1, r1, q1⟩ => ?_) hs
  exact store_ok I1 hN hi hx r1 (fun s2 I2 => ⟨_, H1, I2, q1⟩) hf
def tPar (i j : Nat) (ta : TA) : TS := fun D σ H => ta σ H fun vs H1 => ∃ v w, vs = [v, w] ∧ D.nx ((σ.set i (some v)).set j (some w)) H1
theorem ps_par {i j : Nat} {x y : Str} {a b : Expr} {ta : TA} {px py pt : Pos} {kt k2 pt2} (hc : X.calm = true) (hN : X.N.Nodup) (hi : X.N[i]? = some x) (hj : X.N[j]? = some y) (hij : i ≠ j)
    (hx : X.env.scope.names.lookup x = some .local) (hy : X.env.scope.names.lookup y = some .local) (ha : PA X [a, b] ta)
    (hw : swappedStores [.Tuple [.Name x px, .Name y py] kt pt] (.Tuple [a, b] k2 pt2) X.env = pure (some [x, y]))
    (hs : swapsWithSole [.Tuple [.Name x px, .Name y py] kt pt] (.Tuple [a, b] k2 pt2) pos.line X.env = pure false := by rfl) :
    PS X (.Assign [.Tuple [.Name x px, .Name y py] kt pt] (.Tuple [a, b] k2 pt2) pos) (tPar i j ta) := by
  intro pins s σ H D I h
  rw [exec_Assign_arm]
  refine wpAny_bind (wpAny_standAt ?_)
  rw [hs]
  refine wpAny_bind (wpAny_pure ?_)
  rw [if_neg (by decide)]
  refine wpAny_bind (Tuple_ (thn (ha _ pins s σ H _ I h) fun us s1 ⟨vs, H1, I1, r1, q1⟩ => ?_))
  obtain ⟨v, w, e1, q1⟩ := q1
  subst e1
  obtain ⟨u1, u2, rfl, rv, rw'⟩ : ∃ u1 u2, us = [u1, u2] ∧ RelV v u1 ∧ RelV w u2 := by
    cases r1 with
    | cons p q =>
      cases q with
      | cons p' q' =>
        cases q'
        exact ⟨_, _, rfl, p, p'⟩
  refine wpAny_newObj_type ?_ (by show 2 ≤ sizeLine; decide)
  have I2 : Inv X pins σ H1 { s1 with heap := s1.heap.push { cls := .type "tuple", data := .seq [u1, u2].toArray } } := I1.kept (t' := s1.toks) fun b o e => Heap.get?_push_of_some _ e
  rw [hw]
  refine wpAny_bind (wpAny_pure ?_)
  show wpAny (model X.prog X.w) X.A (do rule "assign.swapped-stores"; let items ← unpackItems (.ref s1.heap.objs.size) 2 none; assignInOrder [fun v => bindName X.env y v, fun v => bindName X.env x v] items.reverse; pure Flow.next) _ _ _
  refine wpAny_bind (wpAny_rule (wpAny_bind (unpackItems_tuple (items := #[u1, u2]) (I.ok.hd hc) (IsTup.new s1.heap _) fun h' hx' => ?_)))
  have I3 := I2.kept (h' := h') (t' := s1.toks) fun b o e => hx' b o (Nat.ne_of_lt (Heap.lt_size e)) e
  show wpAny _ _ (assignInOrder [fun v => bindName X.env y v, fun v => bindName X.env x v] [u2, u1] >>= fun _ => pure Flow.next) _ _ _
  refine wpAny_bind (assignInOrder_cons (wpAny_bindName (store_ok I3 hN hj (.inl hy) rw' (fun s2 I4 => ?_) (.inr hy))))
  refine assignInOrder_cons (wpAny_bindName (store_ok I4 hN hi (.inl hx) rv (fun s3 I5 => assignInOrder_nil (wpAny_pure ?_)) (.inr hx)))
  rw [List.set_comm _ _ (Ne.symm hij)] at I5
  exact ⟨_, H1, I5, q1⟩
def tAug (i : Nat) (te : TE) (ti : TIp) : TS := fun D σ H => ∃ x, σ[i]? = some (some x) ∧ te σ H fun y H1 => ti x y H1 fun z H2 => D.nx (σ.set i (some z)) H2
theorem ps_aug {i : Nat} {x : Str} {e : Expr} {te : TE} {op : Operator} {ti : TIp} {pos' : Pos} (hN : X.N.Nodup) (hi : X.N[i]? = some x) (hx : Loc X.env.scope x) (he : PE X e te) (ho : PIp X op ti) (hf : X.fn x = true ∨ X.env.scope.names.lookup x = some .local := by first | exact .inl rfl | exact .inr rfl | assumption) :
    PS X (.AugAssign (.Name x pos') op e pos) (tAug i te ti) := by
  intro pins s σ H D I h
  obtain ⟨v, e1, h⟩ := h
  obtain ⟨m, hn, hl⟩ := I.loc
  have vis : Vis X.env.scope x := by rcases hx with k | k; exact .inl k; exact .inr (.inl k)
  obtain ⟨u, r, l⟩ := hl i x v hi e1 vis
  refine wpAny_AugAssign_Name ?_
  have go : wpAny (model X.prog X.w) X.A (eval e X.env) (fun w s₂ => wpAny (model X.prog X.w) X.A (inplaceOp op u w) (fun r s₃ => wpAny (model X.prog X.w) X.A (storeName X.env x r) (fun _ => SP X pins D .next) X.xe s₃) X.xe s₂) X.xe s := by
    refine thn (he pins s σ H _ I h) fun w s1 ⟨y, H1, I1, r1, q1⟩ => ?_
    refine thn (ho pins s1 σ H1 v y u w _ I1 r r1 q1) fun z s2 ⟨zv, H2, I2, r2, q2⟩ => ?_
    exact store_ok I2 hN hi hx r2 (fun s3 I3 => ⟨_, H2, I3, q2⟩) hf
  rcases l with ⟨hk, hm⟩ | ⟨hk, c, hc, hcell⟩
  · exact wpAny_loadName_local I.ok.kind hk hn hm go
  · rcases hk with hk | hk
    · exact wpAny_loadName_cell I.ok.kind hk hc hcell go
    · rcases hx with k | k
      · have : X.env.scope.names.lookup x = some .free := hk
        rw [k] at this; cases this
      · have : X.env.scope.names.lookup x = some .free := hk
        rw [k] at this; cases this
def tAugS (to ti te : TE) (tget : V → V → Hp → VK → Prop) (tip : TIp) (tset : TSet) : TS := fun D σ H => to σ H fun o H1 => ti σ H1 fun i H2 => tget o i H2 fun x H3 => te σ H3 fun y H4 => tip x y H4 fun z H5 => tset o i z H5 fun H6 => D.nx σ H6
def PGet (X : Cx) (t : V → V → Hp → VK → Prop) : Prop :=
  ∀ (pins : List (Addr × Obj)) (s : Shared) (σ : St) (H : Hp) (o i : V) (ov iv : Value) (Q : VK), Inv X pins σ H s → RelV o ov → RelV i iv → t o i H Q →
    wpAny (model X.prog X.w) X.A (getItem ov iv) (EP X pins σ Q) X.xe s
theorem ps_augS {o i e : Expr} {to ti te : TE} {tget : V → V → Hp → VK → Prop} {tip : TIp} {tset : TSet} {op : Operator} {tpos : Pos} (ho : PE X o to) (hi : PE X i ti) (hg : PGet X tget) (he : PE X e te) (hp : PIp X op tip) (hs : PSet X tset)
    (ha : ∀ ov iv new, augStore i ov iv new = (do holding [new, ov, iv] (setItem ov iv new); release [new, ov, iv] []; pure .next) := by intros; rfl) : PS X (.AugAssign (.Subscript o i tpos) op e pos) (tAugS to ti te tget tip tset) := by
  intro pins s σ H D I h
  refine wpAny_AugAssign_SubscriptAny (thn (ho pins s σ H _ I h) fun ov s1 ⟨x1, H1, I1, r1, q1⟩ => ?_) ha
  refine thn (hi pins s1 σ H1 _ I1 q1) fun iv s2 ⟨x2, H2, I2, r2, q2⟩ => ?_
  refine thn (hg pins s2 σ H2 x1 x2 ov iv _ I2 r1 r2 q2) fun old s3 ⟨x3, H3, I3, r3, q3⟩ => ?_
  refine thn (he pins s3 σ H3 _ I3 q3) fun v s4 ⟨x4, H4, I4, r4, q4⟩ => ?_
  refine thn (hp pins s4 σ H4 x3 x4 old v _ I4 r3 r4 q4) fun new s5 ⟨x5, H5, I5, r5, q5⟩ => ?_
  exact thn (hs pins s5 σ H5 x1 x2 x5 ov iv new _ I5 r1 r2 r5 q5) fun _ s6 ⟨H6, I6, q6⟩ => ⟨σ, H6, I6, q6⟩
def ipI (f : Int → Int → Int) : TIp := fun x y H Q => ∃ i j, x = .int i ∧ y = .int j ∧ Q (.int (f i j)) H
theorem ip_add : PIp X .Add (ipI fun i j => i + j) := by
  intro pins s σ H x y v u Q I r1 r2 h
  obtain ⟨i, j, e1, e2, q⟩ := h
  subst e1; subst e2
  obtain ⟨t, rfl⟩ := r1
  obtain ⟨t', rfl⟩ := r2
  exact iadd_int ⟨.int _, H, I.tok _, ⟨_, rfl⟩, q⟩
theorem ip_sub : PIp X .Sub (ipI fun i j => i - j) := by
  intro pins s σ H x y v u Q I r1 r2 h
  obtain ⟨i, j, e1, e2, q⟩ := h
  subst e1; subst e2
  obtain ⟨t, rfl⟩ := r1
  obtain ⟨t', rfl⟩ := r2
  exact isub_int ⟨.int _, H, I.tok _, ⟨_, rfl⟩, q⟩
end

section
variable {X : Cx} {pos : Pos}
def tWhile (c : TT) (tb : TS) : TS := fun D σ H => ∃ W : Nat → St → Hp → Prop, (∃ m, W m σ H) ∧ ∀ m σ H, W m σ H →
  c σ H fun b H1 => if b = true then ∃ N : St → Hp → Prop, (∀ σ' H', N σ' H' → ∃ m', m' < m ∧ W m' σ' H') ∧ tb { D with nx := N, ct := N, bk := D.nx } σ H1 else D.nx σ H1
theorem ps_while {c : Expr} {body : List Stmt} {tc : TT} {tb : TS} (hp : PassesOwn (model X.prog X.w) X.A X.env X.xe) (hc : PT X c tc) (hb : PSs X body tb) : PS X (.While c body [] pos) (tWhile tc tb) := by
  intro pins s σ H D I h
  obtain ⟨W, ⟨m0, w0⟩, turn⟩ := h
  refine wpAny_While (codeAny_whileLoop (fun n s' => ∃ σ' H', Inv X pins σ' H' s' ∧ W n σ' H') ?_ m0 ⟨σ, H, I, w0⟩)
  rintro n s1 ⟨σ1, H1, I1, w1⟩
  refine wpAny_passesOwn hp (thn (hc pins s1 σ1 H1 _ I1 (turn n σ1 H1 w1)) fun b s2 ⟨H2, I2, q2⟩ => ?_)
  cases b with
  | true =>
    obtain ⟨N, hN, q2⟩ := q2
    rw [if_pos rfl]
    refine wpAny_passesOwn hp (thn (hb pins s2 σ1 H2 _ I2 q2) fun f s3 q3 => ?_)
    cases f with
    | next =>
      obtain ⟨σ3, H3, I3, n3⟩ := q3
      obtain ⟨m', hm, w3⟩ := hN σ3 H3 n3
      exact ⟨m', hm, σ3, H3, I3, w3⟩
    | cont =>
      obtain ⟨σ3, H3, I3, n3⟩ := q3
      obtain ⟨m', hm, w3⟩ := hN σ3 H3 n3
      exact ⟨m', hm, σ3, H3, I3, w3⟩
    | brk => exact q3
    | ret v => exact q3
  | false =>
    rw [if_neg Bool.false_ne_true]
    exact wpAny_execs_nil ⟨σ1, H2, I2, q2⟩
end

structure It where
  go : Nat → Hp → Prop
  yld : Nat → Hp → V → Hp → Prop
  stop : Nat → Hp → Prop
def FpOk (X : Cx) (pins : List (Addr × Obj)) (H : Hp) (b : Addr) : Prop :=
  H b = none ∧ b ≠ X.env.locals ∧ b ∉ X.fs ∧ (b ∈ X.ex ∨ X.s₀.heap.objs.size ≤ b) ∧ (∀ x c, X.env.cells.lookup x = some c → c ≠ b) ∧ ∀ p ∈ X.pn ++ pins, p.1 ≠ b
theorem Inv.fpOk {X : Cx} {pins : List (Addr × Obj)} {σ : St} {H H' : Hp} {s : Shared} {b : Addr} (I : Inv X pins σ H s) (hb : s.heap.objs.size ≤ b) (hn : H' b = none) : FpOk X pins H' b := by
  refine ⟨hn, Nat.ne_of_gt (Nat.lt_of_lt_of_le I.lt hb), I.nofs hb, .inr (Nat.le_trans I.sz hb), fun x c e z => ?_, fun p hp z => ?_⟩
  · obtain ⟨v, q⟩ := I.cell x c e
    exact absurd (Nat.lt_of_lt_of_le q.lt (by rw [z]; exact hb)) (Nat.lt_irrefl _)
  · exact absurd (Nat.lt_of_lt_of_le (Heap.lt_size (I.pin p hp).1) (by rw [z]; exact hb)) (Nat.lt_irrefl _)
structure Turn (P : Program) (w : World) (K : PySem.W.Frag) (tg : Expr) (J : It) (fp : List Addr) (it : Addr) (tn : Nat → Heap → Prop) : Prop where
  mem : it ∈ fp
  obj : ∀ i h, tn i h → ∀ b ∈ fp, ∃ o, h.get? b = some o ∧ ∀ v, o.data ≠ .cell v
  keep : ∀ i h h', tn i h → (∀ b ∈ fp, ∀ o, h.get? b = some o → h'.get? b = some o) → tn i h'
  item : ∀ (X : Cx), X.prog = P → X.w = w → X.K = K → X.calm = true → ∀ (i : Nat) (pins : List (Addr × Obj)) (s : Shared) (σ : St) (H : Hp) (E : Value → Shared → Prop), Inv X pins σ H s → (∀ b ∈ fp, FpOk X pins H b) → tn i s.heap → J.go i H →
    wpAny (model P w) X.A (pyNext (.ref it)) (fun r s1 => ∃ u, r = some u ∧
      wpAny (model P w) X.A (letOwnedTupleGo tg (.ref it) u) (fun _ s2 => ∃ x H', Inv X pins σ H' s2 ∧ RelV x u ∧ J.yld i H x H' ∧ tn (i + 1) s2.heap ∧ ∀ b ∈ fp, H' b = none) E s1) E s
  done : ∀ (X : Cx), X.prog = P → X.w = w → X.K = K → X.calm = true → ∀ (i : Nat) (pins : List (Addr × Obj)) (s : Shared) (σ : St) (H : Hp) (E : Value → Shared → Prop), Inv X pins σ H s → (∀ b ∈ fp, FpOk X pins H b) → tn i s.heap → J.stop i H →
    wpAny (model P w) X.A (pyNext (.ref it)) (fun r s1 => r = none ∧ Inv X pins σ H s1) E s
  self : ∀ (A : Around) (i : Nat) (s : Shared) (Q : Value → Shared → Prop) (E : Value → Shared → Prop), tn i s.heap → Q (.ref it) s → wpAny (model P w) A (pyIter (.ref it)) Q E s
abbrev TI := St → Hp → (It → Hp → Prop) → Prop
def PIE (X : Cx) (pins : List (Addr × Obj)) (σ : St) (tg : Expr) (R : It → Hp → Prop) (itv : Value) (s2 : Shared) : Prop :=
  ∃ (it : Addr) (fp : List Addr) (tn : Nat → Heap → Prop) (J : It) (H' : Hp), itv = .ref it ∧ Inv X pins σ H' s2 ∧ Turn X.prog X.w X.K tg J fp it tn ∧ tn 0 s2.heap ∧ (∀ b ∈ fp, FpOk X pins H' b) ∧ R J H'
def PI (X : Cx) (tg iter : Expr) (wi : TI) : Prop :=
  ∀ (pins : List (Addr × Obj)) (s : Shared) (σ : St) (H : Hp) (R : It → Hp → Prop), Inv X pins σ H s → wi σ H R →
    wpAny (model X.prog X.w) X.A (eval iter X.env) (fun v s1 => wpAny (model X.prog X.w) X.A (pyIter v) (PIE X pins σ tg R) X.xe s1) X.xe s

theorem go_of {M : Model} {A : Around} {E : Value → Shared → Prop} {s : Shared} {tg : Expr} {it : Addr} {u : Value} {o : Obj} {n : String} {vs : Array Value} {Q : Unit → Shared → Prop} (ho : s.heap.get? it = some o) (hc : o.cls = .type n) (hd : o.data = .fields vs)
    (hn : ["enumerate", "zip", "dict_itemiterator", "dict_reverseitemiterator", "odict_iterator", "itertools.zip_longest", "itertools.pairwise"].contains n = false) (hQ : Q () s) : wpAny M A (letOwnedTupleGo tg (.ref it) u) Q E s := by
  unfold letOwnedTupleGo
  cases tg <;> first
    | exact wpAny_pure hQ
    | (cases u <;> first
        | exact wpAny_pure hQ
        | (refine wpAny_bind (wpAny_load ho ?_)
           rw [hc, hd]
           show wpAny M A (if (["enumerate", "zip", "dict_itemiterator", "dict_reverseitemiterator", "odict_iterator", "itertools.zip_longest", "itertools.pairwise"].contains n && vs[0]? == some (rawInt _)) = true then _ else _) Q E s
           rw [if_neg (by intro h; rw [hn, Bool.false_and] at h; cases h)]
           exact wpAny_pure hQ))

def Itl (K : PySem.W.Frag) (a : Addr) : It :=
  ⟨fun i H => ∃ xs x, SqL K H a xs ∧ xs[i]? = some x, fun i H x H' => H' = H ∧ ∀ xs, SqL K H a xs → xs[i]? = some x, fun i H => ∃ xs, SqL K H a xs ∧ xs.length ≤ i⟩
def Itt (K : PySem.W.Frag) (a : Addr) : It :=
  ⟨fun i H => ∃ xs x, SqT K H a xs ∧ xs[i]? = some x, fun i H x H' => H' = H ∧ ∀ xs, SqT K H a xs → xs[i]? = some x, fun i H => ∃ xs, SqT K H a xs ∧ xs.length ≤ i⟩
def Itr (lo : Int) (n : Nat) : It := ⟨fun i _ => i < n, fun i H x H' => H' = H ∧ x = .int (lo + i), fun i _ => n ≤ i⟩
theorem turn_list {P : Program} {w : World} {K : PySem.W.Frag} {tg : Expr} (a it : Addr) : Turn P w K tg (Itl K a) [it] it (fun i h => h.IsListIter it a i) where
  mem := by simp
  obj := fun i h st b hb => by
    have e : b = it := by simpa using hb
    subst e
    obtain ⟨o, e, c, d⟩ := st
    exact ⟨o, e, fun v z => by rw [d] at z; cases z⟩
  keep := fun i h h' st k => st.at fun o e => k it (by simp) o e
  item := by
    intro X hP hw hK hc i pins s σ H E I hf st hg
    subst hP hw hK
    obtain ⟨xs, x, hq, hx⟩ := hg
    obtain ⟨its, rv, p, hz⟩ := I.list hq
    obtain ⟨u, hu, ru⟩ := rv.get hx
    obtain ⟨f0, f1, f2, f3, f4, f5⟩ := hf it (by simp)
    refine wpAny_pyNext_list_item st p.isList (x := u) (by simpa using hu) fun h' st' sb => ?_
    have I1 : Inv X pins σ H { s with heap := h' } := I.turned (t' := s.toks) (fun b o hb e => (sb.2 b hb).trans e) f0 f1 f3 f4 f5
    obtain ⟨o, e, c, d⟩ := id st'
    exact ⟨u, rfl, go_of (s := { s with heap := h' }) e c d (by decide) ⟨x, H, I1, ru, ⟨rfl, fun ys hy => by rw [I.list_inj hy hq]; exact hx⟩, st', fun b hb => (hf b hb).1⟩⟩
  done := by
    intro X hP hw hK hc i pins s σ H E I hf st hg
    subst hP hw hK
    obtain ⟨xs, hq, hx⟩ := hg
    obtain ⟨its, rv, p, hz⟩ := I.list hq
    obtain ⟨f0, f1, f2, f3, f4, f5⟩ := hf it (by simp)
    have hl := rv.length
    exact wpAny_pyNext_list_end (I.ok.hd hc) st p.isList (by simp; omega) fun h' eb => ⟨rfl, I.turned (t' := s.toks) (fun b o hb e => eb b o hb e) f0 f1 f3 f4 f5⟩
  self := fun _ _ _ _ _ st h => wpAny_pyIter_listiter st h
theorem turn_tuple {P : Program} {w : World} {K : PySem.W.Frag} {tg : Expr} (a it : Addr) : Turn P w K tg (Itt K a) [it] it (fun i h => h.IsTupleIter it a i) where
  mem := by simp
  obj := fun i h st b hb => by
    have e : b = it := by simpa using hb
    subst e
    obtain ⟨o, e, c, d⟩ := st
    exact ⟨o, e, fun v z => by rw [d] at z; cases z⟩
  keep := fun i h h' st k => st.at fun o e => k it (by simp) o e
  item := by
    intro X hP hw hK hc i pins s σ H E I hf st hg
    subst hP hw hK
    obtain ⟨xs, x, hq, hx⟩ := hg
    obtain ⟨its, rv, p, hz⟩ := I.tuple hq
    obtain ⟨u, hu, ru⟩ := rv.get hx
    obtain ⟨f0, f1, f2, f3, f4, f5⟩ := hf it (by simp)
    refine wpAny_pyNext_tuple_item st (show s.heap.IsTuple a its.toArray from p) (x := u) (by simpa using hu) fun h' st' sb => ?_
    have I1 : Inv X pins σ H { s with heap := h' } := I.turned (t' := s.toks) (fun b o hb e => (sb.2 b hb).trans e) f0 f1 f3 f4 f5
    obtain ⟨o, e, c, d⟩ := id st'
    exact ⟨u, rfl, go_of (s := { s with heap := h' }) e c d (by decide) ⟨x, H, I1, ru, ⟨rfl, fun ys hy => by rw [I.tuple_inj hy hq]; exact hx⟩, st', fun b hb => (hf b hb).1⟩⟩
  done := by
    intro X hP hw hK hc i pins s σ H E I hf st hg
    subst hP hw hK
    obtain ⟨xs, hq, hx⟩ := hg
    obtain ⟨its, rv, p, hz⟩ := I.tuple hq
    obtain ⟨f0, f1, f2, f3, f4, f5⟩ := hf it (by simp)
    have hl := rv.length
    exact wpAny_pyNext_tuple_end (I.ok.hd hc) st (show s.heap.IsTuple a its.toArray from p) (by simp; omega) fun h' eb => ⟨rfl, I.turned (t' := s.toks) (fun b o hb e => eb b o hb e) f0 f1 f3 f4 f5⟩
  self := fun _ _ _ _ _ st h => wpAny_pyIter_tupleiter st h
theorem turn_range {P : Program} {w : World} {K : PySem.W.Frag} {tg : Expr} (it : Addr) (lo : Int) (n : Nat) : Turn P w K tg (Itr lo n) [it] it (fun i h => IsRangeIter h it (lo + (i : Nat) * 1) ((n : Int) - (i : Nat)) 1) where
  mem := by simp
  obj := fun i h st b hb => by
    have e : b = it := by simpa using hb
    subst e
    exact ⟨_, st, fun v z => by
      have z' : Data.fields _ = Data.cell v := z
      cases z'⟩
  keep := fun i h h' st k => k it (by simp) _ st
  item := by
    intro X hP hw hK hc i pins s σ H E I hf st hg
    subst hP hw hK
    obtain ⟨f0, f1, f2, f3, f4, f5⟩ := hf it (by simp)
    have W := Walks.range (prog := X.prog) (w := X.w) (I.ok.hd hc) it lo 1 n
    refine W.item i s _ _ hg st fun v h' tk hv st' kk => ?_
    obtain ⟨t, rfl⟩ := hv
    have I1 : Inv X pins σ H { s with heap := h', toks := tk } := I.turned (fun b o hb e => kk b o (by simpa using hb) e) f0 f1 f3 f4 f5
    refine ⟨_, rfl, go_of (s := { s with heap := h', toks := tk }) (n := "range_iterator") st' rfl rfl (by decide) ⟨.int (lo + i), H, I1, ⟨t, ?_⟩, ⟨rfl, rfl⟩, st', fun b hb => (hf b hb).1⟩⟩
    rw [Int.mul_one]
  done := by
    intro X hP hw hK hc i pins s σ H E I hf st hg
    subst hP hw hK
    obtain ⟨f0, f1, f2, f3, f4, f5⟩ := hf it (by simp)
    exact wpAny_pyNext_range_end (I.ok.hd hc) st (by have : n ≤ i := hg; omega) fun h' eb => ⟨rfl, I.turned (t' := s.toks) (fun b o hb e => eb b o hb e) f0 f1 f3 f4 f5⟩
  self := fun _ _ _ _ _ st h => wpAny_pyIter_rangeiter st h
end L2

namespace L2
open PySem PySem.Spec PyProof.Rows
section
variable {X : Cx} {tg : Expr}
def iList (K : PySem.W.Frag) (tl : TE) : TI := fun σ H R => tl σ H fun x H1 => ∃ a, x = .ref a ∧ (∃ xs, SqL K H1 a xs) ∧ R (Itl K a) H1
def iTup (K : PySem.W.Frag) (tl : TE) : TI := fun σ H R => tl σ H fun x H1 => ∃ a, x = .ref a ∧ (∃ xs, SqT K H1 a xs) ∧ R (Itt K a) H1
theorem pi_list {l : Expr} {tl : TE} (hl : PE X l tl) : PI X tg l (iList X.K tl) := by
  intro pins s σ H R I h
  refine thn (hl pins s σ H _ I h) fun v s1 ⟨x, H1, I1, r1, q1⟩ => ?_
  obtain ⟨a, e, ⟨xs, hq⟩, q⟩ := q1
  subst e
  cases r1
  obtain ⟨its, rv, p, hz⟩ := I1.list hq
  refine wpAny_pyIter_list p.isList ?_
  refine ⟨s1.heap.objs.size, [s1.heap.objs.size], _, _, H1, rfl, I1.kept (t' := s1.toks) fun b o e => Heap.get?_push_of_some _ e, turn_list a _, ⟨_, Heap.get?_push_size _ rfl, rfl, rfl⟩, fun b hb => ?_, q⟩
  have e : b = s1.heap.objs.size := by simpa using hb
  subst e
  exact I1.fpOk (Nat.le_refl _) (I1.hok.fresh (Nat.le_refl _))
theorem pi_tup {l : Expr} {tl : TE} (hl : PE X l tl) : PI X tg l (iTup X.K tl) := by
  intro pins s σ H R I h
  refine thn (hl pins s σ H _ I h) fun v s1 ⟨x, H1, I1, r1, q1⟩ => ?_
  obtain ⟨a, e, ⟨xs, hq⟩, q⟩ := q1
  subst e
  cases r1
  obtain ⟨its, rv, p, hz⟩ := I1.tuple hq
  refine wpAny_pyIter_tuple (show s1.heap.IsTuple a its.toArray from p) ?_
  refine ⟨s1.heap.objs.size, [s1.heap.objs.size], _, _, H1, rfl, I1.kept (t' := s1.toks) fun b o e => Heap.get?_push_of_some _ e, turn_tuple a _, ⟨_, Heap.get?_push_size _ rfl, rfl, rfl⟩, fun b hb => ?_, q⟩
  have e : b = s1.heap.objs.size := by simpa using hb
  subst e
  exact I1.fpOk (Nat.le_refl _) (I1.hok.fresh (Nat.le_refl _))
theorem range_it {pins : List (Addr × Obj)} {σ : St} {H : Hp} {s : Shared} {R : It → Hp → Prop} {E : Value → Shared → Prop} {lo hi : Int} {t u v : Tok} {tk : Nat} (I : Inv X pins σ H s) (h1 : -(2 ^ 62) ≤ lo) (h2 : lo < 2 ^ 62) (h3 : -(2 ^ 62) ≤ hi) (h4 : hi < 2 ^ 62)
    (q : R (Itr lo (hi - lo).toNat) H) : wpAny (model X.prog X.w) X.A (pyIter (.ref s.heap.objs.size)) (PIE X pins σ tg R) E { s with heap := s.heap.push { cls := .type "range", data := .fields #[.int lo t, .int hi u, .int 1 v] }, toks := tk } := by
  refine wpAny_pyIter_range (IsRange.new ..) (small_one h1 h2 h3 h4) ?_
  have I1 : Inv X pins σ H { s with heap := s.heap.push { cls := .type "range", data := .fields #[.int lo t, .int hi u, .int 1 v] }, toks := tk } := I.kept fun b o e => Heap.get?_push_of_some _ e
  refine ⟨(s.heap.push { cls := .type "range", data := .fields #[.int lo t, .int hi u, .int 1 v] }).objs.size, [(s.heap.push { cls := .type "range", data := .fields #[.int lo t, .int hi u, .int 1 v] }).objs.size], _, _, H, rfl,
    I1.kept (t' := tk) fun b o e => Heap.get?_push_of_some _ e, turn_range _ lo (hi - lo).toNat, ?_, fun b hb => ?_, q⟩
  · have e1 : lo + ((0 : Nat) : Int) * 1 = lo := by simp
    have e2 : (((hi - lo).toNat : Nat) : Int) - ((0 : Nat) : Int) = Builtin.Range.rangeSize lo hi 1 := by rw [rangeSize_one]; split <;> omega
    show IsRangeIter _ _ (lo + ((0 : Nat) : Int) * 1) ((((hi - lo).toNat : Nat) : Int) - ((0 : Nat) : Int)) 1
    rw [e1, e2]
    exact Heap.get?_push_size _ rfl
  · have e : b = (s.heap.push { cls := .type "range", data := .fields #[.int lo t, .int hi u, .int 1 v] }).objs.size := by simpa using hb
    subst e
    exact I1.fpOk (Nat.le_refl _) (I1.hok.fresh (Nat.le_refl _))
def iRng1 (ta : TA) : TI := fun σ H R => ta σ H fun vs H1 => ∃ j : Int, vs = [.int j] ∧ -(2 ^ 62) ≤ j ∧ j < 2 ^ 62 ∧ R (Itr 0 j.toNat) H1
def iRng2 (ta : TA) : TI := fun σ H R => ta σ H fun vs H1 => ∃ i j : Int, vs = [.int i, .int j] ∧ (-(2 ^ 62) ≤ i ∧ i < 2 ^ 62 ∧ -(2 ^ 62) ≤ j ∧ j < 2 ^ 62) ∧ R (Itr i (j - i).toNat) H1
theorem pi_range1 {a : Expr} {ta : TA} {p pos : Pos} (hg : Gl X "range") (hm : X.mg "range" = none) (ha : PA X [a] ta) (hs : starEach [a] X.env = [(false, eval a X.env)] := by rfl) : PI X tg (.Call (.Name "range" p) [a] [] pos) (iRng1 ta) := by
  intro pins s σ H R I h
  refine Call_ (ld_blt I hg hm boot_range (PyProof.Rows.callWith_type1 (thn (ha pos pins s σ H _ I h) fun us s1 ⟨vs, H1, I1, r1, q1⟩ => ?_) hs rfl))
  obtain ⟨j, e, q1, q2, q⟩ := q1
  subst e
  cases r1 with
  | cons r rr =>
    cases rr
    obtain ⟨t, rfl⟩ := r
    exact call_range_1 (range_it I1 (by omega) (by omega) q1 q2 (by simpa using q))
theorem pi_range2 {a b : Expr} {ta : TA} {p pos : Pos} (hg : Gl X "range") (hm : X.mg "range" = none) (ha : PA X [a, b] ta) (hs : starEach [a, b] X.env = [(false, eval a X.env), (false, eval b X.env)] := by rfl) (hs2 : starEach [b] X.env = [(false, eval b X.env)] := by rfl) :
    PI X tg (.Call (.Name "range" p) [a, b] [] pos) (iRng2 ta) := by
  intro pins s σ H R I h
  refine Call_ (ld_blt I hg hm boot_range (PyProof.Rows.callWith_type1 (thn (ha pos pins s σ H _ I h) fun us s1 ⟨vs, H1, I1, r1, q1⟩ => ?_) (by rw [hs, hs2]) (by rw [hs2]; rfl)))
  obtain ⟨i, j, e, ⟨q1, q2, q3, q4⟩, q⟩ := q1
  subst e
  cases r1 with
  | cons r rr =>
    cases rr with
    | cons r' rr =>
      cases rr
      obtain ⟨t, rfl⟩ := r
      obtain ⟨t', rfl⟩ := r'
      exact call_range_2 (range_it I1 q1 q2 q3 q4 q)

def tFor (wi : TI) (g : TG) (tb : TS) : TS := fun D σ H => wi σ H fun J H1 => ∃ W : Nat → Nat → St → Hp → Prop, (∃ m, W 0 m σ H1) ∧ ∀ i m σ H, W i m σ H →
  (J.stop i H ∧ D.nx σ H) ∨ (J.go i H ∧ ∃ N : St → Hp → Prop, (∀ σ' H', N σ' H' → ∃ m', m' < m ∧ W (i + 1) m' σ' H') ∧ ∀ x H', J.yld i H x H' → g x σ H' fun σ2 H2 => tb { D with nx := N, ct := N, bk := D.nx } σ2 H2)
def pinsAt (fp : List Addr) (h : Heap) : List (Addr × Obj) := fp.filterMap fun b => (h.get? b).map fun o => (b, o)
theorem mem_pinsAt {fp : List Addr} {h : Heap} {b : Addr} {o : Obj} (hb : b ∈ fp) (e : h.get? b = some o) : (b, o) ∈ pinsAt fp h := List.mem_filterMap.mpr ⟨b, hb, by rw [e]; rfl⟩
theorem of_pinsAt {fp : List Addr} {h : Heap} {p : Addr × Obj} (hp : p ∈ pinsAt fp h) : p.1 ∈ fp ∧ h.get? p.1 = some p.2 := by
  obtain ⟨b, hb, e⟩ := List.mem_filterMap.mp hp
  cases q : h.get? b with
  | none => rw [q] at e; cases e
  | some o =>
    rw [q] at e
    have e' : (b, o) = p := Option.some.inj e
    subst e'
    exact ⟨hb, q⟩
theorem Inv.pinned {pins : List (Addr × Obj)} {σ : St} {H : Hp} {s : Shared} {fp : List Addr} (I : Inv X pins σ H s) (hf : ∀ b ∈ fp, FpOk X pins H b) (ho : ∀ b ∈ fp, ∃ o, s.heap.get? b = some o ∧ ∀ v, o.data ≠ .cell v) : Inv X (pins ++ pinsAt fp s.heap) σ H s :=
  I.pins_of fun p hp => (List.mem_append.mp hp).elim (fun z => I.pin p (List.mem_append_right _ z)) fun z => by
    obtain ⟨hb, e⟩ := of_pinsAt z
    obtain ⟨f0, f1, f2, _⟩ := hf p.1 hb
    obtain ⟨o, e', d⟩ := ho p.1 hb
    rw [e] at e'; cases e'
    exact ⟨e, f0, f1, f2, d⟩
theorem Inv.unpinned {pins pl : List (Addr × Obj)} {σ : St} {H : Hp} {s : Shared} (I : Inv X (pins ++ pl) σ H s) : Inv X pins σ H s := I.pins_of fun p hp => I.pin p (List.mem_append_right _ (List.mem_append_left _ hp))
theorem ps_for {iter : Expr} {body : List Stmt} {wi : TI} {g : TG} {tb : TS} {pos : Pos} (hp : PassesOwn (model X.prog X.w) X.A X.env X.xe) (hc : X.calm = true) (hi : PI X tg iter wi) (hg : PG X tg g) (hb : PSs X body tb)
    (hs : ∀ x, foldedSetIterable iter X.env x = pure x := by intro _; rfl) : PS X (.For tg iter body [] pos) (tFor wi g tb) := by
  intro pins s σ H D I h
  refine wpAny_For (thn (hi pins s σ H _ I h) fun v s1 h1 => thn h1 fun itv s2 h2 => ?_) hs
  obtain ⟨it, fp, tn, J, H2, e, I2, T, st2, f2, W, ⟨m0, w0⟩, turn⟩ := h2
  subst e
  -- what stays true of the iterator's objects through the loop
  have stat : ∀ {H' : Hp}, (∀ b ∈ fp, H' b = none) → ∀ b ∈ fp, FpOk X pins H' b := fun hn b hb => ⟨hn b hb, (f2 b hb).2⟩
  refine codeAny_forLoop_any (fun n s' => ∃ i σ' H', Inv X pins σ' H' s' ∧ tn i s'.heap ∧ (∀ b ∈ fp, H' b = none) ∧ W i n σ' H') ?_ m0 ⟨0, σ, H2, I2, st2, fun b hb => (f2 b hb).1, w0⟩
  rintro n s3 ⟨i, σ3, H3, I3, st3, fr3, w3⟩
  rcases turn i n σ3 H3 w3 with ⟨stop, qn⟩ | ⟨go, N, hN, step⟩
  · refine wpAny_passesOwn hp (thn (T.done X rfl rfl rfl hc i pins s3 σ3 H3 X.xe I3 (stat fr3) st3 stop) fun r s4 ⟨hr, I4⟩ => ?_)
    subst hr
    exact wpAny_execs_nil ⟨σ3, H3, I4, qn⟩
  · refine wpAny_passesOwn hp (thn (T.item X rfl rfl rfl hc i pins s3 σ3 H3 X.xe I3 (stat fr3) st3 go) fun r s4 ⟨u, hr, h4⟩ => ?_)
    subst hr
    refine wpAny_passesOwn hp (thn h4 fun _ s5 ⟨x, H5, I5, r5, y5, st5, fr5⟩ => ?_)
    have I5' := I5.pinned (stat fr5) (T.obj _ _ st5)
    refine wpAny_passesOwn hp (thn (hg _ s5 σ3 H5 x u _ I5' r5 (step x H5 y5)) fun _ s6 ⟨σ6, H6, I6, q6⟩ => ?_)
    refine wpAny_passesOwn hp (thn (hb _ s6 σ6 H6 _ I6 q6) fun f s7 q7 => ?_)
    have again : ∀ {σ7 : St} {H7 : Hp}, Inv X (pins ++ pinsAt fp s5.heap) σ7 H7 s7 → N σ7 H7 → ∃ m, m < n ∧ ∃ i σ' H', Inv X pins σ' H' s7 ∧ tn i s7.heap ∧ (∀ b ∈ fp, H' b = none) ∧ W i m σ' H' := fun {σ7 H7} I7 n7 => by
      obtain ⟨m', hm, w7⟩ := hN σ7 H7 n7
      refine ⟨m', hm, i + 1, σ7, H7, I7.unpinned, T.keep _ _ _ st5 fun b hb o e => (I7.pin (b, o) (List.mem_append_right _ (List.mem_append_right _ (mem_pinsAt hb e)))).1, fun b hb => ?_, w7⟩
      obtain ⟨o, e, d⟩ := T.obj _ _ st5 b hb
      exact (I7.pin (b, o) (List.mem_append_right _ (List.mem_append_right _ (mem_pinsAt hb e)))).2.1
    cases f with
    | next => obtain ⟨σ7, H7, I7, n7⟩ := q7; exact again I7 n7
    | cont => obtain ⟨σ7, H7, I7, n7⟩ := q7; exact again I7 n7
    | brk => obtain ⟨σ7, H7, I7, q7⟩ := q7; exact ⟨σ7, H7, I7.unpinned, q7⟩
    | ret v => obtain ⟨x7, σ7, H7, I7, r7, q7⟩ := q7; exact ⟨x7, σ7, H7, I7.unpinned, r7, q7⟩
end

theorem for_list {K : PySem.W.Frag} {a : Addr} {xs : List V} {g : TG} {tb : TS} {D : Ends} {σ : St} {H : Hp} (Pv : Nat → St → Hp → Prop) (h0 : Pv 0 σ H) (hl : ∀ i σ H, i ≤ xs.length → Pv i σ H → SqL K H a xs)
    (hs : ∀ i x σ H, xs[i]? = some x → Pv i σ H → g x σ H fun σ2 H2 => tb { D with nx := Pv (i + 1), ct := Pv (i + 1), bk := D.nx } σ2 H2) (hd : ∀ σ H, Pv xs.length σ H → D.nx σ H) :
    ∃ W : Nat → Nat → St → Hp → Prop, (∃ m, W 0 m σ H) ∧ ∀ i m σ H, W i m σ H →
      ((Itl K a).stop i H ∧ D.nx σ H) ∨ ((Itl K a).go i H ∧ ∃ N : St → Hp → Prop, (∀ σ' H', N σ' H' → ∃ m', m' < m ∧ W (i + 1) m' σ' H') ∧ ∀ x H', (Itl K a).yld i H x H' → g x σ H' fun σ2 H2 => tb { D with nx := N, ct := N, bk := D.nx } σ2 H2) := by
  refine ⟨fun i m σ H => m = xs.length - i ∧ i ≤ xs.length ∧ Pv i σ H, ⟨xs.length, by simp, Nat.zero_le _, h0⟩, ?_⟩
  rintro i m σ H ⟨rfl, hi, p⟩
  have q := hl i σ H hi p
  by_cases hlt : i < xs.length
  · refine .inr ⟨⟨xs, xs[i], q, by simp [hlt]⟩, Pv (i + 1), fun σ' H' p' => ⟨xs.length - (i + 1), by omega, rfl, hlt, p'⟩, fun x H' y => ?_⟩
    obtain ⟨e, y⟩ := y
    subst e
    exact hs i x σ _ (y xs q) p
  · have e : i = xs.length := by omega
    subst e
    exact .inl ⟨⟨xs, q, Nat.le_refl _⟩, hd σ H p⟩
theorem for_tup {K : PySem.W.Frag} {a : Addr} {xs : List V} {g : TG} {tb : TS} {D : Ends} {σ : St} {H : Hp} (Pv : Nat → St → Hp → Prop) (h0 : Pv 0 σ H) (hl : ∀ i σ H, i ≤ xs.length → Pv i σ H → SqT K H a xs)
    (hs : ∀ i x σ H, xs[i]? = some x → Pv i σ H → g x σ H fun σ2 H2 => tb { D with nx := Pv (i + 1), ct := Pv (i + 1), bk := D.nx } σ2 H2) (hd : ∀ σ H, Pv xs.length σ H → D.nx σ H) :
    ∃ W : Nat → Nat → St → Hp → Prop, (∃ m, W 0 m σ H) ∧ ∀ i m σ H, W i m σ H →
      ((Itt K a).stop i H ∧ D.nx σ H) ∨ ((Itt K a).go i H ∧ ∃ N : St → Hp → Prop, (∀ σ' H', N σ' H' → ∃ m', m' < m ∧ W (i + 1) m' σ' H') ∧ ∀ x H', (Itt K a).yld i H x H' → g x σ H' fun σ2 H2 => tb { D with nx := N, ct := N, bk := D.nx } σ2 H2) := by
  refine ⟨fun i m σ H => m = xs.length - i ∧ i ≤ xs.length ∧ Pv i σ H, ⟨xs.length, by simp, Nat.zero_le _, h0⟩, ?_⟩
  rintro i m σ H ⟨rfl, hi, p⟩
  have q := hl i σ H hi p
  by_cases hlt : i < xs.length
  · refine .inr ⟨⟨xs, xs[i], q, by simp [hlt]⟩, Pv (i + 1), fun σ' H' p' => ⟨xs.length - (i + 1), by omega, rfl, hlt, p'⟩, fun x H' y => ?_⟩
    obtain ⟨e, y⟩ := y
    subst e
    exact hs i x σ _ (y xs q) p
  · have e : i = xs.length := by omega
    subst e
    exact .inl ⟨⟨xs, q, Nat.le_refl _⟩, hd σ H p⟩
theorem for_range {lo : Int} {n : Nat} {g : TG} {tb : TS} {D : Ends} {σ : St} {H : Hp} (Pv : Nat → St → Hp → Prop) (h0 : Pv 0 σ H)
    (hs : ∀ i σ H, i < n → Pv i σ H → g (.int (lo + i)) σ H fun σ2 H2 => tb { D with nx := Pv (i + 1), ct := Pv (i + 1), bk := D.nx } σ2 H2) (hd : ∀ σ H, Pv n σ H → D.nx σ H) :
    ∃ W : Nat → Nat → St → Hp → Prop, (∃ m, W 0 m σ H) ∧ ∀ i m σ H, W i m σ H →
      ((Itr lo n).stop i H ∧ D.nx σ H) ∨ ((Itr lo n).go i H ∧ ∃ N : St → Hp → Prop, (∀ σ' H', N σ' H' → ∃ m', m' < m ∧ W (i + 1) m' σ' H') ∧ ∀ x H', (Itr lo n).yld i H x H' → g x σ H' fun σ2 H2 => tb { D with nx := N, ct := N, bk := D.nx } σ2 H2) := by
  refine ⟨fun i m σ H => m = n - i ∧ i ≤ n ∧ Pv i σ H, ⟨n, by simp, Nat.zero_le _, h0⟩, ?_⟩
  rintro i m σ H ⟨rfl, hi, p⟩
  by_cases hlt : i < n
  · refine .inr ⟨hlt, Pv (i + 1), fun σ' H' p' => ⟨n - (i + 1), by omega, rfl, hlt, p'⟩, fun x H' y => ?_⟩
    obtain ⟨e, y⟩ := y
    subst e y
    exact hs i σ _ hlt p
  · have e : i = n := by omega
    subst e
    exact .inl ⟨Nat.le_refl _, hd σ H p⟩
theorem while_by {c : TT} {tb : TS} {D : Ends} {σ : St} {H : Hp} (Pv : St → Hp → Prop) (μ : St → Hp → Nat) (h0 : Pv σ H)
    (hs : ∀ σ H, Pv σ H → c σ H fun b H1 => if b = true then tb { D with nx := fun σ' H' => Pv σ' H' ∧ μ σ' H' < μ σ H, ct := fun σ' H' => Pv σ' H' ∧ μ σ' H' < μ σ H, bk := D.nx } σ H1 else D.nx σ H1)
    (mono : ∀ σ H Q Q', (∀ b H1, Q b H1 → Q' b H1) → c σ H Q → c σ H Q') : tWhile c tb D σ H := by
  refine ⟨fun m σ H => m = μ σ H ∧ Pv σ H, ⟨_, rfl, h0⟩, ?_⟩
  rintro m σ H ⟨rfl, p⟩
  refine mono σ H _ _ (fun b H1 q => ?_) (hs σ H p)
  cases b with
  | true => exact ⟨_, fun σ' H' ⟨p', l⟩ => ⟨_, l, rfl, p'⟩, q⟩
  | false => exact q
end L2

namespace L2
open PySem PySem.Spec PyProof.Rows

abbrev R2 := V → V → Hp → VK → Prop
def OpR (X : Cx) (f : Value → Value → Sem Value) (r : R2) : Prop :=
  ∀ (pins : List (Addr × Obj)) (s : Shared) (σ : St) (H : Hp) (x y : V) (v u : Value) (Q : VK), Inv X pins σ H s → RelV x v → RelV y u → r x y H Q →
    wpAny (model X.prog X.w) X.A (f v u) (EP X pins σ Q) X.xe s
def UnR (X : Cx) (f : Value → Sem Value) (r : V → Hp → VK → Prop) : Prop :=
  ∀ (pins : List (Addr × Obj)) (s : Shared) (σ : St) (H : Hp) (x : V) (v : Value) (Q : VK), Inv X pins σ H s → RelV x v → r x H Q →
    wpAny (model X.prog X.w) X.A (f v) (EP X pins σ Q) X.xe s
def CallR (X : Cx) (f : Value) (r : List V → Hp → VK → Prop) : Prop :=
  ∀ (pins : List (Addr × Obj)) (s : Shared) (σ : St) (H : Hp) (xs : List V) (us : List Value) (Q : VK), Inv X pins σ H s → Vals xs us → r xs H Q →
    wpAny (model X.prog X.w) X.A (call f us) (EP X pins σ Q) X.xe s
def TruR (X : Cx) (r : V → Hp → (Bool → Hp → Prop) → Prop) : Prop :=
  ∀ (pins : List (Addr × Obj)) (s : Shared) (σ : St) (H : Hp) (x : V) (v : Value) (Q : Bool → Hp → Prop), Inv X pins σ H s → RelV x v → r x H Q →
    wpAny (model X.prog X.w) X.A (truthy v) (TP X pins σ Q) X.xe s

def tOp (r : R2) (ta tb : TE) : TE := fun σ H Q => ta σ H fun x H1 => tb σ H1 fun y H2 => r x y H2 Q
def tUn (r : V → Hp → VK → Prop) (ta : TE) : TE := fun σ H Q => ta σ H fun x H1 => r x H1 Q
def rI (C : Int → Int → Prop) (g : Int → Int → V) : R2 := fun x y H Q => ∃ i j, x = .int i ∧ y = .int j ∧ C i j ∧ Q (g i j) H
def rI0 (g : Int → Int → V) : R2 := fun x y H Q => ∃ i j, x = .int i ∧ y = .int j ∧ Q (g i j) H
def rU (g : Int → V) : V → Hp → VK → Prop := fun x H Q => ∃ i, x = .int i ∧ Q (g i) H

section
variable {X : Cx} {a b c : Expr} {ta tb tc : TE} {pos : Pos}

theorem binT (ha : PE X a ta) (hb : PE X b tb) {pins : List (Addr × Obj)} {s : Shared} {σ : St} {H : Hp} {R : V → V → Hp → Prop} (I : Inv X pins σ H s)
    (h : ta σ H fun x H1 => tb σ H1 fun y H2 => R x y H2) {Q : Value → Shared → Prop} {f : Value → Value → Sem Value}
    (hf : ∀ v u s2 x y H2, Inv X pins σ H2 s2 → RelV x v → RelV y u → R x y H2 → wpAny (model X.prog X.w) X.A (f v u) Q X.xe s2) :
    wpAny (model X.prog X.w) X.A (eval a X.env) (fun v s₁ => wpAny (model X.prog X.w) X.A (eval b X.env) (fun u s₂ => wpAny (model X.prog X.w) X.A (f v u) Q X.xe s₂) X.xe s₁) X.xe s := by
  refine thn (ha pins s σ H _ I h) fun v s1 ⟨x, H1, I1, r1, q1⟩ => ?_
  refine thn (hb pins s1 σ H1 _ I1 q1) fun u s2 ⟨y, H2, I2, r2, q2⟩ => ?_
  exact hf v u s2 x y H2 I2 r1 r2 q2

theorem pe_op {op : Operator} {r : R2} (ho : OpR X (binaryOp op) r) (ha : PE X a ta) (hb : PE X b tb) : PE X (.BinOp a op b pos) (tOp r ta tb) := by
  intro pins s σ H Q I h
  exact wpAny_BinOp (binT ha hb I h fun v u s2 x y H2 I2 rx ry q => ho pins s2 σ H2 x y v u Q I2 rx ry q)
theorem pe_un {op : UnaryOp} {r : V → Hp → VK → Prop} (ho : UnR X (unaryOp op) r) (ha : PE X a ta) : PE X (.UnaryOp op a pos) (tUn r ta) := by
  intro pins s σ H Q I h
  exact UnaryOp_ (thn (ha pins s σ H _ I h) fun v s1 ⟨x, H1, I1, r1, q1⟩ => ho pins s1 σ H1 x v Q I1 r1 q1)
theorem augR {op : Operator} {r : R2} (ho : OpR X (inplaceOp op) r) {pins : List (Addr × Obj)} {s : Shared} {σ : St} {H : Hp} {x y : V} {v u : Value} {Q : VK} (I : Inv X pins σ H s)
    (rx : RelV x v) (ry : RelV y u) (q : r x y H Q) : wpAny (model X.prog X.w) X.A (inplaceOp op v u) (EP X pins σ Q) X.xe s := ho pins s σ H x y v u Q I rx ry q

theorem opI {f : Value → Value → Sem Value} {C : Int → Int → Prop} {g : Int → Int → Int}
    (rule : ∀ (i j : Int) (t u : Tok) (s : Shared) (Q : Value → Shared → Prop) (E : Value → Shared → Prop), C i j → Q (.int (g i j) s.toks) { s with toks := s.toks + 1 } → wpAny (model X.prog X.w) X.A (f (.int i t) (.int j u)) Q E s) :
    OpR X f (rI C fun i j => .int (g i j)) := by
  intro pins s σ H x y v u Q I rx ry h
  obtain ⟨i, j, rfl, rfl, hc, q⟩ := h
  obtain ⟨t, rfl⟩ := rx
  obtain ⟨t', rfl⟩ := ry
  exact rule i j t t' s _ _ hc ⟨.int (g i j), H, I.tok _, ⟨_, rfl⟩, q⟩
theorem opI0 {f : Value → Value → Sem Value} {g : Int → Int → Int}
    (rule : ∀ (i j : Int) (t u : Tok) (s : Shared) (Q : Value → Shared → Prop) (E : Value → Shared → Prop), Q (.int (g i j) s.toks) { s with toks := s.toks + 1 } → wpAny (model X.prog X.w) X.A (f (.int i t) (.int j u)) Q E s) :
    OpR X f (rI0 fun i j => .int (g i j)) := by
  intro pins s σ H x y v u Q I rx ry h
  obtain ⟨i, j, rfl, rfl, q⟩ := h
  obtain ⟨t, rfl⟩ := rx
  obtain ⟨t', rfl⟩ := ry
  exact rule i j t t' s _ _ ⟨.int (g i j), H, I.tok _, ⟨_, rfl⟩, q⟩
theorem opB0 {f : Value → Value → Sem Value} {g : Int → Int → Bool}
    (rule : ∀ (i j : Int) (t u : Tok) (s : Shared) (Q : Value → Shared → Prop) (E : Value → Shared → Prop), Q (.bool (g i j)) s → wpAny (model X.prog X.w) X.A (f (.int i t) (.int j u)) Q E s) :
    OpR X f (rI0 fun i j => .bl (g i j)) := by
  intro pins s σ H x y v u Q I rx ry h
  obtain ⟨i, j, rfl, rfl, q⟩ := h
  obtain ⟨t, rfl⟩ := rx
  obtain ⟨t', rfl⟩ := ry
  exact rule i j t t' s _ _ ⟨.bl (g i j), H, I, rfl, q⟩

def CDiv (i j : Int) : Prop := 0 < j ∧ j < 1073741824
def CDivN (i j : Int) : Prop := j ≠ 0 ∧ j.natAbs < 1073741824
def CPow (i j : Int) : Prop := 0 ≤ j ∧ j ≤ 1000000 ∧ i.natAbs < 2 ^ 64
def CMul (i j : Int) : Prop := (-(2 ^ 64) < i ∧ i < 2 ^ 64) ∨ (-(2 ^ 64) < j ∧ j < 2 ^ 64)
theorem CMul.ok {i j : Int} (h : CMul i j) : IntMulOk i j := by
  rcases h with ⟨h1, h2⟩ | ⟨h1, h2⟩
  · exact .of_left (intBits_le_64 h1 h2)
  · exact .of_right (intBits_le_64 h1 h2)
theorem two_pow_nn (k : Nat) : (0 : Int) ≤ 2 ^ k := by
  rw [two_pow_cast]
  exact Int.natCast_nonneg _

theorem op_add : OpR X (binaryOp .Add) (rI0 fun i j => .int (i + j)) := opI0 fun _ _ _ _ _ _ _ q => add_int q
theorem op_sub : OpR X (binaryOp .Sub) (rI0 fun i j => .int (i - j)) := opI0 fun _ _ _ _ _ _ _ q => sub_int q
theorem op_mul : OpR X (binaryOp .Mult) (rI CMul fun i j => .int (i * j)) := opI fun _ _ _ _ _ _ _ hc q => mul_int q hc.ok
theorem op_fdiv : OpR X (binaryOp .FloorDiv) (rI CDiv fun i j => .int (i / j)) := opI fun i j _ _ _ _ _ hc q => by
  have h1 : (0 : Int) < j := hc.1
  have h2 : j < 1073741824 := hc.2
  exact floordiv_int (by omega) (by rw [Int.fdiv_eq_ediv_of_nonneg i (by omega)]; exact q) (.inl (PyProof.noPylong_small (by omega)))
theorem op_fdivN : OpR X (binaryOp .FloorDiv) (rI CDivN fun i j => .int (i.fdiv j)) := opI fun _ _ _ _ _ _ _ hc q => floordiv_int hc.1 q (.inl (PyProof.noPylong_small hc.2))
theorem op_mod : OpR X (binaryOp .Mod) (rI (fun _ j => 0 < j) fun i j => .int (i % j)) := opI fun i j _ _ _ _ _ hc q => by
  have h1 : (0 : Int) < j := hc
  exact mod_int' (by omega) (by rw [Int.fmod_eq_emod_of_nonneg i (by omega)]; exact q)
theorem op_modN : OpR X (binaryOp .Mod) (rI (fun _ j => j ≠ 0) fun i j => .int (i.fmod j)) := opI fun _ _ _ _ _ _ _ hc q => mod_int' hc q
theorem op_pow : OpR X (binaryOp .Pow) (rI CPow fun i j => .int (i ^ j.toNat)) := opI fun _ _ _ _ _ _ _ hc q => pow_int_small hc.1 hc.2.1 hc.2.2 q
theorem op_shl : OpR X (binaryOp .LShift) (rI CPow fun i j => .int (i * 2 ^ j.toNat)) := opI fun _ _ _ _ _ _ _ hc q => lshift_int_small hc.1 hc.2.1 hc.2.2 q
theorem op_shr : OpR X (binaryOp .RShift) (rI (fun _ j => 0 ≤ j) fun i j => .int (i / 2 ^ j.toNat)) := opI fun i j _ _ _ _ _ hc q =>
  rshift_int hc (by rw [Int.fdiv_eq_ediv_of_nonneg i (two_pow_nn _)]; exact q)
theorem op_and : OpR X (binaryOp .BitAnd) (rI0 fun i j => .int (Builtin.bitAnd i j)) := opI0 fun _ _ _ _ _ _ _ q => and_int q
theorem op_or : OpR X (binaryOp .BitOr) (rI0 fun i j => .int (Builtin.bitOr i j)) := opI0 fun _ _ _ _ _ _ _ q => or_int q
theorem op_xor : OpR X (binaryOp .BitXor) (rI0 fun i j => .int (Builtin.bitXor i j)) := opI0 fun _ _ _ _ _ _ _ q => xor_int q

theorem iop_add : OpR X (inplaceOp .Add) (rI0 fun i j => .int (i + j)) := opI0 fun _ _ _ _ _ _ _ q => iadd_int q
theorem iop_sub : OpR X (inplaceOp .Sub) (rI0 fun i j => .int (i - j)) := opI0 fun _ _ _ _ _ _ _ q => isub_int q
theorem iop_mul : OpR X (inplaceOp .Mult) (rI CMul fun i j => .int (i * j)) := opI fun _ _ _ _ _ _ _ hc q => imul_int q hc.ok
theorem iop_fdiv : OpR X (inplaceOp .FloorDiv) (rI CDiv fun i j => .int (i / j)) := opI fun i j _ _ _ _ _ hc q => by
  have h1 : (0 : Int) < j := hc.1
  have h2 : j < 1073741824 := hc.2
  exact ifloordiv_int (by omega) (by rw [Int.fdiv_eq_ediv_of_nonneg i (by omega)]; exact q) (.inl (PyProof.noPylong_small (by omega)))
theorem iop_mod : OpR X (inplaceOp .Mod) (rI (fun _ j => 0 < j) fun i j => .int (i % j)) := opI fun i j _ _ _ _ _ hc q => by
  have h1 : (0 : Int) < j := hc
  exact imod_int (by omega) (by rw [Int.fmod_eq_emod_of_nonneg i (by omega)]; exact q)
theorem iop_shl : OpR X (inplaceOp .LShift) (rI CPow fun i j => .int (i * 2 ^ j.toNat)) := opI fun _ _ _ _ _ _ _ hc q => ilshift_int_small hc.1 hc.2.1 hc.2.2 q
theorem iop_shr : OpR X (inplaceOp .RShift) (rI (fun _ j => 0 ≤ j) fun i j => .int (i / 2 ^ j.toNat)) := opI fun i j _ _ _ _ _ hc q =>
  irshift_int hc (by rw [Int.fdiv_eq_ediv_of_nonneg i (two_pow_nn _)]; exact q)
theorem iop_and : OpR X (inplaceOp .BitAnd) (rI0 fun i j => .int (Builtin.bitAnd i j)) := opI0 fun _ _ _ _ _ _ _ q => iand_int q
theorem iop_or : OpR X (inplaceOp .BitOr) (rI0 fun i j => .int (Builtin.bitOr i j)) := opI0 fun _ _ _ _ _ _ _ q => ior_int q
theorem iop_xor : OpR X (inplaceOp .BitXor) (rI0 fun i j => .int (Builtin.bitXor i j)) := opI0 fun _ _ _ _ _ _ _ q => ixor_int q

theorem unI {f : Value → Sem Value} {g : Int → Int}
    (rule : ∀ (i : Int) (t : Tok) (s : Shared) (Q : Value → Shared → Prop) (E : Value → Shared → Prop), Q (.int (g i) s.toks) { s with toks := s.toks + 1 } → wpAny (model X.prog X.w) X.A (f (.int i t)) Q E s) :
    UnR X f (rU fun i => .int (g i)) := by
  intro pins s σ H x v Q I rx h
  obtain ⟨i, rfl, q⟩ := h
  obtain ⟨t, rfl⟩ := rx
  exact rule i t s _ _ ⟨.int (g i), H, I.tok _, ⟨_, rfl⟩, q⟩
theorem un_neg : UnR X (unaryOp .USub) (rU fun i => .int (-i)) := unI fun _ _ _ _ _ q => neg_int q
theorem un_inv : UnR X (unaryOp .Invert) (rU fun i => .int (Builtin.bitNot i)) := unI fun _ _ _ _ _ q => invert_int q

theorem op_add_ib : OpR X (binaryOp .Add) (fun x y H Q => ∃ i k, x = .int i ∧ y = .bl k ∧ Q (.int (i + b2i k)) H) := by
  intro pins s σ H x y v u Q I rx ry h
  obtain ⟨i, k, rfl, rfl, q⟩ := h
  obtain ⟨t, rfl⟩ := rx
  cases ry
  exact add_int_bool ⟨.int (i + b2i k), H, I.tok _, ⟨_, rfl⟩, q⟩
end

def scal : V → V → Bool
  | .non, .non => true | .non, .int _ => true | .int _, .non => true | .non, .bl _ => true | .bl _, .non => true | .non, .str _ => true | .str _, .non => true
  | .int _, .int _ => true | .bl _, .bl _ => true | .str _, .str _ => true | .byt _, .byt _ => true
  | .int _, .str _ => true | .str _, .int _ => true | .bl _, .str _ => true | .str _, .bl _ => true
  | _, _ => false
def rEq : R2 := fun x y H Q => scal x y = true ∧ Q (.bl (decide (x = y))) H
def rNe : R2 := fun x y H Q => scal x y = true ∧ Q (.bl (!decide (x = y))) H

theorem dec_int {i j : Int} : decide (V.int i = V.int j) = (i == j) := by
  rw [Bool.eq_iff_iff]
  simp
theorem dec_bl {i j : Bool} : decide (V.bl i = V.bl j) = (i == j) := by
  rw [Bool.eq_iff_iff]
  simp
theorem dec_str {i j : Str} : decide (V.str i = V.str j) = (i == j) := by
  rw [Bool.eq_iff_iff]
  simp
theorem dec_byt {i j : Array UInt8} : decide (V.byt i = V.byt j) = (i.toList == j.toList) := by
  rw [Bool.eq_iff_iff]
  cases i
  cases j
  simp

section
variable {X : Cx} {a b c : Expr} {ta tb tc : TE} {pos : Pos}
theorem fin_bl {pins : List (Addr × Obj)} {σ : St} {H : Hp} {s : Shared} {Q : VK} {k k' : Bool} (I : Inv X pins σ H s) (q : Q (.bl k) H) (e : k = k') : EP X pins σ Q (.bool k') s := by
  subst e
  exact ⟨.bl k, H, I, rfl, q⟩
theorem op_eq : OpR X (compareOp .Eq) rEq := by
  intro pins s σ H x y v u Q I rx ry h
  obtain ⟨hs, q⟩ := h
  cases x with
  | non =>
    cases rx
    cases y with
    | non => cases ry; exact PySem.EqNone.eq_none_none (fin_bl I q (by simp))
    | bl j => cases ry; exact PySem.EqNone.eq_none_bool (fin_bl I q (by simp))
    | int j => obtain ⟨t', rfl⟩ := ry; exact PySem.EqNone.eq_none_int (fin_bl I q (by simp))
    | str j => obtain ⟨t', rfl⟩ := ry; exact PySem.EqNone.eq_none_str (fin_bl I q (by simp))
    | _ => exact absurd (show false = true from hs) Bool.false_ne_true
  | bl i =>
    cases rx
    cases y with
    | non => cases ry; exact PySem.EqNone.eq_bool_none (fin_bl I q (by simp))
    | bl j => cases ry; exact eq_bool (fin_bl I q dec_bl)
    | str j => obtain ⟨t', rfl⟩ := ry; exact PySem.EqMixed.eq_bool_str (fin_bl I q (by simp))
    | _ => exact absurd (show false = true from hs) Bool.false_ne_true
  | int i =>
    obtain ⟨t, rfl⟩ := rx
    cases y with
    | non => cases ry; exact PySem.EqNone.eq_int_none (fin_bl I q (by simp))
    | int j => obtain ⟨t', rfl⟩ := ry; exact eq_int (fin_bl I q dec_int)
    | str j => obtain ⟨t', rfl⟩ := ry; exact PySem.EqMixed.eq_int_str (fin_bl I q (by simp))
    | _ => exact absurd (show false = true from hs) Bool.false_ne_true
  | str i =>
    obtain ⟨t, rfl⟩ := rx
    cases y with
    | non => cases ry; exact PySem.EqNone.eq_str_none (fin_bl I q (by simp))
    | bl j => cases ry; exact PySem.EqMixed.eq_str_bool (fin_bl I q (by simp))
    | int j => obtain ⟨t', rfl⟩ := ry; exact PySem.EqMixed.eq_str_int (fin_bl I q (by simp))
    | str j => obtain ⟨t', rfl⟩ := ry; exact eq_str (fin_bl I q dec_str)
    | _ => exact absurd (show false = true from hs) Bool.false_ne_true
  | byt i =>
    obtain ⟨t, rfl⟩ := rx
    cases y with
    | byt j => obtain ⟨t', rfl⟩ := ry; exact PySem.W.eq_bytes (fin_bl I q dec_byt)
    | _ => exact absurd (show false = true from hs) Bool.false_ne_true
  | _ => cases y <;> exact absurd (show false = true from hs) Bool.false_ne_true
theorem op_ne : OpR X (compareOp .NotEq) rNe := by
  intro pins s σ H x y v u Q I rx ry h
  obtain ⟨hs, q⟩ := h
  cases x with
  | non =>
    cases rx
    cases y with
    | non => cases ry; exact PySem.EqNone.ne_none_none (fin_bl I q (by simp))
    | bl j => cases ry; exact PySem.EqNone.ne_none_bool (fin_bl I q (by simp))
    | int j => obtain ⟨t', rfl⟩ := ry; exact PySem.EqNone.ne_none_int (fin_bl I q (by simp))
    | str j => obtain ⟨t', rfl⟩ := ry; exact PySem.EqNone.ne_none_str (fin_bl I q (by simp))
    | _ => exact absurd (show false = true from hs) Bool.false_ne_true
  | bl i =>
    cases rx
    cases y with
    | non => cases ry; exact PySem.EqNone.ne_bool_none (fin_bl I q (by simp))
    | bl j => cases ry; exact ne_bool (fin_bl I q (congrArg not dec_bl))
    | str j => obtain ⟨t', rfl⟩ := ry; exact PySem.EqMixed.ne_bool_str (fin_bl I q (by simp))
    | _ => exact absurd (show false = true from hs) Bool.false_ne_true
  | int i =>
    obtain ⟨t, rfl⟩ := rx
    cases y with
    | non => cases ry; exact PySem.EqNone.ne_int_none (fin_bl I q (by simp))
    | int j => obtain ⟨t', rfl⟩ := ry; exact ne_int (fin_bl I q (congrArg not dec_int))
    | str j => obtain ⟨t', rfl⟩ := ry; exact PySem.EqMixed.ne_int_str (fin_bl I q (by simp))
    | _ => exact absurd (show false = true from hs) Bool.false_ne_true
  | str i =>
    obtain ⟨t, rfl⟩ := rx
    cases y with
    | non => cases ry; exact PySem.EqNone.ne_str_none (fin_bl I q (by simp))
    | bl j => cases ry; exact PySem.EqMixed.ne_str_bool (fin_bl I q (by simp))
    | int j => obtain ⟨t', rfl⟩ := ry; exact PySem.EqMixed.ne_str_int (fin_bl I q (by simp))
    | str j => obtain ⟨t', rfl⟩ := ry; exact ne_str (fin_bl I q (congrArg not dec_str))
    | _ => exact absurd (show false = true from hs) Bool.false_ne_true
  | byt i =>
    obtain ⟨t, rfl⟩ := rx
    cases y with
    | byt j => obtain ⟨t', rfl⟩ := ry; exact PySem.W.ne_bytes (fin_bl I q (congrArg not dec_byt))
    | _ => exact absurd (show false = true from hs) Bool.false_ne_true
  | _ => cases y <;> exact absurd (show false = true from hs) Bool.false_ne_true

theorem op_lt : OpR X (compareOp .Lt) (rI0 fun i j => .bl (decide (i < j))) := opB0 fun _ _ _ _ _ _ _ q => lt_int q
theorem op_le : OpR X (compareOp .LtE) (rI0 fun i j => .bl (decide (i ≤ j))) := opB0 fun _ _ _ _ _ _ _ q => le_int q
theorem op_gt : OpR X (compareOp .Gt) (rI0 fun i j => .bl (decide (j < i))) := opB0 fun _ _ _ _ _ _ _ q => gt_int q
theorem op_ge : OpR X (compareOp .GtE) (rI0 fun i j => .bl (decide (j ≤ i))) := opB0 fun _ _ _ _ _ _ _ q => ge_int q
theorem op_lt_str : OpR X (compareOp .Lt) (fun x y H Q => ∃ i j, x = .str i ∧ y = .str j ∧ Q (.bl (decide (i.cps.toList < j.cps.toList))) H) := by
  intro pins s σ H x y v u Q I rx ry h
  obtain ⟨i, j, rfl, rfl, q⟩ := h
  obtain ⟨t, rfl⟩ := rx
  obtain ⟨t', rfl⟩ := ry
  exact lt_str (fin_bl I q rfl)
theorem op_in_str : OpR X (compareOp .In) (fun x y H Q => ∃ i j, x = .str i ∧ y = .str j ∧ Q (.bl (!(Builtin.Str.occurrences j i 0 j.length 1).isEmpty)) H) := by
  intro pins s σ H x y v u Q I rx ry h
  obtain ⟨i, j, rfl, rfl, q⟩ := h
  obtain ⟨t, rfl⟩ := rx
  obtain ⟨t', rfl⟩ := ry
  exact in_str (fin_bl I q rfl)

theorem op_isN : OpR X (compareOp .Is) (fun x y H Q => y = .non ∧ Q (.bl (decide (x = .non))) H) := by
  intro pins s σ H x y v u Q I rx ry h
  obtain ⟨rfl, q⟩ := h
  cases ry
  refine is_none_gen (fin_bl I q ?_)
  cases x <;> first
    | (cases rx; rfl)
    | (obtain ⟨t, rfl⟩ := rx; rfl)
theorem op_notN : OpR X (compareOp .IsNot) (fun x y H Q => y = .non ∧ Q (.bl (!decide (x = .non))) H) := by
  intro pins s σ H x y v u Q I rx ry h
  obtain ⟨rfl, q⟩ := h
  cases ry
  refine isnot_none_gen (fin_bl I q ?_)
  cases x <;> first
    | (cases rx; rfl)
    | (obtain ⟨t, rfl⟩ := rx; rfl)

theorem op_notin_str : OpR X (compareOp .NotIn) (fun x y H Q => ∃ i j, x = .str i ∧ y = .str j ∧ Q (.bl (!(!(Builtin.Str.occurrences j i 0 j.length 1).isEmpty))) H) := by
  intro pins s σ H x y v u Q I rx ry h
  obtain ⟨i, j, rfl, rfl, q⟩ := h
  obtain ⟨t, rfl⟩ := rx
  obtain ⟨t', rfl⟩ := ry
  exact notIn_str (fin_bl I q rfl)
def isObj : HO → Bool
  | .lst _ => true
  | .ins _ _ _ => true
  | _ => false
theorem obj_there {pins : List (Addr × Obj)} {s : Shared} {σ : St} {H : Hp} {a : Addr} {o : HO} (I : Inv X pins σ H s) (h : H a = some o) (p : isObj o = true) : ∃ ob, s.heap.get? a = some ob ∧ ob.cls ≠ .type "tuple" := by
  cases o with
  | lst xs =>
    obtain ⟨_, its, n, _, e⟩ : xs.length ≤ sizeLine ∧ ∃ (its : List Value) (n : Nat), Vals xs its ∧ s.heap.get? a = some { cls := .type "list", data := .seq its.toArray n } := I.hok a _ h
    exact ⟨_, e, (by show Value.type "list" ≠ .type "tuple"; decide +kernel)⟩
  | ins C dx fs =>
    have x := I.hok a _ h
    obtain ⟨_, _, _, e, _⟩ := x
    exact ⟨_, e, (by show Value.ref C ≠ .type "tuple"; exact fun z => by cases z)⟩
  | _ => exact absurd (show false = true from p) Bool.false_ne_true
theorem op_is_ref : OpR X (compareOp .Is) (fun x y H Q => ∃ a b oa ob, x = .ref a ∧ y = .ref b ∧ H a = some oa ∧ isObj oa = true ∧ H b = some ob ∧ isObj ob = true ∧ Q (.bl (decide (a = b))) H) := by
  intro pins s σ H x y v u Q I rx ry h
  obtain ⟨a, b, oa, ob, rfl, rfl, ha, pa, hb, pb, q⟩ := h
  cases rx
  cases ry
  obtain ⟨o1, e1, n1⟩ := obj_there I ha pa
  obtain ⟨o2, e2, _⟩ := obj_there I hb pb
  by_cases z : a = b
  · subst z
    exact wpAny_is_ref_self (fin_bl I q (by simp))
  · exact wpAny_is_ref_other z e1 e2 n1 (fin_bl I q (by simp [z]))
theorem op_isnot_ref : OpR X (compareOp .IsNot) (fun x y H Q => ∃ a b oa ob, x = .ref a ∧ y = .ref b ∧ H a = some oa ∧ isObj oa = true ∧ H b = some ob ∧ isObj ob = true ∧ Q (.bl (!decide (a = b))) H) := by
  intro pins s σ H x y v u Q I rx ry h
  obtain ⟨a, b, oa, ob, rfl, rfl, ha, pa, hb, pb, q⟩ := h
  cases rx
  cases ry
  obtain ⟨o1, e1, n1⟩ := obj_there I ha pa
  obtain ⟨o2, e2, _⟩ := obj_there I hb pb
  by_cases z : a = b
  · subst z
    exact wpAny_isNot_ref_self (fin_bl I q (by simp))
  · exact wpAny_isNot_ref_other z e1 e2 n1 (fin_bl I q (by simp [z]))

theorem OpR.or {f : Value → Value → Sem Value} {r r' : R2} (h : OpR X f r) (h' : OpR X f r') : OpR X f (fun x y H Q => r x y H Q ∨ r' x y H Q) := by
  intro pins s σ H x y v u Q I rx ry q
  rcases q with q | q
  · exact h pins s σ H x y v u Q I rx ry q
  · exact h' pins s σ H x y v u Q I rx ry q

theorem nomark (b : Expr) {op : CmpOp} (h : op ≠ .In := by decide) (h2 : op ≠ .NotIn := by decide) : behindInMarks op b = false := by
  have e1 : (op == CmpOp.In) = false := by cases op <;> first | rfl | exact absurd rfl h
  have e2 : (op == CmpOp.NotIn) = false := by cases op <;> first | rfl | exact absurd rfl h2
  cases b <;> simp [behindInMarks, e1, e2]
theorem pe_cmpR {op : CmpOp} {r : R2} (ho : OpR X (compareOp op) r) (ha : PE X a ta) (hb : PE X b tb) (hm : behindInMarks op b = false) : PE X (.Compare a [op] [b] pos) (tOp r ta tb) := by
  intro pins s σ H Q I h
  exact wpAny_Compare1 (binT ha hb I h fun v u s2 x y H2 I2 rx ry q => ho pins s2 σ H2 x y v u Q I2 rx ry q) hm
def tTest (t : TE) : TT := fun σ H Q => t σ H fun x H' => ∃ k, x = .bl k ∧ Q k H'
theorem pt_cmpR {op : CmpOp} {r : R2} (ho : OpR X (compareOp op) r) (ha : PE X a ta) (hb : PE X b tb) (hm : behindInMarks op b = false) : PT X (.Compare a [op] [b] pos) (tTest (tOp r ta tb)) := by
  intro pins s σ H Q I h
  refine wpAny_isTrue_Compare1 (thn (ha pins s σ H _ I h) fun v s1 ⟨x, H1, I1, r1, q1⟩ => thn (hb pins s1 σ H1 _ I1 q1) fun u s2 ⟨y, H2, I2, r2, q2⟩ =>
    thn (ho pins s2 σ H2 x y v u _ I2 r1 r2 q2) fun c s3 ⟨z, H3, I3, r3, k, e, q3⟩ => ?_) hm
  subst e
  cases r3
  exact wpAny_truthy_bool ⟨H3, I3, q3⟩
def tChain (r r' : R2) (ta tb tc : TE) : TE := fun σ H Q => ta σ H fun x H1 => tb σ H1 fun y H2 => r x y H2 fun z H3 => ∃ k, z = .bl k ∧
  (if k = true then tc σ H3 fun w' H4 => r' y w' H4 Q else Q (.bl false) H3)
theorem pe_chain {op op' : CmpOp} {r r' : R2} (ho : OpR X (compareOp op) r) (ho' : OpR X (compareOp op') r') (ha : PE X a ta) (hb : PE X b tb) (hc : PE X c tc)
    (hm : lastMarks [op, op'] [b, c] = false := by with_unfolding_all rfl) : PE X (.Compare a [op, op'] [b, c] pos) (tChain r r' ta tb tc) := by
  intro pins s σ H Q I h
  refine Compare_chain (thn (ha pins s σ H _ I h) fun v s1 ⟨x, H1, I1, r1, q1⟩ => chain_link (thn (hb pins s1 σ H1 _ I1 q1) fun u s2 ⟨y, H2, I2, r2, q2⟩ =>
    thn (ho pins s2 σ H2 x y v u _ I2 r1 r2 q2) fun d s3 ⟨z, H3, I3, r3, k, e, q3⟩ => ?_)) hm
  subst e
  cases r3
  refine wpAny_truthy_bool ?_
  cases k with
  | false => exact ite_ff ⟨.bl false, H3, I3, rfl, q3⟩
  | true => exact ite_tt (chain_last (thn (hc pins s3 σ H3 _ I3 q3) fun w' s4 ⟨z', H4, I4, r4, q4⟩ => ho' pins s4 σ H4 y z' u w' Q I4 r2 r4 q4))
theorem pt_chain {op op' : CmpOp} {r r' : R2} (ho : OpR X (compareOp op) r) (ho' : OpR X (compareOp op') r') (ha : PE X a ta) (hb : PE X b tb) (hc : PE X c tc)
    (hm : lastMarks [op, op'] [b, c] = false := by with_unfolding_all rfl) : PT X (.Compare a [op, op'] [b, c] pos) (tTest (tChain r r' ta tb tc)) := by
  intro pins s σ H Q I h
  refine isTrue_chain (thn (ha pins s σ H _ I h) fun v s1 ⟨x, H1, I1, r1, q1⟩ => test_link (thn (hb pins s1 σ H1 _ I1 q1) fun u s2 ⟨y, H2, I2, r2, q2⟩ =>
    thn (ho pins s2 σ H2 x y v u _ I2 r1 r2 q2) fun d s3 ⟨z, H3, I3, r3, k, e, q3⟩ => ?_)) hm
  subst e
  cases r3
  refine wpAny_truthy_bool ?_
  cases k with
  | false =>
    obtain ⟨k', e', q'⟩ := q3
    cases e'
    exact ite_ff ⟨H3, I3, q'⟩
  | true =>
    refine ite_tt (test_last (thn (hc pins s3 σ H3 _ I3 q3) fun w' s4 ⟨z', H4, I4, r4, q4⟩ => thn (ho' pins s4 σ H4 y z' u w' _ I4 r2 r4 q4) fun d' s5 ⟨z2, H5, I5, r5, k2, e2, q5⟩ => ?_))
    subst e2
    cases r5
    exact wpAny_truthy_bool ⟨H5, I5, q5⟩

def TruV (K : PySem.W.Frag) (x : V) (H : Hp) (k : Bool) : Prop :=
  match x with
  | .non => k = false
  | .bl b => k = b
  | .int i => k = (i != 0)
  | .str y => y.length ≤ sizeLine ∧ k = ((y.length : Int) != 0)
  | .byt y => y.size ≤ sizeLine ∧ k = ((y.size : Int) != 0)
  | .ref p => (∃ xs, SqL K H p xs ∧ k = !xs.isEmpty) ∨ (∃ xs, SqT K H p xs ∧ k = !xs.isEmpty) ∨ ∃ kvs, H p = some (.dK kvs) ∧ k = !kvs.isEmpty
  | _ => False
theorem isEmpty_kv {κ : Type} {kvs : List (κ × V)} {vs : List (κ × Value)} (r : KV kvs vs) : (!vs.isEmpty) = !kvs.isEmpty := by
  cases r <;> rfl
theorem isEmpty_of {xs : List V} {its : List Value} (r : Vals xs its) : (!its.toArray.isEmpty) = !xs.isEmpty := by
  cases r <;> simp
theorem line63 : (sizeLine : Nat) < 2 ^ 63 := by rw [sizeLine_eq]; decide
theorem tru_ok : TruR X (fun x H Q => ∃ k, TruV X.K x H k ∧ Q k H) := by
  intro pins s σ H x v Q I rx h
  obtain ⟨k, e, q⟩ := h
  have hl := line63
  have hs : sizeLine = 16777216 := sizeLine_eq
  cases x with
  | non =>
    cases rx
    have e' : k = false := e
    subst e'
    exact truthy_none ⟨H, I, q⟩
  | bl b =>
    cases rx
    have e' : k = b := e
    subst e'
    exact wpAny_truthy_bool ⟨H, I, q⟩
  | int i =>
    obtain ⟨t, rfl⟩ := rx
    have e' : k = (i != 0) := e
    subst e'
    exact PySem.P.truthy_int ⟨H, I, q⟩
  | str y =>
    obtain ⟨t, rfl⟩ := rx
    obtain ⟨hy, e'⟩ : y.length ≤ sizeLine ∧ k = ((y.length : Int) != 0) := e
    subst e'
    exact PySem.P.truthy_str (by omega) ⟨H, I.tok _, q⟩
  | byt y =>
    obtain ⟨t, rfl⟩ := rx
    obtain ⟨hy, e'⟩ : y.size ≤ sizeLine ∧ k = ((y.size : Int) != 0) := e
    subst e'
    exact PySem.W.truthy_bytes (by omega) ⟨H, I.tok _, q⟩
  | ref p =>
    cases rx
    have e' : (∃ xs, SqL X.K H p xs ∧ k = !xs.isEmpty) ∨ (∃ xs, SqT X.K H p xs ∧ k = !xs.isEmpty) ∨ ∃ kvs, H p = some (.dK kvs) ∧ k = !kvs.isEmpty := e
    rcases e' with ⟨xs, hx, e'⟩ | ⟨xs, hx, e'⟩ | ⟨kvs, hx, e'⟩
    · subst e'
      obtain ⟨its, r, pl, hz⟩ := I.list hx
      have hlen := r.length
      exact wpAny_truthy_list pl.isList (by simp only [List.size_toArray]; omega) ⟨H, I.tok _, by rw [isEmpty_of r]; exact q⟩
    · subst e'
      obtain ⟨its, r, pl, hz⟩ := I.tuple hx
      have hlen := r.length
      exact truthy_tuple pl (by simp only [List.size_toArray]; omega) ⟨H, I.tok _, by rw [isEmpty_of r]; exact q⟩
    · subst e'
      obtain ⟨hz, hS, vs, r, m⟩ : kvs.length ≤ sizeLine ∧ (p == sysModules) = false ∧ ∃ vs, KV kvs vs ∧ s.heap.DictOf (mixKind X.prog X.w) p vs := I.hok p _ hx
      have hlen : kvs.length = vs.length := Paired.length r
      exact wpAny_truthy_dict hS m (by omega) ⟨H, I.tok _, by rw [isEmpty_kv r]; exact q⟩
  | _ => exact (show False from e).elim
theorem pt_truth (ha : PE X a ta) (he : ∀ whole, isTrue a X.env whole = (do let v ← whole; standAt a.pos; holding [v] (truthy v))) :
    PT X a (fun σ H Q => ta σ H fun x H' => ∃ k, TruV X.K x H' k ∧ Q k H') := by
  intro pins s σ H Q I h
  exact isTrue_plain (thn (ha pins s σ H _ I h) fun v s1 ⟨x, H1, I1, r1, q1⟩ => tru_ok pins s1 σ H1 x v Q I1 r1 q1) (he _)

theorem pe_byt {x : List UInt8} {k : Nat} : PE X (.Constant (.bytes x) k pos) (fun _ H Q => Q (.byt x.toArray) H) := fun _ _ _ H _ I h => PySem.W.Constant_bytes ⟨.byt x.toArray, H, I.tok _, ⟨_, rfl⟩, h⟩
theorem op_add_str : OpR X (binaryOp .Add) (fun x y H Q => ∃ i j, x = .str i ∧ y = .str j ∧ i.length + j.length ≤ sizeLine ∧ Q (.str (i ++ j)) H) := by
  intro pins s σ H x y v u Q I rx ry h
  obtain ⟨i, j, rfl, rfl, hz, q⟩ := h
  obtain ⟨t, rfl⟩ := rx
  obtain ⟨t', rfl⟩ := ry
  exact add_str (fun t' tk => ⟨.str (i ++ j), H, I.tok _, ⟨_, rfl⟩, q⟩) hz
theorem iop_add_str : OpR X (inplaceOp .Add) (fun x y H Q => ∃ i j, x = .str i ∧ y = .str j ∧ i.length + j.length ≤ sizeLine ∧ Q (.str (i ++ j)) H) := by
  intro pins s σ H x y v u Q I rx ry h
  obtain ⟨i, j, rfl, rfl, hz, q⟩ := h
  obtain ⟨t, rfl⟩ := rx
  obtain ⟨t', rfl⟩ := ry
  exact iadd_str (fun t' tk => ⟨.str (i ++ j), H, I.tok _, ⟨_, rfl⟩, q⟩) hz
theorem op_add_byt : OpR X (binaryOp .Add) (fun x y H Q => ∃ i j, x = .byt i ∧ y = .byt j ∧ i.size + j.size ≤ 16777216 ∧ Q (.byt (i ++ j)) H) := by
  intro pins s σ H x y v u Q I rx ry h
  obtain ⟨i, j, rfl, rfl, hz, q⟩ := h
  obtain ⟨t, rfl⟩ := rx
  obtain ⟨t', rfl⟩ := ry
  exact PySem.W.KBy.add_bytes hz (fun t' tk => ⟨.byt (i ++ j), H, I.tok _, ⟨_, rfl⟩, q⟩)

def PlainIxT (b : Expr) : Prop := ∀ o i, subscripted b false o i = operate [o, i] (getItem o i)
theorem pe_item_str (ha : PE X a ta) (hb : PE X b tb) (hs : PlainIxT b) :
    PE X (.Subscript a b pos) (tOp (fun x y H Q => ∃ z i c, x = .str z ∧ y = .int i ∧ 0 ≤ i ∧ i < 2 ^ 63 ∧ i < z.length ∧ z.cps[i.toNat]? = some c ∧ Q (.str ⟨#[c]⟩) H) ta tb) := by
  intro pins s σ H Q I h
  refine Subscript_ (binT ha hb I h fun v u s2 x y H2 I2 rx ry q => ?_)
  obtain ⟨z, i, c, rfl, rfl, h0, h63, h1, hc, q⟩ := q
  obtain ⟨t, rfl⟩ := rx
  obtain ⟨t', rfl⟩ := ry
  have e : seqIndex? i z.length = some i.toNat := PySem.StrLaws.seqIndex_nonneg h0 h1
  exact tail_any (typeIs_str s2 z t) slot_str_getitem.lookup (getItem_str (c := c) (by
    have e1 : decide (i < -(2 ^ 63 : Int)) = false := decide_eq_false (by omega)
    have e2 : decide (i ≥ 2 ^ 63) = false := decide_eq_false (by omega)
    rw [e1, e2] <;> rfl) (by rw [e]; exact hc) ⟨.str ⟨#[c]⟩, H2, I2.tok _, ⟨_, rfl⟩, q⟩) (hs _ _)
theorem pe_item_byt (ha : PE X a ta) (hb : PE X b tb) (hs : PlainIxT b) :
    PE X (.Subscript a b pos) (tOp (fun x y H Q => ∃ (z : List UInt8) (i : Int), x = .byt z.toArray ∧ y = .int i ∧ z.length ≤ sizeLine ∧ 0 ≤ i ∧ i < z.length ∧ Q (.int ((z.getD i.toNat 0).toNat : Nat)) H) ta tb) := by
  intro pins s σ H Q I h
  refine Subscript_ (binT ha hb I h fun v u s2 x y H2 I2 rx ry q => ?_)
  obtain ⟨z, i, rfl, rfl, hz, h0, h1, q⟩ := q
  obtain ⟨t, rfl⟩ := rx
  obtain ⟨t', rfl⟩ := ry
  have hl : sizeLine = 16777216 := sizeLine_eq
  exact tail_any (PySem.W.typeIs_bytes s2 z.toArray t) PySem.W.FB.slot_bytes_getitem.lookup (PySem.W.getItem_bytes (by omega) h0 h1 ⟨.int ((z.getD i.toNat 0).toNat : Nat), H2, I2.tok _, ⟨_, rfl⟩, q⟩) (hs _ _)

theorem vals1 {x : V} {us : List Value} (r : Vals [x] us) : ∃ u, us = [u] ∧ RelV x u := by
  cases r with
  | cons r1 r2 => cases r2; exact ⟨_, rfl, r1⟩
theorem vals2 {x y : V} {us : List Value} (r : Vals [x, y] us) : ∃ u w', us = [u, w'] ∧ RelV x u ∧ RelV y w' := by
  cases r with
  | cons r1 r2 =>
    cases r2 with
    | cons r3 r4 => cases r4; exact ⟨_, _, rfl, r1, r3⟩
theorem call_abs : CallR X (.builtin "abs") (fun xs H Q => ∃ i, xs = [.int i] ∧ Q (.int (if i < 0 then -i else i)) H) := by
  intro pins s σ H xs us Q I r h
  obtain ⟨i, rfl, q⟩ := h
  obtain ⟨u, rfl, t, rfl⟩ := vals1 r
  exact call_abs_int fun u tk => ⟨.int (if i < 0 then -i else i), H, I.tok _, ⟨_, rfl⟩, q⟩
theorem call_max2 (hc : X.calm = true) : CallR X (.builtin "max") (fun xs H Q => ∃ i j, xs = [.int i, .int j] ∧ Q (.int (if j > i then j else i)) H) := by
  intro pins s σ H xs us Q I r h
  obtain ⟨i, j, rfl, q⟩ := h
  obtain ⟨u, w', rfl, ⟨t, rfl⟩, ⟨t', rfl⟩⟩ := vals2 r
  refine max_two_ints (I.ok.hd hc) fun h' tk k => ⟨_, H, I.kept k, ?_, q⟩
  by_cases hj : j > i
  · rw [if_pos hj, if_pos hj]; exact ⟨_, rfl⟩
  · rw [if_neg hj, if_neg hj]; exact ⟨_, rfl⟩
theorem call_min2 (hc : X.calm = true) : CallR X (.builtin "min") (fun xs H Q => ∃ i j, xs = [.int i, .int j] ∧ Q (.int (if j < i then j else i)) H) := by
  intro pins s σ H xs us Q I r h
  obtain ⟨i, j, rfl, q⟩ := h
  obtain ⟨u, w', rfl, ⟨t, rfl⟩, ⟨t', rfl⟩⟩ := vals2 r
  refine min_two_ints (I.ok.hd hc) fun h' tk k => ⟨_, H, I.kept k, ?_, q⟩
  by_cases hj : j < i
  · rw [if_pos hj, if_pos hj]; exact ⟨_, rfl⟩
  · rw [if_neg hj, if_neg hj]; exact ⟨_, rfl⟩
theorem call_int1 : CallR X (.type "int") (fun xs H Q => (∃ i, xs = [.int i] ∧ Q (.int i) H) ∨ ∃ k, xs = [.bl k] ∧ Q (.int (if k then 1 else 0)) H) := by
  intro pins s σ H xs us Q I r h
  rcases h with ⟨i, rfl, q⟩ | ⟨k, rfl, q⟩
  · obtain ⟨u, rfl, t, rfl⟩ := vals1 r
    exact call_int_int ⟨.int i, H, I, ⟨_, rfl⟩, q⟩
  · obtain ⟨u, rfl, r1⟩ := vals1 r
    cases r1
    exact call_int_bool ⟨.int (if k then 1 else 0), H, I.tok _, ⟨_, rfl⟩, q⟩
theorem call_bool1 : CallR X (.type "bool") (fun xs H Q => (∃ i, xs = [.int i] ∧ Q (.bl (i != 0)) H) ∨ ∃ k, xs = [.bl k] ∧ Q (.bl k) H) := by
  intro pins s σ H xs us Q I r h
  rcases h with ⟨i, rfl, q⟩ | ⟨k, rfl, q⟩
  · obtain ⟨u, rfl, t, rfl⟩ := vals1 r
    exact call_bool_int ⟨.bl (i != 0), H, I, rfl, q⟩
  · obtain ⟨u, rfl, r1⟩ := vals1 r
    cases r1
    exact call_bool_bool ⟨.bl k, H, I, rfl, q⟩
theorem call_str_int : CallR X (.type "str") (fun xs H Q => ∃ i, xs = [.int i] ∧ i.natAbs.log2 < 1920 ∧ Q (.str (toString i)) H) := by
  intro pins s σ H xs us Q I r h
  obtain ⟨i, rfl, hz, q⟩ := h
  obtain ⟨u, rfl, t, rfl⟩ := vals1 r
  exact PySem.P.str_of_int hz ⟨.str _, H, I.tok _, ⟨_, rfl⟩, q⟩
theorem call_ord : CallR X (.builtin "ord") (fun xs H Q => ∃ x, xs = [.str x] ∧ x.length = 1 ∧ Q (.int (x.cps.getD 0 0 : Nat)) H) := by
  intro pins s σ H xs us Q I r h
  obtain ⟨x, rfl, hz, q⟩ := h
  obtain ⟨u, rfl, t, rfl⟩ := vals1 r
  exact ord_of_one hz ⟨.int _, H, I.tok _, ⟨_, rfl⟩, q⟩
theorem call_chr : CallR X (.builtin "chr") (fun xs H Q => ∃ i, xs = [.int i] ∧ 0 ≤ i ∧ i ≤ 1114111 ∧ Q (.str ⟨#[i.toNat]⟩) H) := by
  intro pins s σ H xs us Q I r h
  obtain ⟨i, rfl, h0, h1, q⟩ := h
  obtain ⟨u, rfl, t, rfl⟩ := vals1 r
  exact chr_of_range h0 h1 ⟨.str _, H, I.tok _, ⟨_, rfl⟩, q⟩
def LenV (K : PySem.W.Frag) (x : V) (H : Hp) (n : Nat) : Prop :=
  match x with
  | .str y => y.length ≤ sizeLine ∧ n = y.length
  | .byt y => y.size ≤ sizeLine ∧ n = y.size
  | .ref p => (∃ xs, SqL K H p xs ∧ n = xs.length) ∨ ∃ xs, SqT K H p xs ∧ n = xs.length
  | _ => False
theorem call_len : CallR X (.builtin "len") (fun xs H Q => ∃ x n, xs = [x] ∧ LenV X.K x H n ∧ Q (.int n) H) := by
  intro pins s σ H xs us Q I r h
  obtain ⟨x, n, rfl, e, q⟩ := h
  obtain ⟨u, rfl, rx⟩ := vals1 r
  have hl := line63
  have hs : sizeLine = 16777216 := sizeLine_eq
  cases x with
  | str y =>
    obtain ⟨t, rfl⟩ := rx
    obtain ⟨hy, e'⟩ : y.length ≤ sizeLine ∧ n = y.length := e
    subst e'
    exact len_str (by omega) ⟨.int _, H, I.tok _, ⟨_, rfl⟩, q⟩
  | byt y =>
    obtain ⟨t, rfl⟩ := rx
    obtain ⟨hy, e'⟩ : y.size ≤ sizeLine ∧ n = y.size := e
    subst e'
    exact PySem.W.len_bytes (by omega) ⟨.int _, H, I.tok _, ⟨_, rfl⟩, q⟩
  | ref p =>
    cases rx
    have e' : (∃ xs, SqL X.K H p xs ∧ n = xs.length) ∨ ∃ xs, SqT X.K H p xs ∧ n = xs.length := e
    rcases e' with ⟨xs, hx, e'⟩ | ⟨xs, hx, e'⟩
    · subst e'
      obtain ⟨its, r', pl, hz⟩ := I.list hx
      have hlen := r'.length
      exact Calls.call_len_list pl.isList (by simp only [List.size_toArray]; omega) ⟨.int xs.length, H, I.tok _, ⟨_, by simp only [List.size_toArray]; rw [hlen]⟩, q⟩
    · subst e'
      obtain ⟨its, r', pl, hz⟩ := I.tuple hx
      have hlen := r'.length
      exact len_tuple pl (by simp only [List.size_toArray]; omega) ⟨.int xs.length, H, I.tok _, ⟨_, by simp only [List.size_toArray]; rw [hlen]⟩, q⟩
  | _ => exact (show False from e).elim
theorem call_divmod : CallR X (.builtin "divmod") (fun xs H Q => ∃ i j, xs = [.int i, .int j] ∧ CDiv i j ∧ ∀ p, H p = none → Q (.ref p) (upd H p (.tup [.int (i / j), .int (i % j)]))) := by
  intro pins s σ H xs us Q I r h
  obtain ⟨i, j, rfl, ⟨h1, h2⟩, q⟩ := h
  obtain ⟨u, w', rfl, ⟨t, rfl⟩, ⟨t', rfl⟩⟩ := vals2 r
  refine divmod_int (by omega) ?_ (.inl (PyProof.noPylong_small (by omega)))
  rw [Int.fdiv_eq_ediv_of_nonneg i (by omega), Int.fmod_eq_emod_of_nonneg i (by omega)]
  have hn : H s.heap.objs.size = none := I.hok.fresh (Nat.le_refl _)
  refine ⟨.ref s.heap.objs.size, _, ?_, rfl, q _ hn⟩
  refine I.laid (fun b o e => Heap.get?_push_of_some _ e) (Nat.le_refl _) ⟨by simp only [List.length_cons, List.length_nil]; rw [sizeLine_eq]; decide, [.int (i / j) s.toks, .int (i % j) (s.toks + 1)], .cons ⟨_, rfl⟩ (.cons ⟨_, rfl⟩ .nil), ?_⟩
  exact ⟨_, Heap.get?_push_size s.heap rfl, rfl, 0, rfl⟩
end
end L2

namespace L2
open PySem PySem.Spec PyProof.Rows

structure ObjM (h : Heap) (x dx C : Addr) (mA : Str → Option Value) : Prop where
  obj : h.get? x = some (PySem.W.instObj C dx)
  ns : h.Ns1 dx mA
  ne : dx ≠ x

theorem lookIn_ns {h : Heap} {dx : Addr} {mA : Str → Option Value} (n : h.Ns1 dx mA) : ∃ od, h.get? dx = some od ∧ ∀ name, PySem.W.lookIn name od = some (mA name) := by
  obtain ⟨o, es, ep, ho, hd, hk, _, hm⟩ := n
  refine ⟨o, ho, fun name => ?_⟩
  have e := hm name
  unfold nsFind findBy at e
  rw [← Array.find?_toList] at e
  unfold PySem.W.lookIn
  rw [hd]
  dsimp only
  split
  · rename_i y q
    rw [q] at e
    exact congrArg some e
  · rename_i q
    rw [q] at e
    have a : es.toList.any (·.refKey) = false := by
      rw [List.any_eq_false]
      intro y hy
      obtain ⟨z, t, hkey⟩ := hk y (Array.mem_toList_iff.mp hy)
      simp [DictEntry.refKey, hkey]
    have a' : ¬ es.toList.any (·.refKey) = true := by rw [a]; exact Bool.false_ne_true
    rw [if_neg a']
    exact congrArg some e

theorem ObjM.look {h : Heap} {x dx C : Addr} {mA : Str → Option Value} (I : ObjM h x dx C mA) : ∃ od, PySem.W.InstAt h x (PySem.W.instObj C dx) C (some od) ∧ ∀ name, PySem.W.lookIn name od = some (mA name) :=
  let ⟨od, ho, hl⟩ := lookIn_ns I.ns
  ⟨od, ⟨I.obj, rfl, rfl, ho⟩, hl⟩

section
variable {prog : Program} {w : World} {A : Around} {E : Value → Shared → Prop} {s : Shared} {K : PySem.W.Frag} {x dx C f : Addr} {mA : Str → Option Value} {name : Str} {v : Value}

theorem get_map {expr : Bool} {Q : Value → Shared → Prop} (X : K.In s.heap) (I : ObjM s.heap x dx C mA) (hg : PySem.W.plainGet K C name = true) (hh : PySem.W.hasDictIn K C = true)
    (ha : PySem.W.findIn K (.ref C) name = some none) (hv : mA name = some v) (hv' : PySem.W.handedIn v = true) (h : Q v { s with toks := s.toks + 1 }) :
    wpAny (model prog w) A (getAttr (.ref x) name expr) Q E s := by
  obtain ⟨od, J, hl⟩ := I.look
  exact PySem.W.get_value X J (PySem.W.plainGet_of hg).1 (PySem.W.findObj_own hh ha rfl (by rw [hl, hv])) hv' h

theorem get_const {expr : Bool} {a : Value} {Q : Value → Shared → Prop} (X : K.In s.heap) (I : ObjM s.heap x dx C mA) (hg : PySem.W.plainGet K C name = true) (hh : PySem.W.hasDictIn K C = true)
    (ha : PySem.W.findIn K (.ref C) name = some (some a)) (hn : PySem.W.specialIn K a "__get__" = some none) (hc : PySem.W.copiedNames.contains name = false) (hv : mA name = none) (hv' : PySem.W.handedIn a = true)
    (h : Q a { s with toks := s.toks + 1 }) : wpAny (model prog w) A (getAttr (.ref x) name expr) Q E s := by
  obtain ⟨od, J, hl⟩ := I.look
  exact PySem.W.get_value X J (PySem.W.plainGet_of hg).1 (PySem.W.findObj_cls hh ha hn hv' hc (by rw [hl, hv])) hv' h

theorem get_meth {pl : Sem Bool} {Q : Value × List Value → Shared → Prop} (X : K.In s.heap) (I : ObjM s.heap x dx C mA) (hg : PySem.W.plainGet K C name = true)
    (hf : PySem.W.findIn K (.ref C) name = some (some (.ref f))) (ht : PySem.W.isFn K (.ref f) = true) (hv : mA name = none) (h : Q (.ref f, [.ref x]) s) :
    wpAny (model prog w) A (getMethod (.ref x) name pl) Q E s := by
  obtain ⟨od, J, hl⟩ := I.look
  exact PySem.W.method_fn X J (PySem.W.plainGet_of hg).1 (PySem.W.plainGet_of hg).2 hf (beq_iff_eq.mp ht) (by show (PySem.W.lookIn name od).map (·.isSome) = some false; rw [hl, hv]; rfl) h

theorem set_map {ns : List Str} {Q : Unit → Shared → Prop} (X : K.In s.heap) (I : ObjM s.heap x dx C mA)
    (hs : PySem.W.findIn K (.ref C) "__setattr__" = some (some (.builtin "object.__setattr__"))) (hp : PySem.W.plainOver K C = true) (ht : PySem.W.takerIn K C name = some none) (hh : PySem.W.hasDictIn K C = true)
    (hw : PySem.Within mA ns) (hsz : ns.length ≤ sizeLine)
    (h : ∀ h', ObjM h' x dx C (fun y => if y = name then some v else mA y) → Heap.SameBut dx s.heap h' → Q () { s with heap := h', toks := s.toks + 2 }) :
    wpAny (model prog w) A (setAttr (.ref x) name v) Q E s := by
  obtain ⟨od, J, hl⟩ := I.look
  refine PySem.W.set_plain X J hs (PySem.W.osa_open (s := { s with toks := s.toks + 1 }) (r := none) X J hp ht fun b => ?_)
  obtain ⟨cd, hc, hd'⟩ := PySem.W.any_some hh
  have hx : s.heap.get? x = some ⟨.ref C, some dx, .plain, #[]⟩ := I.obj
  refine wpAny_bind (wpAny_pure (wpAny_bind (wpAny_bind (wpAny_loadPart hx (wpAny_bind (PySem.W.Looks.here (s := { s with toks := s.toks + 1 }) (PySem.W.looks_clsIn X hc) ?_))))))
  rw [hd']
  refine wpAny_pure (a := some dx) (wpAny_bind (wpAny_pure (wpAny_bind ?_)))
  refine wpAny_nsSet1 (s := { s with toks := s.toks + 1 }) I.ns fun h' hn2 hs2 => ?_
  obtain ⟨oD, esD, epD, hoD, hdD, hcD⟩ := hn2.count (PySem.Within.cons name v hw)
  refine wpAny_bind (wpAny_lookBehind hoD (by rw [hdD]; exact pastItsLine_dict (Nat.le_trans hcD (by rw [List.length_cons]; omega))) ?_)
  exact wpAny_pure (h _ ⟨(hs2.2 _ (Ne.symm I.ne)).trans I.obj, hn2, I.ne⟩ hs2)

theorem make_map {R : Result → Shared → Prop} {vs : List Value} {kw : List (Str × Value)} (X : K.In s.heap) (hm : PySem.W.makesIn K C = true)
    (hi : PySem.W.findIn K (.ref C) "__init__" = some (some (.ref f))) (hf : PySem.W.typeIn K (.ref f) = some (.type "function"))
    (h : codeAny (model prog w) (A.under (.builtin "type.__call__" ⟨.ref C :: vs, kw⟩)) (.call (.ref f) ⟨.ref (s.heap.objs.size + 1) :: vs, kw⟩) (PySem.W.InitBack (s.heap.objs.size + 1) R)
      { s with heap := (s.heap.push PySem.W.emptyDict).push (PySem.W.instObj C s.heap.objs.size) }) :
    codeAny (model prog w) A (.call (.ref C) ⟨vs, kw⟩) R s := by
  obtain ⟨hh, g, d, t, os⟩ := s
  exact PySem.W.make_core (PySem.W.makes_of X hm) (PySem.W.looks_findIn X hi) (fun self => PySem.W.bind_fn X self hf) (.inl rfl) h
theorem make_map0 {R : Result → Shared → Prop} (X : K.In s.heap) (hm : PySem.W.makesIn K C = true)
    (hi : PySem.W.findIn K (.ref C) "__init__" = some (some (.builtin "object.__init__")))
    (hb : ∀ self, PySem.W.Looks (model prog w) s.heap (bindSpecial (.builtin "object.__init__") self) (.builtin "object.__init__", [self]))
    (h : codeAny (model prog w) (A.under (.builtin "type.__call__" ⟨[.ref C], []⟩)) (.call (.builtin "object.__init__") ⟨[.ref (s.heap.objs.size + 1)], []⟩) (PySem.W.InitBack (s.heap.objs.size + 1) R)
      { s with heap := (s.heap.push PySem.W.emptyDict).push (PySem.W.instObj C s.heap.objs.size) }) :
    codeAny (model prog w) A (.call (.ref C) ⟨[], []⟩) R s := by
  obtain ⟨hh, g, d, t, os⟩ := s
  exact PySem.W.make_core (PySem.W.makes_of X hm) (PySem.W.looks_findIn X hi) hb (.inr ⟨rfl, rfl⟩) h
end

def putF (f : Str) (v : V) : List (Str × V) → List (Str × V)
  | [] => [(f, v)]
  | (g, x) :: r => if g = f then (g, v) :: r else (g, x) :: putF f v r
theorem lookup_putF (f g : Str) (v : V) : ∀ fs : List (Str × V), (putF f v fs).lookup g = if g = f then some v else fs.lookup g
  | [] => by
    show List.lookup g [(f, v)] = _
    by_cases h : g = f
    · have hb : (g == f) = true := beq_iff_eq.mpr h
      simp only [List.lookup, hb, if_pos h]
    · have hb : (g == f) = false := beq_eq_false_iff_ne.mpr h
      simp only [List.lookup, hb, if_neg h]
  | (k, x) :: r => by
    have ih := lookup_putF f g v r
    rw [show putF f v ((k, x) :: r) = (if k = f then (k, v) :: r else (k, x) :: putF f v r) from rfl]
    by_cases hk : k = f
    · rw [if_pos hk]
      by_cases h : g = k
      · have hb : (g == k) = true := beq_iff_eq.mpr h
        simp only [List.lookup, hb, if_pos (h.trans hk)]
      · have hb : (g == k) = false := beq_eq_false_iff_ne.mpr h
        simp only [List.lookup, hb, if_neg (fun e : g = f => h (e.trans hk.symm))]
    · rw [if_neg hk]
      by_cases h : g = k
      · have hb : (g == k) = true := beq_iff_eq.mpr h
        simp only [List.lookup, hb, if_neg (fun e : g = f => hk (h.symm.trans e))]
      · have hb : (g == k) = false := beq_eq_false_iff_ne.mpr h
        simp only [List.lookup, hb]
        exact ih
theorem keys_putF (f : Str) (v : V) : ∀ fs : List (Str × V), f ∈ (putF f v fs).map (·.1) ∧ ∀ g, g ∈ fs.map (·.1) → g ∈ (putF f v fs).map (·.1)
  | [] => ⟨by simp [putF], fun g h => by simp at h⟩
  | (k, x) :: r => by
    obtain ⟨i1, i2⟩ := keys_putF f v r
    rw [show putF f v ((k, x) :: r) = (if k = f then (k, v) :: r else (k, x) :: putF f v r) from rfl]
    by_cases hk : k = f
    · rw [if_pos hk]
      subst hk
      exact ⟨by simp, fun g h => by simpa using h⟩
    · rw [if_neg hk]
      refine ⟨?_, fun g h => ?_⟩
      · rw [List.map_cons]
        exact List.mem_cons_of_mem _ i1
      · rw [List.map_cons] at h ⊢
        rcases List.mem_cons.mp h with e | e
        · exact List.mem_cons.mpr (.inl e)
        · exact List.mem_cons_of_mem _ (i2 g e)
theorem length_putF (f : Str) (v : V) : ∀ fs : List (Str × V), (putF f v fs).length ≤ fs.length + 1
  | [] => by simp [putF]
  | (k, x) :: r => by
    have ih := length_putF f v r
    rw [show putF f v ((k, x) :: r) = (if k = f then (k, v) :: r else (k, x) :: putF f v r) from rfl]
    by_cases hk : k = f
    · rw [if_pos hk, List.length_cons, List.length_cons]; omega
    · rw [if_neg hk, List.length_cons, List.length_cons]; omega

theorem RelO.some_of {v : V} {o : Option Value} (r : RelO (some v) o) : ∃ u, o = some u ∧ RelV v u := by
  cases o with
  | none => exact (show False from r).elim
  | some u => exact ⟨u, rfl, r⟩
theorem RelO.none_of {o : Option Value} (r : RelO none o) : o = none := by
  cases o with
  | none => rfl
  | some u => exact (show False from r).elim
theorem handed_of {v : V} {u : Value} (r : RelV v u) : PySem.W.handedIn u = true := by
  cases v with
  | non => cases (show u = Value.none from r); rfl
  | bl b => cases (show u = Value.bool b from r); rfl
  | int i => obtain ⟨t, e⟩ := (show ∃ t, u = Value.int i t from r); cases e; rfl
  | str x => obtain ⟨t, e⟩ := (show ∃ t, u = Value.str x t from r); cases e; rfl
  | byt b => obtain ⟨t, e⟩ := (show ∃ t, u = Value.bytes b t from r); cases e; rfl
  | flt b => obtain ⟨t, e⟩ := (show ∃ t, u = Value.float b t from r); cases e; rfl
  | ref a => cases (show u = Value.ref a from r); rfl
  | ty n => cases (show u = Value.type n from r); rfl

section
variable {P : Program} {w : World} {H H' : Hp} {h h' : Heap} {a C dx : Addr} {fs fs' : List (Str × V)}
theorem ins_get (hok : HOk P w H h) (e : H a = some (.ins C dx fs)) : ∃ mA, ObjM h a dx C mA ∧ (∀ f, RelO (fs.lookup f) (mA f)) ∧ PySem.Within mA (fs.map (·.1)) ∧ fs.length ≤ 1000 ∧ H dx = some (.own a) := by
  obtain ⟨d, z, ne, ob, mA, n, r, q⟩ := (show ObjOk P w H h a (.ins C dx fs) from hok a _ e)
  exact ⟨mA, ⟨ob, n, ne⟩, r, q, z, d⟩
end

structure Cls (K : PySem.W.Frag) (C : Addr) : Prop where
  pg : PySem.W.plainGet K C Str.empty = true
  hd : PySem.W.hasDictIn K C = true
  po : PySem.W.plainOver K C = true
  sa : PySem.W.findIn K (.ref C) "__setattr__" = some (some (.builtin "object.__setattr__"))
theorem Cls.get {K : PySem.W.Frag} {C : Addr} (c : Cls K C) (f : Str) : PySem.W.plainGet K C f = true := c.pg
def NoAttr (K : PySem.W.Frag) (C : Addr) (f : Str) : Prop := PySem.W.findIn K (.ref C) f = some none
theorem NoAttr.taker {K : PySem.W.Frag} {C : Addr} {f : Str} (n : NoAttr K C f) : PySem.W.takerIn K C f = some none := by
  unfold PySem.W.takerIn
  rw [show PySem.W.findIn K (.ref C) f = some none from n]
  rfl
structure Con (K : PySem.W.Frag) (C : Addr) (f : Str) (v : V) (u : Value) : Prop where
  at_ : PySem.W.findIn K (.ref C) f = some (some u)
  rel : RelV v u
  get : PySem.W.specialIn K u "__get__" = some none
  cp : PySem.W.copiedNames.contains f = false
structure Meth (K : PySem.W.Frag) (C : Addr) (m : Str) (f : Addr) : Prop where
  at_ : PySem.W.findIn K (.ref C) m = some (some (.ref f))
  fn : PySem.W.isFn K (.ref f) = true
  kp : PySem.W.keepIn K (.ref f) = true

section
variable {X : Cx} {pins : List (Addr × Obj)} {σ : St} {H : Hp} {s : Shared} {a C dx : Addr} {fs : List (Str × V)} {f : Str} {v : V} {A : Around} {E : Value → Shared → Prop}

theorem getattr_ok {b : Bool} {Q : Value → Shared → Prop} (I : Inv X pins σ H s) (e : H a = some (.ins C dx fs)) (c : Cls X.K C) (n : NoAttr X.K C f) (l : fs.lookup f = some v)
    (h : ∀ u s', Inv X pins σ H s' → RelV v u → Q u s') : wpAny (model X.prog X.w) A (getAttr (.ref a) f b) Q E s := by
  obtain ⟨mA, O, r, _, _, _⟩ := ins_get I.hok e
  obtain ⟨u, hu, ru⟩ := RelO.some_of (v := v) (o := mA f) (by rw [← l]; exact r f)
  exact get_map I.kIn O (c.get f) c.hd n hu (handed_of ru) (h u _ (I.tok _) ru)

theorem getcon_ok {b : Bool} {u : Value} {Q : Value → Shared → Prop} (I : Inv X pins σ H s) (e : H a = some (.ins C dx fs)) (c : Cls X.K C) (k : Con X.K C f v u) (l : fs.lookup f = none)
    (h : ∀ s', Inv X pins σ H s' → Q u s') : wpAny (model X.prog X.w) A (getAttr (.ref a) f b) Q E s := by
  obtain ⟨mA, O, r, _, _, _⟩ := ins_get I.hok e
  have hn : mA f = none := RelO.none_of (by rw [← l]; exact r f)
  exact get_const I.kIn O (c.get f) c.hd k.at_ k.get k.cp hn (handed_of k.rel) (h _ (I.tok _))

theorem getmeth_ok {m : Str} {g : Addr} {pl : Sem Bool} {Q : Value × List Value → Shared → Prop} (I : Inv X pins σ H s) (e : H a = some (.ins C dx fs)) (c : Cls X.K C) (k : Meth X.K C m g) (l : fs.lookup m = none)
    (h : Q (.ref g, [.ref a]) s) : wpAny (model X.prog X.w) A (getMethod (.ref a) m pl) Q E s := by
  obtain ⟨mA, O, r, _, _, _⟩ := ins_get I.hok e
  have hn : mA m = none := RelO.none_of (by rw [← l]; exact r m)
  exact get_meth I.kIn O (c.get m) k.at_ k.fn hn h

theorem setattr_ok {y : V} {u : Value} {Q : Unit → Shared → Prop} (I : Inv X pins σ H s) (e : H a = some (.ins C dx fs)) (c : Cls X.K C) (n : NoAttr X.K C f) (hl : fs.length < 1000) (ry : RelV y u)
    (h : ∀ s', Inv X pins σ (upd H a (.ins C dx (putF f y fs))) s' → Q () s') : wpAny (model X.prog X.w) A (setAttr (.ref a) f u) Q E s := by
  obtain ⟨mA, O, r, wi, _, ho⟩ := ins_get I.hok e
  have hz : (fs.map (·.1)).length ≤ sizeLine := by rw [List.length_map, sizeLine_eq]; omega
  refine set_map I.kIn O c.sa c.po n.taker c.hd wi hz fun h' O' sb => h _ ?_
  have hd : ∃ o, h'.get? dx = some o := let ⟨o, _, _, e', _⟩ := O'.ns; ⟨o, e'⟩
  refine I.write (x := a) (e := dx) (by rw [e]; exact True.intro) (.inr ho) (fun b q hb z => (sb.2 b hb).trans z) hd ?_
  refine ⟨by rw [upd_ne O.ne]; exact ho, ?_, O.ne, O'.obj, _, O'.ns, fun g => ?_, fun g hg => ?_⟩
  · have := length_putF f y fs; omega
  · show RelO ((putF f y fs).lookup g) (if g = f then some u else mA g)
    rw [lookup_putF]
    by_cases q : g = f
    · rw [if_pos q, if_pos q]; exact ry
    · rw [if_neg q, if_neg q]; exact r g
  · by_cases q : g = f
    · rw [q]; exact (keys_putF f y fs).1
    · refine (keys_putF f y fs).2 g (wi g fun z => hg ?_)
      show (if g = f then some u else mA g) = none
      rw [if_neg q]; exact z

theorem Inv.made (I : Inv X pins σ H s) : Inv X pins σ (upd (upd H s.heap.objs.size (.own (s.heap.objs.size + 1))) (s.heap.objs.size + 1) (.ins C s.heap.objs.size []))
    { s with heap := (s.heap.push PySem.W.emptyDict).push (PySem.W.instObj C s.heap.objs.size) } := by
  have e1 : (s.heap.push PySem.W.emptyDict).get? s.heap.objs.size = some PySem.W.emptyDict := Heap.get?_push_size s.heap rfl
  have e2 : ((s.heap.push PySem.W.emptyDict).push (PySem.W.instObj C s.heap.objs.size)).get? (s.heap.objs.size + 1) = some (PySem.W.instObj C s.heap.objs.size) := by
    have := Heap.get?_push_size (s.heap.push PySem.W.emptyDict) (o := PySem.W.instObj C s.heap.objs.size) rfl
    rwa [Heap.size_push] at this
  have e3 : (s.heap.push PySem.W.emptyDict).Ns s.heap.objs.size (fun _ => none) := ⟨PySem.W.emptyDict, #[], _, e1, rfl, (fun e he => absurd he (by simp)), fun _ => rfl⟩
  have I1 := I.laid (a := s.heap.objs.size) (o := .own (s.heap.objs.size + 1)) (h' := s.heap.push PySem.W.emptyDict) (t' := s.toks) (fun b u q => Heap.get?_push_of_some _ q) (Nat.le_refl _) ⟨_, e1⟩
  refine I1.laid (a := s.heap.objs.size + 1) (o := .ins C s.heap.objs.size []) (t' := s.toks) (fun b u q => Heap.get?_push_of_some _ q) (Nat.le_of_eq (Heap.size_push _ _)) ?_
  have ne : s.heap.objs.size ≠ s.heap.objs.size + 1 := Nat.ne_of_lt (Nat.lt_succ_self _)
  refine ⟨by rw [upd_ne ne, upd_same], Nat.zero_le _, ne, e2, fun _ => none, (Heap.Ns1.of_empty e3).at fun o q => Heap.get?_push_of_some _ q, fun _ => True.intro, fun y hy => absurd rfl hy⟩

theorem attr_of {prog : Program} {w : World} {env : Env} {e : Expr} {f : Str} {pos : Pos} {s : Shared} {Q : Value → Shared → Prop} (hb : attributeBase e f env (eval e env) = eval e env)
    (h : wpAny (model prog w) A (eval e env) (fun o s₁ => wpAny (model prog w) A (getAttr o f true) Q E s₁) E s) : wpAny (model prog w) A (eval (.Attribute e f pos) env) Q E s :=
  Attribute_any_ h (by rw [arm_eval_Attribute, hb])
end

def tFld (K : PySem.W.Frag) (ta : TE) (f : Str) : TE := fun σ H Q => ta σ H fun x H1 => ∃ a C dx fs v, x = .ref a ∧ H1 a = some (.ins C dx fs) ∧ Cls K C ∧ NoAttr K C f ∧ fs.lookup f = some v ∧ Q v H1
def tCon (K : PySem.W.Frag) (ta : TE) (f : Str) : TE := fun σ H Q => ta σ H fun x H1 => ∃ a C dx fs v u, x = .ref a ∧ H1 a = some (.ins C dx fs) ∧ Cls K C ∧ Con K C f v u ∧ fs.lookup f = none ∧ Q v H1
def sFld (K : PySem.W.Frag) (ta tv : TE) (f : Str) : TS := fun D σ H => tv σ H fun y H1 => ta σ H1 fun x H2 => ∃ a C dx fs, x = .ref a ∧ H2 a = some (.ins C dx fs) ∧ Cls K C ∧ NoAttr K C f ∧ fs.length < 1000 ∧
  D.nx σ (upd H2 a (.ins C dx (putF f y fs)))
def InOp (X : Cx) (op : Operator) (rd : V → V → Hp → VK → Prop) : Prop :=
  ∀ (pins : List (Addr × Obj)) (s : Shared) (σ : St) (H : Hp) (x y : V) (u v : Value) (Q : VK), Inv X pins σ H s → RelV x u → RelV y v → rd x y H Q → wpAny (model X.prog X.w) X.A (inplaceOp op u v) (EP X pins σ Q) X.xe s
def sFldAug (K : PySem.W.Frag) (ta tv : TE) (rd : V → V → Hp → VK → Prop) (f : Str) : TS := fun D σ H => ta σ H fun x H1 => ∃ a C dx fs v, x = .ref a ∧ H1 a = some (.ins C dx fs) ∧ Cls K C ∧ NoAttr K C f ∧ fs.lookup f = some v ∧
  tv σ H1 fun y H2 => rd v y H2 fun z H3 => ∃ dx' fs', H3 a = some (.ins C dx' fs') ∧ fs'.length < 1000 ∧ D.nx σ (upd H3 a (.ins C dx' (putF f z fs')))

section
variable {X : Cx} {o e value : Expr} {f : Str} {pos pos' tpos : Pos} {ta tv : TE}
theorem pe_fld (he : PE X e ta) (hb : attributeBase e f X.env (eval e X.env) = eval e X.env) : PE X (.Attribute e f pos) (tFld X.K ta f) := by
  intro pins s σ H Q I h
  refine attr_of hb (thn (he pins s σ H _ I h) fun u s1 ⟨x, H1, I1, rx, a, C, dx, fs, v, ex, ea, c, n, l, q⟩ => ?_)
  subst ex
  obtain rfl : u = Value.ref a := rx
  exact getattr_ok I1 ea c n l fun u' s2 I2 ru => ⟨v, H1, I2, ru, q⟩
theorem pe_con (he : PE X e ta) (hb : attributeBase e f X.env (eval e X.env) = eval e X.env) : PE X (.Attribute e f pos) (tCon X.K ta f) := by
  intro pins s σ H Q I h
  refine attr_of hb (thn (he pins s σ H _ I h) fun u s1 ⟨x, H1, I1, rx, a, C, dx, fs, v, u0, ex, ea, c, k, l, q⟩ => ?_)
  subst ex
  obtain rfl : u = Value.ref a := rx
  exact getcon_ok I1 ea c k l fun s2 I2 => ⟨v, H1, I2, k.rel, q⟩
theorem ps_fld (ha : PE X o ta) (hv : PE X value tv) (hs : swapsWith value (some (.Attribute o f pos')) pos.line X.env = pure false) : PS X (.Assign [.Attribute o f pos'] value pos) (sFld X.K ta tv f) := by
  intro pins s σ H D I h
  refine plainObj_wpAny_Assign_Attribute (thn (hv pins s σ H _ I h) fun u s1 ⟨y, H1, I1, ry, q⟩ => thn (ha pins s1 σ H1 _ I1 q) fun ov s2 ⟨x, H2, I2, rx, a, C, dx, fs, ex, ea, c, n, l, q2⟩ => ?_) hs
  subst ex
  obtain rfl : ov = Value.ref a := rx
  exact setattr_ok I2 ea c n l ry fun s3 I3 => ⟨σ, _, I3, q2⟩
theorem ps_fldaug {op : Operator} {rd : V → V → Hp → VK → Prop} (ha : PE X o ta) (hv : PE X value tv) (hop : InOp X op rd) : PS X (.AugAssign (.Attribute o f tpos) op value pos) (sFldAug X.K ta tv rd f) := by
  intro pins s σ H D I h
  refine wpAny_AugAssign_AttributeAny (thn (ha pins s σ H _ I h) fun ov s1 ⟨x, H1, I1, rx, a, C, dx, fs, v, ex, ea, c, n, l, q⟩ => ?_)
  subst ex
  obtain rfl : ov = Value.ref a := rx
  refine getattr_ok I1 ea c n l fun u s2 I2 ru => thn (hv pins s2 σ H1 _ I2 q) fun w3 s3 ⟨y, H2, I3, ry, q3⟩ => thn (hop pins s3 σ H2 v y u w3 _ I3 ru ry q3) fun w4 s4 ⟨z, H3, I4, rz, dx', fs', ea', l', q4⟩ => ?_
  exact setattr_ok I4 ea' c n l' rz fun s5 I5 => ⟨σ, _, I5, q4⟩
def rAdd : V → V → Hp → VK → Prop := fun x y H Q => ∃ i j, x = .int i ∧ y = .int j ∧ Q (.int (i + j)) H
def rSub : V → V → Hp → VK → Prop := fun x y H Q => ∃ i j, x = .int i ∧ y = .int j ∧ Q (.int (i - j)) H
theorem in_add : InOp X .Add rAdd := by
  rintro pins s σ H x y u v Q I rx ry ⟨i, j, rfl, rfl, q⟩
  obtain ⟨t, rfl⟩ := (show ∃ t, u = Value.int i t from rx)
  obtain ⟨t', rfl⟩ := (show ∃ t', v = Value.int j t' from ry)
  exact PyProof.Rows.iadd_int ⟨.int (i + j), H, I.tok _, ⟨_, rfl⟩, q⟩
theorem in_sub : InOp X .Sub rSub := by
  rintro pins s σ H x y u v Q I rx ry ⟨i, j, rfl, rfl, q⟩
  obtain ⟨t, rfl⟩ := (show ∃ t, u = Value.int i t from rx)
  obtain ⟨t', rfl⟩ := (show ∃ t', v = Value.int j t' from ry)
  exact PyProof.Rows.isub_int ⟨.int (i - j), H, I.tok _, ⟨_, rfl⟩, q⟩

theorem methcall_of {pl : Sem Bool} {m : Str} {apos : Pos} {args : List Expr} {pins : List (Addr × Obj)} {s : Shared} {σ : St} {H : Hp} {Q : Value → Shared → Prop} {te : TE} (he : PE X e te) (I : Inv X pins σ H s)
    (h : te σ H fun x H1 => ∃ a C dx fs g, x = .ref a ∧ H1 a = some (.ins C dx fs) ∧ Cls X.K C ∧ Meth X.K C m g ∧ fs.lookup m = none ∧
      ∀ s1, Inv X pins σ H1 s1 → wpAny (model X.prog X.w) X.A (callWith pos (.ref g) [.ref a] (backTo pos (starEach args X.env)) (backToKw pos (keywordEach [] X.env))) Q X.xe s1)
    (ht : eval (.Call (.Attribute e m apos) args [] pos) X.env = (do
      let ov ← eval e X.env
      standAt apos.atName
      let (f, first) ← holding [ov] (getMethod ov m pl)
      callWith pos f first (backTo pos (starEach args X.env)) (backToKw pos (keywordEach [] X.env)))) :
    wpAny (model X.prog X.w) X.A (eval (.Call (.Attribute e m apos) args [] pos) X.env) Q X.xe s := by
  refine PySem.W.methodCall_KW (pl := pl) (thn (he pins s σ H _ I h) fun u s1 ⟨x, H1, I1, rx, a, C, dx, fs, g, ex, ea, c, k, l, q⟩ => ?_) ht
  subst ex
  obtain rfl : u = Value.ref a := rx
  exact getmeth_ok I1 ea c k l (q s1 I1)
end

section
variable {X : Cx} {pins : List (Addr × Obj)} {σ : St} {H : Hp} {s : Shared} {A : Around} {E : Value → Shared → Prop} {Q : Value → Shared → Prop} {c : Value} {b : Bool}
inductive TyOf (K : PySem.W.Frag) (H : Hp) : V → Value → Prop where
  | non : TyOf K H .non (.type "NoneType")
  | bl (x : Bool) : TyOf K H (.bl x) (.type "bool")
  | int (i : Int) : TyOf K H (.int i) (.type "int")
  | str (x : Str) : TyOf K H (.str x) (.type "str")
  | flt (x : UInt64) : TyOf K H (.flt x) (.type "float")
  | lst {a : Addr} {xs : List V} (e : H a = some (.lst xs)) : TyOf K H (.ref a) (.type "list")
  | frz {a : Addr} {o : Obj} {xs : List V} (e : H a = some (.frz o (.lst xs))) : TyOf K H (.ref a) (.type "list")
  | tup {a : Addr} {xs : List V} (e : H a = some (.tup xs)) : TyOf K H (.ref a) (.type "tuple")
  | dK {a : Addr} {kvs : List (Key × V)} (e : H a = some (.dK kvs)) : TyOf K H (.ref a) (.type "dict")
  | dT {a : Addr} {kvs : List (List Key × V)} (e : H a = some (.dT kvs)) : TyOf K H (.ref a) (.type "dict")
  | ins {a C dx : Addr} {fs : List (Str × V)} (e : H a = some (.ins C dx fs)) (cl : Cls K C) (ha : PySem.W.findIn K (.ref C) "__class__" = some (some (.builtin "object.__class__")))
      (hn : PySem.W.specialIn K (.builtin "object.__class__") "__get__" = some (some (.builtin "getset_descriptor.__get__"))) (htk : PySem.W.takesIn K (.builtin "object.__class__") = some true)
      (hm : PySem.W.mroIn K C (.type "object") = some true) : TyOf K H (.ref a) (.ref C)
theorem isinst_ok {x : V} {u t : Value} (I : Inv X pins σ H s) (rx : RelV x u) (ty : TyOf X.K H x t) (e : PySem.W.kitOne X.K t c = some b) (h : ∀ tk, Q (.bool b) { s with toks := tk }) :
    wpAny (model X.prog X.w) A (call (.builtin "isinstance") [u, c]) Q E s := by
  cases ty with
  | non => cases (show u = Value.none from rx); exact PySem.W.kia_one PySem.W.kitx_none I.kIn True.intro e (fun z => nomatch z) h
  | bl y => cases (show u = Value.bool y from rx); exact PySem.W.kia_one PySem.W.kitx_bool I.kIn True.intro e (fun z => nomatch z) h
  | int i => obtain ⟨t, q⟩ := (show ∃ t, u = Value.int i t from rx); cases q; exact PySem.W.kia_one PySem.W.kitx_int I.kIn True.intro e (fun z => nomatch z) h
  | str y => obtain ⟨t, q⟩ := (show ∃ t, u = Value.str y t from rx); cases q; exact PySem.W.kia_one PySem.W.kitx_str I.kIn True.intro e (fun z => nomatch z) h
  | flt y => obtain ⟨t, q⟩ := (show ∃ t, u = Value.float y t from rx); cases q; exact PySem.W.kia_one PySem.W.kitx_float I.kIn True.intro e (fun z => nomatch z) h
  | @lst a xs ea =>
    cases (show u = Value.ref a from rx)
    obtain ⟨_, _, n, _, h1⟩ := (show ObjOk X.prog X.w H s.heap a (.lst xs) from I.hok a _ ea)
    exact PySem.W.kia_one PySem.W.kitx_list I.kIn ⟨_, h1, rfl⟩ e (fun z => nomatch z) h
  | @frz a ob xs ea =>
    cases (show u = Value.ref a from rx)
    obtain ⟨_, _, _, n, _, h1⟩ := (show ObjOk X.prog X.w H s.heap a (.frz ob (.lst xs)) from I.hok a _ ea)
    exact PySem.W.kia_one PySem.W.kitx_list I.kIn ⟨_, h1, rfl⟩ e (fun z => nomatch z) h
  | @tup a xs ea =>
    cases (show u = Value.ref a from rx)
    obtain ⟨_, _, _, p⟩ := (show ObjOk X.prog X.w H s.heap a (.tup xs) from I.hok a _ ea)
    obtain ⟨o, h1, h2, _⟩ := p
    exact PySem.W.kia_one PySem.W.kitx_tuple I.kIn ⟨o, h1, h2⟩ e (fun z => nomatch z) h
  | @dK a kvs ea =>
    cases (show u = Value.ref a from rx)
    obtain ⟨_, _, vs, _, p⟩ := (show ObjOk X.prog X.w H s.heap a (.dK kvs) from I.hok a _ ea)
    obtain ⟨o, es, ep, h1, h2, _⟩ := p
    exact PySem.W.kia_one PySem.W.kitx_dict I.kIn ⟨o, h1, h2.1⟩ e (fun z => nomatch z) h
  | @dT a kvs ea =>
    cases (show u = Value.ref a from rx)
    obtain ⟨_, _, xs, _, o, es, ep, h1, h2, _⟩ := (show ObjOk X.prog X.w H s.heap a (.dT kvs) from I.hok a _ ea)
    exact PySem.W.kia_one PySem.W.kitx_dict I.kIn ⟨o, h1, h2.1⟩ e (fun z => nomatch z) h
  | @ins a C dx fs ea cl ha hn htk hm =>
    cases (show u = Value.ref a from rx)
    obtain ⟨mA, O, _⟩ := ins_get I.hok ea
    obtain ⟨od, J, _⟩ := O.look
    exact PySem.W.kia_one (PySem.W.kitx_own (cl.get _) cl.hd ha hn htk hm) I.kIn J e (fun z => nomatch z) h
end
end L2

namespace L2
open PySem PySem.Spec PyProof.Rows

structure Room (k : Nat) (A : Around) : Prop where
  hd : A.handled = none
  dp : A.depth + 3 * k + 5 < recursionLimit
  un : A.units + 16 * k + 200 < cLine
theorem Room.mono {j k : Nat} {A : Around} (r : Room k A) (h : j ≤ k) : Room j A := ⟨r.hd, by have := r.dp; omega, by have := r.un; omega⟩
theorem Room.deeper {k : Nat} {A : Around} (r : Room (k + 1) A) (env : Env) : Room k (A.deeper env) :=
  ⟨r.hd, by have := r.dp; show A.depth + 1 + 3 * k + 5 < _; omega, by have := r.un; show A.units + 3 + 16 * k + 200 < _; omega⟩
theorem Room.in1 {k : Nat} {A : Around} (r : Room (k + 1) A) : Room k A.in1 :=
  ⟨r.hd, by have := r.dp; show A.depth + 3 * k + 5 < _; omega, by have := r.un; show A.units + 1 + 16 * k + 200 < _; omega⟩
theorem make_depth {A : Around} {C : Addr} {us : List Value} {kw : List (Str × Value)} : (A.under (.builtin "type.__call__" ⟨.ref C :: us, kw⟩)).depth = A.depth + 1 := by
  first | rfl | simp [Around.under, Code.weight, Code.isCreation, Code.isGuard, Code.isCaller, Code.frames, Code.isFrame, guardIds]
theorem make_units {A : Around} {C : Addr} {us : List Value} {kw : List (Str × Value)} : (A.under (.builtin "type.__call__" ⟨.ref C :: us, kw⟩)).units = A.units + 1 := by
  first | rfl | simp [Around.under, Code.cUnits, Code.frames, Code.isFrame]
theorem Room.make {k : Nat} {A : Around} (r : Room (k + 1) A) (C : Addr) (us : List Value) (kw : List (Str × Value)) : Room k (A.under (.builtin "type.__call__" ⟨.ref C :: us, kw⟩)) :=
  ⟨r.hd, by have := r.dp; rw [make_depth]; omega, by have := r.un; rw [make_units]; omega⟩
theorem Room.depth {k : Nat} {A : Around} (r : Room k A) : A.depth < recursionLimit := by have := r.dp; omega
theorem Room.units {k : Nat} {A : Around} (r : Room k A) : A.units + 64 < cLine := by have := r.un; omega
theorem Room.units0 {k : Nat} {A : Around} (r : Room k A) : A.units < cLine := by have := r.un; omega

def tNil : TA := fun _ H Q => Q [] H
def tCons (ta : TE) (tr : TA) : TA := fun σ H Q => ta σ H fun x H1 => tr σ H1 fun xs H2 => Q (x :: xs) H2
section
variable {X : Cx} {e : Expr} {es : List Expr} {te : TE} {t : TA} {pos : Pos}
theorem pa_nil : PA X [] tNil := fun _ _ _ _ H Q I h => Calls.spliced_nil ⟨[], H, I, .nil, h⟩
theorem pa_cons (ha : PE X e te) (hr : PA X es t) (hs : starEach (e :: es) X.env = (false, eval e X.env) :: starEach es X.env := by rfl) : PA X (e :: es) (tCons te t) := by
  intro pos pins s σ H Q I h
  rw [hs]
  show wpAny _ _ (spliced ((false, eval e X.env) :: backTo pos (starEach es X.env))) _ _ s
  refine Calls.spliced_cons (thn (ha pins s σ H _ I h) fun u s1 ⟨x, H1, I1, r1, q1⟩ => ?_)
  exact thn (hr pos pins s1 σ H1 _ I1 q1) fun us s2 ⟨xs, H2, I2, r2, q2⟩ => ⟨x :: xs, H2, I2, .cons r1 r2, q2⟩

def tTup (t : TA) : TE := fun σ H Q => t σ H fun xs H1 => xs.length ≤ sizeLine ∧ ∀ p, H1 p = none → Q (.ref p) (upd H1 p (.tup xs))
def tLst (t : TA) : TE := fun σ H Q => t σ H fun xs H1 => xs.length ≤ sizeLine ∧ ∀ p, H1 p = none → Q (.ref p) (upd H1 p (.lst xs))
theorem pe_tup {x1} (h : PA X es t) : PE X (.Tuple es x1 pos) (tTup t) := by
  intro pins s σ H Q I hq
  refine wpAny_Tuple_spliced (thn (h pos pins s σ H _ I hq) fun us s1 ⟨xs, H1, I1, r, z, q⟩ => ⟨by rw [← r.length]; exact z, ?_⟩)
  have hf : H1 s1.heap.objs.size = none := I1.hok.fresh (Nat.le_refl _)
  refine ⟨.ref s1.heap.objs.size, upd H1 s1.heap.objs.size (.tup xs), I1.laid (t' := s1.toks) (fun b u e => Heap.get?_push_of_some _ e) (Nat.le_refl _) ?_, rfl, q _ hf⟩
  exact ⟨z, us, r, ⟨_, Heap.get?_push_size _ rfl, rfl, _, rfl⟩⟩
theorem pe_lst (h : PA X es t) : PE X (.List es pos) (tLst t) := by
  intro pins s σ H Q I hq
  refine wpAny_List_spliced (thn (h pos pins s σ H _ I hq) fun us s1 ⟨xs, H1, I1, r, z, q⟩ => ⟨by rw [← r.length]; exact z, ?_⟩)
  have hf : H1 s1.heap.objs.size = none := I1.hok.fresh (Nat.le_refl _)
  refine ⟨.ref s1.heap.objs.size, upd H1 s1.heap.objs.size (.lst xs), I1.laid (t' := s1.toks) (fun b u e => Heap.get?_push_of_some _ e) (Nat.le_refl _) ?_, rfl, q _ hf⟩
  exact ⟨z, us, 0, r, Heap.get?_push_size _ rfl⟩
end

abbrev Sp := List V → Hp → VK → XK → Prop
abbrev CXT := List Env → Hp → Shared → XK → Value → Shared → Prop

structure Env0 (P : Program) (w : World) (K : PySem.W.Frag) (mg : Str → Option Value) (base : Heap) (A : Around) (outer : List Env) (s : Shared) (H : Hp) : Prop where
  frames : A.frames = some outer
  mod : Mod K mg base
  bs : ∀ b o, base.get? b = some o → s.heap.get? b = some o ∧ H b = none
  bsz : base.objs.size ≤ s.heap.objs.size
  funs : s.heap.FunFrames base outer
  frf : ∀ b ∈ frs outer, H b = none
  hok : HOk P w H s.heap
  bare : AllBare s.gens
def CE (outer : List Env) (P : Program) (w : World) (H : Hp) (s : Shared) (Q : VK) (u : Value) (s' : Shared) : Prop :=
  ∃ v H', s'.os = s.os ∧ AllBare s'.gens ∧ Un (frs outer) [] H H' s.heap s'.heap ∧ HOk P w H' s'.heap ∧ RelV v u ∧ Q v H'
def CR (CX : CXT) (outer : List Env) (P : Program) (w : World) (H : Hp) (s : Shared) (Q : VK) (E : XK) (r : Result) (s' : Shared) : Prop :=
  match r with
  | .ok (.ret u) => CE outer P w H s Q u s'
  | .ok _ => False
  | .error e => CX outer H s E e s'
structure FnOk (P : Program) (w : World) (K : PySem.W.Frag) (mg : Str → Option Value) (base : Heap) (CX : CXT) (k : Nat) (f : Addr) (fd : FuncData) (ps : List Str) (sp : Sp) : Prop where
  len : ∀ vs H Q E, sp vs H Q E → vs.length = ps.length
  run : ∀ (A : Around) (outer : List Env) (s : Shared) (H : Hp) (args : Args) (us : List Value) (vs : List V) (Q : VK) (E : XK), Room k A → Env0 P w K mg base A outer s H → BindsTo s fd args (ps.zip us) → Vals vs us → sp vs H Q E →
    codeAny (model P w) A (.call (.ref f) args) (CR CX outer P w H s Q E) s
theorem FnOk.mono {P : Program} {w : World} {K : PySem.W.Frag} {mg : Str → Option Value} {base : Heap} {CX : CXT} {j k : Nat} {f : Addr} {fd : FuncData} {ps : List Str} {sp : Sp} (F : FnOk P w K mg base CX j f fd ps sp) (h : j ≤ k) :
    FnOk P w K mg base CX k f fd ps sp := ⟨F.len, fun A outer s H args us vs Q E hr => F.run A outer s H args us vs Q E (hr.mono h)⟩
theorem FnOk.imp {P : Program} {w : World} {K : PySem.W.Frag} {mg : Str → Option Value} {base : Heap} {CX : CXT} {k : Nat} {f : Addr} {fd : FuncData} {ps : List Str} {sp sp' : Sp} (F : FnOk P w K mg base CX k f fd ps sp)
    (h : ∀ vs H Q E, sp' vs H Q E → sp vs H Q E) : FnOk P w K mg base CX k f fd ps sp' :=
  ⟨fun vs H Q E q => F.len vs H Q E (h _ _ _ _ q), fun A outer s H args us vs Q E hr he hb hv hs => F.run A outer s H args us vs Q E hr he hb hv (h _ _ _ _ hs)⟩

theorem Env0.make {P : Program} {w : World} {K : PySem.W.Frag} {mg : Str → Option Value} {base : Heap} {A : Around} {outer : List Env} {s : Shared} {H : Hp} (e : Env0 P w K mg base A outer s H) (C : Addr) (us : List Value) (kw : List (Str × Value)) :
    Env0 P w K mg base (A.under (.builtin "type.__call__" ⟨.ref C :: us, kw⟩)) outer s H := ⟨by first | exact e.frames | (simpa [Around.under, Code.envs, Code.isFrame, pushEnvs] using e.frames), e.mod, e.bs, e.bsz, e.funs, e.frf, e.hok, e.bare⟩
theorem Env0.in1 {P : Program} {w : World} {K : PySem.W.Frag} {mg : Str → Option Value} {base : Heap} {A : Around} {outer : List Env} {s : Shared} {H : Hp} (e : Env0 P w K mg base A outer s H) :
    Env0 P w K mg base A.in1 outer s H := ⟨e.frames, e.mod, e.bs, e.bsz, e.funs, e.frf, e.hok, e.bare⟩

section
variable {X : Cx} {pins : List (Addr × Obj)} {σ : St} {H : Hp} {s s' : Shared}
theorem Inv.env0 (I : Inv X pins σ H s) : Env0 X.prog X.w X.K X.mg X.base X.A X.stack s H :=
  ⟨I.ok.frames, I.ok.mod, I.bs, Nat.le_trans I.ok.bsz I.sz, I.stack, I.stkFree, I.hok, I.bare⟩
theorem Inv.after {Q : VK} {u : Value} (I : Inv X pins σ H s) (h : CE X.stack X.prog X.w H s Q u s') : EP X pins σ Q u s' := by
  obtain ⟨v, H', os, bare, un, hok, r, q⟩ := h
  obtain ⟨hh, g, d, t, os'⟩ := s'
  obtain rfl : os' = s.os := os
  exact ⟨v, H', I.call (h' := hh) (g' := g) (d' := d) (t' := t) (ch := []) un hok bare (fun b z => absurd z (by simp)), r, q⟩
end

def tCall (sp : Sp) (dvs : List V) (E : XK) (t : TA) : TE := fun σ H Q => t σ H fun vs H1 => sp (vs ++ dvs) H1 Q E
def tMeth (C : Addr) (m : Str) (sp : Sp) (dvs : List V) (E : XK) (ta : TE) (t : TA) : TE := fun σ H Q => ta σ H fun x H1 => ∃ a dx fs, x = .ref a ∧ H1 a = some (.ins C dx fs) ∧ fs.lookup m = none ∧
  t σ H1 fun vs H2 => sp (x :: (vs ++ dvs)) H2 Q E
def tMake (C : Addr) (sp : Sp) (dvs : List V) (E : XK) (t : TA) : TE := fun σ H Q => t σ H fun vs H1 => ∀ x dx, H1 x = none → H1 dx = none → dx ≠ x →
  sp (.ref x :: (vs ++ dvs)) (upd (upd H1 dx (.own x)) x (.ins C dx [])) (fun v H2 => v = .non ∧ Q (.ref x) H2) E

def Binds (K : PySem.W.Frag) (fd : FuncData) (ps : List Str) (ds : List Value) : Prop :=
  ∀ (s : Shared) (us : List Value), K.In s.heap → (us ++ ds).length = ps.length → BindsTo s fd ⟨us, []⟩ (ps.zip (us ++ ds))
theorem Binds.all {K : PySem.W.Frag} {fd : FuncData} {ps : List Str} (h : ∀ us : List Value, us.length = ps.length → bindArgs fd ⟨us, []⟩ = pure (ps.zip us)) : Binds K fd ps [] := fun s us _ hl => by
  rw [List.append_nil] at hl ⊢
  exact .of_eq (h us hl)

def Passes (CX : CXT) (X : Cx) (E : XK) : Prop := ∀ (pins : List (Addr × Obj)) (σ : St) (H : Hp) (s : Shared) (e : Value) (s' : Shared), Inv X pins σ H s → CX X.stack H s E e s' → X.xe e s'

section
variable {X : Cx} {CX : CXT} {k : Nat} {f C : Addr} {fd : FuncData} {ps : List Str} {sp : Sp} {dvs : List V} {ds : List Value} {E : XK} {x m : Str} {p pos apos : Pos} {e o : Expr} {es : List Expr} {ta : TE} {t : TA}

theorem run_fn {pins : List (Addr × Obj)} {σ : St} {H : Hp} {s : Shared} {Q : VK} {us : List Value} {vs : List V} (F : FnOk X.prog X.w X.K X.mg X.base CX k f fd ps sp) (hr : Room k X.A) (hb : Binds X.K fd ps ds) (hd : Vals dvs ds) (hx : Passes CX X E)
    (I : Inv X pins σ H s) (r : Vals vs us) (h : sp (vs ++ dvs) H Q E) : wpAny (model X.prog X.w) X.A (call (.ref f) us) (EP X pins σ Q) X.xe s := by
  have r2 : Vals (vs ++ dvs) (us ++ ds) := r.append hd
  have hl : (us ++ ds).length = ps.length := by rw [← r2.length]; exact F.len _ _ _ _ h
  refine wpAny_call (codeAny_mono (F.run X.A X.stack s H ⟨us, []⟩ (us ++ ds) (vs ++ dvs) Q E hr I.env0 (hb s us I.kIn hl) r2 h) fun r s' hq => ?_)
  cases r with
  | error e => exact hx pins σ H s e s' I hq
  | ok fl =>
    cases fl with
    | ret u => exact I.after hq
    | next => exact False.elim hq
    | brk => exact False.elim hq
    | cont => exact False.elim hq

theorem pe_call (F : FnOk X.prog X.w X.K X.mg X.base CX k f fd ps sp) (hr : Room k X.A) (hg : Gl X x) (hm : X.mg x = some (.ref f)) (hk : PySem.W.keepIn X.K (.ref f) = true) (hb : Binds X.K fd ps ds) (hd : Vals dvs ds) (hx : Passes CX X E)
    (ha : PA X (e :: es) t) (hdb : (x == ("__debug__" : Str)) = false := by decide) (he : starEach (e :: es) X.env = (false, eval e X.env) :: starEach es X.env := by rfl) (hpl : (backTo pos (starEach es X.env)).any (·.1) = false := by rfl) :
    PE X (.Call (.Name x p) (e :: es) [] pos) (tCall sp dvs E t) := by
  intro pins s σ H Q I h
  refine wpAny_Call_Name_kw (ld_glob I hg hm ?_ hdb)
  refine PySem.W.callWith_K (h₀ := X.base) I.ok.mod.kin hk (thn (ha pos pins s σ H _ I h) fun us s1 ⟨vs, H1, I1, r, q⟩ => ⟨I1.kIn, ?_⟩) he hpl
  exact run_fn F hr hb hd hx I1 r q
theorem pe_call0 (F : FnOk X.prog X.w X.K X.mg X.base CX k f fd ps sp) (hr : Room k X.A) (hg : Gl X x) (hm : X.mg x = some (.ref f)) (hk : PySem.W.keepIn X.K (.ref f) = true) (hb : Binds X.K fd ps ds) (hd : Vals dvs ds) (hx : Passes CX X E)
    (hdb : (x == ("__debug__" : Str)) = false := by decide) : PE X (.Call (.Name x p) [] [] pos) (tCall sp dvs E tNil) := by
  intro pins s σ H Q I h
  refine wpAny_Call_Name_kw (ld_glob I hg hm ?_ hdb)
  exact PySem.W.callWith_K0 I.kIn hk (run_fn (us := []) F hr hb hd hx I .nil h)

theorem pe_meth {pl : Sem Bool} (he : PE X o ta) (c : Cls X.K C) (hm : Meth X.K C m f) (F : FnOk X.prog X.w X.K X.mg X.base CX k f fd ps sp) (hr : Room k X.A) (hb : Binds X.K fd ps ds) (hd : Vals dvs ds) (hx : Passes CX X E) (ha : PA X (e :: es) t)
    (hst : starEach (e :: es) X.env = (false, eval e X.env) :: starEach es X.env := by rfl) (hpl : (backTo pos (starEach es X.env)).any (·.1) = false := by rfl)
    (ht : eval (.Call (.Attribute o m apos) (e :: es) [] pos) X.env = (do
      let ov ← eval o X.env
      standAt apos.atName
      let (f, first) ← holding [ov] (getMethod ov m pl)
      callWith pos f first (backTo pos (starEach (e :: es) X.env)) (backToKw pos (keywordEach [] X.env))) := by rfl) :
    PE X (.Call (.Attribute o m apos) (e :: es) [] pos) (tMeth C m sp dvs E ta t) := by
  intro pins s σ H Q I h
  refine PySem.W.methodCall_KW (pl := pl) (thn (he pins s σ H _ I h) fun u s1 ⟨x, H1, I1, rx, a, dx, fs, ex, ea, l, q⟩ => ?_) ht
  subst ex
  obtain rfl : u = Value.ref a := rx
  refine getmeth_ok I1 ea c hm l ?_
  refine PySem.W.callWith_K (first := [.ref a]) (h₀ := X.base) I.ok.mod.kin hm.kp (thn (ha pos pins s1 σ H1 _ I1 q) fun us s2 ⟨vs, H2, I2, r, q2⟩ => ⟨I2.kIn, ?_⟩) hst hpl
  exact run_fn (us := .ref a :: us) (vs := .ref a :: vs) F hr hb hd hx I2 (.cons rfl r) q2
theorem pe_meth0 {pl : Sem Bool} (he : PE X o ta) (c : Cls X.K C) (hm : Meth X.K C m f) (F : FnOk X.prog X.w X.K X.mg X.base CX k f fd ps sp) (hr : Room k X.A) (hb : Binds X.K fd ps ds) (hd : Vals dvs ds) (hx : Passes CX X E)
    (ht : eval (.Call (.Attribute o m apos) [] [] pos) X.env = (do
      let ov ← eval o X.env
      standAt apos.atName
      let (f, first) ← holding [ov] (getMethod ov m pl)
      callWith pos f first (backTo pos (starEach [] X.env)) (backToKw pos (keywordEach [] X.env))) := by rfl) :
    PE X (.Call (.Attribute o m apos) [] [] pos) (tMeth C m sp dvs E ta tNil) := by
  intro pins s σ H Q I h
  refine PySem.W.methodCall_KW (pl := pl) (thn (he pins s σ H _ I h) fun u s1 ⟨x, H1, I1, rx, a, dx, fs, ex, ea, l, q⟩ => ?_) ht
  subst ex
  obtain rfl : u = Value.ref a := rx
  refine getmeth_ok I1 ea c hm l ?_
  exact PySem.W.callWith_K0 (first := [.ref a]) I1.kIn hm.kp (run_fn (us := [.ref a]) (vs := [.ref a]) F hr hb hd hx I1 (.cons rfl .nil) q)

structure Mk (K : PySem.W.Frag) (C f : Addr) : Prop where
  makes : PySem.W.makesIn K C = true
  init : PySem.W.findIn K (.ref C) "__init__" = some (some (.ref f))
  fn : PySem.W.isFn K (.ref f) = true
  kp : PySem.W.keepIn K (.ref C) = true

theorem run_make {pins : List (Addr × Obj)} {σ : St} {H : Hp} {s : Shared} {Q : VK} {us : List Value} {vs : List V} (M : Mk X.K C f) (F : FnOk X.prog X.w X.K X.mg X.base CX k f fd ps sp) (hr : Room (k + 1) X.A) (hb : Binds X.K fd ps ds) (hd : Vals dvs ds)
    (hx : Passes CX X E) (I : Inv X pins σ H s) (r : Vals vs us)
    (h : ∀ x dx, H x = none → H dx = none → dx ≠ x → sp (.ref x :: (vs ++ dvs)) (upd (upd H dx (.own x)) x (.ins C dx [])) (fun v H2 => v = .non ∧ Q (.ref x) H2) E) :
    wpAny (model X.prog X.w) X.A (call (.ref C) us) (EP X pins σ Q) X.xe s := by
  have hq := h (s.heap.objs.size + 1) s.heap.objs.size (I.hok.fresh (Nat.le_succ _)) (I.hok.fresh (Nat.le_refl _)) (Nat.ne_of_lt (Nat.lt_succ_self _))
  have I2 := Inv.made (C := C) I
  have r2 : Vals (V.ref (s.heap.objs.size + 1) :: (vs ++ dvs)) (Value.ref (s.heap.objs.size + 1) :: (us ++ ds)) := .cons rfl (r.append hd)
  have hl : (Value.ref (s.heap.objs.size + 1) :: us ++ ds).length = ps.length := by
    have e := r2.length
    rw [F.len _ _ _ _ hq] at e
    exact e.symm
  refine wpAny_call (make_map (f := f) I.kIn M.makes M.init (beq_iff_eq.mp M.fn) (codeAny_mono (F.run _ X.stack _ _ ⟨Value.ref (s.heap.objs.size + 1) :: us, []⟩ (Value.ref (s.heap.objs.size + 1) :: (us ++ ds)) _ _ E (hr.make C us [])
    (I2.env0.make C us []) (hb _ (Value.ref (s.heap.objs.size + 1) :: us) I2.kIn hl) r2 hq) fun r s' hq' => ?_))
  cases r with
  | error e => exact hx pins σ _ _ e s' I2 hq'
  | ok fl =>
    cases fl with
    | ret u =>
      obtain ⟨v, H', I3, rv, ev, q3⟩ := I2.after hq'
      subst ev
      exact ⟨rv, ⟨V.ref (s.heap.objs.size + 1), H', I3, rfl, q3⟩⟩
    | next => exact False.elim hq'
    | brk => exact False.elim hq'
    | cont => exact False.elim hq'
theorem pe_make (M : Mk X.K C f) (F : FnOk X.prog X.w X.K X.mg X.base CX k f fd ps sp) (hr : Room (k + 1) X.A) (hg : Gl X x) (hm : X.mg x = some (.ref C)) (hb : Binds X.K fd ps ds) (hd : Vals dvs ds) (hx : Passes CX X E)
    (ha : PA X (e :: es) t) (hdb : (x == ("__debug__" : Str)) = false := by decide) (he : starEach (e :: es) X.env = (false, eval e X.env) :: starEach es X.env := by rfl) (hpl : (backTo pos (starEach es X.env)).any (·.1) = false := by rfl) :
    PE X (.Call (.Name x p) (e :: es) [] pos) (tMake C sp dvs E t) := by
  intro pins s σ H Q I h
  refine wpAny_Call_Name_kw (ld_glob I hg hm ?_ hdb)
  refine PySem.W.callWith_K (h₀ := X.base) I.ok.mod.kin M.kp (thn (ha pos pins s σ H _ I h) fun us s1 ⟨vs, H1, I1, r, q⟩ => ⟨I1.kIn, ?_⟩) he hpl
  exact run_make M F hr hb hd hx I1 r q
theorem pe_make0 (M : Mk X.K C f) (F : FnOk X.prog X.w X.K X.mg X.base CX k f fd ps sp) (hr : Room (k + 1) X.A) (hg : Gl X x) (hm : X.mg x = some (.ref C)) (hb : Binds X.K fd ps ds) (hd : Vals dvs ds) (hx : Passes CX X E)
    (hdb : (x == ("__debug__" : Str)) = false := by decide) : PE X (.Call (.Name x p) [] [] pos) (tMake C sp dvs E tNil) := by
  intro pins s σ H Q I h
  refine wpAny_Call_Name_kw (ld_glob I hg hm ?_ hdb)
  exact PySem.W.callWith_K0 I.kIn M.kp (run_make (us := []) M F hr hb hd hx I .nil h)
end

def PK (X : Cx) (kws : List Keyword) (t : TA) : Prop :=
  ∀ (pos : Pos) (pins : List (Addr × Obj)) (s : Shared) (σ : St) (H : Hp) (Q : List V → Hp → Prop), Inv X pins σ H s → t σ H Q → wpAny (model X.prog X.w) X.A (evalAll ((backToKw pos (keywordEach kws X.env)).map (·.2))) (AP X pins σ Q) X.xe s
section
variable {X : Cx} {CX : CXT} {k : Nat} {f C : Addr} {fd : FuncData} {ps ks : List Str} {sp : Sp} {E : XK} {x m : Str} {p pos apos kpos : Pos} {e o : Expr} {es : List Expr} {kws : List Keyword} {te ta : TE} {t tk : TA} {nm : Option Str}
theorem pk_nil : PK X [] tNil := fun _ _ _ _ H Q I h => wpAny_evalAll_nil ⟨[], H, I, .nil, h⟩
theorem pk_cons (ha : PE X e te) (hr : PK X kws t) : PK X (⟨nm, e, kpos⟩ :: kws) (tCons te t) := by
  intro pos pins s σ H Q I h
  show wpAny _ _ (evalAll ((do let v ← eval e X.env; standAt pos; pure v) :: (backToKw pos (keywordEach kws X.env)).map (·.2))) _ _ s
  refine wpAny_evalAll_cons (wpAny_bind (thn (ha pins s σ H _ I h) fun u s1 ⟨x, H1, I1, r1, q1⟩ => wpAny_bind (wpAny_standAt (wpAny_pure ?_))))
  exact thn (hr pos pins s1 σ H1 _ I1 q1) fun us s2 ⟨xs, H2, I2, r2, q2⟩ => ⟨x :: xs, H2, I2, .cons r1 r2, q2⟩

structure KBinds (K : PySem.W.Frag) (fd : FuncData) (ps ks : List Str) (g : List Value → List Value → List Value) (gV : List V → List V → List V) : Prop where
  to : ∀ (s : Shared) (us ws : List Value), K.In s.heap → (g us ws).length = ps.length → BindsTo s fd ⟨us, ks.zip ws⟩ (ps.zip (g us ws))
  rel : ∀ {vs : List V} {us : List Value} {zs : List V} {ws : List Value}, Vals vs us → Vals zs ws → Vals (gV vs zs) (g us ws)
def tCallK (sp : Sp) (gV : List V → List V → List V) (E : XK) (t tk : TA) : TE := fun σ H Q => t σ H fun vs H1 => tk σ H1 fun zs H2 => sp (gV vs zs) H2 Q E
variable {g : List Value → List Value → List Value} {gV : List V → List V → List V}
theorem run_fnk {pins : List (Addr × Obj)} {σ : St} {H : Hp} {s : Shared} {Q : VK} {us ws : List Value} {vs zs : List V} (F : FnOk X.prog X.w X.K X.mg X.base CX k f fd ps sp) (hr : Room k X.A) (hb : KBinds X.K fd ps ks g gV) (hx : Passes CX X E)
    (I : Inv X pins σ H s) (r : Vals vs us) (rz : Vals zs ws) (h : sp (gV vs zs) H Q E) : wpAny (model X.prog X.w) X.A (call (.ref f) us (ks.zip ws)) (EP X pins σ Q) X.xe s := by
  have r2 := hb.rel r rz
  have hl : (g us ws).length = ps.length := by rw [← r2.length]; exact F.len _ _ _ _ h
  refine wpAny_call (codeAny_mono (F.run X.A X.stack s H ⟨us, ks.zip ws⟩ (g us ws) (gV vs zs) Q E hr I.env0 (hb.to s us ws I.kIn hl) r2 h) fun r s' hq => ?_)
  cases r with
  | error e => exact hx pins σ H s e s' I hq
  | ok fl =>
    cases fl with
    | ret u => exact I.after hq
    | next => exact False.elim hq
    | brk => exact False.elim hq
    | cont => exact False.elim hq
theorem pe_callK (F : FnOk X.prog X.w X.K X.mg X.base CX k f fd ps sp) (hr : Room k X.A) (hg : Gl X x) (hm : X.mg x = some (.ref f)) (hk : PySem.W.keepIn X.K (.ref f) = true) (hb : KBinds X.K fd ps ks g gV) (hx : Passes CX X E)
    (ha : PA X (e :: es) t) (hkw : PK X kws tk) (hall : (backToKw pos (keywordEach kws X.env)).all (·.1.isSome) = true := by rfl) (hks : (backToKw pos (keywordEach kws X.env)).filterMap (·.1) = ks := by rfl)
    (hdb : (x == ("__debug__" : Str)) = false := by decide) (he : starEach (e :: es) X.env = (false, eval e X.env) :: starEach es X.env := by rfl)
    (hpl : ((backTo pos (starEach (e :: es) X.env)).any (·.1) || (backToKw pos (keywordEach kws X.env)).any (·.1.isNone)) = false := by rfl) :
    PE X (.Call (.Name x p) (e :: es) kws pos) (tCallK sp gV E t tk) := by
  intro pins s σ H Q I h
  refine wpAny_Call_Name_kw (ld_glob I hg hm ?_ hdb)
  refine PySem.W.callWith_KW (h₀ := X.base) I.ok.mod.kin hk hall (thn (ha pos pins s σ H _ I h) fun us s1 ⟨vs, H1, I1, r, q⟩ => ?_) hpl he
  refine thn (hkw pos pins s1 σ H1 _ I1 q) fun ws s2 ⟨zs, H2, I2, rz, q2⟩ => ⟨I2.kIn, ?_⟩
  rw [hks]
  exact run_fnk F hr hb hx I2 r rz q2
end

structure FnScope (N P : List Str) (sc : Scope) : Prop where
  kind : sc.kind = .function
  co : sc.isCoroutine = false
  gen : sc.isGenerator = false
  nd : N.Nodup
  pre : N.take P.length = P
  par : ∀ x ∈ P, sc.names.lookup x = some .local ∨ sc.names.lookup x = some .cell
  nofree : ∀ y ∈ sc.names, y.2 ≠ .free

theorem bindL_out {kindOf : Str → Option NameKind} {x : Str} : ∀ {binds : List (Str × Value)} {m : Str → Option Value}, (∀ v, (x, v) ∉ binds) → bindL kindOf binds m x = m x
  | [], _, _ => rfl
  | (n, v) :: r, m, h => by
    unfold bindL
    rw [bindL_out fun w hw => h w (List.mem_cons_of_mem _ hw)]
    split
    · have : x ≠ n := by rintro rfl; exact h v List.mem_cons_self
      simp [this]
    · rfl
theorem bindC_out {kindOf : Str → Option NameKind} {x : Str} : ∀ {binds : List (Str × Value)} {m : Str → Option Value}, (∀ v, (x, v) ∉ binds) → bindC kindOf binds m x = m x
  | [], _, _ => rfl
  | (n, v) :: r, m, h => by
    unfold bindC
    rw [bindC_out fun w hw => h w (List.mem_cons_of_mem _ hw)]
    split
    · rfl
    · have : x ≠ n := by rintro rfl; exact h v List.mem_cons_self
      simp [this]
theorem bindL_get {kindOf : Str → Option NameKind} {x : Str} {v : Value} : ∀ {P : List Str} {vs : List Value} {i : Nat} {m : Str → Option Value}, P.Nodup → P[i]? = some x → vs[i]? = some v → kindOf x = some .local →
    bindL kindOf (P.zip vs) m x = some v
  | [], _, _, _, _, h, _, _ => by simp at h
  | _ :: _, [], _, _, _, _, h, _ => by simp at h
  | p :: P, w :: vs, 0, m, nd, h1, h2, hk => by
    simp at h1 h2; subst h1; subst h2
    show bindL kindOf ((p, w) :: P.zip vs) m p = _
    unfold bindL
    rw [bindL_out fun v hv => (List.nodup_cons.mp nd).1 (List.of_mem_zip hv).1, if_pos hk]
    simp
  | p :: P, w :: vs, i + 1, m, nd, h1, h2, hk => by
    show bindL kindOf ((p, w) :: P.zip vs) m x = _
    unfold bindL
    exact bindL_get (i := i) (List.nodup_cons.mp nd).2 (by simpa using h1) (by simpa using h2) hk
theorem bindC_get {kindOf : Str → Option NameKind} {x : Str} {v : Value} : ∀ {P : List Str} {vs : List Value} {i : Nat} {m : Str → Option Value}, P.Nodup → P[i]? = some x → vs[i]? = some v → kindOf x ≠ some .local →
    bindC kindOf (P.zip vs) m x = some v
  | [], _, _, _, _, h, _, _ => by simp at h
  | _ :: _, [], _, _, _, _, h, _ => by simp at h
  | p :: P, w :: vs, 0, m, nd, h1, h2, hk => by
    simp at h1 h2; subst h1; subst h2
    show bindC kindOf ((p, w) :: P.zip vs) m p = _
    unfold bindC
    rw [bindC_out fun v hv => (List.nodup_cons.mp nd).1 (List.of_mem_zip hv).1, if_neg hk]
    simp
  | p :: P, w :: vs, i + 1, m, nd, h1, h2, hk => by
    show bindC kindOf ((p, w) :: P.zip vs) m x = _
    unfold bindC
    exact bindC_get (i := i) (List.nodup_cons.mp nd).2 (by simpa using h1) (by simpa using h2) hk

def start (N : List Str) (vs : List V) : St := vs.map some ++ List.replicate (N.length - vs.length) none

def cxOf (CX : CXT) (P : Program) (w : World) (K : PySem.W.Frag) (mg : Str → Option Value) (base : Heap) (N : List Str) (qual : Str) (scope : Scope) (f : Addr) (cd : Value) (A : Around) (outer : List Env) (s : Shared) (H : Hp) (E : XK) : Cx where
  prog := P
  w := w
  K := K
  mg := mg
  base := base
  A := A.deeper (envOfC qual scope s.heap.objs.size f cd)
  N := N
  s₀ := s
  H₀ := H
  env := envOfC qual scope s.heap.objs.size f cd
  outer := outer
  stack := envOfC qual scope s.heap.objs.size f cd :: outer
  ex := []
  calm := true
  fn := fun _ => true
  pn := []
  xe := fun e s' => wpAny (model P w) (A.deeper (envOfC qual scope s.heap.objs.size f cd)) (leaving (envOfC qual scope s.heap.objs.size f cd) e) (fun _ s'' => CX outer H s E e s'') (fun e' s'' => CX outer H s E e' s'') s'

theorem cell_has {sc : Scope} {n : Nat} {x : Str} (h : sc.names.lookup x = some .cell) : ∃ c, (cellsFrom n sc.names []).lookup x = some c := by
  have q := PySem.W.cellsFrom_some sc.names n [] (.inl h)
  exact Option.isSome_iff_exists.mp q

theorem inv_start {CX : CXT} {P : Program} {w : World} {K : PySem.W.Frag} {mg : Str → Option Value} {base : Heap} {N ps : List Str} {qual : Str} {scope : Scope} {f : Addr} {cd : Value} {A : Around} {outer : List Env} {s s1 : Shared} {H : Hp} {E : XK} {us : List Value} {vs : List V}
    (S : FnScope N ps scope) (hd : A.handled = none) (e0 : Env0 P w K mg base A outer s H) (hl : vs.length = ps.length) (r : Vals vs us)
    (x : InCallC s s.heap.objs.size (bindL (envOfC qual scope s.heap.objs.size f cd).kindOf (ps.zip us) fun _ => none) (cellsFrom (s.heap.objs.size + 1) scope.names []) (bindC (envOfC qual scope s.heap.objs.size f cd).kindOf (ps.zip us) fun _ => none) s1) :
    Inv (cxOf CX P w K mg base N qual scope f cd A outer s H E) [] (start N vs) H s1 := by
  have hpl : ps.length ≤ N.length := by have := congrArg List.length S.pre; rw [List.length_take] at this; omega
  obtain ⟨h1, tk, rfl, hk⟩ := x.done
  have noA : ∀ b : Addr, b ∉ (cxOf CX P w K mg base N qual scope f cd A outer s H E).ex := fun b z => absurd (show b ∈ ([] : List Addr) from z) (by simp)
  refine ⟨⟨e0.mod, S.kind, rfl, rfl, Nat.le_refl _, fun y z c h1 h2 => ?_, fun y hy => ?_, fun y c _ h => ?_, fun _ => hd, Around.frames_deeper e0.frames, .inr ⟨rfl, rfl⟩, fun b z => absurd z (noA b), e0.bs, e0.bsz, fun b _ _ => noA b, fun b z => absurd z (noA b), e0.funs, e0.frf⟩,
    rfl, e0.bare, Un.kept hk, ⟨_, x.toInCall.ns, fun i y v h1 h2 h3 => ?_⟩, fun y c h => ⟨_, x.cell y c h⟩, e0.hok.fresh (Nat.le_refl _), fun y c h => ?_, fun p hp => absurd (show p ∈ ([] : List (Addr × Obj)) from hp) (by simp), e0.hok.kept hk, ?_⟩
  · exact name_of_addr x.apart (PySem.mem_of_lookup h1) (PySem.mem_of_lookup h2)
  · have hy : scope.names.lookup y = some .cell ∨ scope.names.lookup y = some .free := hy
    rcases hy with hy | hy
    · exact cell_has hy
    · exact absurd rfl (S.nofree _ (PySem.mem_of_lookup hy))
  · exact Nat.le_of_lt (x.above y c (PySem.mem_of_lookup h))
  · have hi : i < vs.length := by
      unfold start at h2
      by_cases hi : i < vs.length
      · exact hi
      · rw [List.getElem?_append_right (by simpa using hi)] at h2
        rw [List.getElem?_replicate] at h2
        split at h2 <;> cases h2
    have ha : vs[i]? = some v := by
      unfold start at h2
      rw [List.getElem?_append_left (by simpa using hi), List.getElem?_map] at h2
      cases e : vs[i]? with
      | none => rw [e] at h2; cases h2
      | some a => rw [e] at h2; cases h2; rfl
    obtain ⟨u, hu, rv⟩ := r.get ha
    have hp : ps[i]? = some y := by
      rw [← S.pre, List.getElem?_take_of_lt (by omega)]; exact h1
    have ndP : ps.Nodup := by rw [← S.pre]; exact S.nd.sublist (List.take_sublist _ _)
    refine ⟨u, rv, ?_⟩
    rcases S.par y (List.mem_of_getElem? hp) with k | k
    · exact .inl ⟨k, bindL_get ndP hp hu k⟩
    · obtain ⟨c, e⟩ := cell_has (n := s.heap.objs.size + 1) k
      refine .inr ⟨.inl k, c, e, ?_⟩
      have q := x.cell y c e
      rw [bindC_get ndP hp hu (by show scope.names.lookup y ≠ _; rw [k]; decide)] at q
      exact q
  · exact e0.hok.fresh (Nat.le_of_lt (x.above y c (PySem.mem_of_lookup h)))
  · unfold start
    show _ = N.length
    rw [List.length_append, List.length_map, List.length_replicate]
    omega

theorem fn_of {CX : CXT} {P : Program} {w : World} {K : PySem.W.Frag} {mg : Str → Option Value} {base : Heap} {k : Nat} {f : Addr} {name qual : Str} {params : Arguments} {body : List Stmt} {scope : Scope} {dV kV doc pm cdv ct oc : Value} {an od : Option Addr}
    {osl : Array (Option Value)} {N ps : List Str} {sp : Sp} (lk : K.lookup f = some ⟨oc, od, .func (PySem.W.fnOf name qual params body scope dV kV doc pm an cdv ct), osl⟩) (hcd : PySem.W.codeIn K cdv qual = true) (S : FnScope N ps scope)
    (len : ∀ vs H Q E, sp vs H Q E → vs.length = ps.length)
    (hbody : ∀ (A : Around) (outer : List Env) (s : Shared) (H : Hp) (vs : List V) (Q : VK) (E : XK), Room k (A.deeper (envOfC qual scope s.heap.objs.size f cdv)) → sp vs H Q E →
      ∃ t, PSs (cxOf CX P w K mg base N qual scope f cdv A outer s H E) body t ∧ t { nx := fun _ H' => Q .non H', rt := Q } (start N vs) H) :
    FnOk P w K mg base CX (k + 1) f (PySem.W.fnOf name qual params body scope dV kV doc pm an cdv ct) ps sp := by
  refine ⟨len, fun A outer s H args us vs Q E hr e0 hb r hsp => ?_⟩
  have hl := len _ _ _ _ hsp
  have KX : K.In s.heap := e0.mod.kin.keeps fun b o e => (e0.bs b o e).1
  have lim : s.heap.NoLimit := e0.mod.nolimit.keeps fun b o e => (e0.bs b o e).1
  have hkind : ∀ y ∈ ps.zip us, scope.names.lookup y.1 = some .local ∨ (scope.names.lookup y.1 = some .cell ∧ ((cellsFrom (s.heap.objs.size + 1) scope.names []).lookup y.1).isSome = true) := fun ⟨n, v⟩ hy => by
    rcases S.par n (List.of_mem_zip hy).1 with q | q
    · exact .inl q
    · exact .inr ⟨q, PySem.W.cellsFrom_some _ _ _ (.inl q)⟩
  refine codeAny_call_function hr.depth (KX _ _ lk) rfl S.co S.gen rfl (PySem.W.codeRec_of KX hcd) (hb _ _ _ _ ?_)
  refine wpAny_newFunctionEnv_cells S.kind hkind fun env he s1 x => ?_
  subst he
  refine ⟨lim.keeps x.toInCall.keep, codeAny_func ?_⟩
  obtain ⟨t, ht, hq⟩ := hbody A outer s H vs Q E (hr.deeper _) hsp
  have I : Inv (cxOf CX P w K mg base N qual scope f cdv A outer s H E) [] (start N vs) H s1 := inv_start S hr.hd e0 hl r x
  refine wpAny_mono (ht [] s1 (start N vs) H _ I hq) (fun fl s' hs => ?_) fun e s' hs => hs
  have fin : ∀ {σ' : St} {H' : Hp} {v : V} {u : Value}, Inv (cxOf CX P w K mg base N qual scope f cdv A outer s H E) [] σ' H' s' → RelV v u → Q v H' → CE outer P w H s Q u s' :=
    fun {σ' H' v u} J rv q => ⟨v, H', J.os, J.bare, J.base, J.hok, rv, q⟩
  cases fl with
  | ret u =>
    obtain ⟨v, σ', H', J, rv, q⟩ := hs
    exact fin J rv q
  | next =>
    obtain ⟨σ', H', J, q⟩ := hs
    exact fin (v := V.non) (u := Value.none) J rfl q
  | brk =>
    obtain ⟨_, _, _, q⟩ := hs
    exact False.elim q
  | cont =>
    obtain ⟨_, _, _, q⟩ := hs
    exact False.elim q
end L2

namespace L2
open PySem PySem.Spec PyProof.Rows
section
variable {X : Cx} {x : Str} {p pos : Pos} {e : Expr} {es : List Expr} {t : TA} {id T : String} {r : List V → Hp → VK → Prop}

def tCB (r : List V → Hp → VK → Prop) (t : TA) : TE := fun σ H Q => t σ H fun vs H1 => r vs H1 Q
theorem pe_callB (hc : CallR X (.builtin id) r) (hg : Gl X x) (hm : X.mg x = none) (hv : bootBuiltins x = some (.builtin id)) (ha : PA X (e :: es) t) (hn : x ≠ "__name__" := by decide) (hdb : (x == ("__debug__" : Str)) = false := by decide)
    (he : starEach (e :: es) X.env = (false, eval e X.env) :: starEach es X.env := by rfl) (hpl : (backTo pos (starEach es X.env)).any (·.1) = false := by rfl) : PE X (.Call (.Name x p) (e :: es) [] pos) (tCB r t) := by
  intro pins s σ H Q I h
  refine wpAny_Call_Name_kw (ld_blt I hg hm hv ?_ hn hdb)
  exact PyProof.Rows.callWith_builtin1 (thn (ha pos pins s σ H _ I h) fun us s1 ⟨vs, H1, I1, r1, q1⟩ => hc pins s1 σ H1 vs us Q I1 r1 q1) he hpl
theorem pe_callTy (hc : CallR X (.type T) r) (hg : Gl X x) (hm : X.mg x = none) (hv : bootBuiltins x = some (.type T)) (ha : PA X (e :: es) t) (hn : x ≠ "__name__" := by decide) (hdb : (x == ("__debug__" : Str)) = false := by decide)
    (he : starEach (e :: es) X.env = (false, eval e X.env) :: starEach es X.env := by rfl) (hpl : (backTo pos (starEach es X.env)).any (·.1) = false := by rfl) : PE X (.Call (.Name x p) (e :: es) [] pos) (tCB r t) := by
  intro pins s σ H Q I h
  refine wpAny_Call_Name_kw (ld_blt I hg hm hv ?_ hn hdb)
  exact PyProof.Rows.callWith_type1 (thn (ha pos pins s σ H _ I h) fun us s1 ⟨vs, H1, I1, r1, q1⟩ => hc pins s1 σ H1 vs us Q I1 r1 q1) he hpl
theorem pe_callTy0 (hc : CallR X (.type T) r) (hg : Gl X x) (hm : X.mg x = none) (hv : bootBuiltins x = some (.type T)) (hn : x ≠ "__name__" := by decide) (hdb : (x == ("__debug__" : Str)) = false := by decide) :
    PE X (.Call (.Name x p) [] [] pos) (tCB r tNil) := by
  intro pins s σ H Q I h
  refine wpAny_Call_Name_kw (ld_blt I hg hm hv ?_ hn hdb)
  exact PyProof.Rows.callWith_type0 (hc pins s σ H [] [] Q I .nil h)
end
end L2

namespace HT
open PySem PyProof.Rows

def lexLt : List Int → List Int → Bool
  | [], [] => false
  | [], _ :: _ => true
  | _ :: _, [] => false
  | x :: xs, y :: ys => if x = y then lexLt xs ys else decide (x < y)
theorem lexLt_cons (x y : Int) (xs ys : List Int) : lexLt (x :: xs) (y :: ys) = if x = y then lexLt xs ys else decide (x < y) := rfl
theorem lexLt_nil_nil : lexLt [] [] = false := rfl
theorem lexLt_nil_cons (y : Int) (ys : List Int) : lexLt [] (y :: ys) = true := rfl
theorem lexLt_cons_nil (x : Int) (xs : List Int) : lexLt (x :: xs) [] = false := rfl

theorem eqAt_int (A : Around) (s : Shared) (a : Int) (t : Tok) (c : Int) (u : Tok) : ∃ e, SeqAt.EqAt A s (.int a t) (.int c u) e ∧ (e = true ↔ a = c) :=
  ⟨(a == c), SeqAt.EqAt.int_int a t c u, by simp⟩
theorem rcLt_int (A : Around) (s : Shared) (a : Int) (t : Tok) (c : Int) (u : Tok) (prog : Program) (w : World) (E : Value → Shared → Prop) (Q : Value → Shared → Prop) (h : Q (.bool (decide (a < c))) s) :
    wpAny (model prog w) A (richCompare .Lt (.int a t) (.int c u)) Q E s :=
  (PyProof.Rows.lt_int h : wpAny (model prog w) A (compareOp .Lt (.int a t) (.int c u)) Q E s)

section
open PySem.SeqAt
open PySem.AutoSeq1 (wpAny_loadPart')
open PySem.MeetsSeq PySem.MeetsSeq2 PySem.MeetsSeq3

theorem tuple_lt_ints (l b : Addr) (items items2 : Array Value) (n n2 : Nat) (dd dd2 : Option Addr) (sl sl2 : Array (Option Value)) (ns ms : List Int) (hi : IntsAre items.toList ns) (hj : IntsAre items2.toList ms) :
    Meets (Builtin.«tuple.__lt__» ⟨[.ref l, .ref b], []⟩)
      (fun _ R s => s.heap.get? l = some { cls := .type "tuple", dict := dd, data := .seq items n, slots := sl } ∧ s.heap.get? b = some { cls := .type "tuple", dict := dd2, data := .seq items2 n2, slots := sl2 } ∧
        R (.ok (.ret (.bool (lexLt ns ms)))) s) :=
  .of_wp fun prog w A R s h => by
    obtain ⟨hp, g, d, tk, os⟩ := s; obtain ⟨hl, hb, h⟩ := h
    have f2 := AutoSeq1.sub_tuple_tuple
    have z1 : items.size = ns.length := by rw [← hi.length]; simp
    have z2 : items2.size = ms.length := by rw [← hj.length]; simp
    wp_walk using wpAny_loadPart' hl, wpAny_loadPart' hb, wpAny_forIn_list _ (fun rest b s' => b.1 = none ∧ s' = ⟨hp, g, d, tk, os⟩ ∧ ∃ (vs ws : List Value) (ns' ms' : List Int), rest = vs.zip ws ∧
      IntsAre vs ns' ∧ IntsAre ws ms' ∧ ns'.length + items2.size = ms'.length + items.size ∧ R (.ok (.ret (.bool (lexLt ns' ms')))) ⟨hp, g, d, tk, os⟩) _
    case turn =>
      rintro ⟨y, x⟩ rest b s' ⟨hb', rfl, vs, ws, ns', ms', hz, hvi, hwi, hlen, hR⟩
      cases hvi with
      | nil => rw [List.zip_nil_left] at hz; cases hz
      | cons a t hvi' =>
        cases hwi with
        | nil => rw [List.zip_nil_right] at hz; cases hz
        | cons c u hwi' =>
          rw [List.zip_cons_cons] at hz
          injection hz with hyx hrest
          injection hyx with hy hx
          subst hy hx
          rw [lexLt_cons] at hR
          simp only [List.length_cons] at hlen
          obtain ⟨e, he, hiff⟩ := eqAt_int A.in1 ⟨hp, g, d, tk, os⟩ a t c u
          refine wpAny_bind (he prog w _ _ ?_)
          cases e with
          | true =>
            rw [if_pos (hiff.mp rfl)] at hR
            wp_walk
            exact ⟨rfl, rfl, _, _, _, _, hrest, hvi', hwi', by omega, hR⟩
          | false =>
            rw [if_neg (fun q => absurd (hiff.mpr q) Bool.false_ne_true)] at hR
            have hri := rcLt_int A.in1 ⟨hp, g, d, tk, os⟩ a t c u prog w
            wp_walk using hri
            exact ⟨_, rfl, by simpa using hR⟩
    case fin =>
      rintro ⟨b1, b2⟩ s' ⟨hb', rfl, vs, ws, ns', ms', hz, hvi, hwi, hlen, hR⟩
      simp only at hb'
      subst hb'
      have hv : lexLt ns' ms' = decide (items.size < items2.size) := by
        cases hvi with
        | nil =>
          cases hwi with
          | nil =>
            simp only [List.length_nil] at hlen
            rw [lexLt_nil_nil]
            exact (decide_eq_false (by omega)).symm
          | cons c u hw =>
            simp only [List.length_nil, List.length_cons] at hlen
            rw [lexLt_nil_cons]
            exact (decide_eq_true (by omega)).symm
        | cons a t hv =>
          cases hwi with
          | nil =>
            simp only [List.length_nil, List.length_cons] at hlen
            rw [lexLt_cons_nil]
            exact (decide_eq_false (by omega)).symm
          | cons c u hw =>
            rw [List.zip_cons_cons] at hz
            cases hz
      rw [hv] at hR
      wp_walk
      exact ⟨_, rfl, by simpa [Builtin.Tuple.tupleCompareSizes] using hR⟩
    case h =>
      exact ⟨rfl, rfl, items.toList, items2.toList, ns, ms, rfl, hi, hj, by omega, h⟩
end

section
variable {prog : Program} {w : World} {A : Around} {E : Value → Shared → Prop} {s : Shared}

theorem lt_tupInts {l b : Addr} {items items2 : Array Value} {ns ms : List Int} {Q : Value → Shared → Prop} (hl : IsTup s.heap l items) (hb : IsTup s.heap b items2) (hi : IntsAre items.toList ns) (hj : IntsAre items2.toList ms)
    (hu : A.units < cLine) (h : Q (.bool (lexLt ns ms)) s) : wpAny (model prog w) A (compareOp .Lt (.ref l) (.ref b)) Q E s := by
  obtain ⟨⟨cls, dd, data, sl⟩, ho, hc, n, hd⟩ := id hl
  obtain ⟨⟨cls2, dd2, data2, sl2⟩, ho2, hc2, n2, hd2⟩ := id hb
  simp only at hc hd hc2 hd2
  subst hc hd hc2 hd2
  exact richCompare_meets_room (op := .Lt) ⟨_, ho, rfl⟩ ⟨_, ho2, rfl⟩ PySem.F.slot_tuple_lt PySem.F.entry_tuple_lt (PySem.F.args_tuple_lt_2 _ _) (tuple_lt_ints l b items items2 n n2 dd dd2 sl sl2 ns ms hi hj)
    ⟨ho, ho2, show Value.bool (lexLt ns ms) ≠ Value.notImplemented ∧ Q (.bool (lexLt ns ms)) s from ⟨(fun x => nomatch x), h⟩⟩ hu

theorem cat_tup {t b : Addr} {vs ws : List Value} {Q : Value → Shared → Prop} (ht : IsTup s.heap t vs.toArray) (hb : IsTup s.heap b ws.toArray) (hv : vs ≠ [])
    (h1 : ws = [] → Q (.ref t) s) (h2 : ws ≠ [] → Q (.ref s.heap.objs.size) { s with heap := s.heap.push { cls := .type "tuple", data := .seq (vs ++ ws).toArray } })
    (hsz : vs.length + ws.length ≤ sizeLine) : wpAny (model prog w) A (binaryOp .Add (.ref t) (.ref b)) Q E s := by
  obtain ⟨⟨cls, dd, data, sl⟩, ho, hc, n, hd⟩ := id ht
  obtain ⟨⟨cls2, dd2, data2, sl2⟩, ho2, hc2, n2, hd2⟩ := id hb
  simp only at hc hd hc2 hd2
  subst hc hd hc2 hd2
  have e : vs.toArray ++ ws.toArray = (vs ++ ws).toArray := by simp
  by_cases hw : ws = []
  · exact concat_meets ⟨_, ho, rfl⟩ ⟨_, ho2, rfl⟩ noFill_tuple_add seq_tuple_add PySem.F.slot_tuple_add PySem.F.entry_tuple_add (PySem.F.args_tuple_add_2 _ _)
      (tuple_addW1 t b vs.toArray ws.toArray n n2 dd dd2 sl sl2 (by simpa using hv) (by simp [hw])) ⟨ho, ho2, h1 hw⟩
  · refine concat_meets ⟨_, ho, rfl⟩ ⟨_, ho2, rfl⟩ noFill_tuple_add seq_tuple_add PySem.F.slot_tuple_add PySem.F.entry_tuple_add (PySem.F.args_tuple_add_2 _ _)
      (tuple_addW2 t b vs.toArray ws.toArray n n2 dd dd2 sl sl2 (by simpa using hv) (by simpa using hw) (by rw [List.size_toArray, List.size_toArray]; exact hsz)) ⟨ho, ho2, ?_⟩
    rw [e]
    exact h2 hw

def sIx (n d : Nat) : Option Int → Nat
  | none => d
  | some v => if v < 0 then (v + (n : Int)).toNat else min v.toNat n
theorem sIx_none (n d : Nat) : sIx n d none = d := rfl
theorem sIx_nat (n d k : Nat) : sIx n d (some (k : Int)) = min k n := by
  show (if (k : Int) < 0 then ((k : Int) + (n : Int)).toNat else min (k : Int).toNat n) = min k n
  rw [if_neg (by omega), Int.toNat_natCast]
theorem sIx_le (n d : Nat) (hd : d ≤ n) (o : Option Int) : sIx n d o ≤ n := by
  cases o with
  | none => exact hd
  | some v =>
    show (if v < 0 then (v + (n : Int)).toNat else min v.toNat n) ≤ n
    by_cases hv : v < 0
    · rw [if_pos hv]; omega
    · rw [if_neg hv]; exact Nat.min_le_right _ _
theorem clip_eq (v : Int) (n d : Nat) : (if v < 0 then max (v + (n : Int)) 0 else min v (n : Int)) = ((sIx n d (some v) : Nat) : Int) := by
  show (if v < 0 then max (v + (n : Int)) 0 else min v (n : Int)) = (((if v < 0 then (v + (n : Int)).toNat else min v.toNat n) : Nat) : Int)
  by_cases hv : v < 0
  · simp only [if_pos hv]; omega
  · simp only [if_neg hv]; omega
theorem adjust_gen (lo hi : Option Int) (n : Nat) : Builtin.Slice.sliceAdjust lo hi 1 (n : Int) = (((sIx n 0 lo : Nat) : Int), ((sIx n n hi : Nat) : Int)) := by
  have h1 : ¬ ((1 : Int) < 0) := by omega
  unfold Builtin.Slice.sliceAdjust
  simp only [h1, if_false]
  refine Prod.ext ?_ ?_
  · cases lo with
    | none => rfl
    | some v => exact clip_eq v n 0
  · cases hi with
    | none => rfl
    | some v => exact clip_eq v n n
theorem places_gen (i j : Nat) : Builtin.Slice.slicePlaces (i : Int) (j : Int) 1 = j - i := by
  unfold Builtin.Slice.slicePlaces
  have h1 : (1 : Int) > 0 := by omega
  simp only [h1, if_true, Int.ediv_one]
  split <;> omega
theorem slicePart_ {v : Value} {o : Option Int} {Q : Option Int → Shared → Prop} (p : IsPart v o) (h : Q o s) : wpAny (model prog w) A (Builtin.Slice.slicePartIndex v) Q E s := by
  cases p with
  | none => exact slicePart_none h
  | int i t => exact slicePart_int h
theorem sliceApplied_gen {sl : Addr} {vl vu : Value} {lo hi : Option Int} {n : Nat} {Q : Int × Int × Nat → Shared → Prop} (hs : s.heap.IsSliceOf sl vl vu .none) (pl : IsPart vl lo) (pu : IsPart vu hi)
    (h : Q (((sIx n 0 lo : Nat) : Int), 1, sIx n n hi - sIx n 0 lo) s) : wpAny (model prog w) A (Builtin.Slice.sliceApplied (.ref sl) (pure (n : Int))) Q E s := by
  obtain ⟨os, hos, hcs, hds⟩ := id hs
  unfold Builtin.Slice.sliceApplied Builtin.Slice.sliceFields
  refine wpAny_bind (wpAny_bind (wpAny_field hos hds (x := vl) rfl (wpAny_bind (wpAny_field hos hds (x := vu) rfl (wpAny_bind (wpAny_field hos hds (x := .none) rfl (wpAny_pure ?_)))))))
  refine wpAny_bind (slicePart_none ?_)
  show wpAny _ _ (if ((1 : Int) == 0) = true then _ else _) _ _ s
  rw [if_neg (by decide)]
  refine wpAny_bind (slicePart_ pl (wpAny_bind (slicePart_ pu (wpAny_bind (wpAny_pure ?_)))))
  show wpAny _ _ (match Builtin.Slice.sliceAdjust lo hi 1 (n : Int) with | (lo, hi) => pure (lo, (1 : Int), Builtin.Slice.slicePlaces lo hi 1)) _ _ s
  rw [adjust_gen lo hi n]
  show wpAny _ _ (pure (((sIx n 0 lo : Nat) : Int), (1 : Int), Builtin.Slice.slicePlaces ((sIx n 0 lo : Nat) : Int) ((sIx n n hi : Nat) : Int) 1)) _ _ s
  rw [places_gen]
  exact wpAny_pure h
theorem pick_gen (xs : Array Value) (i k : Nat) : ((List.range k).filterMap fun (m : Nat) => xs[((i : Int) + (m : Int) * 1).toNat]?).toArray = ((xs.toList.drop i).take k).toArray := by
  have e : (fun (m : Nat) => xs[((i : Int) + (m : Int) * 1).toNat]?) = fun m => xs[i + m]? := by
    funext m
    have : ((i : Int) + (m : Int) * 1).toNat = i + m := by omega
    rw [this]
  rw [e]
  have := pick_run xs i k
  rw [List.filterMap_map] at this
  have e2 : ((fun x => xs[x]?) ∘ fun x => i + x) = fun m => xs[i + m]? := rfl
  rw [e2] at this
  rw [this]

theorem getItem_tuple_cut {t sl : Addr} {items : Array Value} {vl vu : Value} {lo hi : Option Int} {Q : Value → Shared → Prop} (ht : IsTup s.heap t items) (hs : s.heap.IsSliceOf sl vl vu .none) (pl : IsPart vl lo) (pu : IsPart vu hi)
    (hw : ¬ (sIx items.size 0 lo = 0 ∧ sIx items.size items.size hi = items.size))
    (h : Q (.ref s.heap.objs.size) { s with heap := s.heap.push { cls := .type "tuple", data := .seq ((items.toList.drop (sIx items.size 0 lo)).take (sIx items.size items.size hi - sIx items.size 0 lo)).toArray } })
    (hsz : items.size ≤ sizeLine) : wpAny (model prog w) A (getItem (.ref t) (.ref sl)) Q E s := by
  have htake : sizeOk (.seq ((items.toList.drop (sIx items.size 0 lo)).take (sIx items.size items.size hi - sIx items.size 0 lo)).toArray) := by
    show ((items.toList.drop (sIx items.size 0 lo)).take (sIx items.size items.size hi - sIx items.size 0 lo)).toArray.size ≤ sizeLine
    rw [List.size_toArray, List.length_take, List.length_drop, Array.length_toList]
    omega
  have hj : sIx items.size items.size hi ≤ items.size := sIx_le _ _ (Nat.le_refl _) hi
  obtain ⟨os, hos, hcs, hds⟩ := id hs
  have hTs : s.TypeIs (.ref sl) "slice" := ⟨os, hos, hcs⟩
  unfold getItem
  try with_reducible refine wpAny_holding ?_
  first | refine wpAny_bind (wpAny_pure ?_) | skip
  refine wpAny_bind (wpAny_sequenceKey ht.typeIs (by decide) ?_)
  refine wpAny_bind (wpAny_callSpecial?_slot (name := Str.ofString "__getitem__") ht.typeIs PyProof.Rows.slot_tuple_getitem
    (wpAny_call_entry PyProof.Rows.slot_tuple_getitem ht.typeIs entry_tuple_getitem ?_ (args_tuple_getitem _ _)))
  show wpAny _ _ (Builtin.Tuple.tupleItemsOf (.ref t) >>= _) _ _ s
  refine wpAny_bind (tupleItemsOf_ ht ?_)
  refine wpAny_bind (wpAny_typeOf hTs ?_)
  rw [if_pos (by decide)]
  refine wpAny_bind (sliceApplied_gen hs pl pu ?_)
  have hno : ¬ ((((sIx items.size 0 lo : Nat) : Int) == 0 && (1 : Int) == 1 && (sIx items.size items.size hi - sIx items.size 0 lo) == items.size) = true) := by
    intro q
    rw [Bool.and_eq_true, Bool.and_eq_true] at q
    have q1 : ((sIx items.size 0 lo : Nat) : Int) = 0 := eq_of_beq q.1.1
    have q2 : sIx items.size items.size hi - sIx items.size 0 lo = items.size := eq_of_beq q.2
    exact hw ⟨by omega, by omega⟩
  show wpAny _ _ (if (((sIx items.size 0 lo : Nat) : Int) == 0 && (1 : Int) == 1 && (sIx items.size items.size hi - sIx items.size 0 lo) == items.size) = true then _ else _) _ _ s
  rw [if_neg hno, pick_gen]
  first
    | exact wpAny_bind (m := Builtin.Tuple.tupleExact _) (wpAny_newObj_type (wpAny_pure ⟨_, rfl, wpAny_pure h⟩) htake)
    | exact wpAny_bind (m := Builtin.Tuple.tupleExact _) (wpAny_newObj_type (wpAny_bind (wpAny_pure (wpAny_pure ⟨_, rfl, wpAny_pure h⟩))) htake)
    | exact wpAny_bind (wpAny_bind (m := Builtin.Tuple.tupleExact _) (wpAny_newObj_type (wpAny_pure (wpAny_pure ⟨_, rfl, wpAny_pure h⟩)) htake))
    | exact wpAny_bind (wpAny_bind (m := Builtin.Tuple.tupleExact _) (wpAny_newObj_type (wpAny_pure ⟨_, rfl, wpAny_pure h⟩) htake))
end
end HT

namespace L2
open PySem PySem.Spec PyProof.Rows

abbrev TO := St → Hp → (Option Int → Hp → Prop) → Prop
def PO (X : Cx) (e : Option Expr) (t : TO) : Prop :=
  ∀ (pins : List (Addr × Obj)) (s : Shared) (σ : St) (H : Hp) (Q : Option Int → Hp → Prop), Inv X pins σ H s → t σ H Q →
    wpAny (model X.prog X.w) X.A (evalPart e X.env) (fun u s' => ∃ o H', Inv X pins σ H' s' ∧ IsPart u o ∧ Q o H') X.xe s
def tNoPart : TO := fun _ H Q => Q none H
def tPart (t : TE) : TO := fun σ H Q => t σ H fun x H1 => ∃ i, x = .int i ∧ Q (some i) H1

theorem intsAre_of {ns : List Int} : ∀ {us : List Value}, Vals (ns.map V.int) us → IntsAre us ns := by
  induction ns with
  | nil => intro us r; rw [List.map_nil] at r; cases r; exact .nil
  | cons n ns ih =>
    intro us r
    rw [List.map_cons] at r
    cases r with
    | cons r1 r2 =>
      obtain ⟨t, e⟩ := r1
      subst e
      exact .cons n t (ih r2)

section
variable {X : Cx} {e : Expr} {te : TE} {lo hi : Option Expr} {tl th : TO} {pos p2 : Pos}

theorem po_none : PO X none tNoPart := by
  intro pins s σ H Q I h
  rw [evalPart_none]
  exact wpAny_pure ⟨none, H, I, .none, h⟩
theorem po_some (h : PE X e te) : PO X (some e) (tPart te) := by
  intro pins s σ H Q I hw
  rw [evalPart_some]
  refine thn (h pins s σ H _ I hw) fun u s1 ⟨x, H1, I1, r1, q1⟩ => ?_
  obtain ⟨i, rfl, q⟩ := q1
  obtain ⟨t, rfl⟩ := r1
  exact ⟨some i, H1, I1, .int i t, q⟩

def SlR (X : Cx) (r : V → Option Int → Option Int → Hp → VK → Prop) : Prop :=
  ∀ (pins : List (Addr × Obj)) (s : Shared) (σ : St) (H : Hp) (x : V) (v vl vu : Value) (lo hi : Option Int) (sl : Addr) (Q : VK), Inv X pins σ H s → RelV x v → s.heap.IsSliceOf sl vl vu .none → IsPart vl lo → IsPart vu hi → r x lo hi H Q →
    ∃ T id, typeLookup (.type T) "__getitem__" = pure (some (.builtin id)) ∧ s.TypeIs v T ∧ wpAny (model X.prog X.w) X.A (getItem v (.ref sl)) (EP X pins σ Q) X.xe s
theorem SlR.or {r r' : V → Option Int → Option Int → Hp → VK → Prop} (h : SlR X r) (h' : SlR X r') : SlR X (fun x lo hi H Q => r x lo hi H Q ∨ r' x lo hi H Q) := by
  intro pins s σ H x v vl vu lo hi sl Q I rx hs pl pu q
  rcases q with q | q
  · exact h pins s σ H x v vl vu lo hi sl Q I rx hs pl pu q
  · exact h' pins s σ H x v vl vu lo hi sl Q I rx hs pl pu q
def tSl (r : V → Option Int → Option Int → Hp → VK → Prop) (te : TE) (tl th : TO) : TE := fun σ H Q => te σ H fun x H1 => tl σ H1 fun l H2 => th σ H2 fun u H3 => r x l u H3 Q
theorem pe_slice {r : V → Option Int → Option Int → Hp → VK → Prop} (hr : SlR X r) (he : PE X e te) (hl : PO X lo tl) (hu : PO X hi th) : PE X (.Subscript e (.Slice lo hi none p2) pos) (tSl r te tl th) := by
  intro pins s σ H Q I h
  refine Subscript_ (thn (he pins s σ H _ I h) fun v s1 ⟨x, H1, I1, r1, q1⟩ => ?_)
  refine wpAny_Slice (thn (hl pins s1 σ H1 _ I1 q1) fun vl s2 ⟨l, H2, I2, pl, q2⟩ => thn (hu pins s2 σ H2 _ I2 q2) fun vu s3 ⟨u, H3, I3, pu, q3⟩ => ?_)
  rw [evalPart_none]
  refine wpAny_pure ?_
  have I4 : Inv X pins σ H3 { s3 with heap := s3.heap.push { cls := .type "slice", data := .fields #[vl, vu, .none] } } := I3.kept (t' := s3.toks) fun b ob q => Heap.get?_push_of_some _ q
  obtain ⟨T, id, hT, ht, hg⟩ := hr pins { s3 with heap := s3.heap.push { cls := .type "slice", data := .fields #[vl, vu, .none] } } σ H3 x v vl vu l u s3.heap.objs.size Q I4 r1 (Heap.IsSliceOf.new ..) pl pu q3
  show wpAny (model X.prog X.w) X.A (subscriptTail e (.Slice lo hi none p2) v (.ref s3.heap.objs.size)) (EP X pins σ Q) X.xe { s3 with heap := s3.heap.push { cls := .type "slice", data := .fields #[vl, vu, .none] } }
  exact tail_any (ops := [.ref s3.heap.objs.size, v]) ht hT hg (by with_unfolding_all rfl)

def cutV (xs : List V) (lo hi : Option Int) : List V := (xs.drop (HT.sIx xs.length 0 lo)).take (HT.sIx xs.length xs.length hi - HT.sIx xs.length 0 lo)
theorem cutV_length (xs : List V) (lo hi : Option Int) : (cutV xs lo hi).length ≤ xs.length := by
  unfold cutV
  rw [List.length_take, List.length_drop]
  omega
def rSlT (K : PySem.W.Frag) : V → Option Int → Option Int → Hp → VK → Prop := fun x lo hi H Q => ∃ a xs, x = .ref a ∧ SqT K H a xs ∧
  ¬ (HT.sIx xs.length 0 lo = 0 ∧ HT.sIx xs.length xs.length hi = xs.length) ∧ ∀ p, H p = none → Q (.ref p) (upd H p (.tup (cutV xs lo hi)))
theorem sl_tup : SlR X (rSlT X.K) := by
  intro pins s σ H x v vl vu lo hi sl Q I rx hs pl pu h
  obtain ⟨a, xs, rfl, hx, hw, q⟩ := h
  cases rx
  obtain ⟨its, r, ht, hz⟩ := I.tuple hx
  have hlen : its.toArray.size = xs.length := by rw [List.size_toArray]; exact r.length.symm
  refine ⟨"tuple", _, PyProof.Rows.slot_tuple_getitem.lookup, ht.typeIs, ?_⟩
  refine HT.getItem_tuple_cut ht hs pl pu (by rw [hlen]; exact hw) ?_ (by rw [hlen]; exact hz)
  rw [hlen]
  refine ⟨.ref s.heap.objs.size, _, I.laid (t' := s.toks) (o := .tup (cutV xs lo hi)) (fun b ob q => Heap.get?_push_of_some _ q) (Nat.le_refl _) ?_, rfl, q _ (I.hok.fresh (Nat.le_refl _))⟩
  exact ⟨Nat.le_trans (cutV_length xs lo hi) hz, _, (r.drop (HT.sIx xs.length 0 lo)).take (HT.sIx xs.length xs.length hi - HT.sIx xs.length 0 lo), IsTup.new _ _⟩

def rLtT (K : PySem.W.Frag) : R2 := fun x y H Q => ∃ a b ns ms, x = .ref a ∧ y = .ref b ∧ SqT K H a (ns.map V.int) ∧ SqT K H b (ms.map V.int) ∧ Q (.bl (HT.lexLt ns ms)) H
theorem op_ltT (hu : X.A.units < cLine) : OpR X (compareOp .Lt) (rLtT X.K) := by
  intro pins s σ H x y v u Q I rx ry h
  obtain ⟨a, b, ns, ms, rfl, rfl, ha, hb, q⟩ := h
  cases rx
  cases ry
  obtain ⟨its, r1, p1, _⟩ := I.tuple ha
  obtain ⟨its2, r2, p2, _⟩ := I.tuple hb
  have i1 : IntsAre its.toArray.toList ns := intsAre_of r1
  have i2 : IntsAre its2.toArray.toList ms := intsAre_of r2
  exact HT.lt_tupInts p1 p2 i1 i2 hu ⟨.bl (HT.lexLt ns ms), H, I, rfl, q⟩
def rCatT (K : PySem.W.Frag) : R2 := fun x y H Q => ∃ a b xs ys, x = .ref a ∧ y = .ref b ∧ SqT K H a xs ∧ SqT K H b ys ∧ xs ≠ [] ∧ xs.length + ys.length ≤ sizeLine ∧
  (ys = [] → Q (.ref a) H) ∧ (ys ≠ [] → ∀ p, H p = none → Q (.ref p) (upd H p (.tup (xs ++ ys))))
theorem Vals.nil_iff {xs : List V} {us : List Value} (r : Vals xs us) : us = [] ↔ xs = [] := by
  cases r with
  | nil => simp
  | cons _ _ => simp
theorem op_catT : OpR X (binaryOp .Add) (rCatT X.K) := by
  intro pins s σ H x y v u Q I rx ry h
  obtain ⟨a, b, xs, ys, rfl, rfl, ha, hb, hx, hz, q1, q2⟩ := h
  cases rx
  cases ry
  obtain ⟨its, r1, p1, _⟩ := I.tuple ha
  obtain ⟨its2, r2, p2, _⟩ := I.tuple hb
  refine HT.cat_tup p1 p2 (fun z => hx (r1.nil_iff.mp z)) (fun z => ⟨.ref a, H, I, rfl, q1 (r2.nil_iff.mp z)⟩) (fun z => ?_) (by rw [← r1.length, ← r2.length]; exact hz)
  refine ⟨.ref s.heap.objs.size, _, I.laid (t' := s.toks) (o := .tup (xs ++ ys)) (fun b ob q => Heap.get?_push_of_some _ q) (Nat.le_refl _) ?_, rfl, q2 (fun w => z (r2.nil_iff.mpr w)) _ (I.hok.fresh (Nat.le_refl _))⟩
  exact ⟨by rw [List.length_append]; exact hz, _, r1.append r2, IsTup.new _ _⟩
theorem call_tupleT : CallR X (.type "tuple") (fun xs H Q => ∃ a ys, xs = [.ref a] ∧ SqT X.K H a ys ∧ Q (.ref a) H) := by
  intro pins s σ H xs us Q I r h
  obtain ⟨a, ys, rfl, ha, q⟩ := h
  obtain ⟨u, rfl, ru⟩ := vals1 r
  cases ru
  obtain ⟨its, _, p1, _⟩ := I.tuple ha
  exact call_tuple_same (items := its.toArray) p1 ⟨.ref a, H, I, rfl, q⟩
end
end L2

namespace L2
open PySem PySem.Spec PyProof.Rows

def ixN (n : Nat) (i : Int) : Option Nat := if 0 ≤ i then (if i < n then some i.toNat else none) else if -(n : Int) ≤ i then some (i + n).toNat else none
def atI {α : Type} (xs : List α) (i : Int) : Option α := (ixN xs.length i).bind fun j => xs[j]?
theorem ixN_seq {n : Nat} {i : Int} {j : Nat} (h : ixN n i = some j) : seqIndex? i n = some j ∧ j < n ∧ -(n : Int) ≤ i ∧ i < n := by
  unfold ixN at h
  by_cases h0 : 0 ≤ i
  · rw [if_pos h0] at h
    by_cases h1 : i < n
    · rw [if_pos h1] at h
      have e : i.toNat = j := Option.some.inj h
      exact ⟨by rw [seqIndex_of h0 h1, e], by omega, by omega, h1⟩
    · rw [if_neg h1] at h; cases h
  · rw [if_neg h0] at h
    by_cases h1 : -(n : Int) ≤ i
    · rw [if_pos h1] at h
      have e : (i + n).toNat = j := Option.some.inj h
      exact ⟨by rw [seqIndex_neg (by omega) h1, e], by omega, h1, by omega⟩
    · rw [if_neg h1] at h; cases h
theorem atI_get {α : Type} {xs : List α} {i : Int} {v : α} (h : atI xs i = some v) : ∃ j, seqIndex? i xs.length = some j ∧ xs[j]? = some v ∧ j < xs.length ∧ -(xs.length : Int) ≤ i ∧ i < xs.length := by
  unfold atI at h
  cases e : ixN xs.length i with
  | none => rw [e] at h; cases h
  | some j =>
    rw [e] at h
    obtain ⟨h1, h2, h3, h4⟩ := ixN_seq e
    exact ⟨j, h1, h, h2, h3, h4⟩
theorem atI_nat {α : Type} {xs : List α} {j : Nat} {v : α} (h : xs[j]? = some v) : atI xs (j : Int) = some v := by
  have hj : j < xs.length := (List.getElem?_eq_some_iff.mp h).1
  have e : ixN xs.length (j : Int) = some j := by
    unfold ixN
    rw [if_pos (by omega), if_pos (by omega)]; simp
  unfold atI; rw [e]; exact h
theorem atI_last {α : Type} (xs : List α) (v : α) : atI (xs ++ [v]) (-1) = some v := by
  have hl : (xs ++ [v]).length = xs.length + 1 := by simp
  have e : ixN (xs ++ [v]).length (-1) = some xs.length := by
    unfold ixN
    rw [hl, if_neg (by decide), if_pos (by omega)]
    congr 1
    omega
  unfold atI
  rw [e]
  show (xs ++ [v])[xs.length]? = some v
  simp

def PlainIx (b : Expr) : Prop := ∀ o i, subscripted b false o i = operate [o, i] (getItem o i)
def IxR (X : Cx) (r : R2) : Prop :=
  ∀ (value slice : Expr) (pins : List (Addr × Obj)) (s : Shared) (σ : St) (H : Hp) (x y : V) (v u : Value) (Q : VK), Inv X pins σ H s → RelV x v → RelV y u → r x y H Q →
    subscripted slice false v u = operate [v, u] (getItem v u) → wpAny (model X.prog X.w) X.A (subscriptTail value slice v u) (EP X pins σ Q) X.xe s
def MtR (X : Cx) (id : String) (r : V → List V → Hp → VK → Prop) : Prop :=
  ∀ (pins : List (Addr × Obj)) (s : Shared) (σ : St) (H : Hp) (x : V) (xs : List V) (v : Value) (us : List Value) (Q : VK), Inv X pins σ H s → RelV x v → Vals xs us → r x xs H Q →
    wpAny (model X.prog X.w) X.A (call (.builtin id) (v :: us)) (EP X pins σ Q) X.xe s
section
variable {X : Cx} {a b : Expr} {ta tb : TE} {pos : Pos}
theorem IxR.or {r r' : R2} (h : IxR X r) (h' : IxR X r') : IxR X (fun x y H Q => r x y H Q ∨ r' x y H Q) := by
  intro value slice pins s σ H x y v u Q I rx ry q hs
  rcases q with q | q
  · exact h value slice pins s σ H x y v u Q I rx ry q hs
  · exact h' value slice pins s σ H x y v u Q I rx ry q hs
theorem MtR.or {id : String} {r r' : V → List V → Hp → VK → Prop} (h : MtR X id r) (h' : MtR X id r') : MtR X id (fun x xs H Q => r x xs H Q ∨ r' x xs H Q) := by
  intro pins s σ H x xs v us Q I rx rs q
  rcases q with q | q
  · exact h pins s σ H x xs v us Q I rx rs q
  · exact h' pins s σ H x xs v us Q I rx rs q
theorem pe_ix {r : R2} (hr : IxR X r) (ha : PE X a ta) (hb : PE X b tb) (hs : PlainIx b) : PE X (.Subscript a b pos) (tOp r ta tb) := by
  intro pins s σ H Q I h
  exact Subscript_ (binT ha hb I h fun v u s2 x y H2 I2 rx ry q => hr a b pins s2 σ H2 x y v u Q I2 rx ry q (hs _ _))

def rIxL (K : PySem.W.Frag) : R2 := fun x y H Q => ∃ p xs i v, x = .ref p ∧ y = .int i ∧ SqL K H p xs ∧ atI xs i = some v ∧ Q v H
def rIxT (K : PySem.W.Frag) : R2 := fun x y H Q => ∃ p xs i v, x = .ref p ∧ y = .int i ∧ SqT K H p xs ∧ atI xs i = some v ∧ Q v H
def rIxS : R2 := fun x y H Q => ∃ z i c, x = .str z ∧ y = .int i ∧ z.length ≤ sizeLine ∧ atI z.cps.toList i = some c ∧ Q (.str ⟨#[c]⟩) H
theorem ix_list : IxR X (rIxL X.K) := by
  intro value slice pins s σ H x y v u Q I rx ry h hs
  obtain ⟨p, xs, i, z, rfl, rfl, hq, he, q⟩ := h
  cases rx
  obtain ⟨t, rfl⟩ := ry
  obtain ⟨its, r, pl, hz⟩ := I.list hq
  obtain ⟨j, h1, h2, h3, h4, h5⟩ := atI_get he
  obtain ⟨w, ew, rw'⟩ := r.get h2
  have hl := r.length
  have hn := line63
  have fin : EP X pins σ Q w s := ⟨z, H, I, rw', q⟩
  by_cases h0 : 0 ≤ i
  · have hj : i.toNat = j := by
      rw [seqIndex_of h0 h5] at h1
      exact Option.some.inj h1
    exact item_listR pl.isList h0 (by omega) (by rw [hj]; simpa using ew) fin hs
  · have hj : (i + (its.toArray.size : Int)).toNat = j := by
      rw [seqIndex_neg (by omega) h4] at h1
      rw [List.size_toArray, ← hl]
      exact Option.some.inj h1
    exact subscriptTail_builtinR (x := w) pl.isList.typeIs slot_list_getitem.lookup
      (wpAny_getItem_list_neg (Q := fun r s' => r = w ∧ EP X pins σ Q r s') pl.isList (by omega) (by rw [List.size_toArray] <;> omega) (by omega) (by rw [hj]; simpa using ew) ⟨rfl, fin⟩) hs
theorem ix_tup : IxR X (rIxT X.K) := by
  intro value slice pins s σ H x y v u Q I rx ry h hs
  obtain ⟨p, xs, i, z, rfl, rfl, hq, he, q⟩ := h
  cases rx
  obtain ⟨t, rfl⟩ := ry
  obtain ⟨its, r, pl, hz⟩ := I.tuple hq
  obtain ⟨j, h1, h2, h3, h4, h5⟩ := atI_get he
  obtain ⟨w, ew, rw'⟩ := r.get h2
  have hl := r.length
  have hn := line63
  have fin : EP X pins σ Q w s := ⟨z, H, I, rw', q⟩
  exact subscriptTail_builtinR (x := w) pl.typeIs slot_tuple_getitem.lookup
    (getItem_tuple (j := j) (Q := fun r s' => r = w ∧ EP X pins σ Q r s') pl (by omega) (by omega) (by rw [List.size_toArray, ← hl]; exact h1) (by simpa using ew) ⟨rfl, fin⟩) hs
theorem ix_str : IxR X rIxS := by
  intro value slice pins s σ H x y v u Q I rx ry h hs
  obtain ⟨z, i, c, rfl, rfl, hz, he, q⟩ := h
  obtain ⟨t, rfl⟩ := rx
  obtain ⟨t', rfl⟩ := ry
  obtain ⟨j, h1, h2, h3, h4, h5⟩ := atI_get he
  have hl : z.cps.toList.length = z.length := by simp [Str.length]
  rw [hl] at h1 h4 h5
  have hn := line63
  exact tail_any (typeIs_str s z t) slot_str_getitem.lookup (getItem_str (c := c) (by
    have e1 : decide (i < -(2 ^ 63 : Int)) = false := decide_eq_false (by omega)
    have e2 : decide (i ≥ 2 ^ 63) = false := decide_eq_false (by omega)
    rw [e1, e2, Bool.or_false]) (by rw [h1]; simpa using h2) ⟨.str ⟨#[c]⟩, H, I.tok _, ⟨_, rfl⟩, q⟩) hs
def rIx (K : PySem.W.Frag) : R2 := fun x y H Q => rIxL K x y H Q ∨ rIxT K x y H Q ∨ rIxS x y H Q
theorem ix_seq : IxR X (rIx X.K) := ix_list.or (ix_tup.or ix_str)

theorem mapSeq_set (its : List Value) (n j : Nat) (u : Value) : Obj.mapSeq (·.setIfInBounds j u) { cls := .type "list", data := .seq its.toArray n } = { cls := .type "list", data := .seq (its.set j u).toArray n } := by
  simp [Obj.mapSeq]
theorem Inv.lst {pins : List (Addr × Obj)} {σ : St} {H : Hp} {s : Shared} {p : Addr} {xs : List V} (I : Inv X pins σ H s) (h : H p = some (.lst xs)) :
    ∃ (its : List Value) (n : Nat), Vals xs its ∧ s.heap.get? p = some { cls := .type "list", data := .seq its.toArray n } ∧ xs.length ≤ sizeLine := by
  obtain ⟨z, its, n, r, e⟩ := I.hok p _ h
  exact ⟨its, n, r, e, z⟩
theorem Inv.lstUpd {pins : List (Addr × Obj)} {σ : St} {H : Hp} {s : Shared} {p : Addr} {xs ys : List V} {its its' : List Value} {n n' : Nat} {f : Obj → Obj} (I : Inv X pins σ H s) (h : H p = some (.lst xs))
    (ho : s.heap.get? p = some { cls := .type "list", data := .seq its.toArray n }) (hf : f { cls := .type "list", data := .seq its.toArray n } = { cls := .type "list", data := .seq its'.toArray n' }) (r : Vals ys its') (hz : ys.length ≤ sizeLine) (t : Nat) :
    Inv X pins σ (upd H p (.lst ys)) { s with heap := s.heap.update p f, toks := t } := by
  have e : (s.heap.update p f).get? p = some { cls := .type "list", data := .seq its'.toArray n' } := by
    rw [Heap.get?_update_self f ho (by rw [hf] <;> rfl), hf]
  refine I.write (x := p) (e := p) (by rw [h]; trivial) (.inl rfl) (fun b u hb q => (Heap.get?_update_other _ _ (Ne.symm hb)).trans q) ⟨_, e⟩ ?_
  exact ⟨hz, its', n', r, e⟩
def rSetL : V → V → V → Hp → (Hp → Prop) → Prop := fun o i v H Q => ∃ p xs k j, o = .ref p ∧ i = .int k ∧ H p = some (.lst xs) ∧ ixN xs.length k = some j ∧ Q (upd H p (.lst (xs.set j v)))
theorem set_list : PSet X rSetL := by
  intro pins s σ H o i v ov iv u Q I ro ri rv h
  obtain ⟨p, xs, k, j, rfl, rfl, hp, hj, q⟩ := h
  cases ro
  obtain ⟨t, rfl⟩ := ri
  obtain ⟨its, n, r, ho, hz⟩ := I.lst hp
  obtain ⟨h1, h2, h3, h4⟩ := ixN_seq hj
  have hl := r.length
  have hn := line63
  have I' : Inv X pins σ (upd H p (.lst (xs.set j v))) { s with heap := s.heap.update p (Obj.mapSeq (·.setIfInBounds j u)) } :=
    I.lstUpd hp ho (mapSeq_set its n j u) (r.set rv j) (by rw [List.length_set]; exact hz) s.toks
  by_cases h0 : 0 ≤ k
  · have hk : k.toNat = j := by
      rw [seqIndex_of h0 h4] at h1
      exact Option.some.inj h1
    exact PySem.W.ki_setAt ho h0 (by omega) (by rw [List.size_toArray, ← hl]; exact h4) (by rw [hk]; exact ⟨_, I', q⟩)
  · have hk : (k + (its.toArray.size : Int)).toNat = j := by
      rw [seqIndex_neg (by omega) h3] at h1
      rw [List.size_toArray, ← hl]
      exact Option.some.inj h1
    exact PySem.W.ki_setBack ho (by omega) (by rw [List.size_toArray, ← hl]; exact h3) (by omega) (by rw [hk]; exact ⟨_, I', q⟩)

theorem slice_bounds (lo hi : Option Int) (n : Nat) : (sliceBounds lo hi none n).1 = ((HT.sIx n 0 lo : Nat) : Int) ∧ (sliceBounds lo hi none n).2.1 = ((HT.sIx n n hi : Nat) : Int) ∧ (sliceBounds lo hi none n).2.2 = 1 := by
  refine ⟨?_, ?_, rfl⟩
  · cases lo with
    | none => simp [sliceBounds, HT.sIx]
    | some i =>
      simp only [sliceBounds, HT.sIx, Option.getD_none, show (1 : Int) > 0 by decide, if_true]
      by_cases h : i < 0
      · simp only [h, if_true] <;> omega
      · simp only [h, if_false] <;> omega
  · cases hi with
    | none => simp [sliceBounds, HT.sIx]
    | some i =>
      simp only [sliceBounds, HT.sIx, Option.getD_none, show (1 : Int) > 0 by decide, if_true]
      by_cases h : i < 0
      · simp only [h, if_true] <;> omega
      · simp only [h, if_false] <;> omega
theorem slicePick_cut (its : List Value) (lo hi : Option Int) : slicePick its.toArray lo hi none = ((its.drop (HT.sIx its.length 0 lo)).take (HT.sIx its.length its.length hi - HT.sIx its.length 0 lo)).toArray := by
  obtain ⟨h1, h2, h3⟩ := slice_bounds lo hi its.toArray.size
  unfold slicePick
  rw [h1, h2, h3]
  simp only [sliceRange_one, pick_run, List.size_toArray] <;> rfl
def rSlL (K : PySem.W.Frag) : V → Option Int → Option Int → Hp → VK → Prop := fun x lo hi H Q => ∃ a xs, x = .ref a ∧ SqL K H a xs ∧ ∀ p, H p = none → Q (.ref p) (upd H p (.lst (cutV xs lo hi)))
theorem sl_list : SlR X (rSlL X.K) := by
  intro pins s σ H x v vl vu lo hi sl Q I rx hs pl pu h
  obtain ⟨a, xs, rfl, hx, q⟩ := h
  cases rx
  obtain ⟨its, r, ht, hz⟩ := I.list hx
  have hlen := r.length
  refine ⟨"list", _, slot_list_getitem.lookup, ht.isList.typeIs, ?_⟩
  refine wpAny_getItem_list_slice ht.isList hs pl pu .none (by simp) ?_ (by rw [List.size_toArray] <;> omega)
  rw [slicePick_cut, ← hlen]
  refine ⟨.ref s.heap.objs.size, _, I.laid (t' := s.toks) (o := .lst (cutV xs lo hi)) (fun b ob q => Heap.get?_push_of_some _ q) (Nat.le_refl _) ?_, rfl, q _ (I.hok.fresh (Nat.le_refl _))⟩
  exact ⟨Nat.le_trans (cutV_length xs lo hi) hz, _, 0, (r.drop (HT.sIx xs.length 0 lo)).take (HT.sIx xs.length xs.length hi - HT.sIx xs.length 0 lo), Heap.get?_push_size _ rfl⟩

def flatV : V → Bool
  | .non => true
  | .bl _ => true
  | .int _ => true
  | .str _ => true
  | _ => false
def eqV : V → V → Bool
  | .non, .non => true
  | .bl a, .bl b => a == b
  | .bl a, .int b => (if a then 1 else 0) == b
  | .int a, .bl b => a == (if b then 1 else 0)
  | .int a, .int b => a == b
  | .str a, .str b => a == b
  | _, _ => false
theorem eqAt_V {A : Around} {s : Shared} {y x : V} {u v : Value} (ry : RelV y u) (rx : RelV x v) (fy : flatV y = true) (fx : flatV x = true) : SeqAt.EqAt A s u v (eqV y x) := by
  cases y with
  | non =>
    cases ry
    cases x with
    | non => cases rx; exact SeqAt.EqAt.same _
    | bl b => cases rx; exact SeqAt.EqAt.none_bool b
    | int b => obtain ⟨t, rfl⟩ := rx; exact SeqAt.EqAt.none_int b t
    | str b => obtain ⟨t, rfl⟩ := rx; exact SeqAt.EqAt.none_str b t
    | _ => exact absurd (show false = true from fx) Bool.false_ne_true
  | bl a =>
    cases ry
    cases x with
    | non => cases rx; exact SeqAt.EqAt.bool_none a
    | bl b => cases rx; exact SeqAt.EqAt.bool_bool a b
    | int b => obtain ⟨t, rfl⟩ := rx; exact SeqAt.EqAt.bool_int a b t
    | str b => obtain ⟨t, rfl⟩ := rx; exact SeqAt.EqAt.bool_str a b t
    | _ => exact absurd (show false = true from fx) Bool.false_ne_true
  | int a =>
    obtain ⟨t', rfl⟩ := ry
    cases x with
    | non => cases rx; exact SeqAt.EqAt.int_none a t'
    | bl b => cases rx; exact SeqAt.EqAt.int_bool a t' b
    | int b => obtain ⟨t, rfl⟩ := rx; exact SeqAt.EqAt.int_int a t' b t
    | str b => obtain ⟨t, rfl⟩ := rx; exact SeqAt.EqAt.int_str a t' b t
    | _ => exact absurd (show false = true from fx) Bool.false_ne_true
  | str a =>
    obtain ⟨t', rfl⟩ := ry
    cases x with
    | non => cases rx; exact SeqAt.EqAt.str_none a t'
    | bl b => cases rx; exact SeqAt.EqAt.str_bool a t' b
    | int b => obtain ⟨t, rfl⟩ := rx; exact SeqAt.EqAt.str_int a t' b t
    | str b => obtain ⟨t, rfl⟩ := rx; exact SeqAt.EqAt.str_str a t' b t
    | _ => exact absurd (show false = true from fx) Bool.false_ne_true
  | _ => exact absurd (show false = true from fy) Bool.false_ne_true
def eqU (x : V) (u : Value) : Bool := match u with
  | .none => eqV .non x
  | .bool b => eqV (.bl b) x
  | .int i _ => eqV (.int i) x
  | .str z _ => eqV (.str z) x
  | _ => false
theorem eqU_of {x y : V} {u : Value} (r : RelV y u) (f : flatV y = true) : eqU x u = eqV y x := by
  cases y with
  | non => cases r; rfl
  | bl b => cases r; rfl
  | int i => obtain ⟨t, rfl⟩ := r; rfl
  | str z => obtain ⟨t, rfl⟩ := r; rfl
  | _ => exact absurd (show false = true from f) Bool.false_ne_true
theorem any_eqU {x : V} : ∀ {xs : List V} {us : List Value}, Vals xs us → xs.all flatV = true → us.any (eqU x) = xs.any fun y => eqV y x
  | _, _, .nil, _ => rfl
  | y :: xs, u :: us, .cons r t, f => by
    rw [List.all_cons, Bool.and_eq_true] at f
    rw [List.any_cons, List.any_cons, eqU_of r f.1, any_eqU t f.2]
theorem mem_eqAt {A : Around} {s : Shared} {x : V} {v : Value} (rx : RelV x v) (fx : flatV x = true) : ∀ {xs : List V} {us : List Value}, Vals xs us → xs.all flatV = true → ∀ u ∈ us, SeqAt.EqAt A s u v (eqU x u)
  | _, _, .nil, _ => fun u hu => by cases hu
  | y :: xs, u :: us, .cons r t, f => fun u' hu => by
    rw [List.all_cons, Bool.and_eq_true] at f
    rcases List.mem_cons.mp hu with rfl | hu
    · rw [eqU_of r f.1]; exact eqAt_V r rx f.1 fx
    · exact mem_eqAt rx fx t f.2 u' hu
def inV (x : V) (xs : List V) : Bool := xs.any fun y => eqV y x
def rIn (K : PySem.W.Frag) (neg : Bool) : R2 := fun x y H Q => ∃ p xs, y = .ref p ∧ (SqL K H p xs ∨ SqT K H p xs) ∧ flatV x = true ∧ xs.all flatV = true ∧ Q (.bl (if neg then !inV x xs else inV x xs)) H
theorem op_in_seq : OpR X (compareOp .In) (rIn X.K false) := by
  intro pins s σ H x y v u Q I rx ry h
  obtain ⟨p, xs, rfl, hq, fx, fs, q⟩ := h
  cases ry
  rcases hq with hq | hq
  · obtain ⟨its, r, pl, hz⟩ := I.list hq
    refine SeqAt.in_listAt (eqU x) pl.isList (fun w hw => mem_eqAt rx fx r fs w (by simpa using hw)) ⟨.bl _, H, I, rfl, ?_⟩
    rw [show its.toArray.any (eqU x) = its.any (eqU x) by simp, any_eqU r fs]
    exact q
  · obtain ⟨its, r, pl, hz⟩ := I.tuple hq
    refine SeqAt.in_tupleAt (eqU x) pl (fun w hw => mem_eqAt rx fx r fs w (by simpa using hw)) ⟨.bl _, H, I, rfl, ?_⟩
    rw [show its.toArray.any (eqU x) = its.any (eqU x) by simp, any_eqU r fs]
    exact q
theorem op_notIn_seq : OpR X (compareOp .NotIn) (rIn X.K true) := by
  intro pins s σ H x y v u Q I rx ry h
  obtain ⟨p, xs, rfl, hq, fx, fs, q⟩ := h
  cases ry
  rcases hq with hq | hq
  · obtain ⟨its, r, pl, hz⟩ := I.list hq
    refine SeqAt.notIn_listAt (eqU x) pl.isList (fun w hw => mem_eqAt rx fx r fs w (by simpa using hw)) ⟨.bl _, H, I, rfl, ?_⟩
    rw [show its.toArray.any (eqU x) = its.any (eqU x) by simp, any_eqU r fs]
    exact q
  · obtain ⟨its, r, pl, hz⟩ := I.tuple hq
    refine SeqAt.notIn_tupleAt (eqU x) pl (fun w hw => mem_eqAt rx fx r fs w (by simpa using hw)) ⟨.bl _, H, I, rfl, ?_⟩
    rw [show its.toArray.any (eqU x) = its.any (eqU x) by simp, any_eqU r fs]
    exact q
theorem op_notIn_str : OpR X (compareOp .NotIn) (fun x y H Q => ∃ i j, x = .str i ∧ y = .str j ∧ Q (.bl (!(!(Builtin.Str.occurrences j i 0 j.length 1).isEmpty))) H) := by
  intro pins s σ H x y v u Q I rx ry h
  obtain ⟨i, j, rfl, rfl, q⟩ := h
  obtain ⟨t, rfl⟩ := rx
  obtain ⟨t', rfl⟩ := ry
  exact notIn_str ⟨.bl _, H, I, rfl, q⟩

theorem call_len_seq : CallR X (.builtin "len") (fun xs H Q => ∃ p ys, xs = [.ref p] ∧ (SqL X.K H p ys ∨ SqT X.K H p ys) ∧ Q (.int ys.length) H) := by
  intro pins s σ H xs us Q I r h
  obtain ⟨p, ys, rfl, hq, q⟩ := h
  obtain ⟨u, rfl, rx⟩ := vals1 r
  cases rx
  have hn := line63
  rcases hq with hq | hq
  · obtain ⟨its, r', pl, hz⟩ := I.list hq
    have hlen := r'.length
    exact Calls.call_len_list pl.isList (by simp only [List.size_toArray] <;> omega) ⟨.int ys.length, H, I.tok _, ⟨s.toks + 1, by rw [List.size_toArray, hlen]⟩, q⟩
  · obtain ⟨its, r', pl, hz⟩ := I.tuple hq
    have hlen := r'.length
    exact len_tuple pl (by simp only [List.size_toArray] <;> omega) ⟨.int ys.length, H, I.tok _, ⟨s.toks + 1, by rw [List.size_toArray, hlen]⟩, q⟩
theorem call_len_str : CallR X (.builtin "len") (fun xs H Q => ∃ z, xs = [.str z] ∧ z.length ≤ sizeLine ∧ Q (.int z.length) H) := by
  intro pins s σ H xs us Q I r h
  obtain ⟨z, rfl, hz, q⟩ := h
  obtain ⟨u, rfl, t, rfl⟩ := vals1 r
  have hn := line63
  exact len_str (by omega) ⟨.int z.length, H, I.tok _, ⟨_, rfl⟩, q⟩
theorem CallR.or {f : Value} {r r' : List V → Hp → VK → Prop} (h : CallR X f r) (h' : CallR X f r') : CallR X f (fun xs H Q => r xs H Q ∨ r' xs H Q) := by
  intro pins s σ H xs us Q I rs q
  rcases q with q | q
  · exact h pins s σ H xs us Q I rs q
  · exact h' pins s σ H xs us Q I rs q
theorem call_list_of : CallR X (.type "list") (fun xs H Q => ∃ p ys, xs = [.ref p] ∧ (SqL X.K H p ys ∨ SqT X.K H p ys) ∧ ∀ l, H l = none → Q (.ref l) (upd H l (.lst ys))) := by
  intro pins s σ H xs us Q I r h
  obtain ⟨p, ys, rfl, hq, q⟩ := h
  obtain ⟨u, rfl, rx⟩ := vals1 r
  cases rx
  have fin : ∀ (its : List Value), Vals ys its → ys.length ≤ sizeLine → ∀ (h' : Heap) (c' : Nat), (∀ b o', s.heap.get? b = some o' → h'.get? b = some o') →
      h'.get? s.heap.objs.size = some { cls := .type "list", dict := none, data := .seq its.toArray c', slots := #[] } → EP X pins σ Q (.ref s.heap.objs.size) { s with heap := h' } := fun its r' hz h' c' kp e =>
    ⟨.ref s.heap.objs.size, _, I.laid (t' := s.toks) kp (Nat.le_refl _) (show ObjOk X.prog X.w _ h' _ (.lst ys) from ⟨hz, its, c', r', e⟩), rfl, q _ (I.hok.fresh (Nat.le_refl _))⟩
  rcases hq with hq | hq
  · obtain ⟨its, r', pl, hz⟩ := I.list hq
    have hlen := r'.length
    obtain ⟨o, ho, hc, n, hd⟩ := pl.isList
    exact call_list_seq p (.inl rfl) ho hc hd (fun h' c' kp e => fin its r' hz h' c' kp e) (by simp only [List.size_toArray] <;> omega)
  · obtain ⟨its, r', pl, hz⟩ := I.tuple hq
    have hlen := r'.length
    obtain ⟨o, ho, hc, n, hd⟩ := pl
    exact call_list_seq p (.inr rfl) ho hc hd (fun h' c' kp e => fin its r' hz h' c' kp e) (by simp only [List.size_toArray] <;> omega)
theorem call_tuple_of : CallR X (.type "tuple") (fun xs H Q => ∃ p ys, xs = [.ref p] ∧ ((SqL X.K H p ys ∧ ∀ l, H l = none → Q (.ref l) (upd H l (.tup ys))) ∨ (SqT X.K H p ys ∧ Q (.ref p) H))) := by
  intro pins s σ H xs us Q I r h
  obtain ⟨p, ys, rfl, h⟩ := h
  obtain ⟨u, rfl, rx⟩ := vals1 r
  cases rx
  rcases h with ⟨hq, q⟩ | ⟨hq, q⟩
  · obtain ⟨its, r', pl, hz⟩ := I.list hq
    have hlen := r'.length
    refine call_tuple_list pl.isList (fun h' kp => ?_) (by simp only [List.size_toArray] <;> omega)
    have I1 : Inv X pins σ H { s with heap := h' } := I.kept (t' := s.toks) kp
    have I2 : Inv X pins σ (upd H h'.objs.size (.tup ys)) { s with heap := h'.push { cls := .type "tuple", data := .seq its.toArray } } :=
      I1.laid (t' := s.toks) (fun b o e => Heap.get?_push_of_some _ e) (Nat.le_refl _) (show ObjOk X.prog X.w _ _ _ (.tup ys) from ⟨hz, its, r', IsTup.new _ _⟩)
    exact ⟨.ref h'.objs.size, _, I2, rfl, q _ (I1.hok.fresh (Nat.le_refl _))⟩
  · obtain ⟨its, r', pl, hz⟩ := I.tuple hq
    exact call_tuple_same pl ⟨.ref p, H, I, rfl, q⟩

def tyV (K : PySem.W.Frag) (T : String) (x : V) (H : Hp) : Prop := match x with
  | .str _ => T = "str"
  | .int _ => T = "int"
  | .ref p => (T = "list" ∧ ∃ xs, SqL K H p xs) ∨ (T = "tuple" ∧ ∃ o, K.lookup p = some o ∧ o.cls = .type "tuple" ∧ o.dict = none) ∨
      (T = "dict" ∧ ((∃ kvs, H p = some (.dK kvs)) ∨ ∃ kvs, H p = some (.dT kvs))) ∨ (T = "set" ∧ ∃ S n, H p = some (.set S n))
  | _ => False
theorem tyV_is {pins : List (Addr × Obj)} {σ : St} {H : Hp} {s : Shared} {T : String} {x : V} {v : Value} (I : Inv X pins σ H s) (r : RelV x v) (ty : tyV X.K T x H) :
    s.TypeIs v T ∧ ∀ a, v = .ref a → ∃ ob, s.heap.get? a = some ob ∧ ob.dict = none := by
  cases x with
  | str z =>
    obtain ⟨t, rfl⟩ := r
    cases (show T = "str" from ty)
    exact ⟨typeIs_str s z t, fun _ e => nomatch e⟩
  | int i =>
    obtain ⟨t, rfl⟩ := r
    cases (show T = "int" from ty)
    exact ⟨typeIs_int s i t, fun _ e => nomatch e⟩
  | ref p =>
    cases r
    rcases ty with ⟨rfl, xs, hq⟩ | ⟨rfl, o, hk, hc, hd⟩ | ⟨rfl, hk⟩ | ⟨rfl, S, n, hk⟩
    · obtain ⟨its, _, pl, _⟩ := I.list hq
      refine ⟨pl.isList.typeIs, fun a e => ?_⟩
      cases e
      obtain ⟨o, n, e, c, hd, _⟩ := pl
      exact ⟨o, e, hd⟩
    · refine ⟨⟨o, I.kIn p o hk, hc⟩, fun a e => ?_⟩
      cases e
      exact ⟨o, I.kIn _ o hk, hd⟩
    · have z : ∃ o, s.heap.get? p = some o ∧ o.ExactDict := by
        rcases hk with ⟨kvs, hk⟩ | ⟨kvs, hk⟩
        · obtain ⟨_, _, _, _, o, _, _, e, ex, _⟩ := I.hok p _ hk
          exact ⟨o, e, ex⟩
        · obtain ⟨_, _, _, _, o, _, _, e, ex, _⟩ := I.hok p _ hk
          exact ⟨o, e, ex⟩
      obtain ⟨o, e, ex⟩ := z
      refine ⟨⟨o, e, ex.1⟩, fun a e2 => ?_⟩
      cases e2
      exact ⟨o, e, ex.2.1⟩
    · obtain ⟨o, _, _, _, e, ex, _⟩ := I.hok p _ hk
      refine ⟨⟨o, e, ex.1⟩, fun a e2 => ?_⟩
      cases e2
      exact ⟨o, e, ex.2.1⟩
  | _ => exact False.elim ty
def tBM0 (K : PySem.W.Frag) (T : String) (r : V → List V → Hp → VK → Prop) (to : TE) : TE := fun σ H Q => to σ H fun x H1 => tyV K T x H1 ∧ r x [] H1 Q
def tBM (K : PySem.W.Frag) (T : String) (r : V → List V → Hp → VK → Prop) (to : TE) (t : TA) : TE := fun σ H Q => to σ H fun x H1 => tyV K T x H1 ∧ t σ H1 fun xs H2 => r x xs H2 Q
variable {o e : Expr} {es : List Expr} {to : TE} {t : TA} {name : Str} {apos cpos : Pos} {T id : String} {r : V → List V → Hp → VK → Prop}
theorem pe_bm0 (pa : PlainAttrs T) (slot : Slot T name id) (hty : typeOf (.builtin id) = pure (.type "method_descriptor")) (hm : MtR X id r) (ho : PE X o to)
    (hbase : attributeBase o name X.env (eval o X.env) = eval o X.env := by rfl) (hline : (apos.endLine == cpos.line) = true := by rfl) : PE X (.Call (.Attribute o name apos) [] [] cpos) (tBM0 X.K T r to) := by
  intro pins s σ H Q I h
  refine wpAny_Call_method0_late hbase hline (thn (ho pins s σ H _ I h) fun v s1 ⟨x, H1, I1, r1, ty, q1⟩ => ?_)
  obtain ⟨h1, h2⟩ := tyV_is I1 r1 ty
  exact ⟨T, id, pa, slot, hty, h1, h2, Calls.callWith_builtin rfl (PySem.evalArgs_none (hm pins s1 σ H1 x [] v [] Q I1 r1 .nil q1))⟩
theorem pe_bm (pa : PlainAttrs T) (slot : Slot T name id) (hty : typeOf (.builtin id) = pure (.type "method_descriptor")) (hm : MtR X id r) (ho : PE X o to) (ha : PA X (e :: es) t)
    (hbase : attributeBase o name X.env (eval o X.env) = eval o X.env := by rfl)
    (hfew : ((backTo cpos (starEach (e :: es) X.env)).all (fun x => !x.1) && (backToKw cpos (keywordEach [] X.env)).all (fun x => x.1.isSome)
      && decide ((e :: es).length + ([] : List Keyword).length + (if ([] : List Keyword).isEmpty then 0 else 1) < 30)) = true := by rfl)
    (hline : (apos.endLine == cpos.line) = true := by rfl) (hs : starEach (e :: es) X.env = (false, eval e X.env) :: starEach es X.env := by rfl) (hplain : (backTo cpos (starEach es X.env)).any (·.1) = false := by rfl) :
    PE X (.Call (.Attribute o name apos) (e :: es) [] cpos) (tBM X.K T r to t) := by
  intro pins s σ H Q I h
  refine wpAny_Call_method_late hbase hfew hline rfl (thn (ho pins s σ H _ I h) fun v s1 ⟨x, H1, I1, r1, ty, q1⟩ => ?_)
  obtain ⟨h1, h2⟩ := tyV_is I1 r1 ty
  refine ⟨T, id, pa, slot, hty, h1, h2, ?_⟩
  have hA := ha cpos pins s1 σ H1 _ I1 q1
  rw [hs] at hA ⊢
  refine Calls.callWith_builtin (by show (false || (backTo cpos (starEach es X.env)).any (·.1)) = false; rw [hplain] <;> rfl) (Calls.evalArgs_plain ?_)
  exact thn hA fun us s2 ⟨vs, H2, I2, r2, q2⟩ => hm pins s2 σ H2 x vs v us Q I2 r1 r2 q2
/- xs.append(e), list.index on a module's tuple .. are MtR facts of 06m -/
end
end L2

namespace L2
open PySem PySem.Spec PyProof.Rows

def MtM (X : Cx) (id : String) (r : V → List V → Hp → VK → Prop) : Prop :=
  ∀ (pins : List (Addr × Obj)) (s : Shared) (σ : St) (H : Hp) (x : V) (xs : List V) (v : Value) (us : List Value) (Q : VK), Inv X pins σ H s → RelV x v → Vals xs us → r x xs H Q →
    wpAny (model X.prog X.w) X.A (call (.builtin id) (v :: us)) (EP X pins σ Q) X.xe s

theorem Vals.one : ∀ {x : V} {us : List Value}, Vals [x] us → ∃ u, us = [u] ∧ RelV x u
  | _, _, .cons r .nil => ⟨_, rfl, r⟩
theorem Vals.two : ∀ {x y : V} {us : List Value}, Vals [x, y] us → ∃ u v, us = [u, v] ∧ RelV x u ∧ RelV y v
  | _, _, _, .cons r (.cons q .nil) => ⟨_, _, rfl, r, q⟩
theorem Vals.zero : ∀ {us : List Value}, Vals [] us → us = []
  | _, .nil => rfl
theorem Vals.dropLast {xs : List V} {us : List Value} (h : Vals xs us) : Vals xs.dropLast us.dropLast := by
  induction h with
  | nil => exact .nil
  | cons r t ih =>
    cases t with
    | nil => exact .nil
    | cons q t' => exact .cons r ih
theorem Vals.eraseIdx : ∀ {xs : List V} {us : List Value} (i : Nat), Vals xs us → Vals (xs.eraseIdx i) (us.eraseIdx i)
  | _, _, _, .nil => .nil
  | _, _, 0, .cons _ t => t
  | _, _, i + 1, .cons r t => .cons r (Vals.eraseIdx i t)
theorem Vals.reverse {xs : List V} {us : List Value} (h : Vals xs us) : Vals xs.reverse us.reverse := by
  induction h with
  | nil => exact .nil
  | cons r t ih => rw [List.reverse_cons, List.reverse_cons]; exact Vals.append ih (.cons r .nil)
theorem Vals.rep {xs : List V} {us : List Value} (h : Vals xs us) : ∀ k : Nat, Vals (List.replicate k xs).flatten (List.replicate k us).flatten
  | 0 => .nil
  | k + 1 => by
    rw [List.replicate_succ, List.replicate_succ, List.flatten_cons, List.flatten_cons]
    exact Vals.append h (Vals.rep h k)
theorem erase_last {α : Type} (l : List α) : l.eraseIdx (l.length - 1) = l.dropLast := by
  induction l with
  | nil => rfl
  | cons a r ih =>
    cases r with
    | nil => rfl
    | cons b r =>
      have e : (a :: b :: r).length - 1 = ((b :: r).length - 1) + 1 := by
        have h1 : (a :: b :: r).length = r.length + 2 := rfl
        have h2 : (b :: r).length = r.length + 1 := rfl
        omega
      rw [e, List.eraseIdx_cons_succ, ih]
      all_goals rfl
theorem len_erase {α : Type} : ∀ (l : List α) (i : Nat), (l.eraseIdx i).length ≤ l.length
  | [], _ => Nat.le_refl _
  | _ :: _, 0 => Nat.le_succ _
  | _ :: r, i + 1 => Nat.succ_le_succ (len_erase r i)
theorem foldl_rep (its : List Value) : ∀ (k : Nat) (acc : List Value),
    List.foldl (fun x1 x2 => x1 ++ x2) acc.toArray (List.replicate k its.toArray) = (acc ++ (List.replicate k its).flatten).toArray
  | 0, acc => by simp
  | k + 1, acc => by
    have e : acc.toArray ++ its.toArray = (acc ++ its).toArray := by simp
    have e2 : (acc ++ its) ++ (List.replicate k its).flatten = acc ++ (List.replicate (k + 1) its).flatten := by
      rw [List.replicate_succ, List.flatten_cons, List.append_assoc]
    rw [← e2, ← foldl_rep its k (acc ++ its), ← e, List.replicate_succ, List.foldl_cons]

section
variable {X : Cx} {pins : List (Addr × Obj)} {σ : St} {H : Hp} {s : Shared} {l b : Addr} {xs ys zs : List V}

theorem Inv.lset {its its' : List Value} {n : Nat} {f : Array Value → Array Value} {t' : Nat} (I : Inv X pins σ H s) (hH : H l = some (.lst xs))
    (e : s.heap.get? l = some { cls := .type "list", data := .seq its.toArray n }) (hf : f its.toArray = its'.toArray) (hv : Vals ys its') (hz : ys.length ≤ sizeLine) :
    Inv X pins σ (upd H l (.lst ys)) { s with heap := s.heap.update l (Obj.mapSeq f), toks := t' } := by
  have q := PySem.IsL.update e f
  rw [hf] at q
  refine I.write (x := l) (e := l) (by rw [hH]; exact trivial) (.inl rfl) (fun b' u hb hu => (Heap.get?_update_other s.heap (Obj.mapSeq f) (Ne.symm hb)).trans hu) ⟨_, q⟩ ?_
  exact ⟨hz, its', _, hv, q⟩
theorem Inv.lnew {its : List Value} {t' : Nat} (I : Inv X pins σ H s) (hv : Vals ys its) (hz : ys.length ≤ sizeLine) :
    Inv X pins σ (upd H s.heap.objs.size (.lst ys)) { s with heap := s.heap.push { cls := .type "list", data := .seq its.toArray }, toks := t' } :=
  I.laid (fun _ _ q => Heap.get?_push_of_some _ q) (Nat.le_refl _) ⟨hz, its, 0, hv, Heap.get?_push_size _ rfl⟩
theorem Inv.fresh (I : Inv X pins σ H s) : H s.heap.objs.size = none := I.hok.fresh (Nat.le_refl _)
theorem Inv.lstM (I : Inv X pins σ H s) (hH : H l = some (.lst xs)) : xs.length ≤ sizeLine ∧ ∃ (its : List Value) (n : Nat), Vals xs its ∧ xs.length = its.length ∧ s.heap.get? l = some { cls := .type "list", data := .seq its.toArray n } := by
  obtain ⟨z, its, n, r, e⟩ := I.hok l _ hH
  exact ⟨z, its, n, r, r.length, e⟩

theorem notLongL {n : Nat} (h : n ≤ sizeLine) : Builtin.List.listTooLong n = false := by
  unfold Builtin.List.listTooLong
  exact decide_eq_false (by omega)
end

section
variable {X : Cx}

def rAppend : V → List V → Hp → VK → Prop := fun x vs H Q => ∃ l xs y, x = .ref l ∧ vs = [y] ∧ H l = some (.lst xs) ∧ xs.length < sizeLine ∧ Q .non (upd H l (.lst (xs ++ [y])))
theorem mt_append : MtM X "list.append" rAppend := by
  intro pins s σ H x vs v us Q I rx rv h
  obtain ⟨l, xs, y, rfl, rfl, hH, hz, q⟩ := h
  cases rx
  obtain ⟨u, rfl, ru⟩ := rv.one
  obtain ⟨z, its, n, r, hl, e⟩ := I.lstM hH
  refine call_meets F.slot_list_append ⟨_, e, rfl⟩ F.entry_list_append (F.args_list_append_2 _ _) (PySem.list_append l its.toArray n u (by rw [List.size_toArray]; omega)) ⟨e, ?_⟩
  refine ⟨.non, _, I.lset (its' := its ++ [u]) hH e (by simp) (r.append (.cons ru .nil)) ?_, rfl, q⟩
  rw [List.length_append, List.length_singleton]
  omega

def rExtend : V → List V → Hp → VK → Prop := fun x vs H Q => ∃ l b xs zs, x = .ref l ∧ vs = [.ref b] ∧ H l = some (.lst xs) ∧ H b = some (.lst zs) ∧ xs.length + zs.length ≤ sizeLine ∧ Q .non (upd H l (.lst (xs ++ zs)))
theorem mt_extend : MtM X "list.extend" rExtend := by
  intro pins s σ H x vs v us Q I rx rv h
  obtain ⟨l, b, xs, zs, rfl, rfl, hH, hB, hz, q⟩ := h
  cases rx
  obtain ⟨u, rfl, ru⟩ := rv.one
  cases ru
  obtain ⟨z, its, n, r, hl, e⟩ := I.lstM hH
  obtain ⟨z2, its2, n2, r2, hl2, e2⟩ := I.lstM hB
  have hsz : its.toArray.size + its2.toArray.size ≤ sizeLine := by rw [List.size_toArray, List.size_toArray]; omega
  have hlong : ¬ (!its.toArray.isEmpty && Builtin.List.listTooLong (its.toArray.size + its2.toArray.size)) = true := by
    rw [notLongL hsz, Bool.and_false]
    exact Bool.false_ne_true
  refine call_meets F.slot_list_extend ⟨_, e, rfl⟩ F.entry_list_extend (F.args_list_extend_2 _ _)
    (AutoSeq1.list_extend_list_list_0 l its.toArray n b its2.toArray n2 hlong (by rw [List.size_toArray]; omega) (by omega)) ⟨e, e2, ?_⟩
  refine ⟨.non, _, I.lset (its' := its ++ its2) hH e (by simp) (r.append r2) ?_, rfl, q⟩
  rw [List.length_append]
  omega

def rPop : V → List V → Hp → VK → Prop := fun x vs H Q => ∃ l xs y, x = .ref l ∧ vs = [] ∧ H l = some (.lst xs) ∧ xs[xs.length - 1]? = some y ∧ Q y (upd H l (.lst xs.dropLast))
theorem mt_pop : MtM X "list.pop" rPop := by
  intro pins s σ H x vs v us Q I rx rv h
  obtain ⟨l, xs, y, rfl, rfl, hH, hy, q⟩ := h
  cases rx
  have hus := rv.zero
  subst hus
  obtain ⟨z, its, n, r, hl, e⟩ := I.lstM hH
  obtain ⟨u, hu, ru⟩ := r.get hy
  have hy' : its.toArray[its.toArray.size - 1]? = some u := by
    show its.toArray[its.length - 1]? = some u
    rw [← Array.getElem?_toList, ← hl]
    exact hu
  refine call_meets F.slot_list_pop ⟨_, e, rfl⟩ F.entry_list_pop (F.args_list_pop_1 _) (MeetsSeq.list_pop_last l its.toArray n u hy' (by rw [List.size_toArray]; omega)) ⟨e, ?_⟩
  refine ⟨y, _, I.lset (its' := its.dropLast) hH e ?_ r.dropLast ?_, ru, q⟩
  · show its.toArray.eraseIdxIfInBounds (its.toArray.size - 1) = its.dropLast.toArray
    rw [List.size_toArray, List.eraseIdxIfInBounds_toArray, erase_last]
  · rw [List.length_dropLast]
    omega

def rPopAt : V → List V → Hp → VK → Prop := fun x vs H Q => ∃ l xs i k y, x = .ref l ∧ vs = [.int i] ∧ H l = some (.lst xs) ∧ -(2 ^ 63) ≤ i ∧ i < 2 ^ 63 ∧ seqIndex? i xs.length = some k ∧ xs[k]? = some y ∧ Q y (upd H l (.lst (xs.eraseIdx k)))
theorem mt_popAt : MtM X "list.pop" rPopAt := by
  intro pins s σ H x vs v us Q I rx rv h
  obtain ⟨l, xs, i, k, y, rfl, rfl, hH, h1, h2, hk, hy, q⟩ := h
  cases rx
  obtain ⟨u, rfl, ru⟩ := rv.one
  obtain ⟨t, rfl⟩ := ru
  obtain ⟨z, its, n, r, hl, e⟩ := I.lstM hH
  obtain ⟨w, hw, rw'⟩ := r.get hy
  refine call_meets F.slot_list_pop ⟨_, e, rfl⟩ F.entry_list_pop (F.args_list_pop_2 _ _)
    (MeetsSeq.list_pop_at l its.toArray n i t k w (fitsIndex_both h1 h2) (by rw [List.size_toArray, ← hl]; exact hk) (by rw [← Array.getElem?_toList]; exact hw) (by rw [List.size_toArray]; omega)) ⟨e, ?_⟩
  refine ⟨y, _, I.lset (its' := its.eraseIdx k) hH e ?_ (r.eraseIdx k) ?_, rw', q⟩
  · show its.toArray.eraseIdxIfInBounds k = (its.eraseIdx k).toArray
    rw [List.eraseIdxIfInBounds_toArray]
  · have := len_erase xs k
    omega

def rReverse : V → List V → Hp → VK → Prop := fun x vs H Q => ∃ l xs, x = .ref l ∧ vs = [] ∧ H l = some (.lst xs) ∧ Q .non (upd H l (.lst xs.reverse))
theorem mt_reverse : MtM X "list.reverse" rReverse := by
  intro pins s σ H x vs v us Q I rx rv h
  obtain ⟨l, xs, rfl, rfl, hH, q⟩ := h
  cases rx
  have hus := rv.zero
  subst hus
  obtain ⟨z, its, n, r, hl, e⟩ := I.lstM hH
  refine call_meets F.slot_list_reverse ⟨_, e, rfl⟩ F.entry_list_reverse (F.args_list_reverse_1 _) (AutoSeq1.list_reverse_list_0 l its.toArray n (by rw [List.size_toArray]; omega)) ⟨e, ?_⟩
  refine ⟨.non, _, I.lset (its' := its.reverse) hH e (by simp) r.reverse ?_, rfl, q⟩
  rw [List.length_reverse]
  omega

def rClear : V → List V → Hp → VK → Prop := fun x vs H Q => ∃ l xs, x = .ref l ∧ vs = [] ∧ H l = some (.lst xs) ∧ Q .non (upd H l (.lst []))
theorem mt_clear : MtM X "list.clear" rClear := by
  intro pins s σ H x vs v us Q I rx rv h
  obtain ⟨l, xs, rfl, rfl, hH, q⟩ := h
  cases rx
  have hus := rv.zero
  subst hus
  obtain ⟨z, its, n, r, hl, e⟩ := I.lstM hH
  refine call_meets F.slot_list_clear ⟨_, e, rfl⟩ F.entry_list_clear (F.args_list_clear_1 _) (AutoSeq1.list_clear_list_0 l its.toArray n (by rw [List.size_toArray]; omega)) ⟨e, ?_⟩
  exact ⟨.non, _, I.lset (its' := []) (ys := []) hH e rfl .nil (Nat.zero_le _), rfl, q⟩

def rCat : R2 := fun x y H Q => ∃ l b xs zs, x = .ref l ∧ y = .ref b ∧ H l = some (.lst xs) ∧ H b = some (.lst zs) ∧ xs.length + zs.length ≤ sizeLine ∧ ∀ p, H p = none → Q (.ref p) (upd H p (.lst (xs ++ zs)))
theorem op_cat : OpR X (binaryOp .Add) rCat := by
  intro pins s σ H x y v u Q I rx ry h
  obtain ⟨l, b, xs, zs, rfl, rfl, hH, hB, hz, q⟩ := h
  cases rx
  cases ry
  obtain ⟨z, its, n, r, hl, e⟩ := I.lstM hH
  obtain ⟨z2, its2, n2, r2, hl2, e2⟩ := I.lstM hB
  refine PySem.P.add_list e e2 ?_ (by rw [List.size_toArray, List.size_toArray]; omega)
  have ea : its.toArray ++ its2.toArray = (its ++ its2).toArray := by simp
  rw [ea]
  exact ⟨.ref _, _, I.lnew (t' := s.toks) (r.append r2) (by rw [List.length_append]; omega), rfl, q _ I.fresh⟩
def rRep : R2 := fun x y H Q => ∃ l k xs, x = .ref l ∧ y = .int k ∧ H l = some (.lst xs) ∧ -(2 ^ 63) ≤ k ∧ k < 2 ^ 63 ∧ xs.length * k.toNat ≤ sizeLine ∧
  ∀ p, H p = none → Q (.ref p) (upd H p (.lst (List.replicate k.toNat xs).flatten))
theorem len_rep {α : Type} (xs : List α) (k : Nat) : (List.replicate k xs).flatten.length = k * xs.length := by
  induction k with
  | zero => simp
  | succ k ih => rw [List.replicate_succ, List.flatten_cons, List.length_append, ih, Nat.succ_mul, Nat.add_comm]
theorem op_rep : OpR X (binaryOp .Mult) rRep := by
  intro pins s σ H x y v u Q I rx ry h
  obtain ⟨l, k, xs, rfl, rfl, hH, h1, h2, hz, q⟩ := h
  cases rx
  obtain ⟨t, rfl⟩ := ry
  obtain ⟨z, its, n, r, hl, e⟩ := I.lstM hH
  have hlen : its.toArray.size * k.toNat ≤ sizeLine := by rw [List.size_toArray, ← hl]; exact hz
  have hcap : ¬ its.toArray.size * k.toNat > (2 ^ 63 - 1) / 8 := by
    have : (sizeLine : Nat) ≤ (2 ^ 63 - 1) / 8 := by decide
    omega
  have hfit : ¬ (!Builtin.List.listFitsIndex k) = true := by
    rw [fitsIndex_both h1 h2]
    exact Bool.false_ne_true
  have hlong : ¬ Builtin.List.listTooLong (its.toArray.size * k.toNat) = true := by
    rw [notLongL hlen]
    exact Bool.false_ne_true
  have hnew : List.foldl (fun x1 x2 => x1 ++ x2) #[] (List.replicate (if its.toArray.isEmpty = true then 0 else k.toNat) its.toArray) = (List.replicate k.toNat its).flatten.toArray := by
    have f0 : ∀ m : Nat, List.foldl (fun x1 x2 => x1 ++ x2) #[] (List.replicate m its.toArray) = (List.replicate m its).flatten.toArray := fun m => by
      have := foldl_rep its m []
      rw [List.nil_append] at this
      exact this
    rw [f0]
    cases its with
    | nil => simp
    | cons a r' => rw [if_neg (by simp)]
  refine wpAny_binaryOp_repeat_ref (T := "list") (U := "int") (by decide) ⟨_, e, rfl⟩ (fun s' => typeIs_int s' k t) noFill_list_mul F.fills_int_mul F.slot_int_rmul repeat_list F.slot_int_index.lookup
    (call_meets F.slot_int_rmul (typeIs_int s k t) F.entry_int_rmul (F.args_int_rmul_2 _ _) (int___rmul___int_list k t l its.toArray n)
      ⟨e, rfl, ⟨_, e, rfl⟩, call_meets F.slot_list_mul ⟨_, e, rfl⟩ F.entry_list_mul (F.args_list_mul_2 _ _) (AutoListH.list___mul___list_int_3 l its.toArray n k t hfit hcap hlong) ⟨e, ?_⟩⟩)
  rw [hnew]
  exact ⟨.ref _, _, I.lnew (t' := s.toks) (r.rep k.toNat) (by rw [len_rep, Nat.mul_comm]; exact hz), rfl, q _ I.fresh⟩

theorem del_list {pins : List (Addr × Obj)} {s : Shared} {σ : St} {H : Hp} {l : Addr} {xs : List V} {i : Int} {t : Tok} {k : Nat} {Q : Unit → Shared → Prop} (I : Inv X pins σ H s) (hH : H l = some (.lst xs))
    (h1 : -(2 ^ 63) ≤ i) (h2 : i < 2 ^ 63) (hk : seqIndex? i xs.length = some k) (h : ∀ s', Inv X pins σ (upd H l (.lst (xs.eraseIdx k))) s' → Q () s') :
    wpAny (model X.prog X.w) X.A (delItem (.ref l) (.int i t)) Q X.xe s := by
  obtain ⟨z, its, n, r, hl, e⟩ := I.lstM hH
  refine PySem.P.delItem_list (k := k) e (fitsIndex_both h1 h2) (by rw [List.size_toArray, ← hl]; exact hk) (h _ ?_) (by rw [List.size_toArray]; omega)
  refine I.lset (its' := its.eraseIdx k) (t' := s.toks) hH e ?_ (r.eraseIdx k) ?_
  · show its.toArray.eraseIdxIfInBounds k = (its.eraseIdx k).toArray
    rw [List.eraseIdxIfInBounds_toArray]
  · have := len_erase xs k
    omega
end

section
variable {prog : Program} {w : World} {A : Around} {E : Value → Shared → Prop} {s : Shared}
theorem splice_eq (its its2 : List Value) (a c : Nat) : its.toArray.extract 0 a ++ its2.toArray ++ its.toArray.extract c its.toArray.size = (its.take a ++ its2 ++ its.drop c).toArray := by
  apply Array.toList_inj.mp
  first
    | (simp
       exact List.take_of_length_le (by simp))
    | simp [List.take_of_length_le]
    | simp
theorem bounds_run {a c n : Nat} (hac : a ≤ c) (hc : c ≤ n) : sliceBounds (some (a : Int)) (some (c : Int)) none n = ((a : Int), (c : Int), 1) := by
  simp only [sliceBounds, Option.getD_none]
  have h1 : ¬ ((a : Int) < 0) := by omega
  have h2 : ¬ ((c : Int) < 0) := by omega
  simp only [h1, h2, if_false, show (1 : Int) > 0 by decide, if_true]
  congr 1
  · omega
  · congr 1; omega
set_option maxRecDepth 100000 in
theorem setItem_slice {l b sl : Addr} {items new : Array Value} {n n2 : Nat} {vl vu : Value} {a c : Nat} {Q : Unit → Shared → Prop}
    (e : s.heap.get? l = some { cls := .type "list", data := .seq items n }) (e2 : s.heap.get? b = some { cls := .type "list", data := .seq new n2 }) (hne : l ≠ b)
    (hs : s.heap.IsSliceOf sl vl vu .none) (pl : IsPart vl (some (a : Int))) (pu : IsPart vu (some (c : Int))) (hac : a ≤ c) (hc : c ≤ items.size)
    (hsz : items.size + new.size ≤ sizeLine) (h : Q () { s with heap := s.heap.update l (Obj.mapSeq fun xs => xs.extract 0 a ++ new ++ xs.extract c xs.size) }) :
    wpAny (model prog w) A (setItem (.ref l) (.ref sl) (.ref b)) Q E s := by
  have hl : s.heap.IsList l items := PySem.IsL.isList e
  have hb : s.heap.IsList b new := PySem.IsL.isList e2
  obtain ⟨os, hos, hcs, hds⟩ := id hs
  have hTs : s.TypeIs (.ref sl) "slice" := ⟨os, hos, hcs⟩
  have hstep : ¬ ((rawPart none == rawInt 0) = true) := Bool.false_ne_true
  have hsame : Builtin.List.listSameRef (.ref l) (.ref b) = false := by
    unfold Builtin.List.listSameRef
    exact beq_eq_false_iff_ne.mpr hne
  have hmax : (max (a : Int) (c : Int)).toNat = c := by omega
  have hz' : ((fun xs : Array Value => xs.extract 0 a ++ new ++ xs.extract c xs.size) items).size ≤ sizeLine + 1 := by
    simp only [Array.size_append, Array.size_extract]
    omega
  unfold setItem
  try with_reducible refine wpAny_holding ?_
  first | refine wpAny_bind (wpAny_pure ?_) | skip
  refine wpAny_bind (wpAny_sequenceKey hl.typeIs (by decide) ?_)
  refine wpAny_bind (wpAny_callSpecial?_slot (name := Str.ofString "__setitem__") hl.typeIs slot_list_setitem
    (wpAny_call_entry slot_list_setitem hl.typeIs entry_list_setitem ?_ (args_list_setitem _ _ _)))
  show wpAny _ _ (Builtin.List.listSubscript? (.ref sl) >>= _) _ _ s
  refine wpAny_bind ?_
  unfold Builtin.List.listSubscript?
  refine wpAny_bind (wpAny_specialOf hTs slice_no_index ?_)
  simp only [Option.isNone_none, if_true]
  refine wpAny_pure ?_
  show wpAny _ _ (typeOf (.ref sl) >>= _) _ _ s
  refine wpAny_bind (wpAny_typeOf hTs ?_)
  first
    | rw [if_neg (by decide)]
    | refine PySem.W.KFB.if_not (by decide) ?_
  rw [listSliceParts_eq]
  refine wpAny_bind (wpAny_bind (wpAny_field hos hds (x := .none) rfl (wpAny_bind (wpAny_listPart .none ?_))))
  rw [if_neg hstep]
  refine wpAny_bind (wpAny_field hos hds (x := vl) rfl (wpAny_bind (wpAny_listPart pl ?_)))
  refine wpAny_bind (wpAny_field hos hds (x := vu) rfl (wpAny_bind (wpAny_listPart pu (wpAny_pure ?_))))
  first
    | simp only [hsame, Bool.false_eq_true, if_false]
    | refine PySem.W.KFB.if_not hsame ?_
    | (dsimp only
       rw [if_neg (by rw [hsame]; exact Bool.false_ne_true)])
  refine wpAny_bind (m := Builtin.List.listAllItems (.ref b) "must assign iterable to extended slice") ?_
  unfold Builtin.List.listAllItems
  refine wpAny_bind (wpAny_typeOf hb.typeIs ?_)
  first
    | refine PySem.W.KFB.if_so (by decide) ?_
    | rw [if_pos (by decide)]
    | simp only [beq_self_eq_true, Bool.true_or, if_true]
  unfold Builtin.List.listItems
  refine wpAny_bind (wpAny_seqItems e2 rfl (wpAny_pure ?_))
  refine wpAny_bind (wpAny_bind (wpAny_seqItems e rfl (wpAny_pure ?_)))
  refine wpAny_bind (wpAny_of_eq ((sliceIndices_raw (some (a : Int)) (some (c : Int)) none items.size (by simp)).trans (congrArg (pure : Int × Int × Int → Sem (Int × Int × Int)) (bounds_run hac hc))) ?_)
  show wpAny _ _ (if ((1 : Int) == 1) = true then _ else _) _ _ s
  rw [if_pos (by decide)]
  refine wpAny_bind (wpAny_rule ?_)
  first
    | simp only [notLongL hsz, Bool.false_eq_true, if_false]
    | refine PySem.W.KFB.if_not (notLongL hsz) ?_
  first | refine wpAny_bind (wpAny_pure ?_) | skip
  show wpAny _ _ (updateSeq l (fun xs => xs.extract 0 ((a : Int)).toNat ++ new ++ xs.extract (max (a : Int) (c : Int)).toNat xs.size) >>= _) _ _ s
  rw [hmax, Int.toNat_natCast]
  refine wpAny_bind (wpAny_updateSeq (hz := Nat.le_trans (Nat.le_add_right _ _) hsz) (_hz' := hz') e rfl ?_)
  refine wpAny_bind (wpAny_letGo ?_)
  first
    | exact wpAny_bind (wpAny_pure (wpAny_pure ⟨.none, rfl, wpAny_pure h⟩))
    | exact wpAny_pure ⟨.none, rfl, wpAny_pure h⟩
end

section
variable {X : Cx}
theorem set_slice {pins : List (Addr × Obj)} {s : Shared} {σ : St} {H : Hp} {l b sl : Addr} {xs ys : List V} {a c : Int} {vl vu : Value} {Q : Unit → Shared → Prop} (I : Inv X pins σ H s)
    (hH : H l = some (.lst xs)) (hB : H b = some (.lst ys)) (hne : l ≠ b) (hs : s.heap.IsSliceOf sl vl vu .none) (ra : RelV (.int a) vl) (rc : RelV (.int c) vu) (h0 : 0 ≤ a) (hac : a ≤ c) (hc : c ≤ xs.length)
    (hz : xs.length + ys.length ≤ sizeLine) (h : ∀ s', Inv X pins σ (upd H l (.lst (xs.take a.toNat ++ ys ++ xs.drop c.toNat))) s' → Q () s') :
    wpAny (model X.prog X.w) X.A (setItem (.ref l) (.ref sl) (.ref b)) Q X.xe s := by
  obtain ⟨ta, rfl⟩ := ra
  obtain ⟨tc, rfl⟩ := rc
  obtain ⟨z, its, n, r, hl, e⟩ := I.lstM hH
  obtain ⟨z2, its2, n2, r2, hl2, e2⟩ := I.lstM hB
  obtain ⟨a', rfl⟩ := Int.eq_ofNat_of_zero_le h0
  obtain ⟨c', rfl⟩ := Int.eq_ofNat_of_zero_le (Int.le_trans h0 hac)
  simp only [Int.toNat_natCast] at h
  refine setItem_slice (a := a') (c := c') e e2 hne hs (.int _ _) (.int _ _) (by omega) (by rw [List.size_toArray]; omega) (by rw [List.size_toArray, List.size_toArray]; omega) (h _ ?_)
  refine I.lset (its' := its.take a' ++ its2 ++ its.drop c') (t' := s.toks) hH e ?_ (Vals.append (Vals.append (r.take _) r2) (r.drop _)) ?_
  · exact splice_eq its its2 a' c'
  · rw [List.length_append, List.length_append, List.length_take, List.length_drop]
    omega
end
end L2

namespace L2
open PySem PySem.Spec PyProof.Rows

section
variable {κ : Type} [DecidableEq κ]
def valV (kvs : List (κ × V)) (k : κ) : Option V := (kvs.find? fun kv => decide (kv.1 = k)).map (·.2)
def putK (kvs : List (κ × V)) (k : κ) (v : V) : List (κ × V) :=
  if (kvs.any fun kv => decide (kv.1 = k)) = true then kvs.map (fun kv => if kv.1 = k then (kv.1, v) else kv) else kvs ++ [(k, v)]
def dropK (kvs : List (κ × V)) (k : κ) : List (κ × V) := kvs.filter fun kv => decide (kv.1 ≠ k)

theorem valV_nil {k : κ} : valV ([] : List (κ × V)) k = none := rfl
theorem valV_pos {p : κ × V} {r : List (κ × V)} {k : κ} (e : p.1 = k) : valV (p :: r) k = some p.2 := by simp [valV, List.find?_cons, e]
theorem valV_neg {p : κ × V} {r : List (κ × V)} {k : κ} (e : ¬ p.1 = k) : valV (p :: r) k = valV r k := by simp [valV, List.find?_cons, e]
theorem valV_any (k : κ) : ∀ kvs : List (κ × V), (kvs.any fun kv => decide (kv.1 = k)) = (valV kvs k).isSome
  | [] => rfl
  | p :: r => by
    rw [List.any_cons]
    by_cases e : p.1 = k
    · simp only [valV_pos e, decide_eq_true e, Bool.true_or, Option.isSome_some]
    · rw [valV_neg e, decide_eq_false e, Bool.false_or]; exact valV_any k r
theorem valV_map (k j : κ) (y : V) : ∀ kvs : List (κ × V), valV (kvs.map fun kv => if kv.1 = k then (kv.1, y) else kv) j = (valV kvs j).map fun x => if j = k then y else x
  | [] => rfl
  | p :: r => by
    have ih := valV_map k j y r
    rw [List.map_cons]
    by_cases h : p.1 = k
    · rw [if_pos h]
      by_cases e : p.1 = j
      · rw [valV_pos (p := (p.1, y)) e, valV_pos e, Option.map_some, if_pos (e.symm.trans h)]
      · rw [valV_neg (p := (p.1, y)) e, valV_neg e, ih]
    · rw [if_neg h]
      by_cases e : p.1 = j
      · rw [valV_pos (p := p) e, valV_pos e, Option.map_some, if_neg (fun z => h (e.trans z))]
      · rw [valV_neg (p := p) e, valV_neg e, ih]
theorem valV_snoc (k j : κ) (y : V) : ∀ kvs : List (κ × V), valV kvs k = none → valV (kvs ++ [(k, y)]) j = if j = k then some y else valV kvs j
  | [], _ => by
    by_cases e : k = j
    · rw [if_pos e.symm]; exact valV_pos (p := (k, y)) e
    · rw [if_neg (fun z => e z.symm)]; exact valV_neg (p := (k, y)) e
  | p :: r, hn => by
    rw [List.cons_append]
    have hk : ¬ p.1 = k := fun z => by rw [valV_pos z] at hn; cases hn
    rw [valV_neg hk] at hn
    have ih := valV_snoc k j y r hn
    by_cases e : p.1 = j
    · rw [valV_pos e, valV_pos e, if_neg (fun z => hk (e.trans z))]
    · rw [valV_neg e, valV_neg e, ih]
theorem valV_put (kvs : List (κ × V)) (k j : κ) (y : V) : valV (putK kvs k y) j = if j = k then some y else valV kvs j := by
  unfold putK
  by_cases a : (kvs.any fun kv => decide (kv.1 = k)) = true
  · rw [if_pos a, valV_map]
    rw [valV_any] at a
    by_cases e : j = k
    · obtain ⟨x, hx⟩ := Option.isSome_iff_exists.mp a
      rw [if_pos e, e, hx, Option.map_some, if_pos rfl]
    · rw [if_neg e]
      cases valV kvs j with
      | none => rfl
      | some x => rw [Option.map_some, if_neg e]
  · rw [if_neg a]
    refine valV_snoc k j y kvs ?_
    rw [valV_any] at a
    cases q : valV kvs k with
    | none => rfl
    | some x => rw [q] at a; exact (a rfl).elim
theorem length_putK (kvs : List (κ × V)) (k : κ) (v : V) : (putK kvs k v).length ≤ kvs.length + 1 := by
  unfold putK
  split
  · rw [List.length_map]; omega
  · rw [List.length_append, List.length_cons, List.length_nil]; omega
theorem putK_new {kvs : List (κ × V)} {k : κ} (v : V) (h : valV kvs k = none) : putK kvs k v = kvs ++ [(k, v)] := by
  unfold putK
  rw [valV_any, h]
  exact if_neg (by decide)

theorem RelO.isSome_eq {o : Option V} {u : Option Value} (r : RelO o u) : o.isSome = u.isSome := by
  cases o with
  | none => cases u with
    | none => rfl
    | some _ => exact (show False from r).elim
  | some _ => cases u with
    | none => exact (show False from r).elim
    | some _ => rfl
theorem RelO.getD {o : Option V} {u : Option Value} {d : V} {d' : Value} (r : RelO o u) (rd : RelV d d') : RelV (o.getD d) (u.getD d') := by
  cases o with
  | none => cases u with
    | none => exact rd
    | some _ => exact (show False from r).elim
  | some _ => cases u with
    | none => exact (show False from r).elim
    | some _ => exact r

theorem KV.val {kvs : List (κ × V)} {vs : List (κ × Value)} (r : KV kvs vs) (k : κ) : RelO (valV kvs k) (valueAt vs k) := by
  unfold KV at r
  induction r with
  | nil => exact True.intro
  | @cons p q ps qs h t ih =>
    obtain ⟨h1, h2⟩ := h
    by_cases e : p.1 = k
    · have e' : q.1 = k := h1.symm.trans e
      have b : valueAt (q :: qs) k = some q.2 := by simp [valueAt, List.find?_cons, e']
      rw [valV_pos e, b]; exact h2
    · have e' : ¬ q.1 = k := fun z => e (h1.trans z)
      have b : valueAt (q :: qs) k = valueAt qs k := by simp [valueAt, List.find?_cons, e']
      rw [valV_neg e, b]; exact ih
theorem KV.any {kvs : List (κ × V)} {vs : List (κ × Value)} (r : KV kvs vs) (k : κ) : (kvs.any fun kv => decide (kv.1 = k)) = vs.any fun kv => decide (kv.1 = k) := by
  unfold KV at r
  induction r with
  | nil => rfl
  | cons h t ih => rw [List.any_cons, List.any_cons, ih, h.1]
theorem KV.repl {kvs : List (κ × V)} {vs : List (κ × Value)} (r : KV kvs vs) (k : κ) {y : V} {u : Value} (ry : RelV y u) :
    KV (kvs.map fun kv => if kv.1 = k then (kv.1, y) else kv) (vs.map fun kv => if kv.1 = k then (kv.1, u) else kv) := by
  unfold KV at r ⊢
  induction r with
  | nil => exact .nil
  | @cons p q ps qs h t ih =>
    rw [List.map_cons, List.map_cons]
    refine .cons ?_ ih
    obtain ⟨h1, h2⟩ := h
    by_cases e : p.1 = k
    · rw [if_pos e, if_pos (h1.symm.trans e)]; exact ⟨h1, ry⟩
    · rw [if_neg e, if_neg (fun z => e (h1.trans z))]; exact ⟨h1, h2⟩
theorem KV.put {kvs : List (κ × V)} {vs : List (κ × Value)} (r : KV kvs vs) (k : κ) {y : V} {u : Value} (ry : RelV y u) : KV (putK kvs k y) (stored vs k u) := by
  unfold putK stored
  rw [r.any k]
  by_cases e : (vs.any fun kv => decide (kv.1 = k)) = true
  · rw [if_pos e, if_pos e]; exact r.repl k ry
  · rw [if_neg e, if_neg e]; exact Paired.snoc r ⟨rfl, ry⟩
theorem KV.drop {kvs : List (κ × V)} {vs : List (κ × Value)} (r : KV kvs vs) (k : κ) : KV (dropK kvs k) (without vs k) := by
  unfold KV at r ⊢
  unfold dropK without
  induction r with
  | nil => exact .nil
  | @cons p q ps qs h t ih =>
    obtain ⟨h1, h2⟩ := h
    rw [List.filter_cons, List.filter_cons]
    by_cases e : p.1 = k
    · have a : ¬ decide (p.1 ≠ k) = true := by simp [e]
      have b : ¬ decide (q.1 ≠ k) = true := by simp [h1.symm.trans e]
      rw [if_neg a, if_neg b]; exact ih
    · have e' : ¬ q.1 = k := fun z => e (h1.trans z)
      have a : decide (p.1 ≠ k) = true := by simp [e]
      have b : decide (q.1 ≠ k) = true := by simp [e']
      rw [if_pos a, if_pos b]; exact .cons ⟨h1, h2⟩ ih
theorem KV.keys {kvs : List (κ × V)} {vs : List (κ × Value)} (r : KV kvs vs) : kvs.map (·.1) = vs.map (·.1) := by
  unfold KV at r
  induction r with
  | nil => rfl
  | cons h t ih => rw [List.map_cons, List.map_cons, ih, h.1]
theorem KV.length {kvs : List (κ × V)} {vs : List (κ × Value)} (r : KV kvs vs) : kvs.length = vs.length := Paired.length r
theorem dropK_le (kvs : List (κ × V)) (k : κ) : (dropK kvs k).length ≤ kvs.length := List.length_filter_le _ _
end


theorem kV_is {P : Program} {w : World} {k : Key} {u : Value} (r : RelV (kV k) u) : (mixKind P w).is k u = true := by
  cases k with
  | inl i => obtain ⟨t, e⟩ := (show ∃ t, u = Value.int i t from r); subst e; exact mixKind_int P w i t
  | inr x => obtain ⟨t, e⟩ := (show ∃ t, u = Value.str x t from r); subst e; exact mixKind_str P w x t
theorem kV_inj {a b : Key} (e : kV a = kV b) : a = b := by
  cases a with
  | inl i => cases b with
    | inl j => have e' : V.int i = V.int j := e; injection e' with e'; rw [e']
    | inr y => exact nomatch (show V.int i = V.str y from e)
  | inr x => cases b with
    | inl j => exact nomatch (show V.str x = V.int j from e)
    | inr y => have e' : V.str x = V.str y := e; injection e' with e'; rw [e']
theorem kVs_inj : ∀ {a b : List Key}, a.map kV = b.map kV → a = b
  | [], [], _ => rfl
  | [], _ :: _, e => by simp at e
  | _ :: _, [], e => by simp at e
  | x :: xs, y :: ys, e => by
    rw [List.map_cons, List.map_cons] at e
    injection e with e1 e2
    rw [kV_inj e1, kVs_inj e2]
theorem items_are {P : Program} {w : World} : ∀ {ks : List Key} {us : List Value}, Vals (ks.map kV) us → ItemsAre (mixKind P w) ks us
  | [], _, r => by rw [List.map_nil] at r; cases r; exact .nil
  | k :: ks, _, r => by
    rw [List.map_cons] at r
    cases r with
    | cons h t => exact .cons (kV_is h) (items_are t)

abbrev KT (H : Hp) : List (List Key × V) → List (List Key × Addr × Value) → Prop := Paired fun p q => p.1 = q.1 ∧ H q.2.1 = some (.tup (p.1.map kV)) ∧ RelV p.2 q.2.2
theorem KT.val {H : Hp} {kvs : List (List Key × V)} {xs : List (List Key × Addr × Value)} (r : KT H kvs xs) (k : List Key) : RelO (valV kvs k) ((atKey xs k).map (·.2)) := by
  induction r with
  | nil => exact True.intro
  | @cons p q ps qs h t ih =>
    obtain ⟨h1, _, h2⟩ := h
    by_cases e : p.1 = k
    · have e' : q.1 = k := h1.symm.trans e
      have b : atKey (q :: qs) k = some q.2 := by simp [atKey, List.find?_cons, e']
      rw [valV_pos e, b]; exact h2
    · have e' : ¬ q.1 = k := fun z => e (h1.trans z)
      have b : atKey (q :: qs) k = atKey qs k := by simp [atKey, List.find?_cons, e']
      rw [valV_neg e, b]; exact ih
theorem KT.repl {H : Hp} {kvs : List (List Key × V)} {xs : List (List Key × Addr × Value)} (r : KT H kvs xs) (k : List Key) {y : V} {u : Value} (ry : RelV y u) :
    KT H (kvs.map fun kv => if kv.1 = k then (kv.1, y) else kv) (xs.map (putAt k u)) := by
  induction r with
  | nil => exact .nil
  | @cons p q ps qs h t ih =>
    rw [List.map_cons, List.map_cons]
    refine .cons ?_ ih
    obtain ⟨h1, h2, h3⟩ := h
    unfold putAt
    by_cases e : p.1 = k
    · rw [if_pos e, if_pos (h1.symm.trans e)]; exact ⟨h1, h2, ry⟩
    · rw [if_neg e, if_neg (fun z => e (h1.trans z))]; exact ⟨h1, h2, h3⟩
theorem KT.put {H : Hp} {kvs : List (List Key × V)} {xs : List (List Key × Addr × Value)} (r : KT H kvs xs) (k : List Key) {b : Addr} {y : V} {u : Value} (hb : H b = some (.tup (k.map kV))) (ry : RelV y u) :
    KT H (putK kvs k y) (storedH xs k b u) := by
  have e : (kvs.any fun kv => decide (kv.1 = k)) = (atKey xs k).isSome := by
    rw [valV_any, (r.val k).isSome_eq, Option.isSome_map]
  unfold putK storedH
  rw [e]
  by_cases q : (atKey xs k).isSome = true
  · rw [if_pos q, if_pos q]; exact r.repl k ry
  · rw [if_neg q, if_neg q]; exact Paired.snoc r ⟨rfl, hb, ry⟩
theorem KT.keeps {H H' : Hp} {kvs : List (List Key × V)} {xs : List (List Key × Addr × Value)} (r : KT H kvs xs) (ht : ∀ b ys, H b = some (.tup ys) → H' b = some (.tup ys)) : KT H' kvs xs :=
  Paired.mapP r fun _ _ z => ⟨z.1, ht _ _ z.2.1, z.2.2⟩

section
variable {P : Program} {w : World} {H : Hp} {h : Heap} {a : Addr}
theorem rd_of {u : HO} (ok : HOk P w H h) (e : Rd H a u) : ObjOk P w H h a u := e.ok ok
theorem dk_rd {kvs : List (Key × V)} (ok : HOk P w H h) (e : Rd H a (.dK kvs)) : kvs.length ≤ sizeLine ∧ (a == sysModules) = false ∧ ∃ vs, KV kvs vs ∧ h.DictOf (mixKind P w) a vs :=
  show ObjOk P w H h a (.dK kvs) from rd_of ok e
theorem dk_of {kvs : List (Key × V)} (ok : HOk P w H h) (e : H a = some (.dK kvs)) : kvs.length ≤ sizeLine ∧ (a == sysModules) = false ∧ ∃ vs, KV kvs vs ∧ h.DictOf (mixKind P w) a vs := dk_rd ok (.inl e)
theorem key_of {ks : List Key} (ok : HOk P w H h) (e : H a = some (.tup (ks.map kV))) : (tupleKind (mixKind P w)).is h ks a := by
  obtain ⟨_, its, r, o, h1, h2, n, h3⟩ := (show ObjOk P w H h a (.tup (ks.map kV)) from ok a _ e)
  exact ⟨o, its.toArray, n, h1, h2, h3, by simpa using items_are r⟩
theorem dt_rd {kvs : List (List Key × V)} (ok : HOk P w H h) (e : Rd H a (.dT kvs)) : kvs.length ≤ sizeLine ∧ (a == sysModules) = false ∧
    ∃ xs, KT H kvs xs ∧ h.DictOfH (tupleKind (mixKind P w)) a xs := by
  obtain ⟨z, y, xs, r, o, es, ep, h1, h2, h3, h4, h5⟩ := (show ObjOk P w H h a (.dT kvs) from rd_of ok e)
  refine ⟨z, y, xs, r, o, es, ep, h1, h2, h3, h4, fun x hx => ?_, h5⟩
  have all : ∀ {l : List (List Key × V)} {m : List (List Key × Addr × Value)}, KT H l m → ∀ x ∈ m, (tupleKind (mixKind P w)).is h x.1 x.2.1 := by
    intro l m q
    induction q with
    | nil => intro x hx; exact nomatch hx
    | @cons p q ps qs hq t ih =>
      intro x hx
      rcases List.mem_cons.mp hx with e | hx
      · subst e
        exact key_of ok (by rw [← hq.1]; exact hq.2.1)
      · exact ih x hx
  exact all r x hx
theorem dt_of {kvs : List (List Key × V)} (ok : HOk P w H h) (e : H a = some (.dT kvs)) : kvs.length ≤ sizeLine ∧ (a == sysModules) = false ∧
    ∃ xs, KT H kvs xs ∧ h.DictOfH (tupleKind (mixKind P w)) a xs := dt_rd ok (.inl e)
end

def DGet (H : Hp) (a : Addr) (y : V) (r : Option V) : Prop :=
  (∃ kvs k, Rd H a (.dK kvs) ∧ y = kV k ∧ r = valV kvs k) ∨ ∃ kvs k b, Rd H a (.dT kvs) ∧ y = .ref b ∧ H b = some (.tup (k.map kV)) ∧ r = valV kvs k
def DPut (H : Hp) (a : Addr) (y v : V) (H' : Hp) : Prop :=
  (∃ kvs k, H a = some (.dK kvs) ∧ y = kV k ∧ kvs.length < sizeLine ∧ H' = upd H a (.dK (putK kvs k v))) ∨
  ∃ kvs k b, H a = some (.dT kvs) ∧ y = .ref b ∧ H b = some (.tup (k.map kV)) ∧ kvs.length < sizeLine ∧ H' = upd H a (.dT (putK kvs k v))
theorem DGet.k {H : Hp} {a : Addr} {kvs : List (Key × V)} {k : Key} (e : H a = some (.dK kvs)) : DGet H a (kV k) (valV kvs k) := .inl ⟨kvs, k, .inl e, rfl, rfl⟩
theorem DGet.t {H : Hp} {a b : Addr} {kvs : List (List Key × V)} {k : List Key} (e : H a = some (.dT kvs)) (eb : H b = some (.tup (k.map kV))) : DGet H a (.ref b) (valV kvs k) := .inr ⟨kvs, k, b, .inl e, rfl, eb, rfl⟩
theorem DPut.k {H : Hp} {a : Addr} {kvs : List (Key × V)} {k : Key} {v : V} (e : H a = some (.dK kvs)) (hl : kvs.length < sizeLine) : DPut H a (kV k) v (upd H a (.dK (putK kvs k v))) := .inl ⟨kvs, k, e, rfl, hl, rfl⟩
theorem DPut.t {H : Hp} {a b : Addr} {kvs : List (List Key × V)} {k : List Key} {v : V} (e : H a = some (.dT kvs)) (eb : H b = some (.tup (k.map kV))) (hl : kvs.length < sizeLine) :
    DPut H a (.ref b) v (upd H a (.dT (putK kvs k v))) := .inr ⟨kvs, k, b, e, rfl, eb, hl, rfl⟩


section
variable {X : Cx} {pins : List (Addr × Obj)} {σ : St} {H : Hp} {s : Shared} {a : Addr} {y v : V} {u r : Value} {o : Option V} {A : Around} {E : Value → Shared → Prop}

theorem Inv.big (I : Inv X pins σ H s) : sysModules < s.heap.objs.size := by
  have h : mainGlobals < s.heap.objs.size := (I.mod.glob.keeps I.bk).lt
  exact Nat.lt_trans (by decide) h

theorem d_getItem {Q : Value → Shared → Prop} (hu : A.units + 1 < cLine) (I : Inv X pins σ H s) (g : DGet H a y (some v)) (ry : RelV y u) (h : ∀ w' s', Inv X pins σ H s' → RelV v w' → Q w' s') :
    wpAny (model X.prog X.w) A (getItem (.ref a) u) Q E s := by
  rcases g with ⟨kvs, k, e, ey, l⟩ | ⟨kvs, k, b, e, ey, eb, l⟩
  · subst ey
    obtain ⟨z, hd, vs, rel, dd⟩ := dk_rd I.hok e
    obtain ⟨w', hw, rw'⟩ := RelO.some_of (v := v) (o := valueAt vs k) (by rw [l]; exact rel.val k)
    exact wpAny_getItem_of (kV_is ry) dd.mapOf hw (h w' _ (I.tok _) rw')
  · subst ey
    cases (show u = Value.ref b from ry)
    obtain ⟨z, hd, xs, rel, dd⟩ := dt_rd I.hok e
    obtain ⟨w', hw, rw'⟩ := RelO.some_of (v := v) (o := (atKey xs k).map (·.2)) (by rw [l]; exact rel.val k)
    obtain ⟨p, hp, hp2⟩ := Option.map_eq_some_iff.mp hw
    refine wpAny_getItem_heap (tupleKind_room_in1 hu) (key_of I.hok eb) dd hp ?_
    rw [hp2]
    exact h w' _ (I.tok _) rw'
theorem d_in {Q : Value → Shared → Prop} (hu : A.units + 1 < cLine) (I : Inv X pins σ H s) (g : DGet H a y o) (ry : RelV y u) (h : ∀ s', Inv X pins σ H s' → Q (.bool o.isSome) s') :
    wpAny (model X.prog X.w) A (compareOp .In u (.ref a)) Q E s := by
  rcases g with ⟨kvs, k, e, ey, l⟩ | ⟨kvs, k, b, e, ey, eb, l⟩
  · subst ey
    obtain ⟨z, hd, vs, rel, dd⟩ := dk_rd I.hok e
    refine wpAny_in_of (kV_is ry) hd dd.mapOf ?_
    rw [← (rel.val k).isSome_eq, ← l]
    exact h _ (I.tok _)
  · subst ey
    cases (show u = Value.ref b from ry)
    obtain ⟨z, hd, xs, rel, dd⟩ := dt_rd I.hok e
    refine wpAny_in_heap (tupleKind_room_in1 hu) (key_of I.hok eb) hd dd ?_
    have q := (rel.val k).isSome_eq
    rw [Option.isSome_map] at q
    rw [← q, ← l]
    exact h _ (I.tok _)
theorem d_notIn {Q : Value → Shared → Prop} (hu : A.units + 1 < cLine) (I : Inv X pins σ H s) (g : DGet H a y o) (ry : RelV y u) (h : ∀ s', Inv X pins σ H s' → Q (.bool (!o.isSome)) s') :
    wpAny (model X.prog X.w) A (compareOp .NotIn u (.ref a)) Q E s := by
  rcases g with ⟨kvs, k, e, ey, l⟩ | ⟨kvs, k, b, e, ey, eb, l⟩
  · subst ey
    obtain ⟨z, hd, vs, rel, dd⟩ := dk_rd I.hok e
    refine wpAny_notIn_of (kV_is ry) hd dd.mapOf ?_
    rw [← (rel.val k).isSome_eq, ← l]
    exact h _ (I.tok _)
  · subst ey
    cases (show u = Value.ref b from ry)
    obtain ⟨z, hd, xs, rel, dd⟩ := dt_rd I.hok e
    refine wpAny_notIn_heap (tupleKind_room_in1 hu) (key_of I.hok eb) hd dd ?_
    have q := (rel.val k).isSome_eq
    rw [Option.isSome_map] at q
    rw [← q, ← l]
    exact h _ (I.tok _)
theorem d_write {h' : Heap} {t' : Nat} {ob : HO} (I : Inv X pins σ H s) (mu : Mut (H a)) (hs : Heap.SameBut a s.heap h') (he : ∃ q, h'.get? a = some q) (new : ObjOk X.prog X.w (upd H a ob) h' a ob) :
    Inv X pins σ (upd H a ob) { s with heap := h', toks := t' } :=
  I.write (x := a) (e := a) mu (.inl rfl) (fun b q hb z => (hs.2 b hb).trans z) he new
theorem dk_new {P : Program} {w : World} {H' : Hp} {h' : Heap} {kvs : List (Key × V)} {vs : List (Key × Value)} (z : kvs.length ≤ sizeLine) (hd : (a == sysModules) = false) (rel : KV kvs vs) (dd : h'.DictOf (mixKind P w) a vs) :
    ObjOk P w H' h' a (.dK kvs) := ⟨z, hd, vs, rel, dd⟩
theorem d_setItem {H' : Hp} {Q : Unit → Shared → Prop} (hu : A.units + 1 < cLine) (I : Inv X pins σ H s) (g : DPut H a y v H') (ry : RelV y u) (rv : RelV v r) (h : ∀ s', Inv X pins σ H' s' → Q () s') :
    wpAny (model X.prog X.w) A (setItem (.ref a) u r) Q E s := by
  rcases g with ⟨kvs, k, e, ey, l, eH⟩ | ⟨kvs, k, b, e, ey, eb, l, eH⟩
  · subst ey eH
    obtain ⟨z, hd, vs, rel, dd⟩ := dk_of I.hok e
    have hz : vs.length ≤ sizeLine := by rw [← rel.length]; exact z
    have hl : (putK kvs k v).length ≤ sizeLine := by have := length_putK kvs k v; omega
    refine wpAny_setItem_pairs (hsz := hz) (kV_is ry) dd fun h' dd' hs => h _ ?_
    have he : ∃ q, h'.get? a = some q := let ⟨q, _, _, hq, _⟩ := dd'; ⟨q, hq⟩
    exact d_write I (by rw [e]; exact True.intro) hs he (dk_new hl hd (rel.put k rv) dd')
  · subst ey eH
    cases (show u = Value.ref b from ry)
    obtain ⟨z, hd, xs, rel, dd⟩ := dt_of I.hok e
    have hz : xs.length ≤ sizeLine := by rw [← Paired.length rel]; exact z
    have hl : (putK kvs k v).length ≤ sizeLine := by have := length_putK kvs k v; omega
    refine wpAny_setItem_heap (hsz := hz) (tupleKind_room_in1 hu) (key_of I.hok eb) dd fun h' dd' hs => h _ ?_
    obtain ⟨q, es, ep, hq, h2, h3, h4, _, h5⟩ := dd'
    refine d_write I (by rw [e]; exact True.intro) hs ⟨q, hq⟩ ⟨hl, hd, _, (rel.put k eb rv).keeps fun c ys ec => ?_, q, es, ep, hq, h2, h3, h4, h5⟩
    rw [upd_ne (ne_of ec e (fun z => nomatch z))]
    exact ec
end

section
variable {X : Cx} {pins : List (Addr × Obj)} {σ : St} {H : Hp} {s : Shared} {a : Addr} {kvs : List (Key × V)} {k : Key} {u : Value} {A : Around} {E : Value → Shared → Prop}
theorem d_delItem {Q : Unit → Shared → Prop} (I : Inv X pins σ H s) (e : H a = some (.dK kvs)) (ry : RelV (kV k) u) (l : (valV kvs k).isSome = true) (h : ∀ s', Inv X pins σ (upd H a (.dK (dropK kvs k))) s' → Q () s') :
    wpAny (model X.prog X.w) A (delItem (.ref a) u) Q E s := by
  obtain ⟨z, hd, vs, rel, dd⟩ := dk_of I.hok e
  refine wpAny_delItem_slot dd.typeIs (by decide) PySem.F.slot_dict_delitem
    (call_meetsIn PySem.F.slot_dict_delitem dd.typeIs PySem.F.entry_dict_delitem (PySem.F.args_dict_delitem_2 _ _) (meets_dict_delitem_pairs (mixKind X.prog X.w) a (kV_is ry)) ⟨vs, dd, by rw [← rel.length]; exact z, by rw [← (rel.val k).isSome_eq]; exact l, fun h' dd' hs => h _ ?_⟩)
  have he : ∃ q, h'.get? a = some q := let ⟨q, _, _, hq, _⟩ := dd'; ⟨q, hq⟩
  exact d_write I (by rw [e]; exact True.intro) hs he (dk_new (Nat.le_trans (dropK_le kvs k) z) hd (rel.drop k) dd')
theorem d_pop {v : V} {more : List Value} {Q : Value → Shared → Prop} (I : Inv X pins σ H s) (e : H a = some (.dK kvs)) (ry : RelV (kV k) u) (l : valV kvs k = some v) (hm : more = [] ∨ ∃ x, more = [x])
    (h : ∀ w' s', Inv X pins σ (upd H a (.dK (dropK kvs k))) s' → RelV v w' → Q w' s') : wpAny (model X.prog X.w) A (call (.builtin "dict.pop") (.ref a :: u :: more)) Q E s := by
  obtain ⟨z, hd, vs, rel, dd⟩ := dk_of I.hok e
  obtain ⟨w', hw, rw'⟩ := RelO.some_of (v := v) (o := valueAt vs k) (by rw [← l]; exact rel.val k)
  have hp : (keyPart u).isSome = true := by
    cases k with
    | inl i => obtain ⟨t, q⟩ := (show ∃ t, u = Value.int i t from ry); subst q; rfl
    | inr x => obtain ⟨t, q⟩ := (show ∃ t, u = Value.str x t from ry); subst q; rfl
  have ha : argsOk "dict.pop" ⟨.ref a :: u :: more, []⟩ := by
    rcases hm with q | ⟨x, q⟩
    · subst q; exact PySem.F.args_dict_pop_2 _ _
    · subst q; exact PySem.F.args_dict_pop_3 _ _ _
  refine call_meetsIn PySem.F.slot_dict_pop dd.typeIs PySem.F.entry_dict_pop ha (meets_dict_pop_there (mixKind X.prog X.w) a (kV_is ry) more hm hp)
    ⟨vs, w', dd, by rw [← rel.length]; exact z, hw, fun h' dd' hs => h w' _ ?_ rw'⟩
  have he : ∃ q, h'.get? a = some q := let ⟨q, _, _, hq, _⟩ := dd'; ⟨q, hq⟩
  exact d_write I (by rw [e]; exact True.intro) hs he (dk_new (Nat.le_trans (dropK_le kvs k) z) hd (rel.drop k) dd')
theorem d_popD {r : Value} {Q : Value → Shared → Prop} (I : Inv X pins σ H s) (e : H a = some (.dK kvs)) (ry : RelV (kV k) u) (l : valV kvs k = none) (h : ∀ s', Inv X pins σ H s' → Q r s') :
    wpAny (model X.prog X.w) A (call (.builtin "dict.pop") [.ref a, u, r]) Q E s := by
  obtain ⟨z, hd, vs, rel, dd⟩ := dk_of I.hok e
  have hn : valueAt vs k = none := RelO.none_of (by rw [← l]; exact rel.val k)
  have hp : (keyPart u).isSome = true := by
    cases k with
    | inl i => obtain ⟨t, q⟩ := (show ∃ t, u = Value.int i t from ry); subst q; rfl
    | inr x => obtain ⟨t, q⟩ := (show ∃ t, u = Value.str x t from ry); subst q; rfl
  exact call_meetsIn PySem.F.slot_dict_pop dd.typeIs PySem.F.entry_dict_pop (PySem.F.args_dict_pop_3 _ _ _) (meets_dict_pop_default (mixKind X.prog X.w) a (kV_is ry) hd hp r) ⟨vs, dd, hn, h _ (I.tok _)⟩
theorem d_clear {Q : Value → Shared → Prop} (I : Inv X pins σ H s) (e : H a = some (.dK kvs)) (h : ∀ s', Inv X pins σ (upd H a (.dK [])) s' → Q .none s') : wpAny (model X.prog X.w) A (call (.builtin "dict.clear") [.ref a]) Q E s := by
  obtain ⟨z, hd, vs, rel, dd⟩ := dk_of I.hok e
  refine call_meetsIn PySem.F.slot_dict_clear dd.typeIs PySem.F.entry_dict_clear (PySem.F.args_dict_clear_1 _) (meets_dict_clear (mixKind X.prog X.w) a) ⟨vs, dd, by rw [← rel.length]; exact z, fun h' dd' hs => h _ ?_⟩
  have he : ∃ q, h'.get? a = some q := let ⟨q, _, _, hq, _⟩ := dd'; ⟨q, hq⟩
  exact d_write (t' := s.toks) I (by rw [e]; exact True.intro) hs he (dk_new (Nat.zero_le _) hd .nil dd')
theorem d_len {Q : Value → Shared → Prop} (I : Inv X pins σ H s) (e : Rd H a (.dK kvs)) (h : ∀ t s', Inv X pins σ H s' → Q (.int kvs.length t) s') : wpAny (model X.prog X.w) A (call (.builtin "len") [.ref a]) Q E s := by
  obtain ⟨z, hd, vs, rel, dd⟩ := dk_rd I.hok e
  refine call_len_dict hd dd (by rw [← rel.length]; rw [sizeLine_eq] at z; omega) ?_
  rw [← rel.length]
  exact h _ _ (I.tok _)
theorem d_truth {Q : Bool → Shared → Prop} (I : Inv X pins σ H s) (e : Rd H a (.dK kvs)) (h : ∀ s', Inv X pins σ H s' → Q (!kvs.isEmpty) s') : wpAny (model X.prog X.w) A (truthy (.ref a)) Q E s := by
  obtain ⟨z, hd, vs, rel, dd⟩ := dk_rd I.hok e
  refine wpAny_truthy_dict hd dd (by rw [← rel.length]; rw [sizeLine_eq] at z; omega) ?_
  have q : kvs.isEmpty = vs.isEmpty := by cases rel <;> rfl
  rw [← q]
  exact h _ (I.tok _)
end


def NoSl (i : Expr) : Prop := ∀ ov iv, subscripted i false ov iv = operate [ov, iv] (getItem ov iv)
theorem subD_of {prog : Program} {w : World} {A : Around} {E : Value → Shared → Prop} {s : Shared} {env : Env} {value slice : Expr} {pos : Pos} {T id : String} {Q : Value → Shared → Prop}
    (hl : typeLookup (.type T) "__getitem__" = pure (some (.builtin id))) (hs : NoSl slice)
    (h : wpAny (model prog w) A (eval value env) (fun o s₁ => wpAny (model prog w) A (eval slice env) (fun i s₂ => s₂.TypeIs o T ∧ wpAny (model prog w) A (getItem o i) Q E s₂) E s₁) E s) :
    wpAny (model prog w) A (eval (.Subscript value slice pos) env) Q E s := by
  refine Subscript_ (wpAny_mono h (fun o s₁ h₁ => wpAny_mono h₁ (fun i s₂ h₂ => ?_) fun _ _ x => x) fun _ _ x => x)
  obtain ⟨hT, h₂⟩ := h₂
  unfold subscriptTail
  refine wpAny_bind ?_
  rw [getitemInPython_of_ne hT.not_modules]
  refine wpAny_bind (wpAny_specialOf hT hl ?_)
  have fin : wpAny (model prog w) A (subscripted slice false o i) (fun r s₃ => wpAny (model prog w) A (letTemporaryGo value o r >>= fun _ => pure r) Q E s₃) E s₂ := by
    rw [hs o i]
    exact wpAny_operating (wpAny_mono h₂ (fun r s₃ h₃ => wpAny_bind (wpAny_letTemporaryGo (wpAny_pure h₃))) fun _ _ x => x)
  first
    | exact wpAny_pure (wpAny_bind fin)
    | exact wpAny_bind (wpAny_pure (wpAny_bind fin))
    | exact wpAny_bind fin

theorem dict_typeIs {X : Cx} {pins : List (Addr × Obj)} {σ : St} {H : Hp} {s : Shared} {a : Addr} {y : V} {o : Option V} (I : Inv X pins σ H s) (g : DGet H a y o) : s.TypeIs (.ref a) "dict" := by
  rcases g with ⟨kvs, k, e, _, _⟩ | ⟨kvs, k, b, e, _, _, _⟩
  · obtain ⟨_, _, vs, _, dd⟩ := dk_rd I.hok e
    exact dd.typeIs
  · obtain ⟨_, _, xs, _, dd⟩ := dt_rd I.hok e
    exact dd.typeIs
theorem dict_noDict {X : Cx} {pins : List (Addr × Obj)} {σ : St} {H : Hp} {s : Shared} {a : Addr} {y : V} {o : Option V} (I : Inv X pins σ H s) (g : DGet H a y o) :
    ∀ b, Value.ref a = .ref b → ∃ ob, s.heap.get? b = some ob ∧ ob.dict = none := fun b q => by
  cases q
  rcases g with ⟨kvs, k, e, _, _⟩ | ⟨kvs, k, b, e, _, _, _⟩
  · obtain ⟨_, _, vs, _, ob, _, _, h1, h2, _⟩ := dk_rd I.hok e
    exact ⟨ob, h1, h2.2.1⟩
  · obtain ⟨_, _, xs, _, ob, _, _, h1, h2, _⟩ := dt_rd I.hok e
    exact ⟨ob, h1, h2.2.1⟩

def tDGet (td ty : TE) : TE := fun σ H Q => td σ H fun x H1 => ty σ H1 fun y H2 => ∃ a v, x = .ref a ∧ DGet H2 a y (some v) ∧ Q v H2
def tDIn (ty td : TE) : TE := fun σ H Q => ty σ H fun y H1 => td σ H1 fun x H2 => ∃ a o, x = .ref a ∧ DGet H2 a y o ∧ Q (.bl o.isSome) H2
def tDNotIn (ty td : TE) : TE := fun σ H Q => ty σ H fun y H1 => td σ H1 fun x H2 => ∃ a o, x = .ref a ∧ DGet H2 a y o ∧ Q (.bl (!o.isSome)) H2
def sDPut (td ty tv : TE) : TS := fun D σ H => tv σ H fun v H1 => td σ H1 fun x H2 => ty σ H2 fun y H3 => ∃ a H4, x = .ref a ∧ DPut H3 a y v H4 ∧ D.nx σ H4
def sDAug (td ty tv : TE) (rd : V → V → Hp → VK → Prop) : TS := fun D σ H => td σ H fun x H1 => ty σ H1 fun y H2 => ∃ a v, x = .ref a ∧ DGet H2 a y (some v) ∧
  tv σ H2 fun y2 H3 => rd v y2 H3 fun z H4 => ∃ H5, DPut H4 a y z H5 ∧ D.nx σ H5
def sDDel (td ty : TE) : TS := fun D σ H => td σ H fun x H1 => ty σ H1 fun y H2 => ∃ a kvs k, x = .ref a ∧ H2 a = some (.dK kvs) ∧ y = kV k ∧ (valV kvs k).isSome = true ∧ D.nx σ (upd H2 a (.dK (dropK kvs k)))

section
variable {X : Cx} {o i e value : Expr} {pos pos' tpos : Pos} {td ty tv : TE}
theorem pe_dget (hu : X.A.units + 1 < cLine) (ho : PE X o td) (hi : PE X i ty) (hs : NoSl i) : PE X (.Subscript o i pos) (tDGet td ty) := by
  intro pins s σ H Q I h
  refine subD_of PySem.F.slot_dict_getitem.lookup hs (thn (ho pins s σ H _ I h) fun u s1 ⟨x, H1, I1, rx, q1⟩ => thn (hi pins s1 σ H1 _ I1 q1) fun iv s2 ⟨y, H2, I2, ry, a, v, ex, g, q2⟩ => ?_)
  subst ex
  obtain rfl : u = Value.ref a := rx
  exact ⟨dict_typeIs I2 g, d_getItem hu I2 g ry fun w' s3 I3 rw' => ⟨v, H2, I3, rw', q2⟩⟩
theorem pc_din (hu : X.A.units + 1 < cLine) (hi : PE X i ty) (ho : PE X o td) : PC X .In i o (tDIn ty td) := by
  intro pins s σ H Q I h
  refine thn (hi pins s σ H _ I h) fun iv s1 ⟨y, H1, I1, ry, q1⟩ => thn (ho pins s1 σ H1 _ I1 q1) fun u s2 ⟨x, H2, I2, rx, a, ov, ex, g, q2⟩ => ?_
  subst ex
  obtain rfl : u = Value.ref a := rx
  exact d_in hu I2 g ry fun s3 I3 => ⟨.bl ov.isSome, H2, I3, rfl, q2⟩
theorem pc_dnotin (hu : X.A.units + 1 < cLine) (hi : PE X i ty) (ho : PE X o td) : PC X .NotIn i o (tDNotIn ty td) := by
  intro pins s σ H Q I h
  refine thn (hi pins s σ H _ I h) fun iv s1 ⟨y, H1, I1, ry, q1⟩ => thn (ho pins s1 σ H1 _ I1 q1) fun u s2 ⟨x, H2, I2, rx, a, ov, ex, g, q2⟩ => ?_
  subst ex
  obtain rfl : u = Value.ref a := rx
  exact d_notIn hu I2 g ry fun s3 I3 => ⟨.bl (!ov.isSome), H2, I3, rfl, q2⟩
theorem ps_dput (hu : X.A.units + 1 < cLine) (ho : PE X o td) (hi : PE X i ty) (hv : PE X value tv) (hs : swapsWith value (some (.Subscript o i pos')) pos.line X.env = pure false) :
    PS X (.Assign [.Subscript o i pos'] value pos) (sDPut td ty tv) := by
  intro pins s σ H D I h
  refine wpAny_Assign_Subscript (thn (hv pins s σ H _ I h) fun r s1 ⟨v, H1, I1, rv, q1⟩ => thn (ho pins s1 σ H1 _ I1 q1) fun u s2 ⟨x, H2, I2, rx, q2⟩ => thn (hi pins s2 σ H2 _ I2 q2) fun iv s3 ⟨y, H3, I3, ry, a, H4, ex, g, q3⟩ => ?_) hs
  subst ex
  obtain rfl : u = Value.ref a := rx
  exact d_setItem hu I3 g ry rv fun s4 I4 => ⟨σ, H4, I4, q3⟩
theorem ps_daug {op : Operator} {rd : V → V → Hp → VK → Prop} (hu : X.A.units + 1 < cLine) (ho : PE X o td) (hi : PE X i ty) (hv : PE X value tv) (hop : InOp X op rd)
    (ha : ∀ ov iv new, augStore i ov iv new = (do holding [new, ov, iv] (setItem ov iv new); release [new, ov, iv] []; pure .next)) : PS X (.AugAssign (.Subscript o i tpos) op value pos) (sDAug td ty tv rd) := by
  intro pins s σ H D I h
  refine wpAny_AugAssign_SubscriptAny (thn (ho pins s σ H _ I h) fun u s1 ⟨x, H1, I1, rx, q1⟩ => thn (hi pins s1 σ H1 _ I1 q1) fun iv s2 ⟨y, H2, I2, ry, a, v, ex, g, q2⟩ => ?_) ha
  subst ex
  obtain rfl : u = Value.ref a := rx
  refine d_getItem hu I2 g ry fun w' s3 I3 rw' => thn (hv pins s3 σ H2 _ I3 q2) fun w2 s4 ⟨y2, H3, I4, ry2, q3⟩ => thn (hop pins s4 σ H3 v y2 w' w2 _ I4 rw' ry2 q3) fun w3 s5 ⟨z, H4, I5, rz, H5, g5, q4⟩ => ?_
  exact d_setItem hu I5 g5 ry rz fun s6 I6 => ⟨σ, H5, I6, q4⟩
theorem ps_ddel (ho : PE X o td) (hi : PE X i ty) : PS X (.Delete [.Subscript o i tpos] pos) (sDDel td ty) := by
  intro pins s σ H D I h
  refine wpAny_Delete (wpAny_deleteEach_cons (wpAny_delete_Subscript (thn (ho pins s σ H _ I h) fun u s1 ⟨x, H1, I1, rx, q1⟩ => thn (hi pins s1 σ H1 _ I1 q1) fun iv s2 ⟨y, H2, I2, ry, a, kvs, k, ex, e, ey, l, q2⟩ => ?_)))
  subst ex ey
  obtain rfl : u = Value.ref a := rx
  exact d_delItem I2 e ry l fun s3 I3 => wpAny_deleteEach_nil ⟨σ, _, I3, q2⟩
end


theorem dk_empty {P : Program} {w : World} {H : Hp} (h : Heap) (hb : sysModules < h.objs.size) : ObjOk P w H (h.push { cls := .type "dict", data := .dict #[] }) h.objs.size (.dK []) :=
  ⟨Nat.zero_le _, beq_eq_false_iff_ne.mpr (Ne.symm (Nat.ne_of_lt hb)), [], .nil, Heap.DictOf.new h⟩
theorem dt_empty {P : Program} {w : World} {H : Hp} (h : Heap) (hb : sysModules < h.objs.size) : ObjOk P w H (h.push { cls := .type "dict", data := .dict #[] }) h.objs.size (.dT []) :=
  ⟨Nat.zero_le _, beq_eq_false_iff_ne.mpr (Ne.symm (Nat.ne_of_lt hb)), [], .nil, _, #[], 0, Heap.get?_push_size _ rfl, ⟨rfl, rfl, rfl⟩, rfl, rfl, List.nodup_nil⟩
def tDNewK : TE := fun _ H Q => ∀ p, H p = none → Q (.ref p) (upd H p (.dK []))
def tDNewT : TE := fun _ H Q => ∀ p, H p = none → Q (.ref p) (upd H p (.dT []))
section
variable {X : Cx} {pos : Pos}
theorem pe_dnewK : PE X (.Dict [] [] pos) tDNewK := fun pins s σ H Q I h =>
  wpAny_Dict_empty ⟨.ref s.heap.objs.size, _, I.laid (a := s.heap.objs.size) (o := .dK []) (t' := s.toks) (fun _ _ q => Heap.get?_push_of_some _ q) (Nat.le_refl _) (dk_empty s.heap I.big), rfl, h _ (I.hok.fresh (Nat.le_refl _))⟩
theorem pe_dnewT : PE X (.Dict [] [] pos) tDNewT := fun pins s σ H Q I h =>
  wpAny_Dict_empty ⟨.ref s.heap.objs.size, _, I.laid (a := s.heap.objs.size) (o := .dT []) (t' := s.toks) (fun _ _ q => Heap.get?_push_of_some _ q) (Nat.le_refl _) (dt_empty s.heap I.big), rfl, h _ (I.hok.fresh (Nat.le_refl _))⟩
end

def tPairs : List (TE × TE) → St → Hp → (List (V × V) → Hp → Prop) → Prop
  | [], _, H, Q => Q [] H
  | (tk, tv) :: r, σ, H, Q => tk σ H fun x H1 => tv σ H1 fun y H2 => tPairs r σ H2 fun ps H3 => Q ((x, y) :: ps) H3
abbrev VV : List (V × V) → List (Value × Value) → Prop := Paired fun p q => RelV p.1 q.1 ∧ RelV p.2 q.2
def PPs (X : Cx) (pos : Pos) (keys : List (Option Expr)) (values : List Expr) (trs : List (TE × TE)) : Prop :=
  ∀ (pins : List (Addr × Obj)) (s : Shared) (σ : St) (H : Hp) (Q : List (V × V) → Hp → Prop), Inv X pins σ H s → tPairs trs σ H Q →
    wpAny (model X.prog X.w) X.A (evalPairs (pairTrees keys values X.env pos)) (fun vs s' => ∃ ps H', Inv X pins σ H' s' ∧ VV ps vs ∧ Q ps H') X.xe s
theorem pps_nil {X : Cx} {pos : Pos} : PPs X pos [] [] [] := fun pins s σ H Q I h => pairTrees_nil_walk ⟨[], H, I, .nil, h⟩
theorem pps_cons {X : Cx} {pos : Pos} {k v : Expr} {ks : List (Option Expr)} {vs : List Expr} {tk tv : TE} {trs : List (TE × TE)} (hk : PE X k tk) (hv : PE X v tv) (hr : PPs X pos ks vs trs) :
    PPs X pos (some k :: ks) (v :: vs) ((tk, tv) :: trs) := fun pins s σ H Q I h =>
  pairTrees_cons_walk (thn (hk pins s σ H _ I h) fun u s1 ⟨x, H1, I1, rx, q1⟩ => thn (hv pins s1 σ H1 _ I1 q1) fun w2 s2 ⟨y, H2, I2, ry, q2⟩ =>
    thn (hr pins s2 σ H2 _ I2 q2) fun ws s3 ⟨ps, H3, I3, rel, q3⟩ => ⟨(x, y) :: ps, H3, I3, .cons ⟨rx, ry⟩ rel, q3⟩)

def mergeK (kvs more : List (Key × V)) : List (Key × V) := more.foldl (fun acc kv => putK acc kv.1 kv.2) kvs
theorem KV.merge : ∀ {more : List (Key × V)} {rs : List (Key × Value)} {kvs : List (Key × V)} {vs : List (Key × Value)}, KV more rs → KV kvs vs → KV (mergeK kvs more) (merged vs rs) := by
  intro more rs kvs vs r
  unfold KV at r
  induction r generalizing kvs vs with
  | nil => intro q; exact q
  | @cons p q ps qs h t ih =>
    intro r0
    have e : KV (putK kvs p.1 p.2) (stored vs q.1 q.2) := by
      have := r0.put p.1 h.2
      rw [← h.1]; exact this
    exact ih e
theorem length_mergeK : ∀ (more kvs : List (Key × V)), (mergeK kvs more).length ≤ kvs.length + more.length
  | [], kvs => by show kvs.length ≤ kvs.length + 0; omega
  | p :: r, kvs => by
    have h1 := length_mergeK r (putK kvs p.1 p.2)
    have h2 := length_putK kvs p.1 p.2
    show (mergeK (putK kvs p.1 p.2) r).length ≤ _
    rw [List.length_cons]; omega
theorem carries_of {P : Program} {w : World} : ∀ {kvs : List (Key × V)} {ws : List (Value × Value)}, VV (kvs.map fun kv => (kV kv.1, kv.2)) ws → ∃ rs, Carries (mixKind P w) ws rs ∧ KV kvs rs
  | [], _, r => by rw [List.map_nil] at r; cases r; exact ⟨[], True.intro, .nil⟩
  | p :: kvs, _, r => by
    rw [List.map_cons] at r
    cases r with
    | @cons a b as bs h t =>
      obtain ⟨rs, c, q⟩ := carries_of (P := P) (w := w) t
      obtain ⟨b1, b2⟩ := b
      exact ⟨(p.1, b2) :: rs, ⟨kV_is h.1, rfl, c⟩, .cons ⟨rfl, h.2⟩ q⟩
def tDisp (trs : List (TE × TE)) : TE := fun σ H Q => ∀ p, H p = none → tPairs trs σ (upd H p (.dK [])) fun ps H2 => H2 p = some (.dK []) ∧ ∃ kvs : List (Key × V), ps = kvs.map (fun kv => (kV kv.1, kv.2)) ∧ kvs.length ≤ 15 ∧ Q (.ref p) (upd H2 p (.dK (mergeK [] kvs)))
theorem pe_disp {X : Cx} {pos : Pos} {keys : List (Option Expr)} {values : List Expr} {trs : List (TE × TE)} (h : PPs X pos keys values trs) (hall : keys.all (·.isSome) = true) (hl : keys.length = values.length) (h0 : keys ≠ [])
    (h15 : keys.length ≤ 15) : PE X (.Dict keys values pos) (tDisp trs) := by
  intro pins s σ H Q I q
  have hn := I.hok.fresh (Nat.le_refl s.heap.objs.size)
  have I1 := I.laid (a := s.heap.objs.size) (o := .dK []) (h' := s.heap.push { cls := .type "dict", data := .dict #[] }) (t' := s.toks) (fun _ _ q => Heap.get?_push_of_some _ q) (Nat.le_refl _) (dk_empty s.heap I.big)
  refine wpAny_Dict_walk (knd := mixKind X.prog X.w) hall hl h0 h15 (thn (h pins _ σ _ _ I1 (q _ hn)) fun ws s2 ⟨ps, H2, I2, rel, e, kvs, ep, lk, q2⟩ => ?_)
  subst ep
  obtain ⟨rs, c, rk⟩ := carries_of (P := X.prog) (w := X.w) rel
  obtain ⟨z, hd, vs0, r0, dd⟩ := dk_of I2.hok e
  cases r0
  refine ⟨rs, c, dd, fun h' dd' hs => ⟨.ref s.heap.objs.size, _, ?_, rfl, q2⟩⟩
  have hz : (mergeK [] kvs).length ≤ sizeLine := by
    have h1 := length_mergeK kvs []
    rw [List.length_nil] at h1
    rw [sizeLine_eq]; omega
  have he : ∃ q, h'.get? s.heap.objs.size = some q := let ⟨q, _, _, hq, _⟩ := dd'; ⟨q, hq⟩
  exact d_write I2 (by rw [e]; exact True.intro) hs he (dk_new hz hd (rk.merge .nil) dd')


structure M1 (X : Cx) (o : Expr) (m : Str) (apos : Pos) (e : Expr) (cpos : Pos) : Prop where
  base : attributeBase o m X.env (eval o X.env) = eval o X.env
  few : ((backTo cpos (starEach [e] X.env)).all (fun x => !x.1) && (backToKw cpos (keywordEach [] X.env)).all (fun x => x.1.isSome)
    && decide (([e] : List Expr).length + ([] : List Keyword).length + (if ([] : List Keyword).isEmpty then 0 else 1) < 30)) = true
  line : (apos.endLine == cpos.line) = true
  trees : backTo cpos (starEach [e] X.env) = [(false, eval e X.env)]
structure M2 (X : Cx) (o : Expr) (m : Str) (apos : Pos) (e f : Expr) (cpos : Pos) : Prop where
  base : attributeBase o m X.env (eval o X.env) = eval o X.env
  few : ((backTo cpos (starEach [e, f] X.env)).all (fun x => !x.1) && (backToKw cpos (keywordEach [] X.env)).all (fun x => x.1.isSome)
    && decide (([e, f] : List Expr).length + ([] : List Keyword).length + (if ([] : List Keyword).isEmpty then 0 else 1) < 30)) = true
  line : (apos.endLine == cpos.line) = true
  trees : backTo cpos (starEach [e, f] X.env) = [(false, eval e X.env), (false, eval f X.env)]

def IsD (H : Hp) (a : Addr) : Prop := (∃ kvs, Rd H a (.dK kvs)) ∨ ∃ kvs, Rd H a (.dT kvs)
theorem isD_at {X : Cx} {pins : List (Addr × Obj)} {σ : St} {H : Hp} {s : Shared} {a : Addr} (I : Inv X pins σ H s) (d : IsD H a) :
    s.TypeIs (.ref a) "dict" ∧ (∀ b, Value.ref a = .ref b → ∃ ob, s.heap.get? b = some ob ∧ ob.dict = none) ∧ (a == sysModules) = false := by
  rcases d with ⟨kvs, e⟩ | ⟨kvs, e⟩
  · obtain ⟨_, hd, vs, _, dd⟩ := dk_rd I.hok e
    refine ⟨dd.typeIs, fun b q => ?_, hd⟩
    cases q
    obtain ⟨ob, _, _, h1, h2, _⟩ := dd
    exact ⟨ob, h1, h2.2.1⟩
  · obtain ⟨_, hd, xs, _, dd⟩ := dt_rd I.hok e
    refine ⟨dd.typeIs, fun b q => ?_, hd⟩
    cases q
    obtain ⟨ob, _, _, h1, h2, _⟩ := dd
    exact ⟨ob, h1, h2.2.1⟩

section
variable {X : Cx} {pins : List (Addr × Obj)} {σ : St} {H : Hp} {s : Shared} {a : Addr} {y d : V} {u r : Value} {o : Option V} {A : Around} {E : Value → Shared → Prop}
theorem d_get1 {Q : Value → Shared → Prop} (hu : A.units + 1 < cLine) (I : Inv X pins σ H s) (g : DGet H a y o) (ry : RelV y u) (h : ∀ w' s', Inv X pins σ H s' → RelV (o.getD .non) w' → Q w' s') :
    wpAny (model X.prog X.w) A (call (.builtin "dict.get") [.ref a, u]) Q E s := by
  rcases g with ⟨kvs, k, e, ey, l⟩ | ⟨kvs, k, b, e, ey, eb, l⟩
  · subst ey
    obtain ⟨z, hd, vs, rel, dd⟩ := dk_rd I.hok e
    refine call_meetsIn PySem.F.slot_dict_get dd.typeIs PySem.F.entry_dict_get (PySem.F.args_dict_get_2 _ _) (meets_dict_get (mixKind X.prog X.w) a (kV_is ry) hd) ⟨_, dd.mapOf, h _ _ (I.tok _) ?_⟩
    rw [l]
    exact (rel.val k).getD rfl
  · subst ey
    cases (show u = Value.ref b from ry)
    obtain ⟨z, hd, xs, rel, dd⟩ := dt_rd I.hok e
    refine call_meetsIn PySem.F.slot_dict_get dd.typeIs PySem.F.entry_dict_get (PySem.F.args_dict_get_2 _ _) (meetsH_dict_get (tupleKind (mixKind X.prog X.w)) a b hd) ⟨tupleKind_room_in1 hu, k, xs, key_of I.hok eb, dd, h _ _ (I.tok _) ?_⟩
    rw [l]
    exact (rel.val k).getD rfl
theorem d_get2 {Q : Value → Shared → Prop} (hu : A.units + 1 < cLine) (I : Inv X pins σ H s) (g : DGet H a y o) (ry : RelV y u) (rd : RelV d r) (h : ∀ w' s', Inv X pins σ H s' → RelV (o.getD d) w' → Q w' s') :
    wpAny (model X.prog X.w) A (call (.builtin "dict.get") [.ref a, u, r]) Q E s := by
  rcases g with ⟨kvs, k, e, ey, l⟩ | ⟨kvs, k, b, e, ey, eb, l⟩
  · subst ey
    obtain ⟨z, hd, vs, rel, dd⟩ := dk_rd I.hok e
    refine call_meetsIn PySem.F.slot_dict_get dd.typeIs PySem.F.entry_dict_get (PySem.F.args_dict_get_3 _ _ _) (meets_dict_get_default (mixKind X.prog X.w) a (kV_is ry) hd r) ⟨_, dd.mapOf, h _ _ (I.tok _) ?_⟩
    rw [l]
    exact (rel.val k).getD rd
  · subst ey
    cases (show u = Value.ref b from ry)
    obtain ⟨z, hd, xs, rel, dd⟩ := dt_rd I.hok e
    refine call_meetsIn PySem.F.slot_dict_get dd.typeIs PySem.F.entry_dict_get (PySem.F.args_dict_get_3 _ _ _) (meetsH_dict_get_default (tupleKind (mixKind X.prog X.w)) a b hd r) ⟨tupleKind_room_in1 hu, k, xs, key_of I.hok eb, dd, h _ _ (I.tok _) ?_⟩
    rw [l]
    exact (rel.val k).getD rd
end

def tDGet1 (td ty : TE) : TE := fun σ H Q => td σ H fun x H1 => ∃ a, x = .ref a ∧ IsD H1 a ∧ ty σ H1 fun y H2 => ∃ o, DGet H2 a y o ∧ Q (o.getD .non) H2
def tDGet2 (td ty tx : TE) : TE := fun σ H Q => td σ H fun x H1 => ∃ a, x = .ref a ∧ IsD H1 a ∧ ty σ H1 fun y H2 => tx σ H2 fun z H3 => ∃ o, DGet H3 a y o ∧ Q (o.getD z) H3
def tDPop1 (td ty : TE) : TE := fun σ H Q => td σ H fun x H1 => ∃ a, x = .ref a ∧ IsD H1 a ∧ ty σ H1 fun y H2 => ∃ kvs k v, H2 a = some (.dK kvs) ∧ y = kV k ∧ valV kvs k = some v ∧ Q v (upd H2 a (.dK (dropK kvs k)))
def tDPop2 (td ty tx : TE) : TE := fun σ H Q => td σ H fun x H1 => ∃ a, x = .ref a ∧ IsD H1 a ∧ ty σ H1 fun y H2 => tx σ H2 fun z H3 => ∃ kvs k, H3 a = some (.dK kvs) ∧ y = kV k ∧
  (∀ v, valV kvs k = some v → Q v (upd H3 a (.dK (dropK kvs k)))) ∧ (valV kvs k = none → Q z H3)
section
variable {X : Cx} {o e f : Expr} {apos cpos : Pos} {td ty tx : TE}
theorem pe_dget1 (hu : X.A.units + 1 < cLine) (ho : PE X o td) (he : PE X e ty) (m : M1 X o "get" apos e cpos) : PE X (.Call (.Attribute o "get" apos) [e] [] cpos) (tDGet1 td ty) := by
  intro pins s σ H Q I h
  refine wpAny_Call_method m.base m.few m.line PySem.F.plainAttrs_dict PySem.F.slot_dict_get PySem.F.type_dict_get (thn (ho pins s σ H _ I h) fun u s1 ⟨x, H1, I1, rx, a, ex, d, q1⟩ => ?_)
  subst ex
  obtain rfl : u = Value.ref a := rx
  obtain ⟨t1, t2, _⟩ := isD_at I1 d
  refine ⟨t1, t2, ?_⟩
  rw [m.trees]
  refine Calls.callWith_builtin rfl (Calls.evalArgs_plain (Calls.spliced_cons (thn (he pins s1 σ H1 _ I1 q1) fun iv s2 ⟨y, H2, I2, ry, ov, g, q2⟩ => Calls.spliced_nil ?_)))
  exact d_get1 hu I2 g ry fun w' s3 I3 rw' => ⟨_, H2, I3, rw', q2⟩
theorem pe_dget2 (hu : X.A.units + 1 < cLine) (ho : PE X o td) (he : PE X e ty) (hf : PE X f tx) (m : M2 X o "get" apos e f cpos) : PE X (.Call (.Attribute o "get" apos) [e, f] [] cpos) (tDGet2 td ty tx) := by
  intro pins s σ H Q I h
  refine wpAny_Call_method m.base m.few m.line PySem.F.plainAttrs_dict PySem.F.slot_dict_get PySem.F.type_dict_get (thn (ho pins s σ H _ I h) fun u s1 ⟨x, H1, I1, rx, a, ex, d, q1⟩ => ?_)
  subst ex
  obtain rfl : u = Value.ref a := rx
  obtain ⟨t1, t2, _⟩ := isD_at I1 d
  refine ⟨t1, t2, ?_⟩
  rw [m.trees]
  refine Calls.callWith_builtin rfl (Calls.evalArgs_plain (Calls.spliced_cons (thn (he pins s1 σ H1 _ I1 q1) fun iv s2 ⟨y, H2, I2, ry, q2⟩ =>
    Calls.spliced_cons (thn (hf pins s2 σ H2 _ I2 q2) fun fv s3 ⟨z, H3, I3, rz, ov, g, q3⟩ => Calls.spliced_nil ?_))))
  exact d_get2 hu I3 g ry rz fun w' s4 I4 rw' => ⟨_, H3, I4, rw', q3⟩
theorem pe_dpop1 (ho : PE X o td) (he : PE X e ty) (m : M1 X o "pop" apos e cpos) : PE X (.Call (.Attribute o "pop" apos) [e] [] cpos) (tDPop1 td ty) := by
  intro pins s σ H Q I h
  refine wpAny_Call_method m.base m.few m.line PySem.F.plainAttrs_dict PySem.F.slot_dict_pop PySem.F.type_dict_pop (thn (ho pins s σ H _ I h) fun u s1 ⟨x, H1, I1, rx, a, ex, d, q1⟩ => ?_)
  subst ex
  obtain rfl : u = Value.ref a := rx
  obtain ⟨t1, t2, _⟩ := isD_at I1 d
  refine ⟨t1, t2, ?_⟩
  rw [m.trees]
  refine Calls.callWith_builtin rfl (Calls.evalArgs_plain (Calls.spliced_cons (thn (he pins s1 σ H1 _ I1 q1) fun iv s2 ⟨y, H2, I2, ry, kvs, k, v, ea, ey, l, q2⟩ => Calls.spliced_nil ?_)))
  subst ey
  exact d_pop I2 ea ry l (.inl rfl) fun w' s3 I3 rw' => ⟨v, _, I3, rw', q2⟩
theorem pe_dpop2 (ho : PE X o td) (he : PE X e ty) (hf : PE X f tx) (m : M2 X o "pop" apos e f cpos) : PE X (.Call (.Attribute o "pop" apos) [e, f] [] cpos) (tDPop2 td ty tx) := by
  intro pins s σ H Q I h
  refine wpAny_Call_method m.base m.few m.line PySem.F.plainAttrs_dict PySem.F.slot_dict_pop PySem.F.type_dict_pop (thn (ho pins s σ H _ I h) fun u s1 ⟨x, H1, I1, rx, a, ex, d, q1⟩ => ?_)
  subst ex
  obtain rfl : u = Value.ref a := rx
  obtain ⟨t1, t2, _⟩ := isD_at I1 d
  refine ⟨t1, t2, ?_⟩
  rw [m.trees]
  refine Calls.callWith_builtin rfl (Calls.evalArgs_plain (Calls.spliced_cons (thn (he pins s1 σ H1 _ I1 q1) fun iv s2 ⟨y, H2, I2, ry, q2⟩ =>
    Calls.spliced_cons (thn (hf pins s2 σ H2 _ I2 q2) fun fv s3 ⟨z, H3, I3, rz, kvs, k, ea, ey, q3, q4⟩ => Calls.spliced_nil ?_))))
  subst ey
  cases l : valV kvs k with
  | some v => exact d_pop I3 ea ry l (.inr ⟨fv, rfl⟩) fun w' s4 I4 rw' => ⟨v, _, I4, rw', q3 v l⟩
  | none => exact d_popD I3 ea ry l fun s4 I4 => ⟨z, H3, I4, rz, q4 l⟩
end

section
variable {X : Cx} {pins : List (Addr × Obj)} {σ : St} {H : Hp} {s : Shared} {a : Addr} {kvs : List (Key × V)} {A : Around} {E : Value → Shared → Prop}
theorem d_copyOf {Q : Value → Shared → Prop} (I : Inv X pins σ H s) (e : Rd H a (.dK kvs)) (h : ∀ p s', H p = none → Inv X pins σ (upd H p (.dK kvs)) s' → Q (.ref p) s') : wpAny (model X.prog X.w) A (call (.type "dict") [.ref a]) Q E s := by
  obtain ⟨z, hd, vs, rel, dd⟩ := dk_rd I.hok e
  refine kt_call_dict hd dd (by rw [← rel.length]; exact z) fun h' dd' hs => ?_
  refine h _ _ (I.hok.fresh (Nat.le_refl _)) (I.laid (a := s.heap.objs.size) (o := .dK kvs) (t' := s.toks) (fun b q hq => ?_) (Nat.le_refl _) (dk_new z (beq_eq_false_iff_ne.mpr (Ne.symm (Nat.ne_of_lt I.big))) rel dd'))
  exact (hs.2 b (Nat.ne_of_lt (Heap.lt_size hq))).trans (Heap.get?_push_of_some _ hq)
end


section
variable {X : Cx} {pins : List (Addr × Obj)} {σ : St} {H : Hp} {s : Shared} {a : Addr} {y : V} {u : Value} {A : Around} {E : Value → Shared → Prop}
theorem d_missing {Q : Value → Shared → Prop} (hu : A.units + 1 < cLine) (hh : A.handled = none) (I : Inv X pins σ H s) (g : DGet H a y none) (ry : RelV y u)
    (h : ∀ h' e t', Heap.NewExc s.heap h' e "KeyError" → E (.ref e) { s with heap := h', toks := t' }) : wpAny (model X.prog X.w) A (getItem (.ref a) u) Q E s := by
  rcases g with ⟨kvs, k, e, ey, l⟩ | ⟨kvs, k, b, e, ey, eb, l⟩
  · subst ey
    obtain ⟨z, hd, vs, rel, dd⟩ := dk_rd I.hok e
    have hn : valueAt vs k = none := RelO.none_of (by rw [l]; exact rel.val k)
    exact wpAny_getItem_missing_of (kV_is ry) hd hh dd.mapOf hn fun h' ex ne => h h' ex _ ne
  · subst ey
    cases (show u = Value.ref b from ry)
    obtain ⟨z, hd, xs, rel, dd⟩ := dt_rd I.hok e
    have hn : (atKey xs k).map (·.2) = none := RelO.none_of (by rw [l]; exact rel.val k)
    exact wpAny_getItem_missing_heap (tupleKind_room_in1 hu) (key_of I.hok eb) hd hh dd (Option.map_eq_none_iff.mp hn) fun h' ex ne => h h' ex _ ne
end
end L2

namespace Att
open PySem PySem.W PySem.Calls PyProof.Rows

theorem ints_of_wellAll {P : Params} {h : Heap} : ∀ (ns : List Int) (vs : List Value), WellAll P h vs (ns.map WData.int) → IntsAre vs ns := by
  intro ns
  induction ns with
  | nil =>
    intro vs w
    rw [List.map_nil] at w
    cases w
    exact .nil
  | cons n ns ih =>
    intro vs w
    rw [List.map_cons] at w
    cases w with
    | cons a b =>
      cases a
      exact .cons _ _ (ih _ b)

theorem script_of {l : OpenLaw} {n : Nat} (hn : l.most = some n) {P : Params} {h : Heap} {args : List WData} {vals : List Value}
    (hpre : l.row.toRowW.claim.pre args = true) (hwl : WellAll P h vals args) :
    ∃ a vs ns, vals = [Value.ref a] ∧ args = [WData.list (ns.map WData.int)] ∧ h.get? a = some { cls := .type "list", data := .seq vs.toArray } ∧ IntsAre vs ns ∧ ns.length ≤ n := by
  have hsh : WShape.hasAll [] args [.list .int] = true := (pre_splitW hpre).1
  have hc : l.pre.holds [] { args := args } = true := (pre_splitW hpre).2
  obtain ⟨d, r, rfl, h1, h2⟩ := hasAllW_cons hsh
  obtain rfl := hasAllW_nil h2
  obtain ⟨xs, rfl, h3⟩ := hasW_list h1
  obtain ⟨ns, rfl⟩ := items_int h3
  have hlen : ns.length ≤ n := by
    unfold OpenLaw.pre at hc
    have h4 : (WTm.not (.lt (.lit (.int (n : Int))) (.len (.arg 0)))).holds [] { args := [.list (ns.map .int)] } = true := by
      have h4 := (holds_andW hc).1
      rw [hn] at h4
      exact h4
    have h5 := condW_of h4 (w_not (w_lt w_lit (w_len_list (w_arg rfl))))
    rw [List.length_map] at h5
    refine Nat.le_of_not_lt fun q => ?_
    have q' : (n : Int) < ((ns.length : Nat) : Int) := by omega
    first
      | (rw [decide_eq_true q'] at h5; exact absurd h5 (by decide))
      | (simp at h5; omega)
  cases hwl with
  | cons w1 w2 =>
    cases w2
    cases w1 with
    | list ho hall => exact ⟨_, _, ns, rfl, rfl, ho, ints_of_wellAll ns _ hall, hlen⟩

theorem post_true (l : OpenLaw) (args : List WData) : l.row.toRowW.claim.post args (.bool true) args = true :=
  postW_of (r := l.row.toRowW) (X := (true == true))
    (show WShape.has [] (.bool true) .bool = true by first | rfl | decide | simp [WShape.has, WShape.arms, WShape.armsAll])
    (show (WTm.eq .res (.lit (.bool true))).value [] { args := args, res := some (.bool true), after := args } = some (.bool (true == true)) from w_eq_bool (w_res rfl) w_lit) rfl

theorem attach {l : OpenLaw} {n : Nat} {q : Program} {loose : List Str} {XP : (Str → Option Value) → Heap → Prop} {YP : World → Heap → Prop} {d : DefRec} {x : Str}
    (hn : l.most = some n) (hdf : d.params.defaults = [])
    (hbind : ∀ pm cd doc v : Value, bindArgs (docDef d.name d.params d.body d.scope pm cd doc) ⟨[v], []⟩ = pure [(x, v)])
    (hx : d.scope.names.lookup x = some .local ∨ d.scope.names.lookup x = some .cell)
    (hk : d.scope.kind = .function) (hco : d.scope.isCoroutine = false) (hgen : d.scope.isGenerator = false)
    (body : ∀ (w : World) (s₀ s₁ s : Shared) (mg mb : Str → Option Value) (fa : Addr) (o : Obj) (pm cd doc : Value) (a : Addr) (vs : List Value) (ns : List Int),
      Ground q loose [] XP w s₀ mg mb s₁.heap → YP w s₁.heap →
      s₁.heap.get? fa = some o → o.data = .func (docDef d.name d.params d.body d.scope pm cd doc) → s₁.heap.CodeRec cd d.name → mg d.name = some (.ref fa) →
      s₁.heap.get? a = some { cls := .type "list", data := .seq vs.toArray } → IntsAre vs ns → ns.length ≤ n →
      s.gens = #[] → s.os = s₁.os →
      Fr s₁.heap s₁.heap.objs.size s.heap (bindL (envOfC d.name d.scope s₁.heap.objs.size fa cd).kindOf [(x, .ref a)] fun _ => none) →
      Cl s₁.heap.objs.size (cellsFrom (s₁.heap.objs.size + 1) d.scope.names []) s.heap (bindC (envOfC d.name d.scope s₁.heap.objs.size fa cd).kindOf [(x, .ref a)] fun _ => none) →
      wpAny (model l.prog w) (callerA.deeper (envOfC d.name d.scope s₁.heap.objs.size fa cd)) (execs d.body (envOfC d.name d.scope s₁.heap.objs.size fa cd))
        (fun f s' => f = .ret (.bool true) ∧ OldK s₁.heap s'.heap ∧ s'.os = s₁.os ∧ AllBare s'.gens) (fun _ _ => False) s) :
    WalkO q loose XP YP l.row.toRowW d [] (fun f vs => PySem.call f vs) := by
  intro w s₀ s₁ mg mb G Y fa o pm cd doc dV kV ho hd hcd hD hmg hg args vals as hpre hlay hrd hwl hlo
  obtain rfl : dV = .none := Dflts.none hD hdf
  obtain rfl : kV = .none := Dflts.noKw hD
  obtain ⟨a, vs, ns, rfl, rfl, hobj, hints, hlen⟩ := script_of hn hpre hwl
  refine enter_call ?_
  refine call_cells_ret (o := o) (by rw [depth_caller]; decide) ho (fd_plain hd) G.T.nolimit hcd (hbind pm cd doc (.ref a)) (fun y hy => ?_) (fun h₁ tk F X => ?_) hco hgen hk
  · obtain rfl : y = (x, Value.ref a) := List.mem_singleton.mp hy
    rcases hx with e | e
    · exact .inl e
    · exact .inr ⟨e, cellsFrom_some _ _ _ (.inl e)⟩
  · refine wpAny_mono (body w s₀ s₁ { s₁ with heap := h₁, toks := tk } mg mb fa o pm cd doc a vs ns G Y ho (fd_plain hd) hcd hmg hobj hints hlen hg rfl F X) (fun f s' hq => ?_) (fun _ _ hq => hq)
    obtain ⟨rfl, h2, h3, h4⟩ := hq
    exact ⟨.inl ⟨.bool true, .bool true, [], rfl, fun _ => rfl, .bool true, post_true l _, fun _ => ⟨List.Pairwise.nil, fun _ hm => (nomatch hm)⟩⟩, h2, h3, h4⟩

theorem attach_call {l : OpenLaw} {n : Nat} {q : Program} {loose : List Str} {XP : (Str → Option Value) → Heap → Prop} {YP : World → Heap → Prop} {d : DefRec}
    (hn : l.most = some n) (hdf : d.params.defaults = [])
    (call : ∀ (w : World) (s₀ s₁ : Shared) (mg mb : Str → Option Value) (fa : Addr) (o : Obj) (pm cd doc : Value) (a : Addr) (vs : List Value) (ns : List Int),
      Ground q loose [] XP w s₀ mg mb s₁.heap → YP w s₁.heap →
      s₁.heap.get? fa = some o → o.data = .func (docDef d.name d.params d.body d.scope pm cd doc) → s₁.heap.CodeRec cd d.name → mg d.name = some (.ref fa) →
      s₁.heap.get? a = some { cls := .type "list", data := .seq vs.toArray } → IntsAre vs ns → ns.length ≤ n → s₁.gens = #[] →
      codeAny (model l.prog w) callerA (.call (.ref fa) ⟨[.ref a], []⟩) (fun r s' => r = .ok (.ret (.bool true)) ∧ OldK s₁.heap s'.heap ∧ s'.os = s₁.os ∧ AllBare s'.gens) s₁) :
    WalkO q loose XP YP l.row.toRowW d [] (fun f vs => PySem.call f vs) := by
  intro w s₀ s₁ mg mb G Y fa o pm cd doc dV kV ho hd hcd hD hmg hg args vals as hpre hlay hrd hwl hlo
  obtain rfl : dV = .none := Dflts.none hD hdf
  obtain rfl : kV = .none := Dflts.noKw hD
  obtain ⟨a, vs, ns, rfl, rfl, hobj, hints, hlen⟩ := script_of hn hpre hwl
  refine enter_call (codeAny_mono (call w s₀ s₁ mg mb fa o pm cd doc a vs ns G Y ho (fd_plain hd) hcd hmg hobj hints hlen hg) fun r s' hq => ?_)
  obtain ⟨rfl, h2, h3, h4⟩ := hq
  exact ⟨.inl ⟨.bool true, .bool true, [], rfl, fun _ => rfl, .bool true, post_true l _, fun _ => ⟨List.Pairwise.nil, fun _ hm => (nomatch hm)⟩⟩, h2, h3, h4⟩

theorem attachN {l : OpenLaw} {n : Nat} {q : Program} {loose : List Str} {XP : (Str → Option Value) → Heap → Prop} {YP : World → Heap → Prop} {d : DefRec} {x : Str}
    (hn : l.most = some n) (hdf : d.params.defaults = [])
    (hbind : ∀ pm cd doc v : Value, bindArgs (docDef d.name d.params d.body d.scope pm cd doc) ⟨[v], []⟩ = pure [(x, v)])
    (hx : d.scope.names.lookup x = some .local ∨ d.scope.names.lookup x = some .cell)
    (hk : d.scope.kind = .function) (hco : d.scope.isCoroutine = false) (hgen : d.scope.isGenerator = false)
    (body : ∀ (w : World) (s₀ s₁ s : Shared) (mg mb : Str → Option Value) (fa : Addr) (o : Obj) (pm cd doc : Value) (a : Addr) (vs : List Value) (ns : List Int),
      Ground q loose [] XP w s₀ mg mb s₁.heap → YP w s₁.heap →
      s₁.heap.get? fa = some o → o.data = .func (docDef d.name d.params d.body d.scope pm cd doc) → s₁.heap.CodeRec cd d.name → mg d.name = some (.ref fa) →
      s₁.heap.get? a = some { cls := .type "list", data := .seq vs.toArray } → IntsAre vs ns → ns.length ≤ n →
      s.gens = #[] → s.os = s₁.os →
      Fr s₁.heap s₁.heap.objs.size s.heap (bindL (envOfC d.name d.scope s₁.heap.objs.size fa cd).kindOf [(x, .ref a)] fun _ => none) →
      Cl s₁.heap.objs.size (cellsFrom (s₁.heap.objs.size + 1) d.scope.names []) s.heap (bindC (envOfC d.name d.scope s₁.heap.objs.size fa cd).kindOf [(x, .ref a)] fun _ => none) →
      wpAny (model l.prog w) (callerA.deeper (envOfC d.name d.scope s₁.heap.objs.size fa cd)) (execs d.body (envOfC d.name d.scope s₁.heap.objs.size fa cd))
        (fun f s' => f = .ret (.bool true) ∧ (∀ b o, s₁.heap.get? b = some o → s'.heap.get? b = some o) ∧ s'.os = s₁.os ∧ s'.gens = #[]) (fun _ _ => False) s) :
    WalkN q loose XP YP l.row.toRowW d [] (fun f vs => PySem.call f vs) := by
  intro w s₀ s₁ mg mb G Y fa o pm cd doc dV kV ho hd hcd hD hmg hg args vals as hpre hlay hrd hwl hlo
  obtain rfl : dV = .none := Dflts.none hD hdf
  obtain rfl : kV = .none := Dflts.noKw hD
  obtain ⟨a, vs, ns, rfl, rfl, hobj, hints, hlen⟩ := script_of hn hpre hwl
  refine enter_callW ?_
  refine call_cells_ret (o := o) (by rw [depth_caller]; decide) ho (fd_plain hd) G.T.nolimit hcd (hbind pm cd doc (.ref a)) (fun y hy => ?_) (fun h₁ tk F X => ?_) hco hgen hk
  · obtain rfl : y = (x, Value.ref a) := List.mem_singleton.mp hy
    rcases hx with e | e
    · exact .inl e
    · exact .inr ⟨e, cellsFrom_some _ _ _ (.inl e)⟩
  · refine wpAny_mono (body w s₀ s₁ { s₁ with heap := h₁, toks := tk } mg mb fa o pm cd doc a vs ns G Y ho (fd_plain hd) hcd hmg hobj hints hlen hg rfl F X) (fun f s' hq => ?_) (fun _ _ hq => hq)
    obtain ⟨rfl, h2, h3, h4⟩ := hq
    exact ⟨.inl ⟨.bool true, .bool true, [], rfl, fun _ => rfl, .bool true, post_true l _, fun _ => ⟨List.Pairwise.nil, fun _ hm => (nomatch hm)⟩⟩, h2, h3, h4⟩

section
variable {prog : Program} {w : World} {A : Around} {E : Value → Shared → Prop} {s : Shared} {K : Frag}

theorem call_fn {R : Result → Shared → Prop} {name qual : Str} {params : Arguments} {body : List Stmt} {scope : Scope} {dV kV doc pm cdv ct oc : Value} {an od : Option Addr} {osl : Array (Option Value)} {f : Addr} {args : Args} {binds : List (Str × Value)}
    (X : K.In s.heap) (hlim : s.heap.NoLimit) (ho : K.lookup f = some ⟨oc, od, .func (fnOf name qual params body scope dV kV doc pm an cdv ct), osl⟩) (hcd : codeIn K cdv qual = true) (hroom : A.depth < recursionLimit)
    (hbind : BindsTo s (fnOf name qual params body scope dV kV doc pm an cdv ct) args binds)
    (hkind : (binds.all fun y => scope.names.lookup y.1 == some .local || scope.names.lookup y.1 == some .cell) = true)
    (h : ∀ s₁, InCallC s s.heap.objs.size (bindL (envOfC qual scope s.heap.objs.size f cdv).kindOf binds fun _ => none) (cellsFrom (s.heap.objs.size + 1) scope.names [])
        (bindC (envOfC qual scope s.heap.objs.size f cdv).kindOf binds fun _ => none) s₁ →
      wpAny (model prog w) (A.deeper (envOfC qual scope s.heap.objs.size f cdv)) (execs body (envOfC qual scope s.heap.objs.size f cdv))
        (fun fl s' => R (.ok (.ret (match fl with | .ret v => v | _ => .none))) s')
        (fun e s' => wpAny (model prog w) (A.deeper (envOfC qual scope s.heap.objs.size f cdv)) (leaving (envOfC qual scope s.heap.objs.size f cdv) e) (fun _ s'' => R (.error e) s'') (fun e' s'' => R (.error e') s'') s') s₁)
    (hco : scope.isCoroutine = false) (hgen : scope.isGenerator = false) (hk : scope.kind = .function) : codeAny (model prog w) A (.call (.ref f) args) R s := by
  refine codeAny_call_function hroom (X _ _ ho) rfl hco hgen rfl (codeRec_of X hcd) (hbind _ _ _ _ ?_)
  refine wpAny_newFunctionEnv_cells hk (kindsX hkind _) fun env he s₁ x => ?_
  subst he
  exact ⟨hlim.keeps x.toInCall.keep, codeAny_func (h s₁ x)⟩

theorem make_obj {R : Result → Shared → Prop} {C fI : Addr} {rest : List Value} {kw : List (Str × Value)}
    (X : K.In s.heap) (hm : makesIn K C = true) (hi : findIn K (.ref C) "__init__" = some (some (.ref fI))) (hf : isFn K (.ref fI) = true)
    (h : codeAny (model prog w) (A.under (.builtin "type.__call__" ⟨.ref C :: rest, kw⟩)) (.call (.ref fI) ⟨.ref (s.heap.objs.size + 1) :: rest, kw⟩) (InitBack (s.heap.objs.size + 1) R)
      { s with heap := (s.heap.push emptyDict).push (instObj C s.heap.objs.size) }) : codeAny (model prog w) A (.call (.ref C) ⟨rest, kw⟩) R s := by
  obtain ⟨hh, g, d, t, os⟩ := s
  exact make_core (makes_of X hm) (looks_findIn X hi) (fun self => bind_fn X self (beq_iff_eq.mp hf)) (.inl rfl) h

theorem get_field {x C : Addr} {ox : Obj} {es : List DictEntry} {n : Nat} {name : Str} {expr : Bool} {v : Value} {Q : Value → Shared → Prop}
    (X : K.In s.heap) (I : PySem.W.InstAt s.heap x ox C (some (dictOf es n))) (hg : plainGet K C name = true) (hh : hasDictIn K C = true) (ha : findIn K (.ref C) name = some none)
    (hl : getL name es = some (some v)) (hv : handedIn v = true) (h : Q v { s with toks := s.toks + 1 }) : wpAny (model prog w) A (getAttr (.ref x) name expr) Q E s :=
  get_value X I (plainGet_of hg).1 (findObj_own hh ha rfl hl) hv h

theorem get_method {x C f : Addr} {ox : Obj} {es : List DictEntry} {n : Nat} {name : Str} {pl : Sem Bool} {Q : Value × List Value → Shared → Prop}
    (X : K.In s.heap) (I : PySem.W.InstAt s.heap x ox C (some (dictOf es n))) (hg : plainGet K C name = true) (hf : findIn K (.ref C) name = some (some (.ref f))) (ht : isFn K (.ref f) = true)
    (hl : getL name es = some none) (h : Q (.ref f, [.ref x]) s) : wpAny (model prog w) A (getMethod (.ref x) name pl) Q E s :=
  method_fn X I (plainGet_of hg).1 (plainGet_of hg).2 hf (beq_iff_eq.mp ht) (by show (lookIn name (dictOf es n)).map _ = _; rw [lookIn_dict, hl]; rfl) h

def noObjs (h : Heap) : Heap := { h with objs := #[] }
theorem noObjs_get (h : Heap) (b : Addr) : (noObjs h).get? b = none := by
  cases e : (noObjs h).get? b with
  | none => rfl
  | some o => exact absurd (Heap.lt_size e) (Nat.not_lt_zero _)
def ledger (h : Heap) (L d : Addr) : List (Addr × Obj) := (List.range h.objs.size).filterMap fun a => if a = L ∨ a = d then none else (h.get? a).map fun o => (a, o)
theorem mem_ledger {h : Heap} {L d a : Addr} {o : Obj} : (a, o) ∈ ledger h L d ↔ a ≠ L ∧ a ≠ d ∧ h.get? a = some o := by
  unfold ledger
  rw [List.mem_filterMap]
  constructor
  · rintro ⟨b, _, e⟩
    split at e
    · cases e
    · rename_i hb
      obtain ⟨o', ho, e'⟩ := Option.map_eq_some_iff.mp e
      cases e'
      exact ⟨fun q => hb (.inl q), fun q => hb (.inr q), ho⟩
  · rintro ⟨n1, n2, ho⟩
    refine ⟨a, List.mem_range.mpr (Heap.lt_size ho), ?_⟩
    rw [if_neg (show ¬ (a = L ∨ a = d) from fun q => q.elim n1 n2), ho] <;> rfl
theorem news_ledger {h : Heap} {L d : Addr} {od : Obj} (hne : d ≠ L) (ho : h.get? d = some od) : News (noObjs h) L h ([] ++ (d, od) :: ledger h L d) := by
  rintro ⟨a, o⟩ hp
  rcases List.mem_cons.mp hp with e | hp
  · cases e
    exact ⟨ho, hne, noObjs_get _ _⟩
  · obtain ⟨n1, n2, e⟩ := mem_ledger.mp hp
    exact ⟨e, n1, noObjs_get _ _⟩
theorem fr_all {h : Heap} {L : Addr} {m : Str → Option Value} (n : h.Ns L m) : Fr (noObjs h) L h m :=
  ⟨n, fun b o e => (by rw [noObjs_get] at e; cases e), Nat.zero_le _⟩
theorem upd_ledger {h : Heap} {L d : Addr} {o o' : Obj} : Upd d o o' ((d, o) :: ledger h L d) ((d, o') :: ledger h L d) :=
  .head fun ⟨_, _⟩ hp => (mem_ledger.mp hp).2.1

theorem set_field {x C dx L : Addr} {ox : Obj} {m : Str → Option Value} {es es' : List DictEntry} {n n' : Nat} {name : Str} {v : Value} {Q : Unit → Shared → Prop}
    (X : K.In s.heap) (I : PySem.W.InstAt s.heap x ox C (some (dictOf es n))) (hd : ox.dict = some dx) (hL : s.heap.Ns L m) (hne : dx ≠ L)
    (hs : findIn K (.ref C) "__setattr__" = some (some (.builtin "object.__setattr__"))) (hp : plainOver K C = true) (ht : takerIn K C name = some none) (hh : hasDictIn K C = true) (hl : (getL name es).isSome = true)
    (e : (putL name (PyData.keyHash w.params name) (.str name (s.toks + 1)) v es, putN name es n) = (es', n')) (hz : es'.length ≤ 1000)
    (h : ∀ h' : Heap, h'.Ns L m → h'.get? dx = some (dictOf es' n') → (∀ b o, b ≠ dx → b ≠ L → s.heap.get? b = some o → h'.get? b = some o) → Q () { s with heap := h', toks := s.toks + 2 }) :
    wpAny (model prog w) A (setAttr (.ref x) name v) Q E s := by
  obtain ⟨e1, e2⟩ := Prod.mk.inj e
  have hdx : s.heap.get? dx = some (dictOf es n) := by
    have := I.dict
    rw [hd] at this
    exact this
  refine set_plain X I hs (osa_dict (s := { s with toks := s.toks + 1 }) (h₀ := noObjs s.heap) (L := L) (m := m) (od := dictOf es n) (od' := dictOf es' n') (es := es') (n := n') (pre := []) (post := ledger s.heap L dx)
    (fr_all hL) (news_ledger hne hdx) X I hd hp ht hh hl (fun _ q => nomatch q) (fun ⟨_, _⟩ q => (mem_ledger.mp q).2.1) (by rw [putName_dict, e1, e2]) rfl hz fun h' F' N' => ?_)
  exact h h' F'.ns (N'.get (List.Mem.head _)) fun b o n1 n2 ho => N'.get (List.Mem.tail _ (mem_ledger.mpr ⟨n2, n1, ho⟩))
end
end Att

namespace L2
open PySem PySem.Spec PyProof.Rows

theorem vals_ints : ∀ {vs : List Value} {ns : List Int}, IntsAre vs ns → Vals (ns.map V.int) vs
  | _, _, .nil => .nil
  | _, _, .cons n t h => .cons ⟨t, rfl⟩ (vals_ints h)

def Only (H : Hp) : Prop := ∀ b, H b = none ∨ ∃ o xs, H b = some (.frz o (.lst xs))

theorem law_call {P : Program} {w : World} {K : PySem.W.Frag} {mg mb : Str → Option Value} {CX : CXT} {k : Nat} {fa a : Addr} {fd : FuncData} {x : Str} {sp : Sp} {s₁ : Shared} {vs : List Value} {ns : List Int}
    (KX : K.In s₁.heap) (hns : s₁.heap.Ns mainGlobals mg) (hb : s₁.heap.Ns builtinsNs mb) (hbb : ∀ x : Str, x ≠ "__name__" → mb x = bootBuiltins x) (hlim : s₁.heap.NoLimit) (hg : s₁.gens = #[])
    (ha : s₁.heap.get? a = some { cls := .type "list", data := .seq vs.toArray }) (hi : IntsAre vs ns) (hl : ns.length ≤ sizeLine) (hr : Room k callerA)
    (F : ∀ base : Heap, K.In base → base.Ns mainGlobals mg → FnOk P w K mg base CX k fa fd [x] sp) (hbind : ∀ (s : Shared) (u : Value), BindsTo s fd ⟨[u], []⟩ [(x, u)])
    (hsp : ∀ H : Hp, Only H → SqL K H a (ns.map V.int) → sp [.ref a] H (fun v _ => v = .bl true) fun _ _ _ => False)
    (hCX : ∀ H e s', CX [] H s₁ (fun _ _ _ => False) e s' → False) :
    codeAny (model P w) callerA (.call (.ref fa) ⟨[.ref a], []⟩) (fun r s' => r = .ok (.ret (.bool true)) ∧ OldK s₁.heap s'.heap ∧ s'.os = s₁.os ∧ AllBare s'.gens) s₁ := by
  have rv := vals_ints hi
  have lenV := hi.length
  -- from an abstract heap in which nothing but the script may be tracked
  have core : ∀ H : Hp, Only H → SqL K H a (ns.map V.int) → HOk P w H s₁.heap → (∀ b, H b ≠ none → b = a) → (H a ≠ none → K.lookup a = none) →
      codeAny (model P w) callerA (.call (.ref fa) ⟨[.ref a], []⟩) (fun r s' => r = .ok (.ret (.bool true)) ∧ OldK s₁.heap s'.heap ∧ s'.os = s₁.os ∧ AllBare s'.gens) s₁ := by
    intro H hO hS hok hA hK
    have base_of : ∀ {b : Addr} {o : Obj}, s₁.heap.get? b = some o → H b = none → (hidT s₁.heap H).get? b = some o := fun e n => hidT_get e n
    have noA : ∀ {b : Addr} {o : Obj} {es : Array DictEntry} {ep : Nat}, s₁.heap.get? b = some o → o.data = .dict es ep → H b = none := fun {b o es ep} e d => by
      cases q : H b with
      | none => rfl
      | some u =>
        have e' : b = a := hA b (by rw [q]; simp)
        subst e'
        rw [ha] at e; cases e
        have d' : Data.seq vs.toArray _ = Data.dict es ep := d
        cases d'
    have nsK : ∀ {b : Addr} {m : Str → Option Value}, s₁.heap.Ns b m → (hidT s₁.heap H).Ns b m := fun {b m} ⟨o, es, ep, e, d, r⟩ => ⟨o, es, ep, base_of e (noA e d), d, r⟩
    have hKb : K.In (hidT s₁.heap H) := fun b o e => base_of (KX b o e) (by
      cases q : H b with
      | none => rfl
      | some u =>
        have e' : b = a := hA b (by rw [q]; simp)
        subst e'
        rw [hK (by rw [q]; simp)] at e; cases e)
    have hM : Mod K mg (hidT s₁.heap H) := ⟨hKb, nsK hns, ⟨mb, nsK hb, hbb⟩, let ⟨mc, h1, h2⟩ := hlim; ⟨mc, nsK h1, h2⟩⟩
    have e0 : Env0 P w K mg (hidT s₁.heap H) callerA [] s₁ H := ⟨rfl, hM, fun b o e => of_hidT e, Nat.le_of_eq (hidT_size _ _), trivial, fun b hb => absurd (show b ∈ ([] : List Addr) from hb) (by simp), hok, .of_eq hg⟩
    refine codeAny_mono ((F _ hKb (nsK hns)).run callerA [] s₁ H ⟨[.ref a], []⟩ [.ref a] [.ref a] _ _ hr e0 (hbind s₁ (.ref a)) (.cons rfl .nil) (hsp H hO hS)) fun r s' h => ?_
    cases r with
    | error e => exact (hCX H e s' h).elim
    | ok fl =>
      cases fl with
      | next => exact False.elim h
      | brk => exact False.elim h
      | cont => exact False.elim h
      | ret u =>
        obtain ⟨v, H', os, bare, un, hok', r', q⟩ := h
        have q' : v = .bl true := q
        subst q'
        obtain rfl : u = Value.bool true := r'
        refine ⟨rfl, OldK.of_keep fun b o e => ?_, os, bare⟩
        cases q : H b with
        | none => exact un.keep b o e q (by intro z; exact absurd (show b ∈ ([] : List Addr) from z) (by simp)) (by simp)
        | some u =>
          rcases hO b with z | ⟨ob, xs, z⟩
          · rw [q] at z; cases z
          · have z2 := un.frzs b ob _ z
            obtain ⟨e1, _⟩ := hok b _ z
            obtain ⟨e2, _⟩ := hok' b _ z2
            rw [e] at e1; cases e1
            exact e2
  cases hk : K.lookup a with
  | some o =>
    -- the script is one of the module's own objects
    have e := KX a o hk
    rw [ha] at e
    cases e
    refine core (fun _ => none) (fun _ => .inl rfl) (.inr ⟨_, vs.toArray, _, hk, rfl, rfl, rfl, by rw [List.size_toArray, lenV]; exact hl, by simpa using rv⟩) (fun b u z => by have z' : (none : Option HO) = some u := z; cases z') (fun b z => absurd rfl z) fun z => absurd rfl z
  | none =>
    refine core (fun b => if b = a then some (.frz { cls := .type "list", data := .seq vs.toArray } (.lst (ns.map V.int))) else none) (fun b => ?_) (.inl (.inr ⟨{ cls := .type "list", data := .seq vs.toArray }, if_pos rfl⟩)) (fun b u z => ?_) (fun b z => ?_) fun _ => hk
    · by_cases hb : b = a
      · exact .inr ⟨_, _, if_pos hb⟩
      · exact .inl (if_neg hb)
    · by_cases hb : b = a
      · have z' := (if_pos hb).symm.trans z
        cases z'
        subst hb
        exact ⟨ha, by rw [List.length_map]; exact hl, vs, _, rv, ha⟩
      · have z' := (if_neg hb).symm.trans z
        cases z'
    · by_cases hb : b = a
      · exact hb
      · exact absurd (if_neg hb) z
end L2

namespace L2
open PySem PySem.Spec PyProof.Rows

abbrev KOf {K : PySem.W.Frag} {h : Heap} (_ : K.In h) : PySem.W.Frag := K

theorem walk_of {l : PySem.W.OpenLaw} {n k : Nat} {q : Program} {loose : List Str} {XP : (Str → Option Value) → Heap → Prop} {YP : World → Heap → Prop} {d : DefRec} {K : Params → PySem.W.Frag} {CX : World → CXT} {sp : World → Sp} {x : Str}
    (hn : l.most = some n) (hn2 : n ≤ sizeLine) (hdf : d.params.defaults = []) (hr : Room k callerA)
    (hY : ∀ (w : World) (h : Heap), YP w h → (K w.params).In h)
    (F : ∀ (w : World) (mg : Str → Option Value) (fa : Addr) (h : Heap), (K w.params).In h → h.Ns mainGlobals mg → mg d.name = some (.ref fa) →
      ∃ fd : FuncData, (∀ (s : Shared) (u : Value), BindsTo s fd ⟨[u], []⟩ [(x, u)]) ∧
        ∀ base : Heap, (K w.params).In base → base.Ns mainGlobals mg → FnOk l.prog w (K w.params) mg base (CX w) k fa fd [x] (sp w))
    (hsp : ∀ (w : World) (H : Hp) (a : Addr) (ns : List Int), ns.length ≤ n → Only H → SqL (K w.params) H a (ns.map V.int) → sp w [.ref a] H (fun v _ => v = .bl true) fun _ _ _ => False)
    (hCX : ∀ (w : World) (H : Hp) (s : Shared) (e : Value) (s' : Shared), CX w [] H s (fun _ _ _ => False) e s' → False) :
    PySem.W.WalkO q loose XP YP l.row.toRowW d [] (fun f vs => PySem.call f vs) := by
  refine Att.attach_call hn hdf fun w s₀ s₁ mg mb fa o pm cd doc a vs ns G Y ho hd hcd hmg hobj hints hlen hg => ?_
  have KX := hY w _ Y
  obtain ⟨fd, hb, hF⟩ := F w mg fa _ KX G.T.g hmg
  exact law_call KX G.T.g G.T.b G.T.builtins G.T.nolimit hg hobj hints (Nat.le_trans hlen hn2) hr hF hb (fun H hO hS => hsp w H a ns hlen hO hS) fun H e s' => hCX w H s₁ e s'
theorem walk_ofK {l : PySem.W.OpenLaw} {n k : Nat} {q : Program} {loose : List Str} {XP : (Str → Option Value) → Heap → Prop} {YP : World → Heap → Prop} {d : DefRec} {K : Params → PySem.W.Frag} {CX : CXT} {sp : PySem.W.Frag → Sp} {x : Str}
    (hn : l.most = some n) (hn2 : n ≤ sizeLine) (hdf : d.params.defaults = []) (hr : Room k callerA)
    (hY : ∀ (w : World) (h : Heap), YP w h → (K w.params).In h)
    (F : ∀ (w : World) (mg : Str → Option Value) (fa : Addr) (h : Heap), (K w.params).In h → h.Ns mainGlobals mg → mg d.name = some (.ref fa) →
      ∃ fd : FuncData, (∀ (s : Shared) (u : Value), BindsTo s fd ⟨[u], []⟩ [(x, u)]) ∧
        ∀ base : Heap, (K w.params).In base → base.Ns mainGlobals mg → FnOk l.prog w (K w.params) mg base CX k fa fd [x] (sp (K w.params)))
    (hsp : ∀ (K : PySem.W.Frag) (H : Hp) (a : Addr) (ns : List Int), ns.length ≤ n → Only H → SqL K H a (ns.map V.int) → sp K [.ref a] H (fun v _ => v = .bl true) fun _ _ _ => False)
    (hCX : ∀ (H : Hp) (s : Shared) (e : Value) (s' : Shared), CX [] H s (fun _ _ _ => False) e s' → False) :
    PySem.W.WalkO q loose XP YP l.row.toRowW d [] (fun f vs => PySem.call f vs) :=
  walk_of (K := K) (CX := fun _ => CX) (sp := fun w => sp (K w.params)) hn hn2 hdf hr hY F (fun w H a ns h1 h2 h3 => hsp (K w.params) H a ns h1 h2 h3) fun _ H s e s' => hCX H s e s'
end L2

namespace L2
open PySem PySem.Spec PyProof.Rows

def inClass (s : Stmt) (j : Nat) : Stmt := match s with
  | .ClassDef _ _ _ body _ _ _ _ _ _ _ => body.getD j (.Pass ⟨0, 0, 0, 0⟩)
  | _ => .Pass ⟨0, 0, 0, 0⟩
def defArgs (s : Stmt) : Arguments := match s with
  | .FunctionDef _ a _ _ _ _ _ _ _ _ => a
  | _ => { posonlyargs := [], args := [], vararg := none, kwonlyargs := [], kw_defaults := [], kwarg := none, defaults := [] }
def defBody (s : Stmt) : List Stmt := match s with
  | .FunctionDef _ _ b _ _ _ _ _ _ _ => b
  | _ => []
def defScope (s : Stmt) : Scope := match s with
  | .FunctionDef _ _ _ _ _ _ sc _ _ _ => sc
  | _ => { kind := .function, names := [], isGenerator := false, isCoroutine := false }

abbrev CX0 : CXT := fun _ _ _ _ _ _ => False
abbrev E0 : XK := fun _ _ _ => False
theorem pass0 {X : Cx} : Passes CX0 X E0 := fun _ _ _ _ _ _ _ h => h.elim

structure Fun (K : PySem.W.Frag) (x qual : Str) (st : Stmt) (f : Addr) (fd : FuncData) : Prop where
  ex : ∃ (oc : Value) (od : Option Addr) (kV doc pm : Value) (an : Option Addr) (cdv ct : Value) (osl : Array (Option Value)),
    fd = PySem.W.fnOf x qual (defArgs st) (defBody st) (defScope st) .none kV doc pm an cdv ct ∧ K.lookup f = some ⟨oc, od, .func fd, osl⟩ ∧ PySem.W.codeIn K cdv qual = true
  kp : PySem.W.keepIn K (.ref f) = true
section
variable {P : Program} {w : World} {K : PySem.W.Frag} {mg : Str → Option Value} {base : Heap}
theorem Fun.ok {x qual : Str} {st : Stmt} {f : Addr} {fd : FuncData} {N ps : List Str} {k : Nat} {sp : Sp} (F : Fun K x qual st f fd) (S : FnScope N ps (defScope st)) (len : ∀ vs H Q E, sp vs H Q E → vs.length = ps.length)
    (hbody : ∀ (cdv : Value) (A : Around) (outer : List Env) (s : Shared) (H : Hp) (vs : List V) (Q : VK) (E : XK), Room k (A.deeper (envOfC qual (defScope st) s.heap.objs.size f cdv)) → sp vs H Q E →
      ∃ t, PSs (cxOf CX0 P w K mg base N qual (defScope st) f cdv A outer s H E).nox (defBody st) t ∧ t { nx := fun _ H' => Q .non H', rt := Q } (start N vs) H) : FnOk P w K mg base CX0 (k + 1) f fd ps sp := by
  obtain ⟨oc, od, kV, doc, pm, an, cdv, ct, osl, rfl, lk, hcd⟩ := F.ex
  refine fn_of lk hcd S len fun A outer s H vs Q E hr hsp => ?_
  obtain ⟨t, h, q⟩ := hbody cdv A outer s H vs Q E hr hsp
  exact ⟨t, h.nox, q⟩
theorem Fun.binds {x qual : Str} {st : Stmt} {f : Addr} {fd : FuncData} {ps : List Str} (F : Fun K x qual st f fd)
    (h : ∀ (kV doc pm : Value) (an : Option Addr) (cdv ct : Value) (us : List Value), us.length = ps.length → bindArgs (PySem.W.fnOf x qual (defArgs st) (defBody st) (defScope st) .none kV doc pm an cdv ct) ⟨us, []⟩ = pure (ps.zip us)) : Binds K fd ps [] := by
  obtain ⟨oc, od, kV, doc, pm, an, cdv, ct, osl, rfl, lk, hcd⟩ := F.ex
  exact .all (h kV doc pm an cdv ct)
theorem fun_mk {x qual : Str} {st : Stmt} {f : Addr} {oc : Value} {od an : Option Addr} {osl : Array (Option Value)} {kV doc pm cdv ct : Value} (l : K.lookup f = some ⟨oc, od, .func (PySem.W.fnOf x qual (defArgs st) (defBody st) (defScope st) .none kV doc pm an cdv ct), osl⟩)
    (c : PySem.W.codeIn K cdv qual = true) (k : PySem.W.keepIn K (.ref f) = true) : Fun K x qual st f (PySem.W.fnOf x qual (defArgs st) (defBody st) (defScope st) .none kV doc pm an cdv ct) := ⟨⟨oc, od, kV, doc, pm, an, cdv, ct, osl, rfl, l, c⟩, k⟩
end
theorem hu_of {A : Around} {k : Nat} (hr : Room k A) : A.units + 1 < cLine := Nat.lt_of_le_of_lt (Nat.add_le_add_left (by decide : 1 ≤ 64) _) hr.units
theorem small1000 {n : Nat} (h : n ≤ 1000) : n < sizeLine := Nat.lt_of_le_of_lt h (by decide)

section
variable {X : Cx}
theorem pv (i : Nat) {x : Str} {pos : Pos} (hN : X.N[i]? = some x := by rfl) (hv : Vis X.env.scope x := by first | exact Or.inl rfl | exact Or.inr (Or.inl rfl) | exact Or.inr (Or.inr rfl)) (hd : (x == ("__debug__" : Str)) = false := by decide)
    (hcd : (x == ("__classdict__" : Str)) = false := by decide) : PE X (.Name x pos) (tVar i) := pe_var hN hv hd hcd
theorem call_lenD : CallR X (.builtin "len") (fun xs H Q => ∃ a kvs, xs = [V.ref a] ∧ H a = some (.dK kvs) ∧ Q (.int kvs.length) H) := by
  intro pins s σ H xs us Q I r h
  obtain ⟨a, kvs, rfl, ha, q⟩ := h
  obtain ⟨u, rfl, ru⟩ := vals1 r
  cases ru
  exact d_len I (.inl ha) fun t s' I' => ⟨.int kvs.length, H, I', ⟨t, rfl⟩, q⟩
end

theorem iteF {A B : Prop} (h : B) : if false = true then A else B := by
  rw [if_neg Bool.false_ne_true]
  exact h
theorem iteT {A B : Prop} (h : A) : if true = true then A else B := by
  rw [if_pos rfl]
  exact h
theorem ite2 {c A B : Prop} [Decidable c] (h1 : c → A) (h2 : ¬ c → B) : if c then A else B := by
  by_cases h : c
  · rw [if_pos h]
    exact h1 h
  · rw [if_neg h]
    exact h2 h
theorem iteNS {c A B : Prop} [Decidable c] (hc : c) (h : B) : if (!decide c) = true then A else B := by
  rw [decide_eq_true hc]
  exact iteF h

def Same (H H' : Hp) : Prop := ∀ b o, H b = some o → H' b = some o
theorem Same.refl (H : Hp) : Same H H := fun _ _ h => h
theorem Same.trans {H H1 H2 : Hp} (a : Same H H1) (b : Same H1 H2) : Same H H2 := fun c o h => b c o (a c o h)
theorem Same.free {H H' : Hp} (e : Same H H') {l : Addr} (h : H' l = Option.none) : H l = Option.none := by
  cases q : H l with
  | none => rfl
  | some o =>
    rw [e l o q] at h
    cases h
theorem Same.seq {K : PySem.W.Frag} {H H' : Hp} {a : Addr} {xs : List V} (e : Same H H') (h : SqL K H a xs) : SqL K H' a xs := by
  rcases h with (h | ⟨o, h⟩) | h
  · exact .inl (.inl (e _ _ h))
  · exact .inl (.inr ⟨o, e _ _ h⟩)
  · exact .inr h

section
variable {κ : Type} [DecidableEq κ]
theorem valV_not {kvs : List (κ × V)} {k : κ} (h : valV kvs k = none) : ¬ k ∈ kvs.map (·.1) := by
  intro m
  obtain ⟨p, hp, e⟩ := List.mem_map.mp m
  have q : (kvs.any fun kv => decide (kv.1 = k)) = true := List.any_eq_true.mpr ⟨p, hp, decide_eq_true e⟩
  rw [valV_any, h] at q
  exact absurd q (by simp)
theorem valV_in {kvs : List (κ × V)} {k : κ} {v : V} (h : valV kvs k = some v) : k ∈ kvs.map (·.1) := by
  have q : (kvs.any fun kv => decide (kv.1 = k)) = true := by
    rw [valV_any, h]
    all_goals rfl
  obtain ⟨p, hp, e⟩ := List.any_eq_true.mp q
  exact List.mem_map.mpr ⟨p, hp, of_decide_eq_true e⟩
theorem nd_snoc : ∀ {l : List κ} {k : κ}, l.Nodup → ¬ k ∈ l → (l ++ [k]).Nodup
  | [], k, _, _ => by simp
  | a :: r, k, h, hk => by
    obtain ⟨h1, h2⟩ := List.nodup_cons.mp h
    show (a :: (r ++ [k])).Nodup
    refine List.nodup_cons.mpr ⟨fun m => ?_, nd_snoc h2 fun m => hk (List.mem_cons.mpr (Or.inr m))⟩
    rcases List.mem_append.mp m with q | q
    · exact h1 q
    · exact hk (List.mem_cons.mpr (Or.inl (List.mem_singleton.mp q).symm))
theorem nd_putK {kvs : List (κ × V)} {k : κ} (v : V) (hn : (kvs.map (·.1)).Nodup) (h : valV kvs k = none) : ((putK kvs k v).map (·.1)).Nodup := by
  rw [putK_new v h, List.map_append]
  exact nd_snoc hn (valV_not h)
theorem dropK_pos {p : κ × V} {r : List (κ × V)} {k : κ} (e : p.1 = k) : dropK (p :: r) k = dropK r k := by
  unfold dropK
  rw [List.filter_cons, if_neg (by simp [e])]
theorem dropK_neg {p : κ × V} {r : List (κ × V)} {k : κ} (e : ¬ p.1 = k) : dropK (p :: r) k = p :: dropK r k := by
  unfold dropK
  rw [List.filter_cons, if_pos (by simp [e])]
theorem dropK_no : ∀ {kvs : List (κ × V)} {k : κ}, ¬ k ∈ kvs.map (·.1) → dropK kvs k = kvs
  | [], _, _ => rfl
  | p :: r, k, h => by
    have h' : ¬ k ∈ r.map (·.1) := fun m => by
      obtain ⟨q, hq, e⟩ := List.mem_map.mp m
      exact h (List.mem_map.mpr ⟨q, List.mem_cons.mpr (Or.inr hq), e⟩)
    rw [dropK_neg fun e => h (List.mem_map.mpr ⟨p, List.mem_cons.mpr (Or.inl rfl), e⟩), dropK_no h']
theorem dropK_mem {kvs : List (κ × V)} {k : κ} {p : κ × V} (h : p ∈ dropK kvs k) : p ∈ kvs := (List.mem_filter.mp h).1
theorem nd_dropK : ∀ {kvs : List (κ × V)} {k : κ}, (kvs.map (·.1)).Nodup → ((dropK kvs k).map (·.1)).Nodup
  | [], _, _ => List.nodup_nil
  | p :: r, k, h => by
    have h : (p.1 :: r.map (·.1)).Nodup := h
    obtain ⟨h1, h2⟩ := List.nodup_cons.mp h
    by_cases e : p.1 = k
    · rw [dropK_pos e]
      exact nd_dropK h2
    · rw [dropK_neg e]
      show (p.1 :: (dropK r k).map (·.1)).Nodup
      refine List.nodup_cons.mpr ⟨fun m => h1 ?_, nd_dropK h2⟩
      obtain ⟨q, hq, eq⟩ := List.mem_map.mp m
      exact List.mem_map.mpr ⟨q, dropK_mem hq, eq⟩
theorem dropK_len : ∀ {kvs : List (κ × V)} {k : κ}, (kvs.map (·.1)).Nodup → k ∈ kvs.map (·.1) → (dropK kvs k).length + 1 = kvs.length
  | [], _, _, m => by simp at m
  | p :: r, k, h, m => by
    have h : (p.1 :: r.map (·.1)).Nodup := h
    have m : k = p.1 ∨ k ∈ r.map (·.1) := List.mem_cons.mp m
    obtain ⟨h1, h2⟩ := List.nodup_cons.mp h
    by_cases e : p.1 = k
    · subst e
      rw [dropK_pos rfl, dropK_no h1]
      all_goals rfl
    · have m' : k ∈ r.map (·.1) := m.resolve_left fun z => e z.symm
      have q := dropK_len h2 m'
      rw [dropK_neg e, List.length_cons, List.length_cons]
      omega
end
end L2

namespace M
def ir (n : Nat) : List Int := (List.range n).map fun (i : Nat) => (i : Int)
theorem ir_succ (n : Nat) : ir (n + 1) = ir n ++ [(n : Int)] := by unfold ir; rw [List.range_succ, List.map_append]; rfl
theorem ir_len (n : Nat) : (ir n).length = n := by unfold ir; simp
theorem mem_ir {n : Nat} {x : Int} : x ∈ ir n ↔ 0 ≤ x ∧ x < n := by
  unfold ir
  rw [List.mem_map]
  constructor
  · rintro ⟨i, hi, rfl⟩
    have := List.mem_range.mp hi
    omega
  · rintro ⟨h1, h2⟩
    exact ⟨x.toNat, List.mem_range.mpr (by omega), by omega⟩
theorem ir_lt (n : Nat) : (ir n).Pairwise (· < ·) := by
  induction n with
  | zero => exact List.Pairwise.nil
  | succ n ih =>
    rw [ir_succ, List.pairwise_append]
    refine ⟨ih, List.pairwise_singleton _ _, fun a ha b hb => ?_⟩
    have h1 := mem_ir.mp ha
    rw [List.mem_singleton] at hb
    omega
theorem ir_get {n i : Nat} (h : i < n) : (ir n)[i]? = some (i : Int) := by
  unfold ir
  rw [List.getElem?_map, List.getElem?_range h]
  rfl

structure IsSet (n : Nat) (ms : List Int) : Prop where
  up : ms.Pairwise (· < ·)
  lo : ∀ x ∈ ms, 0 ≤ x
  hi : ∀ x ∈ ms, x < n
theorem IsSet.mono {n m : Nat} {ms : List Int} (h : IsSet n ms) (hm : n ≤ m) : IsSet m ms := ⟨h.up, h.lo, fun x hx => by have := h.hi x hx; omega⟩
theorem pw_ext : ∀ {l m : List Int}, l.Pairwise (· < ·) → m.Pairwise (· < ·) → (∀ x, x ∈ l ↔ x ∈ m) → l = m
  | [], [], _, _, _ => rfl
  | [], b :: m, _, _, h => absurd ((h b).mpr List.mem_cons_self) (by simp)
  | a :: l, [], _, _, h => absurd ((h a).mp List.mem_cons_self) (by simp)
  | a :: l, b :: m, h1, h2, h => by
    obtain ⟨u1, u2⟩ := List.pairwise_cons.mp h1
    obtain ⟨v1, v2⟩ := List.pairwise_cons.mp h2
    have e : a = b := by
      rcases List.mem_cons.mp ((h a).mp List.mem_cons_self) with q | q
      · exact q
      · rcases List.mem_cons.mp ((h b).mpr List.mem_cons_self) with r | r
        · exact r.symm
        · have := u1 b r; have := v1 a q; omega
    subst e
    congr 1
    refine pw_ext u2 v2 fun x => ⟨fun hx => ?_, fun hx => ?_⟩
    · rcases List.mem_cons.mp ((h x).mp (List.mem_cons_of_mem _ hx)) with q | q
      · subst q; exact absurd (u1 x hx) (by omega)
      · exact q
    · rcases List.mem_cons.mp ((h x).mpr (List.mem_cons_of_mem _ hx)) with q | q
      · subst q; exact absurd (v1 x hx) (by omega)
      · exact q
theorem IsSet.eq_filter {n : Nat} {ms : List Int} (h : IsSet n ms) : ms = (ir n).filter fun x => decide (x ∈ ms) := by
  refine pw_ext h.up (List.Pairwise.filter _ (ir_lt n)) fun x => ?_
  rw [List.mem_filter, mem_ir, decide_eq_true_iff]
  exact ⟨fun hx => ⟨⟨h.lo x hx, h.hi x hx⟩, hx⟩, fun hx => hx.2⟩
theorem IsSet.len {n : Nat} {ms : List Int} (h : IsSet n ms) : ms.length ≤ n := by
  rw [h.eq_filter]
  exact Nat.le_trans (List.length_filter_le _ _) (Nat.le_of_eq (ir_len n))

abbrev PS := List Int × List (Int × Int)
def stp (ms : List Int) (st : PS) (t : Int) : PS :=
  if t ∈ ms then (match st.1.getLast? with | none => st | some a => (st.1.dropLast, st.2 ++ [(a, t)])) else (st.1 ++ [t], st.2)
def pst (ms : List Int) : Nat → PS
  | 0 => ([], [])
  | i + 1 => stp ms (pst ms i) (i : Int)
theorem pst_succ (ms : List Int) (i : Nat) : pst ms (i + 1) = stp ms (pst ms i) (i : Int) := rfl
theorem stp_out {ms : List Int} {st : PS} {t : Int} (h : t ∉ ms) : stp ms st t = (st.1 ++ [t], st.2) := by unfold stp; rw [if_neg h]
theorem stp_nil {ms : List Int} {p : List (Int × Int)} {t : Int} (h : t ∈ ms) : stp ms ([], p) t = ([], p) := by unfold stp; rw [if_pos h]; rfl
theorem stp_pop {ms : List Int} {w : List Int} {a : Int} {p : List (Int × Int)} {t : Int} (h : t ∈ ms) : stp ms (w ++ [a], p) t = (w, p ++ [(a, t)]) := by
  unfold stp; rw [if_pos h]; simp
def fst' (ps : List (Int × Int)) : List Int := ps.map (·.1)
def snd' (ps : List (Int × Int)) : List Int := ps.map (·.2)
structure PInv (ms : List Int) (i : Nat) (st : PS) : Prop where
  wait : st.1 = (ir i).filter fun k => decide (k ∉ ms ∧ k ∉ fst' st.2)
  pr : ∀ p ∈ st.2, 0 ≤ p.1 ∧ p.1 < p.2 ∧ p.2 < i ∧ p.1 ∉ ms ∧ p.2 ∈ ms
  sn : (snd' st.2).Pairwise (· < ·)
  nd : (fst' st.2).Nodup
theorem last_cases (l : List Int) : l = [] ∨ ∃ w a, l = w ++ [a] := by
  rcases List.eq_nil_or_concat l with h | ⟨w, a, h⟩
  · exact .inl h
  · exact .inr ⟨w, a, by rw [h, List.concat_eq_append]⟩
theorem PInv.wmem {ms : List Int} {i : Nat} {st : PS} (h : PInv ms i st) {k : Int} : k ∈ st.1 ↔ (0 ≤ k ∧ k < i) ∧ k ∉ ms ∧ k ∉ fst' st.2 := by
  rw [h.wait, List.mem_filter, mem_ir, decide_eq_true_iff]
theorem PInv.wlt {ms : List Int} {i : Nat} {st : PS} (h : PInv ms i st) : st.1.Pairwise (· < ·) := by
  rw [h.wait]; exact List.Pairwise.filter _ (ir_lt i)
theorem pst_inv (ms : List Int) : ∀ i, PInv ms i (pst ms i)
  | 0 => ⟨rfl, (fun p hp => nomatch hp), List.Pairwise.nil, List.nodup_nil⟩
  | i + 1 => by
    have ih := pst_inv ms i
    rw [pst_succ]
    have hfi : ∀ k ∈ fst' (pst ms i).2, k < i := fun k hk => by
      obtain ⟨p, hp, rfl⟩ := List.mem_map.mp hk
      have := ih.pr p hp
      omega
    by_cases hm : (i : Int) ∈ ms
    · rcases last_cases (pst ms i).1 with e | ⟨w, a, e⟩
      · have e2 : pst ms i = ([], (pst ms i).2) := Prod.ext e rfl
        rw [e2, stp_nil hm]
        refine ⟨?_, fun p hp => ?_, ih.sn, ih.nd⟩
        · have hw := ih.wait
          rw [e] at hw
          dsimp only
          rw [ir_succ, List.filter_append, ← hw]
          simp [hm]
        · have := ih.pr p hp
          refine ⟨this.1, this.2.1, ?_, this.2.2.2⟩
          have := this.2.2.1
          omega
      · have e2 : pst ms i = (w ++ [a], (pst ms i).2) := Prod.ext e rfl
        have ha : a ∈ (pst ms i).1 := by rw [e]; simp
        have ha' := ih.wmem.mp ha
        have hlt := ih.wlt
        rw [e, List.pairwise_append] at hlt
        rw [e2, stp_pop hm]
        have ef : fst' ((pst ms i).2 ++ [(a, (i : Int))]) = fst' (pst ms i).2 ++ [a] := by unfold fst'; simp
        refine ⟨?_, fun p hp => ?_, ?_, ?_⟩
        · dsimp only
          rw [ef, ir_succ, List.filter_append]
          have e3 : ([(i : Int)].filter fun k => decide (k ∉ ms ∧ k ∉ fst' (pst ms i).2 ++ [a])) = [] := by simp [hm]
          rw [e3, List.append_nil]
          have e4 : ((ir i).filter fun k => decide (k ∉ ms ∧ k ∉ fst' (pst ms i).2 ++ [a])) = (((ir i).filter fun k => decide (k ∉ ms ∧ k ∉ fst' (pst ms i).2)).filter fun k => decide (k ≠ a)) := by
            rw [List.filter_filter]
            refine List.filter_congr fun k _ => ?_
            rw [← Bool.decide_and]
            refine decide_eq_decide.mpr ?_
            rw [List.mem_append, List.mem_singleton]
            constructor
            · rintro ⟨h1, h2⟩
              exact ⟨fun z => h2 (.inr z), h1, fun z => h2 (.inl z)⟩
            · rintro ⟨h1, h2, h3⟩
              exact ⟨h2, fun z => z.elim h3 h1⟩
          rw [e4, ← ih.wait, e, List.filter_append]
          have e5 : ([a].filter fun k => decide (k ≠ a)) = [] := by simp
          have e6 : (w.filter fun k => decide (k ≠ a)) = w := by
            refine List.filter_eq_self.mpr fun k hk => ?_
            have := hlt.2.2 k hk a (by simp)
            exact decide_eq_true (by omega)
          rw [e5, e6, List.append_nil]
        · dsimp only at hp
          rcases List.mem_append.mp hp with hp | hp
          · have := ih.pr p hp
            refine ⟨this.1, this.2.1, ?_, this.2.2.2⟩
            have := this.2.2.1
            omega
          · rw [List.mem_singleton] at hp
            subst hp
            refine ⟨ha'.1.1, ha'.1.2, ?_, ha'.2.1, hm⟩
            show (i : Int) < ((i + 1 : Nat) : Int)
            omega
        · have es : snd' ((pst ms i).2 ++ [(a, (i : Int))]) = snd' (pst ms i).2 ++ [(i : Int)] := by unfold snd'; simp
          dsimp only
          rw [es, List.pairwise_append]
          refine ⟨ih.sn, List.pairwise_singleton _ _, fun x hx y hy => ?_⟩
          rw [List.mem_singleton] at hy
          subst hy
          obtain ⟨p, hp, rfl⟩ := List.mem_map.mp hx
          exact (ih.pr p hp).2.2.1
        · dsimp only
          rw [ef, List.nodup_append]
          refine ⟨ih.nd, List.pairwise_singleton _ _, fun x hx y hy => ?_⟩
          rw [List.mem_singleton] at hy
          subst hy
          intro z
          subst z
          exact ha'.2.2 hx
    · rw [stp_out hm]
      refine ⟨?_, fun p hp => ?_, ih.sn, ih.nd⟩
      · dsimp only
        rw [ir_succ, List.filter_append, ← ih.wait]
        congr 1
        have : (i : Int) ∉ fst' (pst ms i).2 := fun z => by have := hfi _ z; omega
        simp [hm, this]
      · have := ih.pr p hp
        refine ⟨this.1, this.2.1, ?_, this.2.2.2⟩
        have := this.2.2.1
        omega
theorem pst_wlen (ms : List Int) (i : Nat) : (pst ms i).1.length ≤ i := by
  rw [(pst_inv ms i).wait]
  exact Nat.le_trans (List.length_filter_le _ _) (Nat.le_of_eq (ir_len i))
theorem pst_plen (ms : List Int) : ∀ i, (pst ms i).2.length ≤ i
  | 0 => Nat.le_refl _
  | i + 1 => by
    have ih := pst_plen ms i
    rw [pst_succ]
    unfold stp
    split
    · split
      · omega
      · simp; omega
    · show (pst ms i).2.length ≤ i + 1
      omega
theorem pst_skip {ms : List Int} : ∀ {i j : Nat}, i ≤ j → (∀ k ∈ ms, k < i ∨ (j : Int) ≤ k) → (pst ms j).2 = (pst ms i).2
  | i, 0, h, _ => by have : i = 0 := by omega
                     subst this; rfl
  | i, j + 1, h, hk => by
    by_cases e : i = j + 1
    · subst e; rfl
    · have ih : (pst ms j).2 = (pst ms i).2 := pst_skip (by omega) fun k hk' => by rcases hk k hk' with q | q <;> omega
      rw [pst_succ, stp_out fun z => by rcases hk _ z with q | q <;> omega]
      exact ih
end M

namespace M
def leP (a b : Int × Int) : Prop := a.1 < b.1 ∨ (a.1 = b.1 ∧ a.2 ≤ b.2)
instance (a b : Int × Int) : Decidable (leP a b) := inferInstanceAs (Decidable (_ ∨ _))
theorem leP_refl (a : Int × Int) : leP a a := .inr ⟨rfl, Int.le_refl _⟩
theorem leP_trans {a b c : Int × Int} (h1 : leP a b) (h2 : leP b c) : leP a c := by unfold leP at *; omega
theorem leP_total (a b : Int × Int) : leP a b ∨ leP b a := by unfold leP; omega
theorem leP_anti {a b : Int × Int} (h1 : leP a b) (h2 : leP b a) : a = b := by
  unfold leP at *
  exact Prod.ext (by omega) (by omega)
def insP (a : Int × Int) : List (Int × Int) → List (Int × Int)
  | [] => [a]
  | b :: r => if leP a b then a :: b :: r else b :: insP a r
def sortP (l : List (Int × Int)) : List (Int × Int) := l.foldr insP []
theorem insP_perm (a : Int × Int) : ∀ l, (insP a l).Perm (a :: l)
  | [] => List.Perm.refl _
  | b :: r => by
    unfold insP
    split
    · exact List.Perm.refl _
    · exact (List.Perm.cons b (insP_perm a r)).trans (List.Perm.swap a b r)
theorem sortP_perm : ∀ l, (sortP l).Perm l
  | [] => List.Perm.refl _
  | a :: r => (insP_perm a (sortP r)).trans (List.Perm.cons a (sortP_perm r))
theorem insP_up (a : Int × Int) : ∀ l, l.Pairwise leP → (insP a l).Pairwise leP
  | [], _ => List.pairwise_singleton _ _
  | b :: r, h => by
    obtain ⟨h1, h2⟩ := List.pairwise_cons.mp h
    unfold insP
    split
    · rename_i hab
      refine List.pairwise_cons.mpr ⟨fun x hx => ?_, h⟩
      rcases List.mem_cons.mp hx with rfl | hx
      · exact hab
      · exact leP_trans hab (h1 x hx)
    · rename_i hab
      refine List.pairwise_cons.mpr ⟨fun x hx => ?_, insP_up a r h2⟩
      rcases List.mem_cons.mp ((insP_perm a r).mem_iff.mp hx) with rfl | hx
      · exact (leP_total x b).resolve_left hab
      · exact h1 x hx
theorem sortP_up : ∀ l, (sortP l).Pairwise leP
  | [] => List.Pairwise.nil
  | a :: r => insP_up a _ (sortP_up r)
theorem perm_uniq {α : Type} {le : α → α → Prop} (anti : ∀ a b, le a b → le b a → a = b) : ∀ {a b : List α}, a.Perm b → a.Pairwise le → b.Pairwise le → a = b
  | [], _, p, _, _ => p.nil_eq
  | x :: r, [], p, _, _ => absurd p.length_eq (by simp)
  | x :: r, y :: t, p, ha, hb => by
    obtain ⟨a1, a2⟩ := List.pairwise_cons.mp ha
    obtain ⟨b1, b2⟩ := List.pairwise_cons.mp hb
    have e : x = y := by
      rcases List.mem_cons.mp (p.mem_iff.mp List.mem_cons_self) with h | h
      · exact h
      · rcases List.mem_cons.mp (p.mem_iff.mpr List.mem_cons_self) with h' | h'
        · exact h'.symm
        · exact anti _ _ (a1 y h') (b1 x h)
    subst e
    rw [perm_uniq anti (List.Perm.cons_inv p) a2 b2]
theorem sortP_uniq {l m : List (Int × Int)} (p : m.Perm l) (h : m.Pairwise leP) : m = sortP l := perm_uniq (fun _ _ => leP_anti) (p.trans (sortP_perm l).symm) h (sortP_up l)
theorem sortP_len (l : List (Int × Int)) : (sortP l).length = l.length := (sortP_perm l).length_eq

def prs (n : Nat) (ms : List Int) : List (Int × Int) := sortP (pst ms n).2
theorem prs_len (n : Nat) (ms : List Int) : (prs n ms).length ≤ n := by unfold prs; rw [sortP_len]; exact pst_plen ms n

structure LInv (ms : List Int) (i : Nat) (found : List (Int × Int)) : Prop where
  ex : ∃ b : Nat, (∀ k ∈ ms.take i, k < b) ∧ (∀ k ∈ ms.drop i, (b : Int) ≤ k) ∧ found = (pst ms b).2
theorem linv_zero {n : Nat} {ms : List Int} (h : IsSet n ms) : LInv ms 0 [] := ⟨0, by simp, fun k hk => h.lo k hk, rfl⟩
theorem linv_end {n : Nat} {ms : List Int} {found : List (Int × Int)} (h : IsSet n ms) (hl : LInv ms ms.length found) : found = (pst ms n).2 := by
  obtain ⟨b, h1, h2, rfl⟩ := hl.ex
  rw [List.take_length] at h1
  have := fun i j => @pst_skip ms i j
  rcases Nat.le_total b n with q | q
  · exact (pst_skip q fun k hk => .inl (h1 k hk)).symm
  · exact pst_skip q fun k hk => .inl (h.hi k hk)
def lfree (ms : List Int) (found : List (Int × Int)) (t : Int) : List Int := (ir t.toNat).filter fun k => decide (k ∉ ms ∧ k ∉ fst' found)
theorem linv_turn {n : Nat} {ms : List Int} {found : List (Int × Int)} {i : Nat} {t : Int} (h : IsSet n ms) (hl : LInv ms i found) (hi : ms[i]? = some t) :
    (lfree ms found t = [] → LInv ms (i + 1) found) ∧ ∀ w a, lfree ms found t = w ++ [a] → LInv ms (i + 1) (found ++ [(a, t)]) := by
  obtain ⟨b, h1, h2, rfl⟩ := hl.ex
  have hlt : i < ms.length := (List.getElem?_eq_some_iff.mp hi).1
  have et : ms[i] = t := (List.getElem?_eq_some_iff.mp hi).2
  have hmem : t ∈ ms := List.mem_of_getElem? hi
  have hd : ms.drop i = t :: ms.drop (i + 1) := by rw [List.drop_eq_getElem_cons hlt, et]
  have ht0 : 0 ≤ t := h.lo t hmem
  have hbt : (b : Int) ≤ t := h2 t (by rw [hd]; exact List.mem_cons_self)
  have hup := h.up
  rw [← List.take_append_drop i ms, List.pairwise_append, hd, List.pairwise_cons] at hup
  have hsk : (pst ms t.toNat).2 = (pst ms b).2 := pst_skip (by omega) fun k hk => by
    rw [← List.take_append_drop i ms, List.mem_append] at hk
    rcases hk with q | q
    · exact .inl (h1 k q)
    · rw [hd] at q
      rcases List.mem_cons.mp q with q | q
      · omega
      · have := hup.2.1.1 k q; omega
  have hfree : lfree ms (pst ms b).2 t = (pst ms t.toNat).1 := by
    unfold lfree
    rw [(pst_inv ms t.toNat).wait, hsk]
  have et' : ((t.toNat : Nat) : Int) = t := by omega
  have hin : ((t.toNat : Nat) : Int) ∈ ms := by rw [et']; exact hmem
  have bound : (∀ k ∈ ms.take (i + 1), k < ((t.toNat + 1 : Nat) : Int)) ∧ ∀ k ∈ ms.drop (i + 1), ((t.toNat + 1 : Nat) : Int) ≤ k := by
    constructor
    · intro k hk
      rw [List.take_succ_eq_append_getElem hlt, List.mem_append, et, List.mem_singleton] at hk
      rcases hk with q | q
      · have := h1 k q; omega
      · omega
    · intro k hk
      have := hup.2.1.1 k hk; omega
  constructor
  · intro e
    refine ⟨t.toNat + 1, bound.1, bound.2, ?_⟩
    rw [hfree] at e
    have e2 : pst ms t.toNat = ([], (pst ms t.toNat).2) := Prod.ext e rfl
    rw [pst_succ, e2, stp_nil hin, hsk]
  · intro w a e
    refine ⟨t.toNat + 1, bound.1, bound.2, ?_⟩
    rw [hfree] at e
    have e2 : pst ms t.toNat = (w ++ [a], (pst ms t.toNat).2) := Prod.ext e rfl
    rw [pst_succ, e2, stp_pop hin, hsk, et']

def bound (ps : List (Int × Int)) (x : Int) : Prop := x ∈ fst' ps ∨ x ∈ snd' ps
instance (ps : List (Int × Int)) (x : Int) : Decidable (bound ps x) := inferInstanceAs (Decidable (_ ∨ _))
theorem bound_perm {ps qs : List (Int × Int)} (h : ps.Perm qs) (x : Int) : bound ps x ↔ bound qs x := by
  unfold bound fst' snd'
  rw [(h.map (·.1)).mem_iff, (h.map (·.2)).mem_iff]
def lms (n : Nat) (ms : List Int) : List Int := (ir n).filter fun x => decide (x ∈ ms ∧ ¬ bound (prs n ms) x)
def los (n : Nat) (ms : List Int) : List Int := (ir n).filter fun x => decide (x ∉ ms ∧ ¬ bound (prs n ms) x)
theorem mem_lms {n : Nat} {ms : List Int} {x : Int} : x ∈ lms n ms ↔ (0 ≤ x ∧ x < n) ∧ x ∈ ms ∧ ¬ bound (pst ms n).2 x := by
  unfold lms
  rw [List.mem_filter, mem_ir, decide_eq_true_iff]
  unfold prs; rw [bound_perm (sortP_perm _)]
theorem mem_los {n : Nat} {ms : List Int} {x : Int} : x ∈ los n ms ↔ (0 ≤ x ∧ x < n) ∧ x ∉ ms ∧ ¬ bound (pst ms n).2 x := by
  unfold los
  rw [List.mem_filter, mem_ir, decide_eq_true_iff]
  unfold prs; rw [bound_perm (sortP_perm _)]
theorem los_eq (n : Nat) (ms : List Int) : los n ms = (pst ms n).1 := by
  refine pw_ext (List.Pairwise.filter _ (ir_lt n)) (pst_inv ms n).wlt fun x => ?_
  rw [mem_los, (pst_inv ms n).wmem]
  constructor
  · rintro ⟨h1, h2, h3⟩
    exact ⟨h1, h2, fun z => h3 (.inl z)⟩
  · rintro ⟨h1, h2, h3⟩
    refine ⟨h1, h2, fun z => z.elim h3 fun q => ?_⟩
    obtain ⟨p, hp, rfl⟩ := List.mem_map.mp q
    exact h2 ((pst_inv ms n).pr p hp).2.2.2.2
theorem lms_up (n : Nat) (ms : List Int) : (lms n ms).Pairwise (· < ·) := List.Pairwise.filter _ (ir_lt n)
theorem los_up (n : Nat) (ms : List Int) : (los n ms).Pairwise (· < ·) := List.Pairwise.filter _ (ir_lt n)
theorem pst_grow (ms : List Int) : ∀ {i j : Nat}, i ≤ j → ∃ more, (pst ms j).2 = (pst ms i).2 ++ more ∧ ∀ p ∈ more, (i : Int) ≤ p.2
  | i, 0, h => ⟨[], by have : i = 0 := by omega
                       subst this; simp, fun _ h => nomatch h⟩
  | i, j + 1, h => by
    by_cases e : i = j + 1
    · subst e; exact ⟨[], by simp, fun _ h => nomatch h⟩
    · obtain ⟨more, e1, e2⟩ := pst_grow ms (i := i) (j := j) (by omega)
      rw [pst_succ]
      unfold stp
      split
      · split
        · exact ⟨more, e1, e2⟩
        · rename_i a _
          refine ⟨more ++ [(a, (j : Int))], by rw [← List.append_assoc, ← e1], fun p hp => ?_⟩
          rcases List.mem_append.mp hp with hp | hp
          · exact e2 p hp
          · rw [List.mem_singleton] at hp
            subst hp
            show (i : Int) ≤ (j : Int)
            omega
      · exact ⟨more, e1, e2⟩
theorem loose_wait {n : Nat} {ms : List Int} {t : Nat} (ht : t < n) (hm : (t : Int) ∈ ms) : (t : Int) ∈ lms n ms ↔ (pst ms t).1 = [] := by
  rw [mem_lms]
  obtain ⟨more, e1, e2⟩ := pst_grow ms (i := t + 1) (j := n) (by omega)
  constructor
  · rintro ⟨_, _, h3⟩
    rcases last_cases (pst ms t).1 with e | ⟨w, a, e⟩
    · exact e
    · exfalso
      apply h3
      refine .inr ?_
      rw [e1]
      have e3 : pst ms t = (w ++ [a], (pst ms t).2) := Prod.ext e rfl
      rw [pst_succ, e3, stp_pop hm]
      unfold snd'
      simp
  · intro e
    refine ⟨⟨by omega, by omega⟩, hm, fun z => ?_⟩
    rcases z with z | z
    · obtain ⟨p, hp, e4⟩ := List.mem_map.mp z
      have := ((pst_inv ms n).pr p hp).2.2.2.1
      rw [e4] at this
      exact this hm
    · rw [e1] at z
      unfold snd' at z
      rw [List.map_append, List.mem_append] at z
      have e3 : pst ms t = ([], (pst ms t).2) := Prod.ext e rfl
      rw [pst_succ, e3, stp_nil hm] at z
      rcases z with z | z
      · obtain ⟨p, hp, e4⟩ := List.mem_map.mp z
        have := ((pst_inv ms t).pr p hp).2.2.1
        omega
      · obtain ⟨p, hp, e4⟩ := List.mem_map.mp z
        have := e2 p hp
        omega
theorem wait_since {ms : List Int} {n t : Nat} (htn : t ≤ n) {u : Int} (hu : u ∈ (pst ms n).1) (hut : u < t) : u ∈ (pst ms t).1 := by
  have h := (pst_inv ms n).wmem.mp hu
  refine (pst_inv ms t).wmem.mpr ⟨⟨h.1.1, hut⟩, h.2.1, fun z => h.2.2 ?_⟩
  obtain ⟨more, e1, _⟩ := pst_grow ms htn
  rw [e1]
  unfold fst' at *
  rw [List.map_append, List.mem_append]
  exact .inl z
theorem loose_lt {n : Nat} {ms : List Int} {x u : Int} (hx : x ∈ lms n ms) (hu : u ∈ los n ms) : x < u := by
  rcases Int.lt_trichotomy x u with h | h | h
  · exact h
  · subst h
    exact absurd (mem_lms.mp hx).2.1 (mem_los.mp hu).2.1
  · exfalso
    have h1 := mem_lms.mp hx
    have e : ((x.toNat : Nat) : Int) = x := by omega
    have hw := (loose_wait (n := n) (ms := ms) (t := x.toNat) (by omega) (by rw [e]; exact h1.2.1)).mp (by rw [e]; exact hx)
    rw [los_eq] at hu
    have := wait_since (t := x.toNat) (by omega) hu (by omega)
    rw [hw] at this
    cases this
end M

namespace M
def bset (ps : List (Int × Int)) : List Int := ps.flatMap fun p => [p.1, p.2]
theorem mem_bset {ps : List (Int × Int)} {x : Int} : x ∈ bset ps ↔ bound ps x := by
  unfold bset bound fst' snd'
  rw [List.mem_flatMap]
  constructor
  · rintro ⟨p, hp, hx⟩
    simp only [List.mem_cons, List.not_mem_nil, or_false] at hx
    rcases hx with rfl | rfl
    · exact .inl (List.mem_map.mpr ⟨p, hp, rfl⟩)
    · exact .inr (List.mem_map.mpr ⟨p, hp, rfl⟩)
  · rintro (h | h)
    · obtain ⟨p, hp, rfl⟩ := List.mem_map.mp h
      exact ⟨p, hp, by simp⟩
    · obtain ⟨p, hp, rfl⟩ := List.mem_map.mp h
      exact ⟨p, hp, by simp⟩
theorem bset_len : ∀ ps : List (Int × Int), (bset ps).length = 2 * ps.length
  | [] => rfl
  | p :: r => by
    have := bset_len r
    show ([p.1, p.2] ++ bset r).length = 2 * (r.length + 1)
    rw [List.length_append, this]
    simp
    omega
theorem bset_snoc (ps : List (Int × Int)) (p : Int × Int) : bset (ps ++ [p]) = bset ps ++ [p.1] ++ [p.2] := by
  unfold bset
  rw [List.flatMap_append]
  simp
def unb (n : Nat) (ms : List Int) : List Int := (ir n).filter fun x => decide (x ∉ bset (prs n ms))
theorem unb_lms (n : Nat) (ms : List Int) : ((unb n ms).filter fun x => decide (x ∈ ms)) = lms n ms := by
  unfold unb lms
  rw [List.filter_filter]
  refine List.filter_congr fun x _ => ?_
  rw [← Bool.decide_and]
  exact decide_eq_decide.mpr (by rw [mem_bset])
theorem unb_los (n : Nat) (ms : List Int) : ((unb n ms).filter fun x => decide (x ∉ ms)) = los n ms := by
  unfold unb los
  rw [List.filter_filter]
  refine List.filter_congr fun x _ => ?_
  rw [← Bool.decide_and]
  exact decide_eq_decide.mpr (by rw [mem_bset])
theorem ms_lms {n : Nat} {ms : List Int} (h : IsSet n ms) : (ms.filter fun x => decide (x ∉ bset (prs n ms))) = lms n ms := by
  refine pw_ext (List.Pairwise.filter _ h.up) (lms_up n ms) fun x => ?_
  unfold lms
  rw [List.mem_filter, List.mem_filter, mem_ir, decide_eq_true_iff, decide_eq_true_iff, mem_bset]
  exact ⟨fun ⟨a, b⟩ => ⟨⟨h.lo x a, h.hi x a⟩, a, b⟩, fun ⟨_, a, b⟩ => ⟨a, b⟩⟩
theorem ir_los (n : Nat) (ms : List Int) : ((ir n).filter fun x => decide (x ∉ bset (prs n ms) ∧ x ∉ ms)) = los n ms := by
  unfold los
  refine List.filter_congr fun x _ => ?_
  exact decide_eq_decide.mpr (by rw [mem_bset]; exact And.comm)
theorem lms_len (n : Nat) (ms : List Int) : (lms n ms).length ≤ n := Nat.le_trans (List.length_filter_le _ _) (Nat.le_of_eq (ir_len n))
theorem los_len (n : Nat) (ms : List Int) : (los n ms).length ≤ n := Nat.le_trans (List.length_filter_le _ _) (Nat.le_of_eq (ir_len n))
theorem unb_len (n : Nat) (ms : List Int) : (unb n ms).length ≤ n := Nat.le_trans (List.length_filter_le _ _) (Nat.le_of_eq (ir_len n))
end M

namespace M
theorem pst_below {ms ms' : List Int} : ∀ {i : Nat}, (∀ x, x < (i : Int) → (x ∈ ms ↔ x ∈ ms')) → pst ms i = pst ms' i
  | 0, _ => rfl
  | i + 1, h => by
    have ih : pst ms i = pst ms' i := pst_below fun x hx => h x (by omega)
    have hi := h (i : Int) (by omega)
    rw [pst_succ, pst_succ, ih]
    by_cases hm : (i : Int) ∈ ms
    · rcases last_cases (pst ms' i).1 with e | ⟨w, a, e⟩
      · have e2 : pst ms' i = ([], (pst ms' i).2) := Prod.ext e rfl
        rw [e2, stp_nil hm, stp_nil (hi.mp hm)]
      · have e2 : pst ms' i = (w ++ [a], (pst ms' i).2) := Prod.ext e rfl
        rw [e2, stp_pop hm, stp_pop (hi.mp hm)]
    · rw [stp_out hm, stp_out fun z => hm (hi.mpr z)]
theorem stack_stays {ms : List Int} {i : Nat} {u x : Int} (hx : x ∈ (pst ms i).1) (hxu : x < u) : ∀ {j : Nat}, i ≤ j → (∀ k, i ≤ k → k ≤ j → u ∈ (pst ms k).1) → x ∈ (pst ms j).1
  | 0, h, _ => by have e : i = 0 := by omega
                  subst e; exact hx
  | j + 1, h, hu => by
    by_cases e : i = j + 1
    · subst e; exact hx
    · have ih := stack_stays hx hxu (j := j) (by omega) fun k h1 h2 => hu k h1 (by omega)
      have hu' := hu (j + 1) (by omega) (Nat.le_refl _)
      rw [pst_succ] at hu' ⊢
      by_cases hm : (j : Int) ∈ ms
      · rcases last_cases (pst ms j).1 with e | ⟨w, a, e⟩
        · rw [e] at ih; cases ih
        · have e2 : pst ms j = (w ++ [a], (pst ms j).2) := Prod.ext e rfl
          rw [e2, stp_pop hm] at hu' ⊢
          rw [e, List.mem_append, List.mem_singleton] at ih
          rcases ih with q | q
          · exact q
          · exfalso
            have hlt := (pst_inv ms j).wlt
            rw [e, List.pairwise_append] at hlt
            have := hlt.2.2 u hu' a (by simp)
            omega
      · rw [stp_out hm]
        exact List.mem_append_left _ ih
theorem pst_more {n u : Nat} {ms ms' : List Int} (hm : ∀ x, x ∈ ms' ↔ x ∈ ms ∨ x = (u : Int)) (hu : (u : Int) ∉ ms) (h0 : (pst ms u).1 = [])
    (hl : ∀ t : Nat, u < t → t < n → (t : Int) ∈ ms → (pst ms t).1 = (u : Int) :: (pst ms' t).1 → (pst ms' t).1 ≠ []) :
    ∀ i, u < i → i ≤ n → (pst ms i).1 = (u : Int) :: (pst ms' i).1 ∧ (pst ms i).2 = (pst ms' i).2
  | 0, h, _ => absurd h (Nat.not_lt_zero _)
  | i + 1, h, hn => by
    by_cases e : i = u
    · subst e
      have eb : pst ms i = pst ms' i := pst_below fun x hx => ⟨fun q => (hm x).mpr (.inl q), fun q => ((hm x).mp q).resolve_right (by omega)⟩
      have e2 : pst ms i = ([], (pst ms i).2) := Prod.ext h0 rfl
      rw [pst_succ, pst_succ, ← eb, e2, stp_out hu, stp_nil ((hm _).mpr (.inr rfl))]
      exact ⟨rfl, rfl⟩
    · obtain ⟨r1, r2⟩ := pst_more hm hu h0 hl i (by omega) (by omega)
      have hne : (i : Int) ≠ (u : Int) := by omega
      have hi : (i : Int) ∈ ms' ↔ (i : Int) ∈ ms := ⟨fun q => ((hm _).mp q).resolve_right hne, fun q => (hm _).mpr (.inl q)⟩
      rw [pst_succ, pst_succ]
      by_cases him : (i : Int) ∈ ms
      · have hne' := hl i (by omega) (by omega) him r1
        rcases last_cases (pst ms' i).1 with e' | ⟨w, a, e'⟩
        · exact absurd e' hne'
        · have e2 : pst ms' i = (w ++ [a], (pst ms' i).2) := Prod.ext e' rfl
          have e3 : pst ms i = (((u : Int) :: w) ++ [a], (pst ms' i).2) := Prod.ext (by rw [r1, e']; rfl) r2
          rw [e2, e3, stp_pop him, stp_pop (hi.mpr him)]
          exact ⟨rfl, rfl⟩
      · have e3 : pst ms i = ((u : Int) :: (pst ms' i).1, (pst ms' i).2) := Prod.ext r1 r2
        rw [e3, stp_out him, stp_out fun q => him (hi.mp q)]
        exact ⟨rfl, rfl⟩
structure Climb (n : Nat) (ms ms' : List Int) (u : Int) : Prop where
  prs : prs n ms' = prs n ms
  los : los n ms = u :: los n ms'
  lms : lms n ms' = lms n ms ++ [u]
theorem climb_of {n u : Nat} {ms ms' : List Int} (hun : u < n) (hm : ∀ x, x ∈ ms' ↔ x ∈ ms ∨ x = (u : Int)) (hu : (u : Int) ∉ ms) (h0 : (pst ms u).1 = [])
    (hl : ∀ t : Nat, u < t → t < n → (t : Int) ∈ ms → (pst ms t).1 = (u : Int) :: (pst ms' t).1 → (pst ms' t).1 ≠ []) : Climb n ms ms' u := by
  obtain ⟨r1, r2⟩ := pst_more hm hu h0 hl n hun (Nat.le_refl _)
  have hlo : los n ms = (u : Int) :: los n ms' := by rw [los_eq, los_eq]; exact r1
  refine ⟨?_, hlo, ?_⟩
  · unfold prs; rw [r2]
  · have huo : (u : Int) ∈ los n ms := by rw [hlo]; exact List.mem_cons_self
    have hub := (mem_los.mp huo).2.2
    refine pw_ext (lms_up n ms') ?_ fun x => ?_
    · rw [List.pairwise_append]
      refine ⟨lms_up n ms, List.pairwise_singleton _ _, fun x hx y hy => ?_⟩
      rw [List.mem_singleton] at hy
      subst hy
      exact loose_lt hx huo
    · rw [List.mem_append, List.mem_singleton, mem_lms, mem_lms, ← r2, hm]
      constructor
      · rintro ⟨h1, h2 | h2, h3⟩
        · exact .inl ⟨h1, h2, h3⟩
        · exact .inr h2
      · rintro (⟨h1, h2, h3⟩ | h)
        · exact ⟨h1, .inl h2, h3⟩
        · subst h
          exact ⟨⟨by omega, by omega⟩, .inr rfl, hub⟩
def addS (u : Int) (ms : List Int) : List Int := (ms.filter fun x => decide (x < u)) ++ u :: (ms.filter fun x => decide (u < x))
def rmS (v : Int) (ms : List Int) : List Int := ms.filter fun x => decide (x ≠ v)
theorem mem_addS {u : Int} {ms : List Int} {x : Int} : x ∈ addS u ms ↔ x ∈ ms ∨ x = u := by
  unfold addS
  rw [List.mem_append, List.mem_cons, List.mem_filter, List.mem_filter, decide_eq_true_iff, decide_eq_true_iff]
  constructor
  · rintro (h | h | h)
    · exact .inl h.1
    · exact .inr h
    · exact .inl h.1
  · rintro (h | h)
    · rcases Int.lt_trichotomy x u with q | q | q
      · exact .inl ⟨h, q⟩
      · exact .inr (.inl q)
      · exact .inr (.inr ⟨h, q⟩)
    · exact .inr (.inl h)
theorem addS_up {u : Int} {ms : List Int} (h : ms.Pairwise (· < ·)) : (addS u ms).Pairwise (· < ·) := by
  unfold addS
  rw [List.pairwise_append, List.pairwise_cons]
  refine ⟨List.Pairwise.filter _ h, ⟨fun x hx => ?_, List.Pairwise.filter _ h⟩, fun x hx y hy => ?_⟩
  · exact of_decide_eq_true (List.mem_filter.mp hx).2
  · have h1 : x < u := of_decide_eq_true (List.mem_filter.mp hx).2
    rcases List.mem_cons.mp hy with rfl | hy
    · exact h1
    · have h2 : u < y := of_decide_eq_true (List.mem_filter.mp hy).2
      omega
theorem addS_set {n : Nat} {u : Int} {ms : List Int} (h : IsSet n ms) (h0 : 0 ≤ u) (h1 : u < n) : IsSet n (addS u ms) :=
  ⟨addS_up h.up, fun x hx => (mem_addS.mp hx).elim (h.lo x) fun e => by omega, fun x hx => (mem_addS.mp hx).elim (h.hi x) fun e => by omega⟩
theorem rmS_set {n : Nat} {v : Int} {ms : List Int} (h : IsSet n ms) : IsSet n (rmS v ms) :=
  ⟨List.Pairwise.filter _ h.up, fun x hx => h.lo x (List.mem_filter.mp hx).1, fun x hx => h.hi x (List.mem_filter.mp hx).1⟩
theorem mem_rmS {v : Int} {ms : List Int} {x : Int} : x ∈ rmS v ms ↔ x ∈ ms ∧ x ≠ v := by
  unfold rmS
  rw [List.mem_filter, decide_eq_true_iff]
theorem sorted_add {u : Int} {ms zs : List Int} (h : ms.Pairwise (· < ·)) (hu : u ∉ ms) (hp : zs.Perm (ms ++ [u])) (hs : zs.Pairwise (· ≤ ·)) : zs = addS u ms := by
  have nd : zs.Nodup := by
    rw [hp.nodup_iff, List.nodup_append]
    refine ⟨?_, List.pairwise_singleton _ _, fun x hx y hy z => ?_⟩
    · exact h.imp fun q => by omega
    · rw [List.mem_singleton] at hy
      subst hy z
      exact hu hx
  refine pw_ext ?_ (addS_up h) fun x => ?_
  · exact (hs.and nd).imp fun ⟨q, r⟩ => by have : _ ≠ _ := r; omega
  · rw [hp.mem_iff, List.mem_append, List.mem_singleton, mem_addS]
theorem climb_up {n : Nat} {ms r : List Int} {u : Int} (h : IsSet n ms) (hl : los n ms = u :: r) : IsSet n (addS u ms) ∧ Climb n ms (addS u ms) u ∧ u ∉ ms := by
  have huo : u ∈ los n ms := by rw [hl]; exact List.mem_cons_self
  have hu := mem_los.mp huo
  have e : ((u.toNat : Nat) : Int) = u := by omega
  have hw : u ∈ (pst ms n).1 := by rw [← los_eq]; exact huo
  have hlo := los_up n ms
  rw [hl, List.pairwise_cons] at hlo
  have h0 : (pst ms u.toNat).1 = [] := by
    rcases hq : (pst ms u.toNat).1 with _ | ⟨x, l⟩
    · rfl
    · exfalso
      have hx : x ∈ (pst ms u.toNat).1 := by rw [hq]; exact List.mem_cons_self
      have hxm := (pst_inv ms u.toNat).wmem.mp hx
      have hx1 : x ∈ (pst ms (u.toNat + 1)).1 := by
        rw [pst_succ, stp_out (by rw [e]; exact hu.2.1)]
        exact List.mem_append_left _ hx
      have := stack_stays (j := n) hx1 (show x < u by omega) (by omega) fun k h1 h2 => wait_since h2 hw (by omega)
      rw [← los_eq, hl] at this
      rcases List.mem_cons.mp this with q | q
      · omega
      · have := hlo.1 x q; omega
  refine ⟨addS_set h hu.1.1 hu.1.2, ?_, hu.2.1⟩
  have c := climb_of (n := n) (u := u.toNat) (ms := ms) (ms' := addS u ms) (by omega) (fun x => by rw [e]; exact mem_addS) (by rw [e]; exact hu.2.1) h0 fun t h1 h2 h3 h4 h5 => by
    rw [h5, e] at h4
    have hw' := wait_since (ms := ms) (n := n) (t := t + 1) (by omega) hw (by omega)
    have e2 : pst ms t = ([] ++ [u], (pst ms t).2) := Prod.ext h4 rfl
    rw [pst_succ, e2, stp_pop h3] at hw'
    cases hw'
  rw [e] at c
  exact c
theorem climb_down {n : Nat} {ms w : List Int} {v : Int} (h : IsSet n ms) (hl : lms n ms = w ++ [v]) : IsSet n (rmS v ms) ∧ Climb n (rmS v ms) ms v ∧ v ∈ ms := by
  have hvl : v ∈ lms n ms := by rw [hl]; simp
  have hv := mem_lms.mp hvl
  have e : ((v.toNat : Nat) : Int) = v := by omega
  have hup := lms_up n ms
  rw [hl, List.pairwise_append] at hup
  have hm : ∀ x, x ∈ ms ↔ x ∈ rmS v ms ∨ x = v := fun x => by
    rw [mem_rmS]
    constructor
    · intro q
      by_cases z : x = v
      · exact .inr z
      · exact .inl ⟨q, z⟩
    · rintro (q | q)
      · exact q.1
      · rw [q]; exact hv.2.1
  refine ⟨rmS_set h, ?_, hv.2.1⟩
  have hb : pst (rmS v ms) v.toNat = pst ms v.toNat := pst_below fun x hx => ⟨fun q => (hm x).mpr (.inl q), fun q => ((hm x).mp q).resolve_right (by omega)⟩
  have c := climb_of (n := n) (u := v.toNat) (ms := rmS v ms) (ms' := ms) (by omega) (fun x => by rw [e]; exact hm x) (by rw [e, mem_rmS]; exact fun q => q.2 rfl)
    (by rw [hb]; exact (loose_wait (n := n) (by omega) (by rw [e]; exact hv.2.1)).mp (by rw [e]; exact hvl)) fun t h1 h2 h3 _ h5 => by
    have ht : (t : Int) ∈ ms := (mem_rmS.mp h3).1
    have := (loose_wait (n := n) (ms := ms) h2 ht).mpr h5
    rw [hl, List.mem_append, List.mem_singleton] at this
    rcases this with q | q
    · have := hup.2.2 _ q v (by simp); omega
    · omega
  rw [e] at c
  exact c
theorem rm_add {n : Nat} {ms : List Int} {u : Int} (h : IsSet n ms) (hu : u ∉ ms) : rmS u (addS u ms) = ms := by
  refine pw_ext (List.Pairwise.filter _ (addS_up h.up)) h.up fun x => ?_
  show x ∈ rmS u (addS u ms) ↔ _
  rw [mem_rmS, mem_addS]
  exact ⟨fun ⟨a, b⟩ => a.resolve_right b, fun a => ⟨.inl a, fun z => hu (z ▸ a)⟩⟩
theorem add_rm {n : Nat} {ms : List Int} {v : Int} (h : IsSet n ms) (hv : v ∈ ms) : addS v (rmS v ms) = ms := by
  refine pw_ext (addS_up (rmS_set h).up) h.up fun x => ?_
  rw [mem_addS, mem_rmS]
  constructor
  · rintro (q | q)
    · exact q.1
    · rw [q]; exact hv
  · intro q
    by_cases z : x = v
    · exact .inr z
    · exact .inl ⟨q, z⟩
end M

namespace M
theorem wait_many (ms : List Int) : ∀ i, i ≤ (pst ms i).1.length + 2 * ((ir i).filter fun x => decide (x ∈ ms)).length
  | 0 => Nat.zero_le _
  | i + 1 => by
    have ih := wait_many ms i
    rw [ir_succ, List.filter_append, List.length_append, pst_succ]
    by_cases hm : (i : Int) ∈ ms
    · have e1 : ([(i : Int)].filter fun x => decide (x ∈ ms)).length = 1 := by simp [hm]
      rw [e1]
      rcases last_cases (pst ms i).1 with e | ⟨w, a, e⟩
      · have e2 : pst ms i = ([], (pst ms i).2) := Prod.ext e rfl
        rw [e] at ih
        rw [e2, stp_nil hm]
        simp only [List.length_nil] at ih ⊢
        omega
      · have e2 : pst ms i = (w ++ [a], (pst ms i).2) := Prod.ext e rfl
        rw [e] at ih
        rw [e2, stp_pop hm]
        simp only [List.length_append, List.length_singleton] at ih ⊢
        omega
    · have e1 : ([(i : Int)].filter fun x => decide (x ∈ ms)).length = 0 := by simp [hm]
      rw [e1, stp_out hm]
      simp only [List.length_append, List.length_singleton]
      omega
theorem los_some {n : Nat} {ms : List Int} (h : IsSet n ms) (hl : 2 * ms.length < n) : ∃ u r, los n ms = u :: r := by
  have q := wait_many ms n
  rw [← h.eq_filter, ← los_eq] at q
  cases e : los n ms with
  | nil => rw [e] at q; simp at q; omega
  | cons u r => exact ⟨u, r, rfl⟩
theorem addS_len {u : Int} {ms : List Int} (h : ms.Pairwise (· < ·)) (hu : u ∉ ms) : (addS u ms).length = ms.length + 1 := by
  have hp : (addS u ms).Perm (ms ++ [u]) := by
    refine (List.perm_ext_iff_of_nodup ?_ ?_).mpr fun x => ?_
    · exact (addS_up h).imp fun q => by omega
    · rw [List.nodup_append]
      refine ⟨h.imp fun q => by omega, List.pairwise_singleton _ _, fun x hx y hy z => ?_⟩
      rw [List.mem_singleton] at hy
      subst hy z
      exact hu hx
    · rw [mem_addS, List.mem_append, List.mem_singleton]
  rw [hp.length_eq, List.length_append]
  rfl
theorem above_inj {n : Nat} {m1 m2 r1 r2 : List Int} {u1 u2 : Int} (h1 : IsSet n m1) (h2 : IsSet n m2) (e1 : los n m1 = u1 :: r1) (e2 : los n m2 = u2 :: r2) : addS u1 m1 = addS u2 m2 ↔ m1 = m2 := by
  constructor
  · intro e
    obtain ⟨_, c1, n1⟩ := climb_up h1 e1
    obtain ⟨_, c2, n2⟩ := climb_up h2 e2
    have hl : lms n m1 ++ [u1] = lms n m2 ++ [u2] := by rw [← c1.lms, ← c2.lms, e]
    obtain ⟨_, eu⟩ := List.append_inj' hl rfl
    cases eu
    rw [← rm_add h1 n1, ← rm_add h2 n2, e]
  · rintro rfl
    rw [e1] at e2
    cases e2
    rfl
theorem pick_set {n s : Nat} {ps : List (Int × Int)} {zs : List Int} (hp : snd' ps = ir n) (hs : s ≤ n) (hz : zs.Perm (snd' ((sortP ps).take s))) (hu : zs.Pairwise (· ≤ ·)) : IsSet n zs ∧ zs.length = s := by
  have hpl : ps.length = n := by
    have := congrArg List.length hp
    unfold snd' at this
    rw [List.length_map, ir_len] at this
    exact this
  have pp : (snd' (sortP ps)).Perm (ir n) := by
    rw [← hp]
    exact (sortP_perm ps).map _
  have nd : (snd' (sortP ps)).Nodup := by
    rw [pp.nodup_iff]
    exact (ir_lt n).imp fun q => by omega
  have et : snd' ((sortP ps).take s) = (snd' (sortP ps)).take s := by unfold snd'; rw [List.map_take]
  rw [et] at hz
  have nz : zs.Nodup := by
    rw [hz.nodup_iff]
    exact nd.sublist (List.take_sublist _ _)
  have mz : ∀ x ∈ zs, x ∈ ir n := fun x hx => pp.mem_iff.mp (List.mem_of_mem_take (hz.mem_iff.mp hx))
  refine ⟨⟨(hu.and nz).imp fun ⟨q, r⟩ => by have : _ ≠ _ := r; omega, fun x hx => (mem_ir.mp (mz x hx)).1, fun x hx => (mem_ir.mp (mz x hx)).2⟩, ?_⟩
  rw [hz.length_eq, List.length_take]
  unfold snd'
  rw [List.length_map, sortP_len, hpl]
  omega
end M

namespace M
def clm (n : Nat) (ms : List Int) : List Int := lms n ms ++ los n ms
def kep (n : Nat) (ms : List Int) : List Int := ms.filter fun x => decide (x ∉ lms n ms)
def row (n : Nat) (ms : List Int) (s : Nat) : List Int := (ir n).filter fun x => decide (x ∈ kep n ms ∨ x ∈ (clm n ms).take s)
def chn (n : Nat) (ms : List Int) : List (List Int) := (List.range ((clm n ms).length + 1)).map (row n ms)
theorem mem_kep {n : Nat} {ms : List Int} {x : Int} : x ∈ kep n ms ↔ x ∈ ms ∧ x ∉ lms n ms := by
  unfold kep; rw [List.mem_filter, decide_eq_true_iff]
theorem clm_up (n : Nat) (ms : List Int) : (clm n ms).Pairwise (· < ·) := by
  unfold clm
  rw [List.pairwise_append]
  exact ⟨lms_up n ms, los_up n ms, fun x hx y hy => loose_lt hx hy⟩
theorem clm_in {n : Nat} {ms : List Int} {x : Int} (h : x ∈ clm n ms) : 0 ≤ x ∧ x < n := by
  unfold clm at h
  rcases List.mem_append.mp h with q | q
  · exact (mem_lms.mp q).1
  · exact (mem_los.mp q).1
theorem clm_len (n : Nat) (ms : List Int) : (clm n ms).length ≤ n := by
  have h : IsSet n (clm n ms) := ⟨clm_up n ms, fun x hx => (clm_in hx).1, fun x hx => (clm_in hx).2⟩
  exact h.len
theorem kep_clm {n : Nat} {ms : List Int} {x : Int} (h : x ∈ kep n ms) : x ∉ clm n ms := fun z => by
  obtain ⟨h1, h2⟩ := mem_kep.mp h
  unfold clm at z
  rcases List.mem_append.mp z with q | q
  · exact h2 q
  · exact (mem_los.mp q).2.1 h1
theorem mem_row {n : Nat} {ms : List Int} (h : IsSet n ms) {s : Nat} {x : Int} : x ∈ row n ms s ↔ x ∈ kep n ms ∨ x ∈ (clm n ms).take s := by
  unfold row
  rw [List.mem_filter, mem_ir, decide_eq_true_iff]
  refine ⟨fun q => q.2, fun q => ⟨?_, q⟩⟩
  rcases q with q | q
  · exact ⟨h.lo x (mem_kep.mp q).1, h.hi x (mem_kep.mp q).1⟩
  · exact clm_in (List.mem_of_mem_take q)
theorem row_set (n : Nat) (ms : List Int) (s : Nat) : IsSet n (row n ms s) :=
  ⟨List.Pairwise.filter _ (ir_lt n), fun x hx => (mem_ir.mp (List.mem_filter.mp hx).1).1, fun x hx => (mem_ir.mp (List.mem_filter.mp hx).1).2⟩
theorem row_self {n : Nat} {ms : List Int} (h : IsSet n ms) : row n ms (lms n ms).length = ms := by
  refine pw_ext (row_set n ms _).up h.up fun x => ?_
  rw [mem_row h, mem_kep]
  have e : (clm n ms).take (lms n ms).length = lms n ms := by unfold clm; rw [List.take_left]
  rw [e]
  constructor
  · rintro (q | q)
    · exact q.1
    · exact (mem_lms.mp q).2.1
  · intro q
    by_cases z : x ∈ lms n ms
    · exact .inr z
    · exact .inl ⟨q, z⟩
theorem clm_fresh {n : Nat} {ms : List Int} {s : Nat} (hs : s < (clm n ms).length) : (clm n ms)[s] ∉ kep n ms ∧ (clm n ms)[s] ∉ (clm n ms).take s := by
  refine ⟨fun z => kep_clm z (List.getElem_mem hs), fun z => ?_⟩
  have hu := clm_up n ms
  rw [← List.take_append_drop s (clm n ms), List.pairwise_append, List.drop_eq_getElem_cons hs] at hu
  have := hu.2.2 _ z _ List.mem_cons_self
  omega
theorem row_succ {n : Nat} {ms : List Int} (h : IsSet n ms) {s : Nat} (hs : s < (clm n ms).length) : row n ms (s + 1) = addS (clm n ms)[s] (row n ms s) ∧ rmS (clm n ms)[s] (row n ms (s + 1)) = row n ms s ∧ (clm n ms)[s] ∉ row n ms s := by
  obtain ⟨f1, f2⟩ := clm_fresh hs
  have nin : (clm n ms)[s] ∉ row n ms s := fun z => (mem_row h).mp z |>.elim f1 f2
  have e1 : row n ms (s + 1) = addS (clm n ms)[s] (row n ms s) := by
    refine pw_ext (row_set n ms _).up (addS_up (row_set n ms s).up) fun x => ?_
    rw [mem_addS, mem_row h, mem_row h, List.take_succ_eq_append_getElem hs, List.mem_append, List.mem_singleton, or_assoc]
  refine ⟨e1, ?_, nin⟩
  rw [e1]
  exact rm_add (row_set n ms s) nin
structure RowIs (n : Nat) (ms : List Int) (s : Nat) : Prop where
  prs : prs n (row n ms s) = prs n ms
  lms : lms n (row n ms s) = (clm n ms).take s
  los : los n (row n ms s) = (clm n ms).drop s
theorem row_up {n : Nat} {ms : List Int} (h : IsSet n ms) {s : Nat} (hs : s < (clm n ms).length) (r : RowIs n ms s) : RowIs n ms (s + 1) := by
  obtain ⟨e1, _, _⟩ := row_succ h hs
  have hl : M.los n (row n ms s) = (clm n ms)[s] :: (clm n ms).drop (s + 1) := by rw [r.los, List.drop_eq_getElem_cons hs]
  obtain ⟨_, c, _⟩ := climb_up (row_set n ms s) hl
  refine ⟨?_, ?_, ?_⟩
  · rw [e1, c.prs, r.prs]
  · rw [e1, c.lms, r.lms, List.take_succ_eq_append_getElem hs]
  · rw [e1]
    have := c.los
    rw [hl] at this
    exact (List.cons.inj this).2.symm
theorem row_down {n : Nat} {ms : List Int} (h : IsSet n ms) {s : Nat} (hs : s < (clm n ms).length) (r : RowIs n ms (s + 1)) : RowIs n ms s := by
  obtain ⟨_, e2, _⟩ := row_succ h hs
  have hl : M.lms n (row n ms (s + 1)) = (clm n ms).take s ++ [(clm n ms)[s]] := by rw [r.lms, List.take_succ_eq_append_getElem hs]
  obtain ⟨_, c, _⟩ := climb_down (row_set n ms (s + 1)) hl
  rw [e2] at c
  refine ⟨?_, ?_, ?_⟩
  · rw [← c.prs, r.prs]
  · have := c.lms
    rw [hl] at this
    exact (List.append_inj' this rfl).1.symm
  · rw [c.los, r.los, List.drop_eq_getElem_cons hs]
theorem row_is {n : Nat} {ms : List Int} (h : IsSet n ms) {s : Nat} (hs : s ≤ (clm n ms).length) : RowIs n ms s := by
  have start : RowIs n ms (lms n ms).length := by
    have e := row_self h
    refine ⟨by rw [e], ?_, ?_⟩
    · rw [e]; unfold clm; rw [List.take_left]
    · rw [e]; unfold clm; rw [List.drop_left]
  have hlen : (lms n ms).length ≤ (clm n ms).length := by unfold clm; rw [List.length_append]; omega
  have up : ∀ k, (lms n ms).length + k ≤ (clm n ms).length → RowIs n ms ((lms n ms).length + k) := by
    intro k
    induction k with
    | zero => intro _; exact start
    | succ k ih =>
      intro hk
      have hk' : (lms n ms).length + k < (clm n ms).length := by omega
      exact row_up h hk' (ih (by omega))
  have down : ∀ k, k ≤ (lms n ms).length → RowIs n ms ((lms n ms).length - k) := by
    intro k
    induction k with
    | zero => intro _; exact start
    | succ k ih =>
      intro hk
      have := ih (by omega)
      have e : (lms n ms).length - k = ((lms n ms).length - (k + 1)) + 1 := by omega
      rw [e] at this
      exact row_down h (by omega) this
  by_cases c : s ≤ (lms n ms).length
  · have := down ((lms n ms).length - s) (by omega)
    have e : (lms n ms).length - ((lms n ms).length - s) = s := by omega
    rw [e] at this
    exact this
  · have := up (s - (lms n ms).length) (by omega)
    have e : (lms n ms).length + (s - (lms n ms).length) = s := by omega
    rw [e] at this
    exact this
theorem chn_row {n : Nat} {ms : List Int} (h : IsSet n ms) {s : Nat} (hs : s ≤ (clm n ms).length) : chn n (row n ms s) = chn n ms := by
  have r := row_is h hs
  have ec : clm n (row n ms s) = clm n ms := by
    show lms n (row n ms s) ++ los n (row n ms s) = _
    rw [r.lms, r.los, List.take_append_drop]
  have ek : ∀ x, x ∈ kep n (row n ms s) ↔ x ∈ kep n ms := fun x => by
    rw [mem_kep, mem_row h, r.lms]
    constructor
    · rintro ⟨q1 | q1, q2⟩
      · exact q1
      · exact absurd q1 q2
    · intro q
      exact ⟨.inl q, fun z => kep_clm q (List.mem_of_mem_take z)⟩
  unfold chn
  rw [ec]
  refine List.map_congr_left fun t _ => ?_
  refine pw_ext (row_set _ _ t).up (row_set _ _ t).up fun x => ?_
  rw [mem_row (row_set n ms s), mem_row h, ek, ec]
theorem chn_len (n : Nat) (ms : List Int) : (chn n ms).length = (clm n ms).length + 1 := by unfold chn; simp
theorem chn_get {n : Nat} {ms : List Int} {i : Nat} (h : i < (clm n ms).length + 1) : (chn n ms)[i]? = some (row n ms i) := by
  unfold chn; rw [List.getElem?_map, List.getElem?_range h]; rfl
theorem sorted_row {n s : Nat} {ms zs : List Int} (h : IsSet n ms) (hp : zs.Perm (kep n ms ++ (clm n ms).take s)) (hs : zs.Pairwise (· ≤ ·)) : zs = row n ms s := by
  have nd : zs.Nodup := by
    rw [hp.nodup_iff, List.nodup_append]
    refine ⟨?_, ?_, fun x hx y hy z => ?_⟩
    · exact (List.Pairwise.filter _ h.up).imp fun q => by omega
    · exact ((clm_up n ms).sublist (List.take_sublist _ _)).imp fun q => by omega
    · subst z
      exact kep_clm hx (List.mem_of_mem_take hy)
  refine pw_ext ((hs.and nd).imp fun ⟨q, r⟩ => by have : _ ≠ _ := r; omega) (row_set n ms s).up fun x => ?_
  rw [hp.mem_iff, List.mem_append, mem_row h]
theorem parts {n : Nat} {ms : List Int} (h : IsSet n ms) : n = (clm n ms).length + 2 * (kep n ms).length := by
  have I := pst_inv ms n
  have fsn : (fst' (pst ms n).2).length = (snd' (pst ms n).2).length := by unfold fst' snd'; simp
  have fm : ∀ x ∈ fst' (pst ms n).2, (0 ≤ x ∧ x < n) ∧ x ∉ ms := fun x hx => by
    obtain ⟨p, hp, rfl⟩ := List.mem_map.mp hx
    have := I.pr p hp
    exact ⟨⟨this.1, by omega⟩, this.2.2.2.1⟩
  have sm : ∀ x ∈ snd' (pst ms n).2, (0 ≤ x ∧ x < n) ∧ x ∈ ms := fun x hx => by
    obtain ⟨p, hp, rfl⟩ := List.mem_map.mp hx
    have := I.pr p hp
    exact ⟨⟨by omega, this.2.2.1⟩, this.2.2.2.2⟩
  have sd : (snd' (pst ms n).2).Nodup := I.sn.imp fun q => by omega
  have kp : (kep n ms).Perm (snd' (pst ms n).2) := by
    refine (List.perm_ext_iff_of_nodup ((List.Pairwise.filter _ h.up).imp fun q => by omega) sd).mpr fun x => ?_
    show x ∈ kep n ms ↔ _
    rw [mem_kep, mem_lms]
    constructor
    · rintro ⟨q1, q2⟩
      have hb : bound (pst ms n).2 x := Decidable.byContradiction fun z => q2 ⟨⟨h.lo x q1, h.hi x q1⟩, q1, z⟩
      rcases hb with z | z
      · exact absurd q1 (fm x z).2
      · exact z
    · intro q
      exact ⟨(sm x q).2, fun z => z.2.2 (.inr q)⟩
  have all : (ir n).Perm (clm n ms ++ (fst' (pst ms n).2 ++ snd' (pst ms n).2)) := by
    refine (List.perm_ext_iff_of_nodup ((ir_lt n).imp fun q => by omega) ?_).mpr fun x => ?_
    · rw [List.nodup_append, List.nodup_append]
      refine ⟨(clm_up n ms).imp fun q => by omega, ⟨I.nd, sd, fun x hx y hy z => ?_⟩, fun x hx y hy z => ?_⟩
      · subst z
        exact (fm x hx).2 (sm x hy).2
      · subst z
        unfold clm at hx
        rcases List.mem_append.mp hy with q | q
        · rcases List.mem_append.mp hx with w | w
          · exact (mem_lms.mp w).2.2 (.inl q)
          · exact (mem_los.mp w).2.2 (.inl q)
        · rcases List.mem_append.mp hx with w | w
          · exact (mem_lms.mp w).2.2 (.inr q)
          · exact (mem_los.mp w).2.2 (.inr q)
    · rw [mem_ir, List.mem_append, List.mem_append]
      constructor
      · intro q
        by_cases b : bound (pst ms n).2 x
        · exact .inr b
        · refine .inl ?_
          unfold clm
          rw [List.mem_append, mem_lms, mem_los]
          by_cases m : x ∈ ms
          · exact .inl ⟨q, m, b⟩
          · exact .inr ⟨q, m, b⟩
      · rintro (q | q | q)
        · exact clm_in q
        · exact (fm x q).1
        · exact (sm x q).1
  have := all.length_eq
  rw [ir_len, List.length_append, List.length_append, fsn] at this
  rw [kp.length_eq]
  omega
theorem row_len {n : Nat} {ms : List Int} (h : IsSet n ms) {s : Nat} (hs : s ≤ (clm n ms).length) : (row n ms s).length = (kep n ms).length + s := by
  have hp : (row n ms s).Perm (kep n ms ++ (clm n ms).take s) := by
    refine (List.perm_ext_iff_of_nodup ((row_set n ms s).up.imp fun q => by omega) ?_).mpr fun x => ?_
    · rw [List.nodup_append]
      refine ⟨(List.Pairwise.filter _ h.up).imp fun q => by omega, ((clm_up n ms).sublist (List.take_sublist _ _)).imp fun q => by omega, fun x hx y hy z => ?_⟩
      subst z
      exact kep_clm hx (List.mem_of_mem_take hy)
    · rw [mem_row h, List.mem_append]
  rw [hp.length_eq, List.length_append, List.length_take, Nat.min_eq_left hs]
theorem row_more {n : Nat} {ms : List Int} (h : IsSet n ms) {s : Nat} (hs : s < (clm n ms).length) : ((row n ms (s + 1)).filter fun x => decide (x ∉ row n ms s)).length = 1 := by
  obtain ⟨e1, _, nin⟩ := row_succ h hs
  have : ((row n ms (s + 1)).filter fun x => decide (x ∉ row n ms s)) = [(clm n ms)[s]] := by
    refine pw_ext (List.Pairwise.filter _ (row_set n ms _).up) (List.pairwise_singleton _ _) fun x => ?_
    rw [List.mem_filter, decide_eq_true_iff, List.mem_singleton, e1, mem_addS]
    constructor
    · rintro ⟨q1, q2⟩
      exact q1.resolve_left q2
    · rintro rfl
      exact ⟨.inr rfl, nin⟩
  rw [this]
  rfl
end M

namespace M
def allS : Nat → List (List Int)
  | 0 => [[]]
  | n + 1 => allS n ++ (allS n).map fun r => r ++ [(n : Int)]
theorem allS_set : ∀ {n : Nat} {r : List Int}, r ∈ allS n → IsSet n r
  | 0, r, h => by
    have e : r = [] := by simpa [allS] using h
    subst e
    exact ⟨List.Pairwise.nil, (fun _ h => nomatch h), (fun _ h => nomatch h)⟩
  | n + 1, r, h => by
    have h : r ∈ allS n ++ (allS n).map fun r => r ++ [(n : Int)] := h
    rcases List.mem_append.mp h with q | q
    · exact (allS_set q).mono (Nat.le_succ n)
    · obtain ⟨r', hr, rfl⟩ := List.mem_map.mp q
      have S := allS_set hr
      refine ⟨?_, fun x hx => ?_, fun x hx => ?_⟩
      · rw [List.pairwise_append]
        refine ⟨S.up, List.pairwise_singleton _ _, fun x hx y hy => ?_⟩
        rw [List.mem_singleton] at hy
        have := S.hi x hx
        omega
      · rcases List.mem_append.mp hx with z | z
        · exact S.lo x z
        · rw [List.mem_singleton] at z; omega
      · rcases List.mem_append.mp hx with z | z
        · have := S.hi x z; omega
        · rw [List.mem_singleton] at z; omega
theorem set_allS : ∀ {n : Nat} {r : List Int}, IsSet n r → r ∈ allS n
  | 0, r, h => by
    have := h.len
    have e : r = [] := List.eq_nil_of_length_eq_zero (by omega)
    subst e
    simp [allS]
  | n + 1, r, h => by
    show r ∈ allS n ++ (allS n).map fun r => r ++ [(n : Int)]
    rw [List.mem_append]
    by_cases hm : (n : Int) ∈ r
    · right
      have e : r = rmS (n : Int) r ++ [(n : Int)] := by
        refine pw_ext h.up ?_ fun x => ?_
        · rw [List.pairwise_append]
          refine ⟨(rmS_set h).up, List.pairwise_singleton _ _, fun x hx y hy => ?_⟩
          rw [List.mem_singleton] at hy
          have h1 := mem_rmS.mp hx
          have h2 := h.hi x h1.1
          have h3 := h1.2
          omega
        · rw [List.mem_append, List.mem_singleton, mem_rmS]
          constructor
          · intro q
            by_cases z : x = (n : Int)
            · exact .inr z
            · exact .inl ⟨q, z⟩
          · rintro (q | q)
            · exact q.1
            · rw [q]; exact hm
      rw [List.mem_map]
      refine ⟨rmS (n : Int) r, set_allS ⟨(rmS_set h).up, (rmS_set h).lo, fun x hx => ?_⟩, e.symm⟩
      have h1 := mem_rmS.mp hx
      have h2 := h.hi x h1.1
      have h3 := h1.2
      omega
    · left
      refine set_allS ⟨h.up, h.lo, fun x hx => ?_⟩
      have := h.hi x hx
      have : x ≠ (n : Int) := fun z => hm (z ▸ hx)
      omega
theorem allS_len : ∀ n, (allS n).length = 2 ^ n
  | 0 => rfl
  | n + 1 => by
    show (allS n ++ (allS n).map fun r => r ++ [(n : Int)]).length = 2 ^ (n + 1)
    rw [List.length_append, List.length_map, allS_len n, Nat.pow_succ]
    omega
theorem allS_nodup : ∀ n, (allS n).Nodup
  | 0 => by simp [allS]
  | n + 1 => by
    show (allS n ++ (allS n).map fun r => r ++ [(n : Int)]).Nodup
    rw [List.nodup_append]
    refine ⟨allS_nodup n, ?_, fun a ha b hb z => ?_⟩
    · refine List.Pairwise.map _ (fun a b hab z => hab ?_) (allS_nodup n)
      exact (List.append_inj' z rfl).1
    · subst z
      obtain ⟨r, _, e⟩ := List.mem_map.mp hb
      have S := allS_set ha
      have := S.hi (n : Int) (by rw [← e]; simp)
      omega
def keysOf (l : List (List Int)) : List (List Int) := l.foldl (fun acc b => if b ∈ acc then acc else acc ++ [b]) []
def bot (n : Nat) (r : List Int) : List Int := row n r 0
theorem once : ∀ n ∈ List.range 7, ∀ r ∈ allS n, (chn n r).count r = 1 := by decide +kernel
theorem middle : ∀ n ∈ List.range 7, (keysOf ((allS n).map (bot n))).length = ((allS n).filter fun r => decide (r.length = n / 2)).length := by decide +kernel
theorem keysOf_snoc (l : List (List Int)) (b : List Int) : keysOf (l ++ [b]) = if b ∈ keysOf l then keysOf l else keysOf l ++ [b] := by
  unfold keysOf
  rw [List.foldl_append]
  rfl
theorem keysOf_len : ∀ (l : List (List Int)) (acc : List (List Int)), (l.foldl (fun acc b => if b ∈ acc then acc else acc ++ [b]) acc).length ≤ acc.length + l.length
  | [], acc => Nat.le_refl _
  | b :: l, acc => by
    have := keysOf_len l (if b ∈ acc then acc else acc ++ [b])
    rw [List.foldl_cons, List.length_cons]
    refine Nat.le_trans this ?_
    split
    · omega
    · rw [List.length_append, List.length_singleton]; omega
end M

namespace M
def ch : Nat → Nat → Nat
  | _, 0 => 1
  | 0, _ + 1 => 0
  | n + 1, k + 1 => ch n k + ch n (k + 1)
theorem ch_zero (n : Nat) : ch n 0 = 1 := by cases n <;> rfl
theorem ch_succ (n k : Nat) : ch (n + 1) (k + 1) = ch n k + ch n (k + 1) := rfl
theorem ch_over : ∀ {n k : Nat}, n < k → ch n k = 0
  | 0, k + 1, _ => rfl
  | n + 1, k + 1, h => by rw [ch_succ, ch_over (n := n) (k := k) (by omega), ch_over (n := n) (k := k + 1) (by omega)]
theorem ch_self : ∀ n : Nat, ch n n = 1
  | 0 => rfl
  | n + 1 => by rw [ch_succ, ch_self n, ch_over (Nat.lt_succ_self n)]
theorem ch_next : ∀ n k : Nat, ch n (k + 1) * (k + 1) = ch n k * (n - k)
  | 0, k => by
    cases k with
    | zero => rfl
    | succ k => simp [ch]
  | n + 1, 0 => by
    have := ch_next n 0
    rw [ch_succ, ch_zero, ch_zero]
    rw [ch_zero] at this
    omega
  | n + 1, k + 1 => by
    have h1 := ch_next n (k + 1)
    have h0 := ch_next n k
    rw [ch_succ, ch_succ]
    rw [Nat.add_mul, h1, Nat.add_mul]
    have e : n + 1 - (k + 1) = n - k := by omega
    rw [e, ← h0]
    by_cases hk : k + 1 ≤ n
    · have e2 : n - k = (n - (k + 1)) + 1 := by omega
      rw [e2]
      simp only [Nat.mul_add, Nat.mul_one]
      omega
    · rw [ch_over (n := n) (k := k + 1) (by omega)]
      simp
theorem ch_mono {n k : Nat} (h : 2 * k + 1 ≤ n) : ch n k ≤ ch n (k + 1) := by
  have e := ch_next n k
  have h1 : ch n k * (k + 1) ≤ ch n k * (n - k) := Nat.mul_le_mul_left _ (by omega)
  rw [← e] at h1
  exact Nat.le_of_mul_le_mul_right h1 (Nat.succ_pos k)
theorem ch_mono_le {n : Nat} : ∀ {i j : Nat}, i ≤ j → 2 * j ≤ n → ch n i ≤ ch n j := by
  intro i j hij
  induction hij with
  | refl => exact fun _ => Nat.le_refl _
  | step h ih =>
    intro hj
    exact Nat.le_trans (ih (by omega)) (ch_mono (by omega))
theorem ch_pos : ∀ {n k : Nat}, k ≤ n → 0 < ch n k
  | n, 0, _ => by rw [ch_zero]; exact Nat.one_pos
  | n + 1, k + 1, h => by rw [ch_succ]; have := ch_pos (n := n) (k := k) (by omega); omega
def pk (n : Nat) (k : Int) : Int := if k < 0 then 0 else (ch n k.toNat : Int)
theorem pk_neg {n : Nat} {k : Int} (h : k < 0) : pk n k = 0 := if_pos h
theorem pk_nat (n k : Nat) : pk n k = ch n k := by unfold pk; rw [if_neg (by omega)]; rfl
theorem pk_nonneg (n : Nat) (k : Int) : 0 ≤ pk n k := by unfold pk; split <;> omega
theorem pk_zero0 : pk 0 0 = 1 := rfl
theorem pk_zero {k : Int} (h : k ≠ 0) : pk 0 k = 0 := by
  by_cases hk : k < 0
  · exact pk_neg hk
  · obtain ⟨m, rfl⟩ := Int.eq_ofNat_of_zero_le (by omega : 0 ≤ k)
    rw [pk_nat]
    cases m with
    | zero => exact absurd rfl h
    | succ m => rfl
theorem pk_pascal (n : Nat) (k : Int) : pk (n + 1) k = pk n k + pk n (k - 1) := by
  by_cases h : k < 0
  · rw [pk_neg h, pk_neg h, pk_neg (by omega)]; rfl
  · obtain ⟨m, rfl⟩ := Int.eq_ofNat_of_zero_le (by omega : 0 ≤ k)
    cases m with
    | zero => rw [pk_nat, pk_nat, pk_neg (by omega), ch_zero, ch_zero]; rfl
    | succ m =>
      have e : ((m + 1 : Nat) : Int) - 1 = (m : Int) := by omega
      rw [e, pk_nat, pk_nat, pk_nat, ch_succ]
      omega
theorem pk_turn (n i : Nat) : (ch n i : Int) * ((n : Int) - (i : Int)) / ((i : Int) + 1) = (ch n (i + 1) : Int) := by
  have e : (ch n i : Int) * ((n : Int) - (i : Int)) = (ch n (i + 1) : Int) * ((i : Int) + 1) := by
    have h := ch_next n i
    by_cases hi : i ≤ n
    · have e2 : (n : Int) - (i : Int) = ((n - i : Nat) : Int) := by omega
      have e3 : ((i : Int) + 1) = ((i + 1 : Nat) : Int) := by omega
      rw [e2, e3, ← Int.natCast_mul, ← Int.natCast_mul, h]
    · rw [ch_over (n := n) (k := i) (by omega), ch_over (n := n) (k := i + 1) (by omega)]
      simp
  rw [e]
  exact Int.mul_ediv_cancel _ (by omega)
def prow (k : Nat) : List Int := (List.range (k + 1)).map fun (j : Nat) => (ch k j : Int)
theorem prow_len (k : Nat) : (prow k).length = k + 1 := by unfold prow; simp
theorem prow_get {k j : Nat} (h : j ≤ k) : (prow k)[j]? = some (ch k j : Int) := by
  unfold prow
  rw [List.getElem?_map, List.getElem?_range (by omega)]
  rfl
theorem prow_succ (k : Nat) : prow (k + 1) = 1 :: ((List.range k).map fun (j : Nat) => ((ch k j : Int) + (ch k (j + 1) : Int))) ++ [1] := by
  unfold prow
  rw [List.range_succ, List.map_append, List.range_succ_eq_map, List.map_cons, List.map_map]
  have e1 : ((ch (k + 1) 0 : Nat) : Int) = 1 := by rw [ch_zero]; rfl
  have e2 : ([k + 1].map fun (j : Nat) => (ch (k + 1) j : Int)) = [1] := by rw [List.map_singleton, ch_self]; rfl
  rw [e1, e2]
  congr 2
def en (l : Nat) (k w : Int) : Int := pk l k - pk l (k - w - 1)
theorem en_rec (l : Nat) (k w : Int) : en (l + 1) k w = en l k (w + 1) + en l (k - 1) (w - 1) := by
  unfold en
  rw [pk_pascal, pk_pascal]
  have e1 : k - (w + 1) - 1 = k - w - 1 - 1 := by omega
  have e2 : k - 1 - (w - 1) - 1 = k - w - 1 := by omega
  rw [e1, e2]
  omega
theorem en_k0 (l : Nat) {k w : Int} (h : k < 0) (hw : -1 ≤ w) : en l k w = 0 := by
  unfold en
  rw [pk_neg h, pk_neg (k := k - w - 1) (by omega)]
  rfl
theorem en_w (l : Nat) (k : Int) : en l k (-1) = 0 := by
  unfold en
  have e : k - -1 - 1 = k := by omega
  rw [e]
  omega
theorem en_zero0 {w : Int} (h : 0 ≤ w) : en 0 0 w = 1 := by
  unfold en
  rw [pk_neg (k := 0 - w - 1) (by omega)]
  rfl
theorem en_zero {k w : Int} (h : 0 < k) : en 0 k w ≤ 0 := by unfold en; rw [pk_zero (by omega)]; have := pk_nonneg 0 (k - w - 1); omega
theorem en_nonneg : ∀ (l : Nat) (k w : Int), 0 ≤ k → -1 ≤ w → 2 * k ≤ w + l + 1 → 0 ≤ en l k w
  | l, k, w, hk, hw, h => by
    by_cases hw1 : w = -1
    · rw [hw1, en_w]
      exact Int.le_refl 0
    · match l with
      | 0 =>
        by_cases hk0 : k = 0
        · rw [hk0, en_zero0 (by omega)]
          decide
        · unfold en
          rw [pk_zero hk0, pk_zero (by omega)]
          decide
      | l + 1 =>
        rw [en_rec]
        have h1 := en_nonneg l k (w + 1) hk (by omega) (by omega)
        by_cases hk0 : k = 0
        · rw [en_k0 l (k := k - 1) (by omega) (by omega)]
          omega
        · have h2 := en_nonneg l (k - 1) (w - 1) (by omega) (by omega) (by omega)
          omega
def U : Nat → Int → Int → Int → Int → List Int
  | 0, _, _, _, _ => []
  | l + 1, t, k, w, a => if a < en l k (w + 1) then U l (t + 1) k (w + 1) a else t :: U l (t + 1) (k - 1) (w - 1) (a - en l k (w + 1))
def Gd (ms : List Int) : Nat → Int → Int → Prop
  | 0, _, _ => True
  | l + 1, t, w => if t ∈ ms then 0 < w ∧ Gd ms l (t + 1) (w - 1) else Gd ms l (t + 1) (w + 1)
def cn (ms : List Int) : Nat → Int → Int
  | 0, _ => 0
  | l + 1, t => (if t ∈ ms then 1 else 0) + cn ms l (t + 1)
def R (ms : List Int) : Nat → Int → Int → Int → Int
  | 0, _, _, _ => 0
  | l + 1, t, k, w => if t ∈ ms then en l k (w + 1) + R ms l (t + 1) (k - 1) (w - 1) else R ms l (t + 1) k (w + 1)
def sl (ms : List Int) : Nat → Int → List Int
  | 0, _ => []
  | l + 1, t => if t ∈ ms then t :: sl ms l (t + 1) else sl ms l (t + 1)
theorem cn_nonneg (ms : List Int) : ∀ (l : Nat) (t : Int), 0 ≤ cn ms l t
  | 0, _ => Int.le_refl 0
  | l + 1, t => by
    have := cn_nonneg ms l (t + 1)
    unfold cn
    split <;> omega
theorem Gd_cn {ms : List Int} : ∀ {l : Nat} {t w : Int}, Gd ms l t w → 0 ≤ w → 2 * cn ms l t ≤ w + l
  | 0, t, w, _, h => by show 2 * (0 : Int) ≤ w + ((0 : Nat) : Int); omega
  | l + 1, t, w, g, h => by
    unfold Gd at g
    unfold cn
    by_cases ht : t ∈ ms
    · rw [if_pos ht] at g
      rw [if_pos ht]
      have := Gd_cn g.2 (by omega)
      omega
    · rw [if_neg ht] at g
      rw [if_neg ht]
      have := Gd_cn g (by omega)
      omega
theorem R_ok {ms : List Int} : ∀ {l : Nat} {t w k : Int}, Gd ms l t w → 0 ≤ w → k = cn ms l t → 0 ≤ R ms l t k w ∧ R ms l t k w < en l k w ∧ U l t k w (R ms l t k w) = sl ms l t
  | 0, t, w, k, g, h, e => by
    subst e
    refine ⟨Int.le_refl 0, ?_, rfl⟩
    show (0 : Int) < en 0 0 w
    rw [en_zero0 h]
    decide
  | l + 1, t, w, k, g, h, e => by
    have gc := Gd_cn g h
    rw [← e] at gc
    unfold Gd at g
    unfold cn at e
    unfold R sl
    have k0 : 0 ≤ k := by have := cn_nonneg ms l (t + 1); rw [e]; split <;> omega
    rw [en_rec]
    by_cases ht : t ∈ ms
    · rw [if_pos ht] at g e
      rw [if_pos ht, if_pos ht]
      obtain ⟨r0, r1, r2⟩ := R_ok (k := k - 1) g.2 (by omega) (by omega)
      have n0 := en_nonneg l k (w + 1) k0 (by omega) (by omega)
      refine ⟨by omega, by omega, ?_⟩
      unfold U
      rw [if_neg (by omega)]
      have e1 : en l k (w + 1) + R ms l (t + 1) (k - 1) (w - 1) - en l k (w + 1) = R ms l (t + 1) (k - 1) (w - 1) := by omega
      rw [e1, r2]
    · rw [if_neg ht] at g e
      rw [if_neg ht, if_neg ht]
      obtain ⟨r0, r1, r2⟩ := R_ok (k := k) g (by omega) (by omega)
      have n0 : 0 ≤ en l (k - 1) (w - 1) := by
        by_cases hk : k = 0
        · rw [en_k0 l (k := k - 1) (by omega) (by omega)]
          exact Int.le_refl 0
        · exact en_nonneg l (k - 1) (w - 1) (by omega) (by omega) (by omega)
      refine ⟨r0, by omega, ?_⟩
      unfold U
      rw [if_pos r1, r2]
theorem en_in {l : Nat} {k w a : Int} (hk : 0 ≤ k) (hw : 0 ≤ w) (h1 : a < en (l + 1) k w) (h2 : ¬ a < en l k (w + 1)) : 0 < k ∧ 0 < w ∧ a - en l k (w + 1) < en l (k - 1) (w - 1) := by
  rw [en_rec] at h1
  have h3 : 0 < en l (k - 1) (w - 1) := by omega
  refine ⟨?_, ?_, by omega⟩
  · by_cases e : k = 0
    · rw [en_k0 l (k := k - 1) (by omega) (by omega)] at h3
      omega
    · omega
  · by_cases e : w = 0
    · have e1 : w - 1 = -1 := by omega
      rw [e1, en_w] at h3
      omega
    · omega
theorem U_set : ∀ {l : Nat} {t k w a : Int}, 0 ≤ k → 0 ≤ w → 0 ≤ a → a < en l k w → (U l t k w a).Pairwise (· < ·) ∧ (∀ x ∈ U l t k w a, t ≤ x ∧ x < t + l) ∧ ((U l t k w a).length : Int) = k
  | 0, t, k, w, a, hk, hw, h0, h1 => by
    refine ⟨List.Pairwise.nil, (fun _ h => nomatch h), ?_⟩
    by_cases e : k = 0
    · rw [e]; rfl
    · have := en_zero (k := k) (w := w) (by omega)
      omega
  | l + 1, t, k, w, a, hk, hw, h0, h1 => by
    unfold U
    by_cases h : a < en l k (w + 1)
    · rw [if_pos h]
      obtain ⟨p, q, r⟩ := U_set (t := t + 1) hk (by omega : 0 ≤ w + 1) h0 h
      exact ⟨p, fun x hx => by have := q x hx; omega, r⟩
    · rw [if_neg h]
      obtain ⟨k1, w1, a1⟩ := en_in hk hw h1 h
      obtain ⟨p, q, r⟩ := U_set (t := t + 1) (by omega : 0 ≤ k - 1) (by omega : 0 ≤ w - 1) (by omega) a1
      refine ⟨List.pairwise_cons.mpr ⟨fun x hx => by have := q x hx; omega, p⟩, fun x hx => ?_, ?_⟩
      · rcases List.mem_cons.mp hx with e | e
        · omega
        · have := q x e; omega
      · rw [List.length_cons]
        omega
theorem U_gd {ms : List Int} : ∀ {l : Nat} {t k w a : Int}, 0 ≤ k → 0 ≤ w → 0 ≤ a → a < en l k w → (∀ x, t ≤ x → x < t + l → (x ∈ ms ↔ x ∈ U l t k w a)) → Gd ms l t w ∧ R ms l t k w = a
  | 0, t, k, w, a, hk, hw, h0, h1, hm => by
    refine ⟨trivial, ?_⟩
    by_cases e : k = 0
    · subst e
      rw [en_zero0 hw] at h1
      show (0 : Int) = a
      omega
    · have := en_zero (k := k) (w := w) (by omega)
      omega
  | l + 1, t, k, w, a, hk, hw, h0, h1, hm => by
    unfold Gd R
    unfold U at hm
    by_cases h : a < en l k (w + 1)
    · rw [if_pos h] at hm
      have hs := U_set (t := t + 1) hk (by omega : 0 ≤ w + 1) h0 h
      have ht : t ∉ ms := fun z => by
        have := hs.2.1 t ((hm t (by omega) (by omega)).mp z)
        omega
      rw [if_neg ht, if_neg ht]
      exact U_gd hk (by omega) h0 h (fun x hx hx2 => hm x (by omega) (by omega))
    · rw [if_neg h] at hm
      obtain ⟨k1, w1, a1⟩ := en_in hk hw h1 h
      have ht : t ∈ ms := (hm t (by omega) (by omega)).mpr List.mem_cons_self
      rw [if_pos ht, if_pos ht]
      obtain ⟨g, r⟩ := U_gd (ms := ms) (t := t + 1) (by omega : 0 ≤ k - 1) (by omega : 0 ≤ w - 1) (by omega : 0 ≤ a - en l k (w + 1)) a1 (fun x hx hx2 => by
        rw [hm x (by omega) (by omega), List.mem_cons]
        exact ⟨fun z => z.resolve_left (by omega), .inr⟩)
      exact ⟨⟨w1, g⟩, by omega⟩
theorem U_lex : ∀ {l : Nat} {t k w a b : Int}, 0 ≤ k → 0 ≤ w → 0 ≤ a → a < b → b < en l k w → ∃ x, t ≤ x ∧ x < t + l ∧ x ∈ U l t k w b ∧ x ∉ U l t k w a ∧ ∀ y, y < x → (y ∈ U l t k w a ↔ y ∈ U l t k w b)
  | 0, t, k, w, a, b, hk, hw, h0, hab, h1 => by
    exfalso
    by_cases e : k = 0
    · subst e
      rw [en_zero0 hw] at h1
      omega
    · have := en_zero (k := k) (w := w) (by omega)
      omega
  | l + 1, t, k, w, a, b, hk, hw, h0, hab, h1 => by
    unfold U
    by_cases hb : b < en l k (w + 1)
    · rw [if_pos hb, if_pos (by omega)]
      obtain ⟨x, x1, x2, x3, x4, x5⟩ := U_lex (t := t + 1) hk (by omega : 0 ≤ w + 1) h0 hab hb
      exact ⟨x, by omega, by omega, x3, x4, x5⟩
    · obtain ⟨k1, w1, b1⟩ := en_in hk hw h1 hb
      rw [if_neg hb]
      by_cases ha : a < en l k (w + 1)
      · rw [if_pos ha]
        have hs := U_set (t := t + 1) hk (by omega : 0 ≤ w + 1) h0 ha
        have hs2 := U_set (t := t + 1) (by omega : 0 ≤ k - 1) (by omega : 0 ≤ w - 1) (by omega) b1
        refine ⟨t, by omega, by omega, List.mem_cons_self, fun z => ?_, fun y hy => ?_⟩
        · have := hs.2.1 t z
          omega
        · refine ⟨fun z => ?_, fun z => ?_⟩
          · have := hs.2.1 y z
            omega
          · rcases List.mem_cons.mp z with e | e
            · omega
            · have := hs2.2.1 y e
              omega
      · rw [if_neg ha]
        obtain ⟨x, x1, x2, x3, x4, x5⟩ := U_lex (t := t + 1) (by omega : 0 ≤ k - 1) (by omega : 0 ≤ w - 1) (by omega : 0 ≤ a - en l k (w + 1)) (by omega : a - en l k (w + 1) < b - en l k (w + 1)) b1
        refine ⟨x, by omega, by omega, List.mem_cons_of_mem _ x3, fun z => ?_, fun y hy => ?_⟩
        · rcases List.mem_cons.mp z with e | e
          · omega
          · exact x4 e
        · rw [List.mem_cons, List.mem_cons, x5 y hy]
theorem Gd_wait {ms : List Int} : ∀ {l t : Nat}, Gd ms l t ((pst ms t).1.length : Int) ↔ ∀ x : Nat, t ≤ x → x < t + l → (x : Int) ∈ ms → (pst ms x).1 ≠ []
  | 0, t => ⟨fun _ x h1 h2 => by omega, fun _ => trivial⟩
  | l + 1, t => by
    have ih := Gd_wait (ms := ms) (l := l) (t := t + 1)
    have e1 : ((t + 1 : Nat) : Int) = (t : Int) + 1 := by omega
    rw [e1] at ih
    unfold Gd
    by_cases ht : (t : Int) ∈ ms
    · rw [if_pos ht]
      rcases last_cases (pst ms t).1 with e | ⟨w, b, e⟩
      · refine ⟨fun h => ?_, fun h => ?_⟩
        · have := h.1
          rw [e] at this
          exact absurd this (by decide)
        · exact absurd e (h t (Nat.le_refl t) (by omega) ht)
      · have e2 : pst ms t = (w ++ [b], (pst ms t).2) := Prod.ext e rfl
        have e3 : (pst ms (t + 1)).1.length = w.length := by rw [pst_succ, e2, stp_pop ht]
        rw [e3] at ih
        have e4 : (((pst ms t).1.length : Nat) : Int) - 1 = (w.length : Int) := by rw [e, List.length_append]; simp
        rw [e4, ih]
        refine ⟨fun h x h1 h2 hx => ?_, fun h => ⟨by rw [e, List.length_append]; show (0 : Int) < ((w.length + 1 : Nat) : Int); omega, fun x h1 h2 hx => h x (by omega) (by omega) hx⟩⟩
        by_cases ex : x = t
        · subst ex
          rw [e]
          simp
        · exact h.2 x (by omega) (by omega) hx
    · rw [if_neg ht]
      have e3 : (((pst ms (t + 1)).1.length : Nat) : Int) = ((pst ms t).1.length : Int) + 1 := by rw [pst_succ, stp_out ht, List.length_append]; simp
      rw [e3] at ih
      rw [ih]
      refine ⟨fun h x h1 h2 hx => ?_, fun h x h1 h2 hx => h x (by omega) (by omega) hx⟩
      by_cases ex : x = t
      · subst ex
        exact absurd hx ht
      · exact h x (by omega) (by omega) hx
theorem Gd_lms {n : Nat} {ms : List Int} (h : IsSet n ms) : Gd ms n 0 0 ↔ lms n ms = [] := by
  have g := Gd_wait (ms := ms) (l := n) (t := 0)
  refine Iff.trans g ⟨fun k => ?_, fun k x _ hx hm e => ?_⟩
  · rw [List.eq_nil_iff_forall_not_mem]
    intro x hx
    have m := (mem_lms.mp hx)
    obtain ⟨y, rfl⟩ := Int.eq_ofNat_of_zero_le m.1.1
    exact k y (Nat.zero_le _) (by omega) m.2.1 ((loose_wait (by omega) m.2.1).mp hx)
  · have := (loose_wait (n := n) (by omega : x < n) hm).mpr e
    rw [k] at this
    exact nomatch this
theorem sl_mem {ms : List Int} : ∀ {l : Nat} {t : Int}, (sl ms l t).Pairwise (· < ·) ∧ ∀ x, x ∈ sl ms l t ↔ x ∈ ms ∧ t ≤ x ∧ x < t + l
  | 0, t => ⟨List.Pairwise.nil, fun x => ⟨(fun h => nomatch h), (fun h => by have := h.2; omega)⟩⟩
  | l + 1, t => by
    obtain ⟨p, q⟩ := sl_mem (ms := ms) (l := l) (t := t + 1)
    unfold sl
    by_cases ht : t ∈ ms
    · rw [if_pos ht]
      refine ⟨List.pairwise_cons.mpr ⟨fun x hx => by have := (q x).mp hx; omega, p⟩, fun x => ?_⟩
      rw [List.mem_cons, q]
      refine ⟨fun h => ?_, fun h => ?_⟩
      · rcases h with h | h
        · subst h
          exact ⟨ht, by omega, by omega⟩
        · exact ⟨h.1, by omega, by omega⟩
      · by_cases e : x = t
        · exact .inl e
        · exact .inr ⟨h.1, by omega, by omega⟩
    · rw [if_neg ht]
      refine ⟨p, fun x => ?_⟩
      rw [q]
      refine ⟨fun h => ⟨h.1, by omega, by omega⟩, fun h => ⟨h.1, ?_, by omega⟩⟩
      by_cases e : x = t
      · subst e
        exact absurd h.1 ht
      · omega
theorem sl_set {n : Nat} {ms : List Int} (h : IsSet n ms) : sl ms n 0 = ms := by
  obtain ⟨p, q⟩ := sl_mem (ms := ms) (l := n) (t := 0)
  refine pw_ext p h.up fun x => ?_
  rw [q]
  exact ⟨fun z => z.1, fun z => ⟨z, h.lo x z, by have := h.hi x z; omega⟩⟩
theorem cn_sl (ms : List Int) : ∀ (l : Nat) (t : Int), ((sl ms l t).length : Int) = cn ms l t
  | 0, _ => rfl
  | l + 1, t => by
    unfold sl cn
    have := cn_sl ms l (t + 1)
    by_cases ht : t ∈ ms
    · rw [if_pos ht, if_pos ht, List.length_cons]
      omega
    · rw [if_neg ht, if_neg ht]
      omega
theorem first_few (p : Nat → Bool) : ∀ N : Nat, (∀ s, s + 1 < N → p (s + 1) = true → p s = true) → ((List.range N).filter p).length ≤ N ∧ ∀ s, s < N → (p s = true ↔ s < ((List.range N).filter p).length)
  | 0, _ => ⟨Nat.le_refl 0, fun s h => absurd h (Nat.not_lt_zero s)⟩
  | N + 1, hp => by
    obtain ⟨a, b⟩ := first_few p N fun s hs => hp s (by omega)
    rw [List.range_succ, List.filter_append, List.length_append]
    by_cases h : p N = true
    · have all : ∀ d s, s + d = N → p s = true := by
        intro d
        induction d with
        | zero => intro s e; rw [show s = N by omega]; exact h
        | succ d ih => intro s e; exact hp s (by omega) (ih (s + 1) (by omega))
      have e : ((List.range N).filter p).length = N := by
        rw [List.filter_eq_self.mpr fun s hs => all (N - s) s (by have := List.mem_range.mp hs; omega), List.length_range]
      have e2 : ([N].filter p).length = 1 := by simp [h]
      rw [e, e2]
      refine ⟨Nat.le_refl _, fun s hs => ⟨fun _ => hs, fun _ => all (N - s) s (by omega)⟩⟩
    · have e2 : ([N].filter p).length = 0 := by simp [h]
      rw [e2]
      refine ⟨by omega, fun s hs => ?_⟩
      by_cases es : s = N
      · subst es
        exact ⟨fun z => absurd z h, fun z => by omega⟩
      · exact b s (by omega)
def szb (n : Nat) (m : Int) : Nat := ((List.range (n / 2)).filter fun (s : Nat) => decide (pk n (s : Int) ≤ m)).length
theorem szb_ok {n : Nat} {m : Int} (h0 : 0 ≤ m) (h1 : m < pk n ((n / 2 : Nat) : Int)) : szb n m ≤ n / 2 ∧ pk n ((szb n m : Int) - 1) ≤ m ∧ m < pk n (szb n m) := by
  obtain ⟨a, b⟩ := first_few (fun (s : Nat) => decide (pk n (s : Int) ≤ m)) (n / 2) fun s hs h => by
    have h' := of_decide_eq_true h
    rw [pk_nat] at h'
    have := ch_mono (n := n) (k := s) (by omega)
    exact decide_eq_true (by rw [pk_nat]; omega)
  refine ⟨a, ?_, ?_⟩
  · by_cases e : szb n m = 0
    · rw [e, pk_neg (by decide)]
      exact h0
    · have := (b (szb n m - 1) (by unfold szb at *; omega)).mpr (by unfold szb at *; omega)
      have h' := of_decide_eq_true this
      have e2 : ((szb n m - 1 : Nat) : Int) = (szb n m : Int) - 1 := by omega
      rw [e2] at h'
      exact h'
  · by_cases e : szb n m = n / 2
    · rw [e]
      exact h1
    · have hl : szb n m < n / 2 := by unfold szb at *; omega
      have : ¬ (decide (pk n (szb n m : Int) ≤ m) = true) := fun z => by
        have := (b (szb n m) hl).mp z
        exact absurd this (by unfold szb; omega)
      have h' := of_decide_eq_false (Bool.eq_false_iff.mpr this)
      omega
theorem szb_eq {n k : Nat} {m : Int} (hk : k ≤ n / 2) (h0 : 0 ≤ m) (h1 : pk n ((k : Int) - 1) ≤ m) (h2 : m < pk n k) : szb n m = k := by
  have mono : ∀ {i j : Nat}, i ≤ j → j ≤ n / 2 → pk n i ≤ pk n j := fun {i j} h h' => by
    rw [pk_nat, pk_nat]
    have := ch_mono_le (n := n) h (by omega)
    omega
  have hm : m < pk n ((n / 2 : Nat) : Int) := Int.lt_of_lt_of_le h2 (mono hk (Nat.le_refl _))
  obtain ⟨a, b, c⟩ := szb_ok h0 hm
  rcases Nat.lt_trichotomy (szb n m) k with h | h | h
  · have := mono (i := szb n m) (j := k - 1) (by omega) (by omega)
    have e : ((k - 1 : Nat) : Int) = (k : Int) - 1 := by omega
    rw [e] at this
    omega
  · exact h
  · have := mono (i := k) (j := szb n m - 1) (by omega) (by omega)
    have e : ((szb n m - 1 : Nat) : Int) = (szb n m : Int) - 1 := by omega
    rw [e] at this
    omega
def tot (n : Nat) : Int := pk n ((n / 2 : Nat) : Int)
def bo (n : Nat) (m : Int) : List Int := U n 0 (szb n m) 0 (m - pk n ((szb n m : Int) - 1))
def rk (n : Nat) (B : List Int) : Int := pk n ((B.length : Int) - 1) + R B n 0 B.length 0
theorem tot_pos (n : Nat) : 0 < tot n := by
  unfold tot
  rw [pk_nat]
  have := ch_pos (n := n) (k := n / 2) (by omega)
  omega
theorem en_all (n : Nat) (k : Int) : en n k 0 = pk n k - pk n (k - 1) := by
  unfold en
  rw [show k - 0 - 1 = k - 1 by omega]
structure IsBot (n : Nat) (B : List Int) : Prop where
  set : IsSet n B
  no : lms n B = []
theorem bo_ok {n : Nat} {m : Int} (h0 : 0 ≤ m) (h1 : m < tot n) : IsBot n (bo n m) ∧ (bo n m).length = szb n m ∧ rk n (bo n m) = m := by
  obtain ⟨a, b, c⟩ := szb_ok h0 h1
  have hlt : m - pk n ((szb n m : Int) - 1) < en n (szb n m) 0 := by rw [en_all]; omega
  obtain ⟨p, q, r⟩ := U_set (l := n) (t := 0) (k := szb n m) (w := 0) (a := m - pk n ((szb n m : Int) - 1)) (by omega) (by omega) (by omega) hlt
  obtain ⟨g, e⟩ := U_gd (ms := bo n m) (l := n) (t := 0) (k := szb n m) (w := 0) (a := m - pk n ((szb n m : Int) - 1)) (by omega) (by omega) (by omega) hlt fun x _ _ => Iff.rfl
  have hS : IsSet n (bo n m) := ⟨p, fun x hx => (q x hx).1, fun x hx => by have := (q x hx).2; omega⟩
  have hl : (bo n m).length = szb n m := by unfold bo; omega
  refine ⟨⟨hS, (Gd_lms hS).mp g⟩, hl, ?_⟩
  unfold rk
  rw [hl, e]
  omega
theorem bot_half {n : Nat} {B : List Int} (h : IsBot n B) : 2 * B.length ≤ n := by
  have g := (Gd_lms h.set).mpr h.no
  have := Gd_cn g (Int.le_refl 0)
  rw [← cn_sl, sl_set h.set] at this
  omega
theorem rk_ok {n : Nat} {B : List Int} (h : IsBot n B) : 0 ≤ rk n B ∧ rk n B < tot n ∧ bo n (rk n B) = B := by
  have g := (Gd_lms h.set).mpr h.no
  have hh := bot_half h
  have ec : (B.length : Int) = cn B n 0 := by rw [← cn_sl, sl_set h.set]
  obtain ⟨r0, r1, r2⟩ := R_ok g (Int.le_refl 0) ec
  rw [en_all] at r1
  have p0 := pk_nonneg n ((B.length : Int) - 1)
  have h0 : 0 ≤ rk n B := by unfold rk; omega
  have h2 : rk n B < pk n B.length := by unfold rk; omega
  have es : szb n (rk n B) = B.length := szb_eq (by omega) h0 (by unfold rk; omega) h2
  refine ⟨h0, ?_, ?_⟩
  · have := ch_mono_le (n := n) (i := B.length) (j := n / 2) (by omega) (by omega)
    unfold tot
    rw [pk_nat] at h2 ⊢
    omega
  · unfold bo
    rw [es]
    have e : rk n B - pk n ((B.length : Int) - 1) = R B n 0 B.length 0 := by unfold rk; omega
    rw [e, r2, sl_set h.set]
theorem bo_zero (n : Nat) : bo n 0 = [] := by
  obtain ⟨a, b, c⟩ := bo_ok (n := n) (m := 0) (Int.le_refl 0) (tot_pos n)
  have e : szb n 0 = 0 := szb_eq (Nat.zero_le _) (Int.le_refl 0) (by rw [pk_neg (by decide)]; decide) (by show 0 < pk n ((0 : Nat) : Int); rw [pk_nat, ch_zero]; decide)
  rw [e] at b
  exact List.eq_nil_of_length_eq_zero b
theorem bo_next {n : Nat} {m : Int} (h0 : 0 ≤ m) (h1 : m + 1 < tot n) : (bo n m).length < (bo n (m + 1)).length ∨ ((bo n m).length = (bo n (m + 1)).length ∧ ∃ x : Int, 0 ≤ x ∧ x < n ∧ x ∈ bo n (m + 1) ∧ x ∉ bo n m ∧ ∀ y, y < x → (y ∈ bo n m ↔ y ∈ bo n (m + 1))) := by
  obtain ⟨_, l1, _⟩ := bo_ok (n := n) (m := m) h0 (by omega)
  obtain ⟨_, l2, _⟩ := bo_ok (n := n) (m := m + 1) (by omega) h1
  obtain ⟨a1, b1, c1⟩ := szb_ok (n := n) (m := m) h0 (by unfold tot at h1; omega)
  obtain ⟨a2, b2, c2⟩ := szb_ok (n := n) (m := m + 1) (by omega) h1
  rw [l1, l2]
  by_cases hc : m + 1 < pk n (szb n m)
  · have e : szb n (m + 1) = szb n m := szb_eq a1 (by omega) (by omega) hc
    refine .inr ⟨e.symm, ?_⟩
    unfold bo
    rw [e]
    have hlt : m + 1 - pk n ((szb n m : Int) - 1) < en n (szb n m) 0 := by rw [en_all]; omega
    obtain ⟨x, x1, x2, x3, x4, x5⟩ := U_lex (l := n) (t := 0) (k := szb n m) (w := 0) (a := m - pk n ((szb n m : Int) - 1)) (b := m + 1 - pk n ((szb n m : Int) - 1)) (by omega) (by omega) (by omega) (by omega) hlt
    exact ⟨x, x1, by omega, x3, x4, x5⟩
  · refine .inl ?_
    rcases Nat.lt_or_ge (szb n m) (szb n (m + 1)) with h | h
    · exact h
    · have mono : pk n (szb n (m + 1)) ≤ pk n (szb n m) := by
        rw [pk_nat, pk_nat]
        have := ch_mono_le (n := n) h (by omega)
        omega
      omega
end M

namespace M
def fac : Nat → Nat
  | 0 => 1
  | n + 1 => (n + 1) * fac n
theorem fac_pos : ∀ n, 0 < fac n
  | 0 => Nat.one_pos
  | n + 1 => Nat.mul_pos (Nat.succ_pos n) (fac_pos n)
def wt (n : Nat) (A : List Int) : Nat := fac A.length * fac (n - A.length)
def sm {α : Type} (f : α → Nat) (l : List α) : Nat := (l.map f).sum
theorem sm_nil {α : Type} (f : α → Nat) : sm f [] = 0 := rfl
theorem sm_cons {α : Type} (f : α → Nat) (a : α) (l : List α) : sm f (a :: l) = f a + sm f l := by unfold sm; rw [List.map_cons, List.sum_cons]
theorem sm_append {α : Type} (f : α → Nat) : ∀ (l m : List α), sm f (l ++ m) = sm f l + sm f m
  | [], m => by rw [List.nil_append, sm_nil, Nat.zero_add]
  | a :: l, m => by rw [List.cons_append, sm_cons, sm_cons, sm_append f l m, Nat.add_assoc]
theorem sm_add {α : Type} (f g : α → Nat) : ∀ l : List α, sm (fun a => f a + g a) l = sm f l + sm g l
  | [] => rfl
  | a :: l => by rw [sm_cons, sm_cons, sm_cons, sm_add f g l]; omega
theorem sm_zero {α : Type} : ∀ l : List α, sm (fun _ => 0) l = 0
  | [] => rfl
  | a :: l => by rw [sm_cons, sm_zero l]
theorem sm_le {α : Type} {f : α → Nat} {c : Nat} : ∀ {l : List α}, (∀ a ∈ l, f a ≤ c) → sm f l ≤ l.length * c
  | [], _ => by rw [sm_nil]; exact Nat.zero_le _
  | a :: l, h => by
    rw [sm_cons, List.length_cons, Nat.succ_mul]
    have h1 := h a List.mem_cons_self
    have h2 := sm_le (l := l) fun b hb => h b (List.mem_cons_of_mem _ hb)
    omega
theorem sm_ge {α : Type} {f : α → Nat} {c d : Nat} : ∀ {l : List α}, (∀ a ∈ l, c ≤ d * f a) → l.length * c ≤ d * sm f l
  | [], _ => by rw [List.length_nil, Nat.zero_mul]; exact Nat.zero_le _
  | a :: l, h => by
    rw [sm_cons, List.length_cons, Nat.succ_mul, Nat.mul_add]
    have h1 := h a List.mem_cons_self
    have h2 := sm_ge (l := l) fun b hb => h b (List.mem_cons_of_mem _ hb)
    omega
theorem sm_congr {α : Type} {f g : α → Nat} : ∀ {l : List α}, (∀ a ∈ l, f a = g a) → sm f l = sm g l
  | [], _ => rfl
  | a :: l, h => by rw [sm_cons, sm_cons, h a List.mem_cons_self, sm_congr fun b hb => h b (List.mem_cons_of_mem _ hb)]
theorem sm_swap {α β : Type} (f : α → β → Nat) (m : List β) : ∀ l : List α, sm (fun a => sm (f a) m) l = sm (fun b => sm (fun a => f a b) l) m
  | [] => by rw [sm_nil]; exact (sm_zero m).symm
  | a :: l => by
    rw [sm_cons, sm_swap f m l, ← sm_add]
    exact sm_congr fun b _ => (sm_cons (fun a => f a b) a l).symm
theorem sm_filter {α : Type} (f : α → Nat) (p : α → Bool) : ∀ l : List α, sm f (l.filter p) = sm (fun a => if p a = true then f a else 0) l
  | [] => rfl
  | a :: l => by
    rw [sm_cons, List.filter_cons]
    by_cases h : p a = true
    · rw [if_pos h, if_pos h, sm_cons, sm_filter f p l]
    · rw [if_neg h, if_neg h, sm_filter f p l, Nat.zero_add]
theorem sm_const {α : Type} (c : Nat) (p : α → Bool) : ∀ l : List α, sm (fun a => if p a = true then c else 0) l = (l.filter p).length * c
  | [] => by rw [sm_nil]; simp
  | a :: l => by
    rw [sm_cons, sm_const c p l, List.filter_cons]
    by_cases h : p a = true
    · rw [if_pos h, if_pos h, List.length_cons, Nat.succ_mul]; omega
    · rw [if_neg h, if_neg h, Nat.zero_add]
def Apart (A B : List Int) : Prop := ¬ (A ⊆ B) ∧ ¬ (B ⊆ A)
theorem sub_len : ∀ {A S : List Int}, A.Nodup → A ⊆ S → A.length ≤ S.length
  | [], _, _, _ => Nat.zero_le _
  | a :: A, S, hn, hs => by
    rw [List.nodup_cons] at hn
    have ha : a ∈ S := hs List.mem_cons_self
    have h := sub_len (A := A) (S := S.erase a) hn.2 fun x hx => by
      refine (List.mem_erase_of_ne ?_).mpr (hs (List.mem_cons_of_mem _ hx))
      intro e
      subst e
      exact hn.1 hx
    have hp : 0 < S.length := List.length_pos_of_mem ha
    rw [List.length_erase_of_mem ha] at h
    rw [List.length_cons]
    omega
theorem sub_all {A S : List Int} (hn : A.Nodup) (hs : A ⊆ S) (hS : S.Nodup) (hl : S.length ≤ A.length) : S ⊆ A := fun x hx => by
  by_cases h : x ∈ A
  · exact h
  · have := sub_len (A := x :: A) (S := S) (List.nodup_cons.mpr ⟨h, hn⟩) fun y hy => by
      rcases List.mem_cons.mp hy with e | e
      · subst e; exact hx
      · exact hs e
    rw [List.length_cons] at this
    omega
theorem out_len : ∀ {S A : List Int}, S.Nodup → A.Nodup → A ⊆ S → (S.filter fun x => decide (x ∉ A)).length + A.length = S.length
  | S, [], _, _, _ => by
    have e : (S.filter fun x => decide (x ∉ ([] : List Int))) = S := List.filter_eq_self.mpr fun x _ => decide_eq_true (fun h => nomatch h)
    rw [e]
    rfl
  | S, a :: A, hS, hA, hs => by
    rw [List.nodup_cons] at hA
    have ha : a ∈ S := hs List.mem_cons_self
    have ih := out_len (S := S.erase a) (A := A) (hS.erase a) hA.2 fun x hx => by
      refine (List.mem_erase_of_ne ?_).mpr (hs (List.mem_cons_of_mem _ hx))
      intro e
      subst e
      exact hA.1 hx
    rw [List.length_erase_of_mem ha] at ih
    have hp : 0 < S.length := List.length_pos_of_mem ha
    have e : (S.filter fun x => decide (x ∉ a :: A)) = ((S.erase a).filter fun x => decide (x ∉ A)) := by
      rw [hS.erase_eq_filter, List.filter_filter]
      refine List.filter_congr fun x _ => ?_
      by_cases h1 : x = a
      · subst h1
        simp
      · by_cases h2 : x ∈ A
        · simp [h2]
        · simp [h1, h2]
    rw [e, List.length_cons]
    omega
theorem lym : ∀ (n : Nat) (S : List Int) (F : List (List Int)), S.Nodup → S.length = n → (∀ A ∈ F, A.Nodup ∧ A ⊆ S) → F.Pairwise Apart → sm (wt n) F ≤ fac n
  | 0, S, F, hS, hl, hF, hp => by
    have hS0 : S = [] := List.eq_nil_of_length_eq_zero hl
    have hA : ∀ A ∈ F, A = [] := fun A h => by
      have := (hF A h).2
      rw [hS0] at this
      exact List.eq_nil_iff_forall_not_mem.mpr fun x hx => nomatch this hx
    match F, hp, hA with
    | [], _, _ => exact Nat.zero_le _
    | [A], _, hA => rw [hA A List.mem_cons_self]; decide
    | A :: B :: F, hp, hA =>
      have := (List.pairwise_cons.mp hp).1 B List.mem_cons_self
      rw [hA A List.mem_cons_self] at this
      exact absurd (fun _ h => nomatch h) this.1
  | n + 1, S, F, hS, hl, hF, hp => by
    by_cases hfull : ∃ A ∈ F, n + 1 ≤ A.length
    · obtain ⟨A, hA, hAl⟩ := hfull
      have hAS := sub_all (hF A hA).1 (hF A hA).2 hS (by omega)
      have hAl2 : A.length = n + 1 := by have := sub_len (hF A hA).1 (hF A hA).2; omega
      obtain ⟨F1, F2, rfl⟩ := List.append_of_mem hA
      rw [List.pairwise_append, List.pairwise_cons] at hp
      have e1 : F1 = [] := by
        cases F1 with
        | nil => rfl
        | cons B F1 =>
          have := hp.2.2 B List.mem_cons_self A List.mem_cons_self
          exact absurd (fun x hx => hAS ((hF B (by simp)).2 hx)) this.1
      have e2 : F2 = [] := by
        cases F2 with
        | nil => rfl
        | cons B F2 =>
          have := hp.2.1.1 B List.mem_cons_self
          exact absurd (fun x hx => hAS ((hF B (by simp)).2 hx)) this.2
      rw [e1, e2, List.nil_append, sm_cons, sm_nil]
      unfold wt
      rw [hAl2, Nat.sub_self]
      show fac (n + 1) * 1 + 0 ≤ fac (n + 1)
      omega
    · have hsm : ∀ A ∈ F, A.length ≤ n := fun A hA => by
        by_cases h : A.length ≤ n
        · exact h
        · exact absurd ⟨A, hA, by omega⟩ hfull
      have ih : ∀ x ∈ S, sm (fun A => if decide (x ∉ A) = true then wt n A else 0) F ≤ fac n := fun x hx => by
        rw [← sm_filter (wt n) (fun A => decide (x ∉ A)) F]
        refine lym n (S.erase x) _ (hS.erase x) (by rw [List.length_erase_of_mem hx]; omega) (fun A hA => ?_) (hp.filter _)
        have hA' := List.mem_filter.mp hA
        have hx' := of_decide_eq_true hA'.2
        refine ⟨(hF A hA'.1).1, fun y hy => (List.mem_erase_of_ne ?_).mpr ((hF A hA'.1).2 hy)⟩
        intro e
        subst e
        exact hx' hy
      have h1 := sm_le ih
      rw [sm_swap (fun x A => if decide (x ∉ A) = true then wt n A else 0) F S, hl] at h1
      have h2 : sm (fun A => sm (fun x => if decide (x ∉ A) = true then wt n A else 0) S) F = sm (wt (n + 1)) F := sm_congr fun A hA => by
        rw [sm_const (wt n A) (fun x => decide (x ∉ A)) S]
        have ho := out_len hS (hF A hA).1 (hF A hA).2
        have hn := hsm A hA
        unfold wt
        have e3 : (S.filter fun x => decide (x ∉ A)).length = n - A.length + 1 := by omega
        have e4 : n + 1 - A.length = n - A.length + 1 := by omega
        rw [e3, e4]
        show (n - A.length + 1) * (fac A.length * fac (n - A.length)) = fac A.length * ((n - A.length + 1) * fac (n - A.length))
        rw [Nat.mul_left_comm]
      rw [h2] at h1
      exact h1
theorem ch_fac : ∀ {n k : Nat}, k ≤ n → ch n k * (fac k * fac (n - k)) = fac n
  | n, 0, _ => by rw [ch_zero]; show 1 * (1 * fac (n - 0)) = fac n; rw [Nat.one_mul, Nat.one_mul, Nat.sub_zero]
  | n, k + 1, h => by
    have ih := ch_fac (n := n) (k := k) (by omega)
    have hn := ch_next n k
    have e : n - k = (n - (k + 1)) + 1 := by omega
    rw [← ih, e]
    show ch n (k + 1) * ((k + 1) * fac k * fac (n - (k + 1))) = ch n k * (fac k * ((n - (k + 1) + 1) * fac (n - (k + 1))))
    have h1 : ch n (k + 1) * ((k + 1) * fac k * fac (n - (k + 1))) = (ch n (k + 1) * (k + 1)) * (fac k * fac (n - (k + 1))) := by
      rw [Nat.mul_assoc (k + 1), ← Nat.mul_assoc (ch n (k + 1))]
    rw [h1, hn, e, Nat.mul_assoc]
    congr 1
    rw [Nat.mul_left_comm]
theorem ir_nodup (n : Nat) : (ir n).Nodup := (ir_lt n).imp fun h => by omega
theorem IsSet.nodup {n : Nat} {ms : List Int} (h : IsSet n ms) : ms.Nodup := h.up.imp fun h => by omega
theorem IsSet.sub {n : Nat} {ms : List Int} (h : IsSet n ms) : ms ⊆ ir n := fun x hx => mem_ir.mpr ⟨h.lo x hx, h.hi x hx⟩
theorem lym_set {n : Nat} {F : List (List Int)} (hF : ∀ A ∈ F, IsSet n A) (hp : F.Pairwise Apart) : sm (wt n) F ≤ fac n :=
  lym n (ir n) F (ir_nodup n) (ir_len n) (fun A hA => ⟨(hF A hA).nodup, (hF A hA).sub⟩) hp
def frac (n : Nat) : List (List Int) → Nat × Nat
  | F => F.foldl (fun s A => (s.1 * ch n A.length + s.2, s.2 * ch n A.length)) (0, 1)
theorem frac_nil (n : Nat) : frac n [] = (0, 1) := rfl
theorem frac_snoc (n : Nat) (F : List (List Int)) (A : List Int) : frac n (F ++ [A]) = ((frac n F).1 * ch n A.length + (frac n F).2, (frac n F).2 * ch n A.length) := by
  unfold frac
  rw [List.foldl_append]
  rfl
theorem frac_ok {n : Nat} : ∀ {F : List (List Int)}, (∀ A ∈ F, IsSet n A) → 0 < (frac n F).2 ∧ (frac n F).1 * fac n = (frac n F).2 * sm (wt n) F := by
  intro F
  generalize hk : F.length = k
  induction k generalizing F with
  | zero =>
    intro _
    have : F = [] := List.eq_nil_of_length_eq_zero hk
    subst this
    exact ⟨Nat.one_pos, by show 0 * fac n = 1 * 0; omega⟩
  | succ k ih =>
    intro hF
    have hne : F ≠ [] := fun e => by rw [e] at hk; cases hk
    obtain ⟨G, A, rfl⟩ : ∃ G A, F = G ++ [A] := ⟨F.dropLast, F.getLast hne, (List.dropLast_concat_getLast hne).symm⟩
    have hG := ih (F := G) (by simpa using hk) fun B hB => hF B (List.mem_append_left _ hB)
    have hA := hF A (by simp)
    have hl := hA.len
    have hc := ch_fac (n := n) (k := A.length) hl
    rw [frac_snoc, sm_append, sm_cons, sm_nil]
    refine ⟨Nat.mul_pos hG.1 (ch_pos hl), ?_⟩
    show ((frac n G).1 * ch n A.length + (frac n G).2) * fac n = (frac n G).2 * ch n A.length * (sm (wt n) G + (wt n A + 0))
    have e1 : (frac n G).1 * ch n A.length * fac n = (frac n G).2 * ch n A.length * sm (wt n) G := by
      rw [Nat.mul_right_comm, hG.2, Nat.mul_right_comm]
    have e2 : (frac n G).2 * fac n = (frac n G).2 * ch n A.length * wt n A := by
      unfold wt
      rw [Nat.mul_assoc, hc]
    rw [Nat.add_mul, e1, e2, Nat.add_zero, Nat.mul_add]
theorem frac_le {n : Nat} {F : List (List Int)} (hF : ∀ A ∈ F, IsSet n A) (hp : F.Pairwise Apart) : (frac n F).1 ≤ (frac n F).2 := by
  obtain ⟨h0, h1⟩ := frac_ok hF
  have h2 : (frac n F).1 * fac n ≤ (frac n F).2 * fac n := by
    rw [h1]
    exact Nat.mul_le_mul_left _ (lym_set hF hp)
  exact Nat.le_of_mul_le_mul_right h2 (fac_pos n)
theorem half_most : ∀ n ∈ List.range 6, ∀ k ∈ List.range (n + 1), fac n ≤ ch n (n / 2) * (fac k * fac (n - k)) := by decide +kernel
theorem crowd {n : Nat} {F : List (List Int)} (hn : n < 6) (hF : ∀ A ∈ F, IsSet n A) (hl : ch n (n / 2) < F.length) : ¬ F.Pairwise Apart := fun hp => by
  have h1 := lym_set hF hp
  have h2 := sm_ge (f := wt n) (c := fac n) (d := ch n (n / 2)) (l := F) fun A hA => half_most n (List.mem_range.mpr hn) A.length (List.mem_range.mpr (by have := (hF A hA).len; omega))
  have h3 : F.length * fac n ≤ ch n (n / 2) * fac n := Nat.le_trans h2 (Nat.mul_le_mul_left _ h1)
  have := Nat.le_of_mul_le_mul_right h3 (fac_pos n)
  omega
end M

namespace M
theorem row_zero {n : Nat} {ms : List Int} (h : IsSet n ms) : row n ms 0 = kep n ms := by
  refine pw_ext (row_set n ms 0).up (h.up.filter _) fun x => ?_
  rw [mem_row h, List.take_zero]
  exact ⟨fun z => z.resolve_right (fun q => nomatch q), .inl⟩
theorem row_bot {n : Nat} {ms : List Int} (h : IsSet n ms) : IsBot n (row n ms 0) := ⟨row_set n ms 0, by rw [(row_is h (Nat.zero_le _)).lms, List.take_zero]⟩
theorem lms_size {n : Nat} {ms : List Int} (h : IsSet n ms) : ms.length = (row n ms 0).length + (lms n ms).length ∧ (lms n ms).length ≤ (clm n ms).length := by
  have hl : (lms n ms).length ≤ (clm n ms).length := by unfold clm; rw [List.length_append]; omega
  have e := row_len h hl
  have e0 := row_len h (Nat.zero_le _)
  rw [row_self h] at e
  omega
theorem clm_row {n : Nat} {ms : List Int} (h : IsSet n ms) {s : Nat} (hs : s ≤ (clm n ms).length) : (clm n (row n ms s)).length = (clm n ms).length := by
  have e := chn_row h hs
  have e1 := chn_len n (row n ms s)
  have e2 := chn_len n ms
  rw [e] at e1
  omega
theorem row_row {n : Nat} {ms : List Int} (h : IsSet n ms) {s j : Nat} (hs : s ≤ (clm n ms).length) (hj : j ≤ (clm n ms).length) : row n (row n ms s) j = row n ms j := by
  have e := chn_row h hs
  have e1 := chn_get (n := n) (ms := row n ms s) (i := j) (by rw [clm_row h hs]; omega)
  have e2 := chn_get (n := n) (ms := ms) (i := j) (by omega)
  rw [e, e2] at e1
  exact (Option.some.inj e1).symm
theorem bot_row {n : Nat} {B : List Int} (h : IsBot n B) : row n B 0 = B := by
  have e := row_self h.set
  rw [h.no] at e
  exact e
theorem bot_parts {n : Nat} {B : List Int} (h : IsBot n B) : n = (clm n B).length + 2 * B.length := by
  have e := parts h.set
  rw [← row_zero h.set, bot_row h] at e
  exact e
theorem row_lms {n : Nat} {B : List Int} (h : IsBot n B) {p : Nat} (hp : p ≤ (clm n B).length) : (lms n (row n B p)).length = p := by
  rw [(row_is h.set hp).lms, List.length_take]
  omega
theorem first_apart {n : Nat} {p : Int → Bool} {x : Int} (h0 : 0 ≤ x) (h1 : x < n) (hx : p x = true) (hy : ∀ y, y < x → p y = false) : ∃ r, (ir n).filter p = x :: r := by
  have hs : ((ir n).filter p).Pairwise (· < ·) := (ir_lt n).filter _
  have hm : x ∈ (ir n).filter p := List.mem_filter.mpr ⟨mem_ir.mpr ⟨h0, h1⟩, hx⟩
  cases e : (ir n).filter p with
  | nil => rw [e] at hm; exact nomatch hm
  | cons y r =>
    rw [e] at hs hm
    have hy' : p y = true := (List.mem_filter.mp (show y ∈ (ir n).filter p by rw [e]; exact List.mem_cons_self)).2
    rcases List.mem_cons.mp hm with q | q
    · rw [q]; exact ⟨r, rfl⟩
    · have hlt := (List.pairwise_cons.mp hs).1 x q
      rw [hy y hlt] at hy'
      cases hy'
theorem some_apart {n : Nat} {A B : List Int} (hA : IsSet n A) (hB : IsSet n B) (hl : A.length < B.length) : ∃ x : Int, 0 ≤ x ∧ x < n ∧ x ∈ B ∧ x ∉ A := by
  by_cases h : ∃ x, x ∈ B ∧ x ∉ A
  · obtain ⟨x, h1, h2⟩ := h
    exact ⟨x, hB.lo x h1, hB.hi x h1, h1, h2⟩
  · have : B ⊆ A := fun x hx => by
      by_cases q : x ∈ A
      · exact q
      · exact absurd ⟨x, hx, q⟩ h
    have := sub_len hB.nodup this
    omega
end M

namespace M
def bitsN : List Int → Nat
  | [] => 0
  | k :: ms => bitsN ms + 2 ^ k.toNat
def bits (ms : List Int) : Int := (bitsN ms : Int)
theorem bitsN_append : ∀ (a b : List Int), bitsN (a ++ b) = bitsN a + bitsN b
  | [], b => by simp [bitsN]
  | k :: a, b => by
    show bitsN (a ++ b) + 2 ^ k.toNat = (bitsN a + 2 ^ k.toNat) + bitsN b
    rw [bitsN_append a b]
    omega
theorem bits_sum {n : Nat} {ms : List Int} (h : IsSet n ms) : (ms.map fun k => (1 * 2 ^ k.toNat : Int)).sum = bits ms := by
  clear h
  unfold bits
  induction ms with
  | nil => rfl
  | cons k ms ih =>
    rw [List.map_cons, List.sum_cons, ih]
    show 1 * 2 ^ k.toNat + (bitsN ms : Int) = ((bitsN ms + 2 ^ k.toNat : Nat) : Int)
    rw [Int.natCast_add, Int.one_mul]
    have : ((2 ^ k.toNat : Nat) : Int) = (2 : Int) ^ k.toNat := by rw [Int.natCast_pow]; rfl
    rw [this, Int.add_comm]
theorem IsSet.snoc {n : Nat} {ms : List Int} {t : Int} (h : IsSet n (ms ++ [t])) : ∃ k : Nat, t = k ∧ k < n ∧ IsSet k ms := by
  have t0 := h.lo t (by simp)
  have t1 := h.hi t (by simp)
  obtain ⟨k, rfl⟩ := Int.eq_ofNat_of_zero_le t0
  have hp := List.pairwise_append.mp h.up
  exact ⟨k, rfl, by omega, hp.1, fun x hx => h.lo x (List.mem_append_left _ hx), fun x hx => hp.2.2 x hx k (by simp)⟩
theorem bitsN_ok : ∀ {n : Nat} {ms : List Int}, IsSet n ms → bitsN ms < 2 ^ n ∧ ∀ i : Nat, (bitsN ms).testBit i = decide ((i : Int) ∈ ms) := by
  intro n ms
  generalize hl : ms.length = l
  induction l generalizing n ms with
  | zero =>
    intro _
    have : ms = [] := List.eq_nil_of_length_eq_zero hl
    subst this
    exact ⟨by simp only [bitsN]; exact Nat.pow_pos (by decide), fun i => by simp [bitsN]⟩
  | succ l ih =>
    intro h
    have hne : ms ≠ [] := fun e => by rw [e] at hl; cases hl
    obtain ⟨w, t, rfl⟩ : ∃ w t, ms = w ++ [t] := ⟨ms.dropLast, ms.getLast hne, (List.dropLast_concat_getLast hne).symm⟩
    obtain ⟨k, rfl, hk, hw⟩ := h.snoc
    obtain ⟨b1, b2⟩ := ih (n := k) (ms := w) (by simpa using hl) hw
    have e : bitsN (w ++ [(k : Int)]) = 2 ^ k + bitsN w := by rw [bitsN_append]; simp [bitsN]; omega
    have hle : 2 ^ (k + 1) ≤ 2 ^ n := Nat.pow_le_pow_right (by decide) hk
    have hs : 2 ^ (k + 1) = 2 ^ k + 2 ^ k := by rw [Nat.pow_succ]; omega
    rw [e]
    refine ⟨by omega, fun i => ?_⟩
    rcases Nat.lt_trichotomy i k with q | q | q
    · rw [Nat.testBit_two_pow_add_gt q, b2 i]
      refine decide_eq_decide.mpr ?_
      rw [List.mem_append, List.mem_singleton]
      exact ⟨.inl, fun z => z.resolve_right (by omega)⟩
    · subst q
      rw [Nat.testBit_two_pow_add_eq, Nat.testBit_lt_two_pow b1]
      simp
    · have hlt : 2 ^ k + bitsN w < 2 ^ i := by
        have : 2 ^ (k + 1) ≤ 2 ^ i := Nat.pow_le_pow_right (by decide) q
        omega
      rw [Nat.testBit_lt_two_pow hlt]
      refine (decide_eq_false fun z => ?_).symm
      have := h.hi
      rcases List.mem_append.mp z with y | y
      · have := hw.hi _ y; omega
      · have := List.mem_singleton.mp y; omega
theorem bits_sub {n : Nat} {A B : List Int} (hA : IsSet n A) (hB : IsSet n B) : bitsN A &&& bitsN B = bitsN A ↔ A ⊆ B := by
  have a := (bitsN_ok hA).2
  have b := (bitsN_ok hB).2
  constructor
  · intro h x hx
    obtain ⟨i, rfl⟩ := Int.eq_ofNat_of_zero_le (hA.lo x hx)
    have := congrArg (fun z => z.testBit i) h
    simp only [Nat.testBit_and, a i, b i] at this
    rw [decide_eq_true hx, Bool.true_and] at this
    exact of_decide_eq_true this
  · intro h
    refine Nat.eq_of_testBit_eq fun i => ?_
    rw [Nat.testBit_and, a i, b i]
    by_cases q : (i : Int) ∈ A
    · rw [decide_eq_true q, decide_eq_true (h q)]; rfl
    · rw [decide_eq_false q]; rfl
def larger (k : Int) (F : List (List Int)) : List Int := ((List.range F.length).filter fun i => decide (k < ((F.getD i []).length : Int))).map fun (i : Nat) => (i : Int)
structure IsClash (F : List (List Int)) (i j : Nat) : Prop where
  hi : i < F.length
  hj : j < F.length
  ne : i ≠ j
  sub : F.getD i [] ⊆ F.getD j []
structure Least (F : List (List Int)) (i j : Nat) : Prop where
  is : IsClash F i j
  fst : ∀ k, k < i → ∀ l, ¬ IsClash F k l
  snd : ∀ l, l < j → ¬ IsClash F i l
theorem Least.uniq {F : List (List Int)} {i j k l : Nat} (a : Least F i j) (b : Least F k l) : i = k ∧ j = l := by
  have e : i = k := by
    rcases Nat.lt_trichotomy i k with q | q | q
    · exact absurd a.is (b.fst i q j)
    · exact q
    · exact absurd b.is (a.fst k q l)
  subst e
  refine ⟨rfl, ?_⟩
  rcases Nat.lt_trichotomy j l with q | q | q
  · exact absurd a.is (b.snd j q)
  · exact q
  · exact absurd b.is (a.snd l q)
theorem least_of (P : Nat → Prop) : ∀ {n : Nat}, P n → ∃ m, P m ∧ ∀ k, k < m → ¬ P k := by
  intro n
  induction n using Nat.strongRecOn with
  | _ n ih =>
    intro h
    by_cases q : ∃ k, k < n ∧ P k
    · obtain ⟨k, k1, k2⟩ := q
      exact ih k k1 k2
    · exact ⟨n, h, fun k hk z => q ⟨k, hk, z⟩⟩
theorem clash_or (F : List (List Int)) : (∀ i j, ¬ IsClash F i j) ∨ ∃ i j, Least F i j := by
  by_cases h : ∃ i, ∃ j, IsClash F i j
  · obtain ⟨i, hi⟩ := h
    obtain ⟨i, ⟨j, hj⟩, h1⟩ := least_of (fun i => ∃ j, IsClash F i j) hi
    obtain ⟨j, hj, h2⟩ := least_of (fun j => IsClash F i j) hj
    exact .inr ⟨i, j, hj, fun k hk l z => h1 k hk ⟨l, z⟩, h2⟩
  · exact .inl fun i j z => h ⟨i, j, z⟩
theorem apart_of {F : List (List Int)} (h : ∀ i j, ¬ IsClash F i j) : F.Pairwise Apart := by
  rw [List.pairwise_iff_getElem]
  intro i j hi hj hij
  refine ⟨fun z => h i j ⟨hi, hj, by omega, ?_⟩, fun z => h j i ⟨hj, hi, by omega, ?_⟩⟩
  · rw [List.getD_eq_getElem?_getD, List.getD_eq_getElem?_getD, List.getElem?_eq_getElem hi, List.getElem?_eq_getElem hj]
    exact z
  · rw [List.getD_eq_getElem?_getD, List.getD_eq_getElem?_getD, List.getElem?_eq_getElem hi, List.getElem?_eq_getElem hj]
    exact z
theorem sub_larger {n : Nat} {A B : List Int} (hA : IsSet n A) (hB : IsSet n B) (hne : A ≠ B) (h : A ⊆ B) : A.length < B.length := by
  have h1 := sub_len hA.nodup h
  rcases Nat.lt_or_ge A.length B.length with q | q
  · exact q
  · have := sub_all hA.nodup h hB.nodup (by omega)
    exact absurd (pw_ext hA.up hB.up fun x => ⟨fun z => h z, fun z => this z⟩) hne
theorem clash_larger {n : Nat} {F : List (List Int)} (hS : ∀ A ∈ F, IsSet n A) (hn : F.Nodup) {i j : Nat} (h : IsClash F i j) : (F.getD i []).length < (F.getD j []).length := by
  have gi : F.getD i [] = F[i]'h.hi := by rw [List.getD_eq_getElem?_getD, List.getElem?_eq_getElem h.hi]; rfl
  have gj : F.getD j [] = F[j]'h.hj := by rw [List.getD_eq_getElem?_getD, List.getElem?_eq_getElem h.hj]; rfl
  have hs := h.sub
  rw [gi, gj] at hs ⊢
  refine sub_larger (hS _ (List.getElem_mem _)) (hS _ (List.getElem_mem _)) (fun z => ?_) hs
  exact h.ne ((List.getElem_inj hn).mp z)
end M

namespace M
theorem ch_pow : ∀ n k : Nat, ch n k ≤ 2 ^ n
  | n, 0 => by rw [ch_zero]; exact Nat.pow_pos (by decide)
  | 0, k + 1 => Nat.zero_le _
  | n + 1, k + 1 => by
    rw [ch_succ, Nat.pow_succ]
    have := ch_pow n k
    have := ch_pow n (k + 1)
    omega
theorem ch_pow40 {n : Nat} (k : Nat) (hn : n ≤ 40) : ch n k ≤ 2 ^ 40 := Nat.le_trans (ch_pow n k) (Nat.pow_le_pow_right (by decide) hn)
theorem pow42 (i : Nat) : 2 ^ (42 * (i + 1)) = 2 ^ (42 * i) * 2 ^ 42 := by rw [show 42 * (i + 1) = 42 * i + 42 by omega, Nat.pow_add]
structure Shr (n i : Nat) (F : List (List Int)) (u l : Nat) : Prop where
  pos : 0 < l
  low : Nat.gcd u l = 1
  eq : u * (frac n F).2 = (frac n F).1 * l
  ub : u ≤ 2 ^ (42 * i)
  lb : l ≤ 2 ^ (42 * i)
theorem shr_nil (n : Nat) : Shr n 0 [] 0 1 := ⟨by decide, by decide, rfl, Nat.zero_le _, Nat.le_refl _⟩
theorem shr_next {n i u l : Nat} {F : List (List Int)} {A : List Int} (hn : n ≤ 40) (hA : A.length ≤ n) (h : Shr n i F u l) :
    let p := ch n A.length
    let u' := u * p + l
    let l' := l * p
    0 < p ∧ 0 < u' ∧ 0 < l' ∧ u' ≤ 2 ^ (42 * (i + 1)) ∧ l' ≤ 2 ^ (42 * (i + 1)) ∧ Shr n (i + 1) (F ++ [A]) (u' / Nat.gcd u' l') (l' / Nat.gcd u' l') := by
  intro p u' l'
  have hp : 0 < p := ch_pos hA
  have hp40 : p ≤ 2 ^ 40 := ch_pow40 _ hn
  have hl' : 0 < l' := Nat.mul_pos h.pos hp
  have hu' : 0 < u' := by show 0 < u * p + l; have := h.pos; omega
  have ub : u' ≤ 2 ^ (42 * (i + 1)) := by
    have h1 : u * p ≤ 2 ^ (42 * i) * 2 ^ 40 := Nat.mul_le_mul h.ub hp40
    have h2 := h.lb
    rw [pow42]
    show u * p + l ≤ _
    have h3 : 2 ^ (42 * i) * 2 ^ 42 = 2 ^ (42 * i) * 2 ^ 40 + 2 ^ (42 * i) * (2 ^ 42 - 2 ^ 40) := by rw [← Nat.mul_add]
    have h4 : 2 ^ (42 * i) * 1 ≤ 2 ^ (42 * i) * (2 ^ 42 - 2 ^ 40) := Nat.mul_le_mul_left _ (by decide)
    omega
  have lb : l' ≤ 2 ^ (42 * (i + 1)) := by
    have h1 : l * p ≤ 2 ^ (42 * i) * 2 ^ 40 := Nat.mul_le_mul h.lb hp40
    rw [pow42]
    exact Nat.le_trans h1 (Nat.mul_le_mul_left _ (by decide))
  refine ⟨hp, hu', hl', ub, lb, ?_⟩
  have dpos : 0 < Nat.gcd u' l' := Nat.gcd_pos_of_pos_right _ hl'
  have du := Nat.gcd_dvd_left u' l'
  have dl := Nat.gcd_dvd_right u' l'
  have eu : u' / Nat.gcd u' l' * Nat.gcd u' l' = u' := Nat.div_mul_cancel du
  have el : l' / Nat.gcd u' l' * Nat.gcd u' l' = l' := Nat.div_mul_cancel dl
  refine ⟨Nat.div_pos (Nat.le_of_dvd hl' dl) dpos, ?_, ?_, Nat.le_trans (Nat.div_le_self _ _) ub, Nat.le_trans (Nat.div_le_self _ _) lb⟩
  · rw [Nat.gcd_div du dl, Nat.div_self dpos]
  · rw [frac_snoc]
    show u' / Nat.gcd u' l' * ((frac n F).2 * p) = ((frac n F).1 * p + (frac n F).2) * (l' / Nat.gcd u' l')
    refine Nat.eq_of_mul_eq_mul_right dpos ?_
    rw [Nat.mul_right_comm, eu, Nat.mul_assoc _ (l' / Nat.gcd u' l'), el]
    show (u * p + l) * ((frac n F).2 * p) = ((frac n F).1 * p + (frac n F).2) * (l * p)
    have e := h.eq
    generalize (frac n F).2 = f2 at e ⊢
    generalize (frac n F).1 = f1 at e ⊢
    rw [Nat.add_mul, Nat.add_mul]
    have e1 : u * p * (f2 * p) = f1 * p * (l * p) := by
      rw [Nat.mul_mul_mul_comm, e, Nat.mul_mul_mul_comm]
    have e2 : l * (f2 * p) = f2 * (l * p) := Nat.mul_left_comm _ _ _
    rw [e1, e2]
theorem frac_bound {n : Nat} (hn : n ≤ 40) : ∀ {F : List (List Int)}, (frac n F).1 ≤ 2 ^ (42 * F.length) ∧ (frac n F).2 ≤ 2 ^ (42 * F.length) := by
  intro F
  generalize hk : F.length = k
  induction k generalizing F with
  | zero =>
    have : F = [] := List.eq_nil_of_length_eq_zero hk
    subst this
    exact ⟨Nat.zero_le _, Nat.le_refl _⟩
  | succ k ih =>
    have hne : F ≠ [] := fun e => by rw [e] at hk; cases hk
    obtain ⟨G, A, rfl⟩ : ∃ G A, F = G ++ [A] := ⟨F.dropLast, F.getLast hne, (List.dropLast_concat_getLast hne).symm⟩
    obtain ⟨h1, h2⟩ := ih (F := G) (by simpa using hk)
    rw [frac_snoc, pow42]
    have hp40 : ch n A.length ≤ 2 ^ 40 := ch_pow40 _ hn
    have a1 : (frac n G).1 * ch n A.length ≤ 2 ^ (42 * k) * 2 ^ 40 := Nat.mul_le_mul h1 hp40
    have a2 : (frac n G).2 * ch n A.length ≤ 2 ^ (42 * k) * 2 ^ 40 := Nat.mul_le_mul h2 hp40
    have h3 : 2 ^ (42 * k) * 2 ^ 42 = 2 ^ (42 * k) * 2 ^ 40 + 2 ^ (42 * k) * (2 ^ 42 - 2 ^ 40) := by rw [← Nat.mul_add]
    have h4 : 2 ^ (42 * k) * 1 ≤ 2 ^ (42 * k) * (2 ^ 42 - 2 ^ 40) := Nat.mul_le_mul_left _ (by decide)
    refine ⟨?_, ?_⟩
    · show (frac n G).1 * ch n A.length + (frac n G).2 ≤ _
      omega
    · exact Nat.le_trans a2 (Nat.mul_le_mul_left _ (by decide))
theorem small42 {i x : Nat} (hi : i ≤ 100) (h : x ≤ 2 ^ (42 * i)) : x < 2 ^ 8000 := Nat.lt_of_le_of_lt h (Nat.pow_lt_pow_right (by decide) (by omega))
theorem share_le {n u l : Nat} {F : List (List Int)} (hF : ∀ A ∈ F, IsSet n A) (hp : F.Pairwise Apart) (e : u * (frac n F).2 = (frac n F).1 * l) : u ≤ l := by
  have h1 := frac_le hF hp
  have h2 := (frac_ok hF).1
  have h3 : u * (frac n F).2 ≤ l * (frac n F).2 := by
    rw [e, Nat.mul_comm l]
    exact Nat.mul_le_mul_right _ h1
  exact Nat.le_of_mul_le_mul_right h3 h2
theorem gcd_turn (x y : Nat) : Nat.gcd y (x % y) = Nat.gcd x y := by rw [Nat.gcd_comm y, ← Nat.gcd_rec, Nat.gcd_comm]
end M

namespace M
def drawn (n s : Nat) (ps : List (Int × Int)) : List (List Int) := (((sortP ps).take s).map (·.2)).map fun k => (allS n).getD k.toNat []
theorem getD_of {α : Type} {l : List α} {d : α} {i : Nat} (h : i < l.length) : l.getD i d = l[i] := by rw [List.getD_eq_getElem?_getD, List.getElem?_eq_getElem h]; rfl
theorem drawn_ok {n s : Nat} {ps : List (Int × Int)} (hp : snd' ps = ir (allS n).length) (hs : s ≤ (allS n).length) : (∀ A ∈ drawn n s ps, IsSet n A) ∧ (drawn n s ps).Nodup ∧ (drawn n s ps).length = s ∧ ∀ p ∈ (sortP ps).take s, 0 ≤ p.2 ∧ p.2 < (allS n).length := by
  have hpl : ps.length = (allS n).length := by
    have := congrArg List.length hp
    unfold snd' at this
    rw [List.length_map, ir_len] at this
    exact this
  have pp : (snd' (sortP ps)).Perm (ir (allS n).length) := by
    rw [← hp]
    exact (sortP_perm ps).map _
  have nd : (snd' (sortP ps)).Nodup := by
    rw [pp.nodup_iff]
    exact ir_nodup _
  have et : ((sortP ps).take s).map (·.2) = (snd' (sortP ps)).take s := by unfold snd'; rw [List.map_take]
  have nd2 : (((sortP ps).take s).map (·.2)).Nodup := by rw [et]; exact nd.sublist (List.take_sublist _ _)
  have mem : ∀ k ∈ (((sortP ps).take s).map (·.2) : List Int), 0 ≤ k ∧ k < (allS n).length := fun k hk => by
    rw [et] at hk
    exact mem_ir.mp (pp.mem_iff.mp (List.mem_of_mem_take hk))
  refine ⟨fun A hA => ?_, ?_, ?_, fun p hp => mem p.2 (List.mem_map.mpr ⟨p, hp, rfl⟩)⟩
  · obtain ⟨k, hk, rfl⟩ := List.mem_map.mp hA
    obtain ⟨k0, k1⟩ := mem k hk
    rw [getD_of (by omega)]
    exact allS_set (List.getElem_mem _)
  · unfold drawn
    rw [List.nodup_iff_pairwise_ne, List.pairwise_map]
    refine List.Pairwise.imp_of_mem (fun {a b} ha hb hab e => ?_) (List.nodup_iff_pairwise_ne.mp nd2)
    obtain ⟨a0, a1⟩ := mem a ha
    obtain ⟨b0, b1⟩ := mem b hb
    rw [getD_of (by omega), getD_of (by omega)] at e
    have := (List.getElem_inj (allS_nodup n)).mp e
    omega
  · unfold drawn
    rw [List.length_map, List.length_map, List.length_take, sortP_len, hpl]
    omega
theorem half_len : ∀ n ∈ List.range 6, ((allS n).filter fun r => decide (r.length = n / 2)).length = ch n (n / 2) := by decide +kernel
end M

namespace M
abbrev Trip := Int × List Bool × List Int
def bltB : List Bool → List Bool → Bool
  | x :: xs, y :: ys => if x = y then bltB xs ys else (!x && y)
  | _, _ => false
def bleB : List Bool → List Bool → Prop
  | x :: xs, y :: ys => if x = y then bleB xs ys else x = false
  | [], _ => True
  | _ :: _, [] => False
theorem bleB_refl : ∀ a, bleB a a
  | [] => trivial
  | x :: xs => by unfold bleB; rw [if_pos rfl]; exact bleB_refl xs
theorem bleB_trans : ∀ {a b c : List Bool}, bleB a b → bleB b c → bleB a c
  | [], _, _, _, _ => by unfold bleB; trivial
  | x :: xs, [], _, h, _ => h.elim
  | x :: xs, y :: ys, [], _, h => h.elim
  | x :: xs, y :: ys, z :: zs, h1, h2 => by
    unfold bleB at h1 h2 ⊢
    by_cases e1 : x = y
    · subst e1
      rw [if_pos rfl] at h1
      by_cases e2 : x = z
      · subst e2
        rw [if_pos rfl] at h2
        rw [if_pos rfl]
        exact bleB_trans h1 h2
      · rw [if_neg e2] at h2
        rw [if_neg e2]
        exact h2
    · rw [if_neg e1] at h1
      subst h1
      by_cases e2 : y = z
      · subst e2
        rw [if_neg e1]
      · rw [if_neg e2] at h2
        subst h2
        exact absurd rfl e1
theorem bleB_anti : ∀ {a b : List Bool}, bleB a b → bleB b a → a = b
  | [], [], _, _ => rfl
  | [], _ :: _, _, h => h.elim
  | _ :: _, [], h, _ => h.elim
  | x :: xs, y :: ys, h1, h2 => by
    unfold bleB at h1 h2
    by_cases e : x = y
    · subst e
      rw [if_pos rfl] at h1 h2
      rw [bleB_anti h1 h2]
    · rw [if_neg e] at h1
      rw [if_neg (fun z => e z.symm)] at h2
      exact absurd (h1.trans h2.symm) e
theorem blt_yes : ∀ {a b : List Bool}, bltB a b = true → bleB a b
  | [], _, h => by unfold bleB; trivial
  | _ :: _, [], h => by cases h
  | x :: xs, y :: ys, h => by
    unfold bltB at h
    unfold bleB
    by_cases e : x = y
    · rw [if_pos e] at h
      rw [if_pos e]
      exact blt_yes h
    · rw [if_neg e] at h
      rw [if_neg e]
      cases x with
      | false => rfl
      | true => cases h
theorem blt_no : ∀ {a b : List Bool}, a.length = b.length → bltB a b = false → bleB b a
  | [], [], _, _ => trivial
  | [], _ :: _, h, _ => by cases h
  | _ :: _, [], h, _ => by cases h
  | x :: xs, y :: ys, hl, h => by
    unfold bltB at h
    unfold bleB
    by_cases e : x = y
    · subst e
      rw [if_pos rfl] at h
      rw [if_pos rfl]
      exact blt_no (by simpa using hl) h
    · rw [if_neg e] at h
      rw [if_neg (fun z => e z.symm)]
      cases x with
      | false =>
        cases y with
        | false => rfl
        | true => cases h
      | true =>
        cases y with
        | false => rfl
        | true => exact absurd rfl e
def leT (a b : Trip) : Prop := a.1 < b.1 ∨ (a.1 = b.1 ∧ bleB a.2.1 b.2.1)
def ltT (a b : Trip) : Bool := if a.1 = b.1 then bltB a.2.1 b.2.1 else decide (a.1 < b.1)
theorem leT_refl (a : Trip) : leT a a := .inr ⟨rfl, bleB_refl _⟩
theorem leT_trans {a b c : Trip} (h1 : leT a b) (h2 : leT b c) : leT a c := by
  unfold leT at *
  rcases h1 with h1 | ⟨h1, k1⟩
  · rcases h2 with h2 | ⟨h2, _⟩
    · exact .inl (by omega)
    · exact .inl (by omega)
  · rcases h2 with h2 | ⟨h2, k2⟩
    · exact .inl (by omega)
    · exact .inr ⟨by omega, bleB_trans k1 k2⟩
def insT (a : Trip) : List Trip → List Trip
  | [] => [a]
  | b :: l => if ltT b a = true then b :: insT a l else a :: b :: l
def sortT (l : List Trip) : List Trip := l.foldr insT []
def RowsOf (n : Nat) (l : List Trip) : Prop := ∀ t ∈ l, t.2.1.length = n
theorem insT_perm (a : Trip) : ∀ l, (insT a l).Perm (a :: l)
  | [] => .refl _
  | b :: l => by
    unfold insT
    by_cases h : ltT b a = true
    · rw [if_pos h]
      exact ((insT_perm a l).cons b).trans (.swap a b l)
    · rw [if_neg h]
theorem sortT_perm : ∀ l, (sortT l).Perm l
  | [] => .refl _
  | a :: l => (insT_perm a (sortT l)).trans ((sortT_perm l).cons a)
theorem lt_le {a b : Trip} (h : ltT a b = true) : leT a b := by
  unfold ltT at h
  by_cases e : a.1 = b.1
  · rw [if_pos e] at h
    exact .inr ⟨e, blt_yes h⟩
  · rw [if_neg e] at h
    exact .inl (of_decide_eq_true h)
theorem nlt_le {n : Nat} {a b : Trip} (ha : a.2.1.length = n) (hb : b.2.1.length = n) (h : ltT a b = false) : leT b a := by
  unfold ltT at h
  by_cases e : a.1 = b.1
  · rw [if_pos e] at h
    exact .inr ⟨e.symm, blt_no (by omega) h⟩
  · rw [if_neg e] at h
    have := of_decide_eq_false h
    exact .inl (by omega)
theorem insT_up {n : Nat} {a : Trip} (ha : a.2.1.length = n) : ∀ {l : List Trip}, RowsOf n l → l.Pairwise leT → (insT a l).Pairwise leT
  | [], _, _ => List.pairwise_singleton _ _
  | b :: l, hr, h => by
    rw [List.pairwise_cons] at h
    unfold insT
    by_cases c : ltT b a = true
    · rw [if_pos c]
      refine List.pairwise_cons.mpr ⟨fun x hx => ?_, insT_up ha (fun t ht => hr t (List.mem_cons_of_mem _ ht)) h.2⟩
      rcases List.mem_cons.mp ((insT_perm a l).mem_iff.mp hx) with e | e
      · rw [e]; exact lt_le c
      · exact h.1 x e
    · rw [if_neg c]
      have hab : leT a b := nlt_le (hr b List.mem_cons_self) ha (Bool.eq_false_iff.mpr c)
      refine List.pairwise_cons.mpr ⟨fun x hx => ?_, List.pairwise_cons.mpr h⟩
      rcases List.mem_cons.mp hx with e | e
      · rw [e]; exact hab
      · exact leT_trans hab (h.1 x e)
theorem sortT_up {n : Nat} : ∀ {l : List Trip}, RowsOf n l → (sortT l).Pairwise leT
  | [], _ => List.Pairwise.nil
  | a :: l, h => insT_up (h a List.mem_cons_self) (fun t ht => h t (List.mem_cons_of_mem _ ((sortT_perm l).mem_iff.mp ht))) (sortT_up fun t ht => h t (List.mem_cons_of_mem _ ht))
theorem perm_uniq' {α : Type} {le : α → α → Prop} : ∀ {a b : List α}, (∀ x ∈ a, ∀ y ∈ a, le x y → le y x → x = y) → a.Perm b → a.Pairwise le → b.Pairwise le → a = b
  | [], b, _, p, _, _ => p.nil_eq
  | x :: a, [], _, p, _, _ => absurd p.length_eq (by simp)
  | x :: a, y :: b, anti, p, ha, hb => by
    have e : x = y := by
      rcases List.mem_cons.mp (p.mem_iff.mp List.mem_cons_self) with h | h
      · exact h
      · rcases List.mem_cons.mp (p.mem_iff.mpr List.mem_cons_self) with h' | h'
        · exact h'.symm
        · exact anti x List.mem_cons_self y (List.mem_cons_of_mem _ h') ((List.pairwise_cons.mp ha).1 y h') ((List.pairwise_cons.mp hb).1 x h)
    subst e
    rw [perm_uniq' (fun u hu v hv => anti u (List.mem_cons_of_mem _ hu) v (List.mem_cons_of_mem _ hv)) p.cons_inv (List.pairwise_cons.mp ha).2 (List.pairwise_cons.mp hb).2]
theorem sortT_uniq {n : Nat} {l m : List Trip} (hr : RowsOf n l) (inj : ∀ x ∈ l, ∀ y ∈ l, x.2.1 = y.2.1 → x = y) (p : m.Perm l) (h : m.Pairwise leT) : m = sortT l := by
  refine perm_uniq' (fun x hx y hy h1 h2 => ?_) (p.trans (sortT_perm l).symm) h (sortT_up hr)
  refine inj x (p.mem_iff.mp hx) y (p.mem_iff.mp hy) ?_
  unfold leT at h1 h2
  rcases h1 with h1 | ⟨h1, k1⟩
  · rcases h2 with h2 | ⟨h2, _⟩ <;> omega
  · rcases h2 with h2 | ⟨_, k2⟩
    · omega
    · exact bleB_anti k1 k2
def flg : Nat → List (List Bool)
  | 0 => [[]]
  | n + 1 => (flg n).map (fun r => r ++ [false]) ++ (flg n).map (fun r => r ++ [true])
theorem flg_len : ∀ {n : Nat} {r : List Bool}, r ∈ flg n → r.length = n
  | 0, r, h => by rw [List.mem_singleton.mp h]; rfl
  | n + 1, r, h => by
    rcases List.mem_append.mp h with h | h <;>
    · obtain ⟨r', h', rfl⟩ := List.mem_map.mp h
      rw [List.length_append, flg_len h']
      rfl
theorem flg_count : ∀ n, (flg n).length = 2 ^ n
  | 0 => rfl
  | n + 1 => by
    show ((flg n).map _ ++ (flg n).map _).length = _
    rw [List.length_append, List.length_map, List.length_map, flg_count n, Nat.pow_succ]
    omega
def mem (n : Nat) (r : List Bool) : List Int := (ir n).filter fun x => r.getD x.toNat false
theorem mem_set (n : Nat) (r : List Bool) : IsSet n (mem n r) := ⟨(ir_lt n).filter _, fun x hx => (mem_ir.mp (List.mem_filter.mp hx).1).1, fun x hx => (mem_ir.mp (List.mem_filter.mp hx).1).2⟩
def trip (n : Nat) (r : List Bool) : Trip := (((mem n r).length : Int), r, mem n r)
def trips (n : Nat) (rs : List (List Bool)) : List Trip := (rs.filter fun r => decide (lms n (mem n r) = [])).map (trip n)
theorem trips_rows {n : Nat} {rs : List (List Bool)} (h : ∀ r ∈ rs, r.length = n) : RowsOf n (trips n rs) := fun t ht => by
  obtain ⟨r, hr, rfl⟩ := List.mem_map.mp ht
  exact h r (List.mem_filter.mp hr).1
theorem trips_inj {n : Nat} {rs : List (List Bool)} : ∀ x ∈ trips n rs, ∀ y ∈ trips n rs, x.2.1 = y.2.1 → x = y := fun x hx y hy e => by
  obtain ⟨r, _, rfl⟩ := List.mem_map.mp hx
  obtain ⟨r', _, rfl⟩ := List.mem_map.mp hy
  have : r = r' := e
  rw [this]
def bots (n : Nat) : List (List Int) := (sortT (trips n (flg n))).map fun t => t.2.2
theorem bots_are : ∀ n ∈ List.range 8, bots n = (List.range (ch n (n / 2))).map fun (m : Nat) => bo n (m : Int) := by decide +kernel
end M
namespace M
theorem trips_few : ∀ n ∈ List.range 8, (trips n (flg n)).length < 64 := by decide +kernel
end M

namespace L3
open PySem PySem.Spec L2
open PyProof.Rows hiding St

abbrev NoE : Value → Shared → Prop := fun _ _ => False
abbrev ifsRun (ifs : List Expr) (env : Env) : Sem Bool :=
  forIn ifs true fun c r => if r = true then (do let k ← isTrue c env (eval c env); pure (ForInStep.yield k)) else pure (ForInStep.yield r)

section
variable {prog : Program} {w : World} {A : Around} {R : Result → Shared → Prop} {s : Shared}
theorem comp_loop {elt tg src : Expr} {ifs : List Expr} {sc : Scope} {pos : Pos} {it acc : Value} {env : Env} (J : Nat → Shared → Prop)
    (turn : ∀ n s, J n s → wpAny (model prog w) A (pyNext it) (fun r s1 => match r with
      | none => R (.ok .next) s1
      | some v => wpAny (model prog w) A (letOwnedTupleGo tg it v) (fun _ s2 => wpAny (model prog w) A (assign tg env v) (fun _ s3 => wpAny (model prog w) A (ifsRun ifs env) (fun k s4 =>
          if k = true then wpAny (model prog w) A (eval elt env) (fun x s5 => wpAny (model prog w) A (call (.builtin "list.append") [acc, x]) (fun _ s6 => ∃ m, m < n ∧ J m s6) NoE s5) NoE s4
          else ∃ m, m < n ∧ J m s4) NoE s3) NoE s2) NoE s1) NoE s)
    (n : Nat) (h : J n s) : codeAny (model prog w) A (.compLoop (.ListComp elt [⟨tg, src, ifs, 0⟩] sc pos) 0 it acc env) R s := by
  refine codeAny_loop rfl J (fun n s hJ => ?_) n h
  show wpAny _ A ((compTurn (.ListComp elt [⟨tg, src, ifs, 0⟩] sc pos) 0 it acc env).onRaise (fun x => do noteFrame x env; theTreesLotGoes x)) _ _ s
  refine wpAny_noted ?_
  rw [compTurn_list]
  refine wpAny_bind (wpAny_standAt (wpAny_bind (wpAny_mono (turn n s hJ) (fun r s1 h1 => ?_) fun _ _ z => z.elim)))
  cases r with
  | none => exact wpAny_pure h1
  | some v =>
    refine wpAny_bind (wpAny_mono h1 (fun _ s2 h2 => ?_) fun _ _ z => z.elim)
    refine wpAny_bind (wpAny_mono h2 (fun _ s3 h3 => ?_) fun _ _ z => z.elim)
    refine wpAny_bind (wpAny_mono h3 (fun k s4 h4 => ?_) fun _ _ z => z.elim)
    cases k with
    | false => exact wpAny_pure ⟨rfl, h4⟩
    | true =>
      refine wpAny_bind (wpAny_bind (wpAny_mono h4 (fun x s5 h5 => ?_) fun _ _ z => z.elim))
      exact wpAny_bind (wpAny_mono h5 (fun _ s6 h6 => wpAny_pure (wpAny_pure ⟨rfl, h6⟩)) fun _ _ z => z.elim)
end

def FreeIn (sc : Scope) (env : Env) : Prop := ∀ y ∈ sc.names, y.2 = NameKind.free → ∃ c, env.cells.lookup y.1 = some c
theorem clos_go (env : Env) : ∀ (ns : List (Str × NameKind)) (acc : List (Str × Addr)), (∀ y ∈ ns, y.2 = NameKind.free → ∃ c, env.cells.lookup y.1 = some c) →
    (∀ x c, acc.lookup x = some c → env.cells.lookup x = some c) →
    ∃ cl, (forIn ns acc fun (y : Str × NameKind) (cs : List (Str × Addr)) => (if (y.2 == NameKind.free) = true then (do let c ← cellOf env y.1; pure (ForInStep.yield ((y.1, c) :: cs))) else pure (ForInStep.yield cs) : Sem (ForInStep (List (Str × Addr))))) = pure cl ∧
      (∀ x c, cl.lookup x = some c → env.cells.lookup x = some c) ∧ (∀ x c, acc.lookup x = some c → ∃ c', cl.lookup x = some c') ∧ ∀ y ∈ ns, y.2 = NameKind.free → ∃ c, cl.lookup y.1 = some c
  | [], acc, _, ha => ⟨acc, by rw [List.forIn_nil], ha, fun x c h => ⟨c, h⟩, fun _ h => nomatch h⟩
  | y :: ns, acc, hf, ha => by
    rw [List.forIn_cons]
    by_cases hk : y.2 = NameKind.free
    · obtain ⟨c, hc⟩ := hf y List.mem_cons_self hk
      have step : (if (y.2 == NameKind.free) = true then (do let c ← cellOf env y.1; pure (ForInStep.yield ((y.1, c) :: acc))) else pure (ForInStep.yield acc) : Sem (ForInStep (List (Str × Addr)))) = pure (ForInStep.yield ((y.1, c) :: acc)) := by
        rw [if_pos (by rw [hk]; rfl)]
        unfold cellOf
        rw [hc]
        rfl
      obtain ⟨cl, e, h1, h2, h3⟩ := clos_go env ns ((y.1, c) :: acc) (fun z hz => hf z (List.mem_cons_of_mem _ hz)) (fun x d hx => by
        rw [List.lookup_cons] at hx
        cases hb : x == y.1 with
        | true => rw [hb] at hx; cases hx; rw [eq_of_beq hb]; exact hc
        | false => rw [hb] at hx; exact ha x d hx)
      refine ⟨cl, ?_, h1, fun x d hx => ?_, fun z hz hzk => ?_⟩
      · rw [step]
        exact e
      · cases hb : x == y.1 with
        | true => exact h2 x c (by rw [List.lookup_cons, hb])
        | false => exact h2 x d (by rw [List.lookup_cons, hb]; exact hx)
      · rcases List.mem_cons.mp hz with rfl | hz
        · exact h2 z.1 c (by rw [List.lookup_cons]; simp)
        · exact h3 z hz hzk
    · have step : (if (y.2 == NameKind.free) = true then (do let c ← cellOf env y.1; pure (ForInStep.yield ((y.1, c) :: acc))) else pure (ForInStep.yield acc) : Sem (ForInStep (List (Str × Addr)))) = pure (ForInStep.yield acc) := by
        rw [if_neg (by intro z; exact hk (eq_of_beq z))]
      obtain ⟨cl, e, h1, h2, h3⟩ := clos_go env ns acc (fun z hz => hf z (List.mem_cons_of_mem _ hz)) ha
      refine ⟨cl, ?_, h1, h2, fun z hz hzk => ?_⟩
      · rw [step]
        exact e
      · rcases List.mem_cons.mp hz with rfl | hz
        · exact absurd hzk hk
        · exact h3 z hz hzk
theorem clos_ok {sc : Scope} {env : Env} (hf : FreeIn sc env) :
    ∃ cl, closureFor sc env = pure cl ∧ (∀ x c, cl.lookup x = some c → env.cells.lookup x = some c) ∧ ∀ y ∈ sc.names, y.2 = NameKind.free → ∃ c, cl.lookup y.1 = some c := by
  obtain ⟨cl, e, h1, _, h3⟩ := clos_go env sc.names [] hf (fun x c h => nomatch h)
  refine ⟨cl, ?_, h1, h3⟩
  have key : closureFor sc env = ((forIn sc.names [] fun (y : Str × NameKind) (cs : List (Str × Addr)) => (if (y.2 == NameKind.free) = true then (do let c ← cellOf env y.1; pure (ForInStep.yield ((y.1, c) :: cs))) else pure (ForInStep.yield cs) : Sem (ForInStep (List (Str × Addr))))) >>= fun cs => pure cs) := rfl
  rw [key, e]
  rfl

theorem mem_of_lookup {β : Type} : ∀ {ns : List (Str × β)} {x : Str} {k : β}, ns.lookup x = some k → (x, k) ∈ ns
  | [], _, _, h => nomatch h
  | (n, j) :: r, x, k, h => by
    rw [List.lookup_cons] at h
    cases hb : x == n with
    | true => rw [hb] at h; cases h; rw [eq_of_beq hb]; exact List.mem_cons_self
    | false => rw [hb] at h; exact List.mem_cons_of_mem _ (mem_of_lookup h)
theorem relab_of {env : Env} : ∀ {ns : List (Str × NameKind)} {x : Str} {k : NameKind},
    (ns.map fun (n, k) => if (k == NameKind.free && env.scope.kind == .function && env.kindOf n == some .cell) then (n, NameKind.cell) else (n, k)).lookup x = some k →
    ns.lookup x = some k ∨ (k = .cell ∧ ns.lookup x = some .free)
  | [], _, _, h => nomatch h
  | (n, j) :: r, x, k, h => by
    have h : List.lookup x ((if (j == NameKind.free && env.scope.kind == .function && env.kindOf n == some .cell) = true then (n, NameKind.cell) else (n, j)) :: _) = some k := h
    by_cases hc : (j == NameKind.free && env.scope.kind == .function && env.kindOf n == some .cell) = true
    · rw [if_pos hc, List.lookup_cons] at h
      rw [List.lookup_cons]
      cases hb : x == n with
      | true =>
        rw [hb] at h
        simp only [Bool.and_eq_true] at hc
        cases h
        exact .inr ⟨rfl, by rw [eq_of_beq hc.1.1]⟩
      | false => rw [hb] at h; exact relab_of h
    · rw [if_neg hc, List.lookup_cons] at h
      rw [List.lookup_cons]
      cases hb : x == n with
      | true => rw [hb] at h; exact .inl h
      | false => rw [hb] at h; exact relab_of h
theorem relab_free {env : Env} : ∀ {ns : List (Str × NameKind)} {x : Str}, ns.lookup x = some .free →
    (ns.map fun (n, k) => if (k == NameKind.free && env.scope.kind == .function && env.kindOf n == some .cell) then (n, NameKind.cell) else (n, k)).lookup x = some .cell ∨
    (ns.map fun (n, k) => if (k == NameKind.free && env.scope.kind == .function && env.kindOf n == some .cell) then (n, NameKind.cell) else (n, k)).lookup x = some .free
  | [], _, h => nomatch h
  | (n, j) :: r, x, h => by
    show List.lookup x ((if (j == NameKind.free && env.scope.kind == .function && env.kindOf n == some .cell) = true then (n, NameKind.cell) else (n, j)) :: _) = _ ∨ List.lookup x ((if (j == NameKind.free && env.scope.kind == .function && env.kindOf n == some .cell) = true then (n, NameKind.cell) else (n, j)) :: _) = _
    rw [List.lookup_cons] at h
    by_cases hc : (j == NameKind.free && env.scope.kind == .function && env.kindOf n == some .cell) = true
    · rw [if_pos hc, List.lookup_cons]
      cases hb : x == n with
      | true => exact .inl rfl
      | false => rw [hb] at h; exact relab_free h
    · rw [if_neg hc, List.lookup_cons]
      cases hb : x == n with
      | true => rw [hb] at h; exact .inr h
      | false => rw [hb] at h; exact relab_free h

def inCx (X : Cx) (sc : Scope) (cl : List (Str × Addr)) (N : List Str) (pins : List (Addr × Obj)) (s : Shared) (H : Hp) (C : Addr) (fp : List Addr) : Cx :=
  { X with N := N, s₀ := s, H₀ := H, env := compEnvC sc cl C X.env, outer := X.stack, ex := fp, fn := fun _ => false, pn := X.pn ++ pins, xe := NoE }
structure Blk (X : Cx) (sc : Scope) (N : List Str) (Y : Cx) : Prop where
  ex : ∃ cl pins s H C fp, Y = inCx X sc cl N pins s H C fp

structure Clos (X : Cx) (sc : Scope) (cl : List (Str × Addr)) : Prop where
  kind : sc.kind = .function
  nocell : ∀ y ∈ sc.names, y.2 ≠ NameKind.cell
  sub : ∀ x c, cl.lookup x = some c → X.env.cells.lookup x = some c
  all : ∀ y ∈ sc.names, y.2 = NameKind.free → ∃ c, cl.lookup y.1 = some c

section
variable {X : Cx} {sc : Scope} {cl : List (Str × Addr)} {N : List Str} {pins : List (Addr × Obj)} {σ : St} {H : Hp} {s : Shared} {C : Addr} {fp : List Addr}
theorem inCx_ok (I : Inv X pins σ H s) (hc : Clos X sc cl) (hC : s.heap.objs.size ≤ C) (hf : ∀ b ∈ fp, FpOk X pins H b) (hfC : ∀ b ∈ fp, b ≠ C) : (inCx X sc cl N pins s H C fp).Ok where
  mod := I.ok.mod
  kind := hc.kind
  glob := I.ok.glob
  blt := I.ok.blt
  above := hC
  inj := fun x y c h1 h2 => I.ok.inj x y c (hc.sub x c h1) (hc.sub y c h2)
  has := fun x h => by
    have key : sc.names.lookup x = some .free := by
      rcases h with h | h
      · rcases relab_of (env := X.env) (show (relabel sc X.env).names.lookup x = some .cell from h) with z | ⟨_, z⟩
        · exact absurd rfl (hc.nocell _ (mem_of_lookup z))
        · exact z
      · rcases relab_of (env := X.env) (show (relabel sc X.env).names.lookup x = some .free from h) with z | ⟨z, _⟩
        · exact z
        · cases z
    exact hc.all (x, .free) (mem_of_lookup key) rfl
  cab := fun x c h => nomatch h
  hd := I.ok.hd
  frames := I.ok.frames
  stk := .inl rfl
  exf := fun b hb => ⟨hfC b hb, fun x c h z => (hf b hb).2.2.2.2.1 x c (hc.sub x c h) z⟩
  bs := I.bs
  bsz := Nat.le_trans I.ok.bsz I.sz
  noex := fun b o h hb => by
    rcases (hf b hb).2.2.2.1 with z | z
    · exact I.ok.noex b o h z
    · exact absurd (Nat.lt_of_lt_of_le (Heap.lt_size h) (Nat.le_trans I.ok.bsz z)) (Nat.lt_irrefl _)
  exfs := fun b hb z => by
    rcases List.mem_cons.mp (I.stkSub b z) with e | e
    · exact (hf b hb).2.1 e
    · exact (hf b hb).2.2.1 e
  funs := I.stack
  frf := I.stkFree

def caps (σ : St) (js : List Nat) : St := js.map fun j => (σ[j]?).getD none
def inSt (own : List Str) (σ : St) (js : List Nat) : St := own.map (fun _ => none) ++ caps σ js
structure InN (X : Cx) (sc : Scope) (own red : List Str) (js : List Nat) : Prop where
  free : ∀ y ∈ red, sc.names.lookup y = some .free
  vis : ∀ y ∈ red, X.env.scope.names.lookup y = some .cell ∨ X.env.scope.names.lookup y = some .free
  at_ : js.map (fun j => X.N[j]?) = red.map some

theorem inv_in {own red : List Str} {js : List Nat} {h1 : Heap} {tk : Nat} {m0 : Str → Option Value} (I : Inv X pins σ H s) (hc : Clos X sc cl) (hn : InN X sc own red js) (hC : s.heap.objs.size ≤ C) (hf : ∀ b ∈ fp, FpOk X pins H b) (hfC : ∀ b ∈ fp, b ≠ C)
    (hns : h1.Ns C m0) (hk : ∀ b o, s.heap.get? b = some o → h1.get? b = some o) : Inv (inCx X sc cl (own ++ red) pins s H C fp) [] (inSt own σ js) H { s with heap := h1, toks := tk } where
  ok := inCx_ok I hc hC hf hfC
  os := rfl
  bare := I.bare
  base := Un.kept hk
  loc := by
    refine ⟨m0, hns, fun i x v e1 e2 e3 => ?_⟩
    have e1 : (own ++ red)[i]? = some x := e1
    have e2 : (own.map (fun _ => (none : Option V)) ++ caps σ js)[i]? = some (some v) := e2
    by_cases hi : i < own.length
    · rw [List.getElem?_append_left (by simpa using hi), List.getElem?_map] at e2
      rw [List.getElem?_eq_getElem hi] at e2
      cases e2
    · have hi' : own.length ≤ i := Nat.le_of_not_lt hi
      rw [List.getElem?_append_right hi'] at e1
      rw [List.getElem?_append_right (by simpa using hi'), List.length_map] at e2
      unfold caps at e2
      rw [List.getElem?_map] at e2
      cases hj : js[i - own.length]? with
      | none => rw [hj] at e2; cases e2
      | some j =>
        rw [hj] at e2
        have e2' : (σ[j]?).getD none = some v := Option.some.inj e2
        have hσ : σ[j]? = some (some v) := by
          cases q : σ[j]? with
          | none => rw [q] at e2'; cases e2'
          | some z => rw [q] at e2'; exact congrArg some e2'
        have hN : X.N[j]? = some x := by
          have z := congrArg (fun l => l[i - own.length]?) hn.at_
          simp only [List.getElem?_map, hj, e1, Option.map_some] at z
          exact Option.some.inj z
        have hx : x ∈ red := List.mem_of_getElem? e1
        obtain ⟨m, _, hl⟩ := I.loc
        have hv := hn.vis x hx
        obtain ⟨u, r, l⟩ := hl j x v hN hσ (hv.elim (fun z => .inr (.inl z)) fun z => .inr (.inr z))
        refine ⟨u, r, .inr ⟨relab_free (hn.free x hx), ?_⟩⟩
        obtain ⟨c, hcl⟩ := hc.all (x, .free) (mem_of_lookup (hn.free x hx)) rfl
        rcases l with ⟨k, _⟩ | ⟨_, c', e, o, ho, hd⟩
        · have k : X.env.scope.names.lookup x = some .local := k
          rcases hv with z | z <;> (rw [k] at z; cases z)
        · have ec : c = c' := Option.some.inj ((hc.sub x c hcl).symm.trans e)
          subst ec
          exact ⟨c, hcl, o, hk _ _ ho, hd⟩
  cell := fun x c e => by
    obtain ⟨v, o, ho, hd⟩ := I.cell x c (hc.sub x c e)
    exact ⟨v, o, hk _ _ ho, hd⟩
  free := I.hok.fresh hC
  freeC := fun x c e => I.freeC x c (hc.sub x c e)
  pin := fun p hp => by
    have hp : p ∈ X.pn ++ pins := by simpa [inCx] using hp
    obtain ⟨a1, a2, a3, a4, a5⟩ := I.pin p hp
    refine ⟨hk _ _ a1, a2, Nat.ne_of_lt (Nat.lt_of_lt_of_le (Heap.lt_size a1) hC), fun z => ?_, a5⟩
    rcases List.mem_cons.mp (I.stkSub p.1 z) with e | e
    · exact a3 e
    · exact a4 e
  hok := I.hok.kept hk
  len := by
    have := congrArg List.length hn.at_
    simp only [List.length_map] at this
    show (own.map (fun _ => (none : Option V)) ++ caps σ js).length = (own ++ red).length
    simp [caps, this]

theorem inv_out {own red : List Str} {s0 : Shared} {H0 H' : Hp} {σ' : St} {s' : Shared} {D : Addr} {o : HO} {tk : Nat} (I0 : Inv X pins σ H0 s0) (hf : ∀ b ∈ fp, FpOk X pins H0 b) (hD : s0.heap.objs.size ≤ D)
    (hH : H = upd H0 D o) (hs : ∀ b u, s0.heap.get? b = some u → s.heap.get? b = some u) (ho : s.os = s0.os) (I : Inv (inCx X sc cl N pins s H C fp) [] σ' H' s') : Inv X pins σ H' s' := by
  have u1 : Un (frs X.stack) fp H0 H s0.heap s.heap := by rw [hH]; exact Un.laid hs hD (I0.hok.fresh hD)
  refine I0.call' (ch := fp) (I.os.trans ho) (u1.trans I.base) I.hok I.bare fun b hb => ?_
  obtain ⟨_, f1, _, f3, f4, f5⟩ := hf b hb
  exact ⟨f3, f1, f4, f5⟩
end
end L3

namespace L3
open PySem PySem.Spec L2
open PyProof.Rows hiding St

def PTs (X : Cx) (ifs : List Expr) (t : TT) : Prop :=
  ∀ (pins : List (Addr × Obj)) (s : Shared) (σ : St) (H : Hp) (Q : Bool → Hp → Prop), Inv X pins σ H s → t σ H Q → wpAny (model X.prog X.w) X.A (ifsRun ifs X.env) (TP X pins σ Q) X.xe s
def tYes : TT := fun _ H Q => Q true H
theorem pts_nil {X : Cx} : PTs X [] tYes := fun _ _ _ H _ I h => wpAny_tests_nil ⟨H, I, h⟩
theorem pts_one {X : Cx} {c : Expr} {t : TT} (h : PT X c t) : PTs X [c] t := fun pins s σ H Q I hq => wpAny_tests_one (h pins s σ H Q I hq)

def Sub (σ σ' : St) : Prop := ∀ (j : Nat) (v : V), σ[j]? = some (some v) → σ'[j]? = some (some v)
def CompTo (own : List Str) (js : List Nat) (g : TG) (tc : TT) (te : TE) (σ : St) (J : It) (H1 : Hp) (Q : VK) : Prop := ∀ D, H1 D = none → ∃ W : Nat → Nat → Hp → List V → Prop, (∃ m, W 0 m (upd H1 D (.lst [])) []) ∧
  ∀ i m H ys, W i m H ys → H D = some (.lst ys) ∧ ((J.stop i H ∧ Q (.ref D) H) ∨ (J.go i H ∧ ys.length < sizeLine ∧ ∀ x H', J.yld i H x H' → g x (inSt own σ js) H' fun σ2 H2 => Sub (inSt own σ js) σ2 ∧ tc σ2 H2 fun k H3 =>
    if k = true then te σ2 H3 fun v H4 => H4 D = some (.lst ys) ∧ ∃ m', m' < m ∧ W (i + 1) m' (upd H4 D (.lst (ys ++ [v]))) (ys ++ [v]) else ∃ m', m' < m ∧ W (i + 1) m' H3 ys))
def tComp (own : List Str) (js : List Nat) (wi : TI) (g : TG) (tc : TT) (te : TE) : TE := fun σ H Q => wi σ H fun J H1 => CompTo own js g tc te σ J H1 Q

structure CompOk (X : Cx) (sc : Scope) (own red : List Str) (js : List Nat) : Prop where
  kind : sc.kind = .function
  nocell : ∀ y ∈ sc.names, y.2 ≠ NameKind.cell
  names : ∀ y ∈ sc.names, y.2 = NameKind.local → sc.names.lookup y.1 = some .local
  outer : ∀ y ∈ sc.names, y.2 = NameKind.free → X.env.scope.names.lookup y.1 = some .cell ∨ X.env.scope.names.lookup y.1 = some .free
  inn : InN X sc own red js

section
variable {X : Cx} {sc : Scope} {own red : List Str} {js : List Nat} {elt tg src : Expr} {ifs : List Expr} {pos : Pos} {wi : TI} {g : TG} {tc : TT} {te : TE}

theorem comp_block {pins : List (Addr × Obj)} {σ : St} {H2 : Hp} {s2 : Shared} {it : Addr} {fp : List Addr} {tn : Nat → Heap → Prop} {J : It} {cl : List (Str × Addr)} {Q : VK} {RR : Value → Addr → Result → Shared → Prop} {E : Value → Shared → Prop}
    (hcalm : X.calm = true) (hk : CompOk X sc own red js) (hcl : Clos X sc cl) (I2 : Inv X pins σ H2 s2) (T : Turn X.prog X.w X.K tg J fp it tn) (st2 : tn 0 s2.heap) (f2 : ∀ b ∈ fp, FpOk X pins H2 b)
    (hg : ∀ Y, Blk X sc (own ++ red) Y → PG Y tg g) (ht : ∀ Y, Blk X sc (own ++ red) Y → PTs Y ifs tc) (he : ∀ Y, Blk X sc (own ++ red) Y → PE Y elt te)
    (hw : CompTo own js g tc te σ J H2 Q)
    (hRR : ∀ (D C : Addr) (s' : Shared) (H' : Hp) (m : Str → Option Value), Inv X pins σ H' s' → s'.heap.Ns C m → H' C = none → s2.heap.objs.size ≤ C → Q (.ref D) H' → RR (.ref D) C (.ok .next) s') :
    wpAny (model X.prog X.w) X.A (newList []) (fun acc s3 => wpAny (model X.prog X.w) X.A (newFunctionEnv sc X.env.globals cl [] X.env.qual none .none (some X.env)) (fun cenv s4 =>
      codeAny (model X.prog X.w) X.A (.compStart (.ListComp elt [⟨tg, src, ifs, 0⟩] sc pos) 0 (.ref it) acc { cenv with scope := relabel sc X.env }) (RR acc cenv.locals) s4) E s3) E s2 := by
  refine wpAny_newObj_type (wpAny_newFunctionEnv hk.nocell (by intro y hy; simp at hy) (fun h1 hns hsb => ?_) hk.kind)
  dsimp only at hns hsb ⊢
  obtain ⟨s3, hs3⟩ : ∃ s3 : Shared, s3 = { s2 with heap := s2.heap.push { cls := .type "list", dict := none, data := .seq ([] : List Value).toArray } } := ⟨_, rfl⟩
  have hsz3 : s3.heap.objs.size = s2.heap.objs.size + 1 := by rw [hs3]; exact Heap.size_push ..
  have nD : H2 s2.heap.objs.size = none := I2.hok.fresh (Nat.le_refl _)
  obtain ⟨W, ⟨m0, w0⟩, turn⟩ := hw s2.heap.objs.size nD
  have keep3 : ∀ b o, s2.heap.get? b = some o → s3.heap.get? b = some o := fun b o e => by rw [hs3]; exact Heap.get?_push_of_some _ e
  have fpl : ∀ b ∈ fp, b < s2.heap.objs.size := fun b hb => by
    obtain ⟨o, e, _⟩ := T.obj 0 _ st2 b hb
    exact Heap.lt_size e
  have I3 : Inv X pins σ (upd H2 s2.heap.objs.size (.lst [])) s3 := by
    rw [hs3]
    exact I2.laid (t' := s2.toks) (fun b o e => Heap.get?_push_of_some _ e) (Nat.le_refl _) ⟨Nat.zero_le _, [], 0, .nil, Heap.get?_push_size _ rfl⟩
  have f3 : ∀ b ∈ fp, FpOk X pins (upd H2 s2.heap.objs.size (.lst [])) b := fun b hb => ⟨by rw [upd_ne (Nat.ne_of_lt (fpl b hb))]; exact (f2 b hb).1, (f2 b hb).2⟩
  have hfC : ∀ b ∈ fp, b ≠ s3.heap.objs.size := fun b hb => by rw [hsz3]; exact Nat.ne_of_lt (Nat.lt_succ_of_lt (fpl b hb))
  have hns' : h1.Ns s3.heap.objs.size (fun x => ([] : List (Str × Value)).reverse.lookup x) := by rw [hs3]; exact hns
  have keep4 : ∀ b o, s3.heap.get? b = some o → h1.get? b = some o := fun b o e => by
    have lt := Heap.lt_size e
    rw [hs3] at e lt
    exact (hsb.2 b (Nat.ne_of_lt lt)).trans (Heap.get?_push_of_some _ e)
  have I4 := inv_in (tk := s3.toks + 0) I3 hcl hk.inn (Nat.le_refl _) f3 hfC hns' keep4
  have hB : Blk X sc (own ++ red) (inCx X sc cl (own ++ red) pins s3 (upd H2 s2.heap.objs.size (.lst [])) s3.heap.objs.size fp) := ⟨⟨_, _, _, _, _, _, rfl⟩⟩
  have hG := hg _ hB
  have hT := ht _ hB
  have hE := he _ hB
  generalize hY : inCx X sc cl (own ++ red) pins s3 (upd H2 s2.heap.objs.size (.lst [])) s3.heap.objs.size fp = Y at I4 hB hG hT hE
  have yP : Y.prog = X.prog := by rw [← hY]; rfl
  have yw : Y.w = X.w := by rw [← hY]; rfl
  have yK : Y.K = X.K := by rw [← hY]; rfl
  have yA : Y.A = X.A := by rw [← hY]; rfl
  have yc : Y.calm = true := by rw [← hY]; exact hcalm
  have ye : Y.xe = NoE := by rw [← hY]; rfl
  have yenv : Y.env = compEnvC sc cl s3.heap.objs.size X.env := by rw [← hY]; rfl
  -- the iterator's objects, seen from the block
  have fY : ∀ (H' : Hp), (∀ b ∈ fp, H' b = none) → ∀ b ∈ fp, FpOk Y [] H' b := fun H' hn b hb => by
    subst hY
    refine ⟨hn b hb, hfC b hb, fun z => ?_, .inl hb, fun x c e z => ?_, fun p hp => ?_⟩
    · rcases List.mem_cons.mp (I2.stkSub b z) with e | e
      · exact (f2 b hb).2.1 e
      · exact (f2 b hb).2.2.1 e
    · exact (f2 b hb).2.2.2.2.1 x c (hcl.sub x c e) z
    · exact (f2 b hb).2.2.2.2.2 p (by simpa [inCx] using hp)
  have fresh3 : ∀ b ∈ fp, (upd H2 s2.heap.objs.size (.lst [])) b = none := fun b hb => (f3 b hb).1
  have out : ∀ {σ' : St} {H' : Hp} {s' : Shared}, Inv Y [] σ' H' s' → Inv X pins σ H' s' := fun {σ' H' s'} I => by
    subst hY
    exact inv_out (o := .lst []) (tk := 0) (own := own) (red := red) I2 f2 (Nat.le_refl _) rfl keep3 (by rw [hs3]) I
  have loop : codeAny (model X.prog X.w) X.A (.compLoop (.ListComp elt [⟨tg, src, ifs, 0⟩] sc pos) 0 (.ref it) (.ref s2.heap.objs.size) Y.env) (RR (.ref s2.heap.objs.size) s3.heap.objs.size) { s3 with heap := h1, toks := s3.toks + 0 } := by
    refine comp_loop (fun n s' => ∃ i H' ys, Inv Y [] (inSt own σ js) H' s' ∧ tn i s'.heap ∧ (∀ b ∈ fp, H' b = none) ∧ W i n H' ys) ?_ m0 ⟨0, _, [], I4, T.keep _ _ _ st2 fun b _ o e => keep4 b o (keep3 b o e), fresh3, w0⟩
    rintro n s' ⟨i, H', ys, I', st', fr', w'⟩
    obtain ⟨hD, hgo⟩ := turn i n H' ys w'
    rcases hgo with ⟨stop, q⟩ | ⟨go, hlen, step⟩
    · have z := T.done Y yP yw yK yc i [] s' (inSt own σ js) H' NoE I' (fY H' fr') st' stop
      rw [yA] at z
      refine thn z fun r s1 ⟨hr, I1⟩ => ?_
      subst hr
      obtain ⟨m, hm, _⟩ := I1.loc
      have hm : s1.heap.Ns s3.heap.objs.size m := by rw [yenv] at hm; exact hm
      have hfr : H' s3.heap.objs.size = none := by have z := I1.free; rw [yenv] at z; exact z
      exact hRR _ _ s1 H' m (out I1) hm hfr (by rw [hsz3]; exact Nat.le_succ _) q
    · have z := T.item Y yP yw yK yc i [] s' (inSt own σ js) H' NoE I' (fY H' fr') st' go
      rw [yA] at z
      refine thn z fun r s1 ⟨u, hr, h1⟩ => ?_
      subst hr
      refine thn h1 fun _ s5 ⟨x, H5, I5, r5, y5, st5, fr5⟩ => ?_
      have I5' := I5.pinned (fY H5 fr5) (T.obj _ _ st5)
      have back : ∀ {σ7 : St} {H7 : Hp} {s7 : Shared} {ys' : List V}, Inv Y ([] ++ pinsAt fp s5.heap) σ7 H7 s7 → Sub (inSt own σ js) σ7 → (∃ m', m' < n ∧ W (i + 1) m' H7 ys') → ∃ m, m < n ∧ ∃ i H' ys, Inv Y [] (inSt own σ js) H' s7 ∧ tn i s7.heap ∧ (∀ b ∈ fp, H' b = none) ∧ W i m H' ys :=
        fun {σ7 H7 s7 ys'} I7 hsub ⟨m', hm, w7⟩ => by
          refine ⟨m', hm, i + 1, H7, ys', I7.unpinned.weak (by rw [I7.len, I5.len]) hsub, T.keep _ _ _ st5 fun b hb o e => (I7.pin (b, o) (List.mem_append_right _ (List.mem_append_right _ (mem_pinsAt hb e)))).1, fun b hb => ?_, w7⟩
          obtain ⟨o, e, d⟩ := T.obj _ _ st5 b hb
          exact (I7.pin (b, o) (List.mem_append_right _ (List.mem_append_right _ (mem_pinsAt hb e)))).2.1
      have z1 := hG _ s5 _ H5 x u _ I5' r5 (step x H5 y5)
      rw [yA, yP, yw, ye] at z1
      refine thn z1 fun _ s6 ⟨σ6, H6, I6, hsub, q6⟩ => ?_
      have z2 := hT _ s6 σ6 H6 _ I6 q6
      rw [yA, yP, yw, ye] at z2
      refine thn z2 fun k s7 ⟨H7, I7, q7⟩ => ?_
      cases k with
      | false => exact back I7 hsub q7
      | true =>
        have z3 := hE _ s7 σ6 H7 _ I7 q7
        rw [yA, yP, yw, ye] at z3
        refine thn z3 fun v s8 ⟨y, H8, I8, r8, hD8, q8⟩ => ?_
        have z4 := mt_append _ s8 σ6 H8 (.ref s2.heap.objs.size) [y] (.ref s2.heap.objs.size) [v] (fun _ H9 => H9 = upd H8 s2.heap.objs.size (.lst (ys ++ [y]))) I8 rfl (.cons r8 .nil) ⟨_, ys, y, rfl, rfl, hD8, hlen, rfl⟩
        rw [yA, yP, yw, ye] at z4
        refine thn z4 fun _ s9 ⟨_, H9, I9, _, e9⟩ => ?_
        subst e9
        exact back I9 hsub q8
  have eenv : ({ newEnv sc s3.heap.objs.size X.env.globals cl X.env.qual none .none (some X.env) 0 with scope := relabel sc X.env } : Env) = Y.env := by rw [yenv]; rfl
  have key : codeAny (model X.prog X.w) X.A (.compStart (.ListComp elt [⟨tg, src, ifs, 0⟩] sc pos) 0 (.ref it) (.ref s2.heap.objs.size) Y.env) (RR (.ref s2.heap.objs.size) s3.heap.objs.size) { s3 with heap := h1, toks := s3.toks + 0 } :=
    codeAny_compStart_list loop (T.self X.A 0 _ _ _ (T.keep _ _ _ st2 fun b _ o e => keep4 b o (keep3 b o e)) loop)
  rw [yenv, hs3] at key
  exact key
end
end L3

namespace L3
open PySem PySem.Spec L2
open PyProof.Rows hiding St
section
variable {X : Cx} {sc : Scope} {own red : List Str} {js : List Nat} {elt tg src : Expr} {ifs : List Expr} {pos spos py : Pos} {wi : TI} {g : TG} {tc : TT} {te : TE}
theorem clos_of {pins : List (Addr × Obj)} {σ : St} {H : Hp} {s : Shared} (I : Inv X pins σ H s) (hk : CompOk X sc own red js) : ∃ cl, closureFor sc X.env = pure cl ∧ Clos X sc cl := by
  obtain ⟨cl, e, h1, h2⟩ := clos_ok (sc := sc) (env := X.env) fun y hy hf => I.ok.has y.1 (hk.outer y hy hf)
  exact ⟨cl, e, hk.kind, hk.nocell, h1, h2⟩
theorem letgo {pins : List (Addr × Obj)} {σ : St} {H : Hp} {s s2 : Shared} {C : Addr} {h' : Heap} (I2 : Inv X pins σ H s) (hC : H C = none) (hn : C ≠ X.env.locals) (hz : X.s₀.heap.objs.size ≤ C) (h2 : ∀ x c, X.env.cells.lookup x = some c → c ≠ C) (h3 : ∀ p ∈ X.pn ++ pins, p.1 ≠ C)
    (hs : Heap.SameBut C s.heap h') : Inv X pins σ H { s with heap := h' } :=
  I2.turned (t' := s.toks) (it := C) (fun b o hb e => (hs.2 b hb).trans e) hC hn (.inr hz) h2 h3
theorem pe_comp (hcalm : X.calm = true) (hk : CompOk X sc own red js) (hi : PI X tg src wi) (hg : ∀ Y, Blk X sc (own ++ red) Y → PG Y tg g) (ht : ∀ Y, Blk X sc (own ++ red) Y → PTs Y ifs tc) (he : ∀ Y, Blk X sc (own ++ red) Y → PE Y elt te)
    (hs : ∀ x, foldedSetIterable src X.env x = pure x := by intro _; rfl) : PE X (.ListComp elt [⟨tg, src, ifs, 0⟩] sc pos) (tComp own js wi g tc te) := by
  intro pins s σ H Q I h
  obtain ⟨cl, ecl, hcl⟩ := clos_of I hk
  rw [eval_ListComp]
  refine wpAny_comprehension_free (use := none) rfl hs ecl hk.kind hk.names (thn (hi pins s σ H _ I h) fun v s1 h1 => thn h1 fun itv s2 h2 => ?_)
  obtain ⟨it, fp, tn, J, H2, e, I2, T, st2, f2, hw⟩ := h2
  subst e
  refine comp_block (RR := fun acc C => compPost (model X.prog X.w) X.A X.xe none (EP X pins σ Q) acc C) hcalm hk hcl I2 T st2 f2 hg ht he hw ?_
  intro D C s' H' m I' hm hC hle q
  refine ⟨m, hm, fun h' hs' => ⟨.ref D, H', ?_, rfl, q⟩⟩
  exact letgo (s2 := s2) I' hC (Nat.ne_of_gt (Nat.lt_of_lt_of_le I2.lt hle)) (Nat.le_trans I2.sz hle) (fun x c e z => by
    obtain ⟨_, k⟩ := I2.cell x c e
    exact absurd (Nat.lt_of_lt_of_le k.lt (by rw [z]; exact hle)) (Nat.lt_irrefl _)) (fun p hp z => absurd (Nat.lt_of_lt_of_le (Heap.lt_size (I2.pin p hp).1) (by rw [z]; exact hle)) (Nat.lt_irrefl _)) hs'
theorem ps_setC {i : Nat} {y : Str} (hcalm : X.calm = true) (hN : X.N.Nodup) (hi' : X.N[i]? = some y) (hy : Loc X.env.scope y) (hsw : swapsWith (.ListComp elt [⟨tg, src, ifs, 0⟩] sc pos) (some (.Name y py)) spos.line X.env = pure true)
    (hk : CompOk X sc own red js) (hi : PI X tg src wi) (hg : ∀ Y, Blk X sc (own ++ red) Y → PG Y tg g) (ht : ∀ Y, Blk X sc (own ++ red) Y → PTs Y ifs tc) (he : ∀ Y, Blk X sc (own ++ red) Y → PE Y elt te)
    (hs : ∀ x, foldedSetIterable src X.env x = pure x := by intro _; rfl) (hf : X.fn y = true ∨ X.env.scope.names.lookup y = some .local := by first | exact .inl rfl | exact .inr rfl | assumption) :
    PS X (.Assign [.Name y py] (.ListComp elt [⟨tg, src, ifs, 0⟩] sc pos) spos) (tAsg (tComp own js wi g tc te) (gName i)) := by
  intro pins s σ H D I h
  obtain ⟨cl, ecl, hcl⟩ := clos_of I hk
  rw [exec_Assign_Name_used _ _ _ _ hsw]
  refine wpAny_bind (wpAny_standAt (wpAny_bind ?_))
  show wpAny _ _ (do let _ ← comprehension (.ListComp elt [⟨tg, src, ifs, 0⟩] sc pos) sc X.env _ (newList []) false (eval src X.env) (some (assign (.Name y py) X.env))) _ _ s
  refine wpAny_bind (wpAny_mono (wpAny_comprehension_free (use := some (assign (.Name y py) X.env)) (Q := fun _ s' => SP X pins D .next s') rfl hs ecl hk.kind hk.names
    (thn (hi pins s σ H _ I h) fun v s1 h1 => thn h1 fun itv s2 h2 => ?_)) (fun _ s' hq => wpAny_pure (wpAny_pure hq)) fun _ _ e => e)
  obtain ⟨it, fp, tn, J, H2, e, I2, T, st2, f2, hw⟩ := h2
  subst e
  refine comp_block (Q := fun x H1 => gName i x σ H1 D.nx) (RR := fun acc C => compPost (model X.prog X.w) X.A X.xe (some (assign (.Name y py) X.env)) (fun _ s' => SP X pins D .next s') acc C) hcalm hk hcl I2 T st2 f2 hg ht he hw ?_
  intro Dl C s' H' m I' hm hC hle q
  have cC : ∀ x c, X.env.cells.lookup x = some c → c ≠ C := fun x c e z => by
    obtain ⟨_, k⟩ := I2.cell x c e
    exact absurd (Nat.lt_of_lt_of_le k.lt (by rw [z]; exact hle)) (Nat.lt_irrefl _)
  have lC : C ≠ X.env.locals := Nat.ne_of_gt (Nat.lt_of_lt_of_le I2.lt hle)
  show wpAny _ _ (assign (.Name y py) X.env (.ref Dl)) _ _ _
  refine wpAny_assign_Name (store_ok2 I' hN hi' hy (v := .ref Dl) (u := .ref Dl) rfl (fun s3 I3 ⟨a, sb, ha⟩ => ?_) hf)
  have aC : C ≠ a := by
    rcases ha with e | e
    · rw [e]; exact lC
    · exact (cC _ _ e).symm
  refine ⟨m, hm.sameBut sb aC, fun h' hs' => ⟨_, H', ?_, q⟩⟩
  exact letgo (s2 := s2) I3 hC lC (Nat.le_trans I2.sz hle) cC (fun p hp z => absurd (Nat.lt_of_lt_of_le (Heap.lt_size (I2.pin p hp).1) (by rw [z]; exact hle)) (Nat.lt_irrefl _)) hs'
end
end L3

namespace L3
open PySem PySem.W PyProof.Rows
def askOk {α : Type} (N : Nat) (lt : Nat → Nat → Bool) : KasT α → (α → Prop) → Prop
  | .ret a, Q => Q a
  | .ask i j k, Q => i < N ∧ j < N ∧ askOk N lt (k (lt i j)) Q
theorem askOk_bind {α β : Type} {N : Nat} {lt : Nat → Nat → Bool} {f : α → KasT β} {Q : β → Prop} : ∀ (t : KasT α), askOk N lt t (fun a => askOk N lt (f a) Q) → askOk N lt (t.bind f) Q
  | .ret _, h => h
  | .ask _ _ k, h => ⟨h.1, h.2.1, askOk_bind (k _) h.2.2⟩
theorem askOk_mono {α : Type} {N : Nat} {lt : Nat → Nat → Bool} {Q Q' : α → Prop} (hq : ∀ a, Q a → Q' a) : ∀ (t : KasT α), askOk N lt t Q → askOk N lt t Q'
  | .ret _, h => hq _ h
  | .ask _ _ k, h => ⟨h.1, h.2.1, askOk_mono hq (k _) h.2.2⟩
structure PreO (κ : Type) where
  lt : κ → κ → Bool
  le : κ → κ → Prop
  refl : ∀ a, le a a
  trans : ∀ a b c, le a b → le b c → le a c
  yes : ∀ a b, lt a b = true → le a b
  no : ∀ a b, lt a b = false → le b a
section
variable {κ : Type} (O : PreO κ) (k : Nat → κ)
def kat (p : Array Nat) (i : Nat) : κ := k (p.getD i 0)
def Up (p : Array Nat) (m : Nat) : Prop := ∀ i j, i ≤ j → j < m → O.le (kat k p i) (kat k p j)
def Down (p : Array Nat) (m : Nat) : Prop := ∀ i j, i ≤ j → j < m → O.le (kat k p j) (kat k p i)
def Flat (p : Array Nat) (a b : Nat) : Prop := ∀ i j, a ≤ i → i < b → a ≤ j → j < b → O.le (kat k p i) (kat k p j)
abbrev ltk (i j : Nat) : Bool := O.lt (k i) (k j)
def PermN (N : Nat) (p : Array Nat) : Prop := p.Perm (List.range N).toArray
variable {O k}
theorem PermN.size {N : Nat} {p : Array Nat} (h : PermN N p) : p.size = N := by
  have := Array.Perm.size_eq h
  simpa using this
theorem PermN.lt {N : Nat} {p : Array Nat} (h : PermN N p) {i : Nat} (hi : i < N) : p.getD i 0 < N := by
  have hs := h.size
  have hm : p.getD i 0 ∈ p := by
    have e : p.getD i 0 = p[i]'(by omega) := by simp [Array.getD, hs, hi]
    rw [e]; exact Array.getElem_mem _
  have : p.getD i 0 ∈ (List.range N).toArray := (Array.Perm.mem_iff h).mp hm
  simpa using this
theorem PermN.rev {N : Nat} {p : Array Nat} (h : PermN N p) (i j : Nat) : PermN N (kas_rev p i j) := (mirror_perm p i j _).trans h
theorem PermN.bub {N : Nat} {p : Array Nat} (h : PermN N p) (i j : Nat) : PermN N (bubble p i j) := (bubble_perm p i j).trans h
theorem kat_eq {p q : Array Nat} {i j : Nat} (h : p[i]? = q[j]?) : kat k p i = kat k q j := by
  unfold kat
  rw [Array.getD_eq_getD_getElem?, Array.getD_eq_getD_getElem?, h]
theorem kat_rev {N : Nat} {p : Array Nat} (hp : PermN N p) {i j : Nat} (hj : j ≤ N) (t : Nat) : kat k (kas_rev p i j) t = if i ≤ t ∧ t < j then kat k p (i + j - 1 - t) else kat k p t := by
  have e := getElem?_mirror_all (xs := p) (i := i) (j := j) (by rw [hp.size]; exact hj) t
  by_cases h : i ≤ t ∧ t < j
  · rw [if_pos h] at e ⊢; exact kat_eq e
  · rw [if_neg h] at e ⊢; exact kat_eq e
theorem kat_bub {N : Nat} {p : Array Nat} (hp : PermN N p) {s d : Nat} (hs : s < N) (hd : d ≤ s) (t : Nat) : kat k (bubble p s d) t = if t = s - d then kat k p s else if s - d < t ∧ t ≤ s then kat k p (t - 1) else kat k p t := by
  have e := getElem?_bubble (xs := p) (src := s) (by rw [hp.size]; exact hs) d hd t
  by_cases h : t = s - d
  · rw [if_pos h] at e ⊢; exact kat_eq e
  · rw [if_neg h] at e ⊢
    by_cases h2 : s - d < t ∧ t ≤ s
    · rw [if_pos h2] at e ⊢; exact kat_eq e
    · rw [if_neg h2] at e ⊢; exact kat_eq e
theorem Up.more {p : Array Nat} {n : Nat} (h : Up O k p n) (h1 : 1 ≤ n) (e : O.le (kat k p (n - 1)) (kat k p n)) : Up O k p (n + 1) := fun i j hij hj => by
  by_cases hjn : j < n
  · exact h i j hij hjn
  · have ej : j = n := by omega
    subst ej
    by_cases hi : i = j
    · subst hi; exact O.refl _
    · exact O.trans _ _ _ (h i (j - 1) (by omega) (by omega)) e
theorem Down.more {p : Array Nat} {n : Nat} (h : Down O k p n) (h1 : 1 ≤ n) (e : O.le (kat k p n) (kat k p (n - 1))) : Down O k p (n + 1) := fun i j hij hj => by
  by_cases hjn : j < n
  · exact h i j hij hjn
  · have ej : j = n := by omega
    subst ej
    by_cases hi : i = j
    · subst hi; exact O.refl _
    · exact O.trans _ _ _ e (h i (j - 1) (by omega) (by omega))
theorem asc_ok {N : Nat} {p : Array Nat} (hp : PermN N p) : ∀ (f n : Nat), 1 ≤ n → n + f ≤ N → Up O k p n →
    askOk N (ltk O k) (kas_asc p f n) fun m => n ≤ m ∧ m ≤ n + f ∧ Up O k p m ∧ (m < n + f → O.lt (kat k p m) (kat k p (m - 1)) = true)
  | 0, n, _, _, hu => ⟨Nat.le_refl _, Nat.le_refl _, hu, fun h => absurd h (Nat.lt_irrefl _)⟩
  | f + 1, n, h1, hN, hu => by
    refine ⟨hp.lt (by omega), hp.lt (by omega), ?_⟩
    cases hc : ltk O k (p.getD n 0) (p.getD (n - 1) 0) with
    | true =>
      dsimp only; rw [if_pos rfl]
      exact ⟨Nat.le_refl _, by omega, hu, fun _ => hc⟩
    | false =>
      dsimp only; rw [if_neg Bool.false_ne_true]
      refine askOk_mono (fun m hm => ?_) _ (asc_ok hp f (n + 1) (by omega) (by omega) (hu.more h1 (O.no _ _ hc)))
      exact ⟨by omega, by omega, hm.2.2.1, fun h => hm.2.2.2 (by omega)⟩
theorem Down.rev_flat {N : Nat} {p : Array Nat} (hp : PermN N p) {a n : Nat} (hn : n ≤ N) (hd : Down O k p n) (hf : Flat O k p a n) : Down O k (kas_rev p a n) n := fun i j hij hj => by
  rw [kat_rev hp hn, kat_rev hp hn]
  by_cases h1 : a ≤ j ∧ j < n
  · rw [if_pos h1]
    by_cases h2 : a ≤ i ∧ i < n
    · rw [if_pos h2]; exact hf _ _ (by omega) (by omega) (by omega) (by omega)
    · rw [if_neg h2]; exact hd _ _ (by omega) (by omega)
  · rw [if_neg h1]
    by_cases h2 : a ≤ i ∧ i < n
    · omega
    · rw [if_neg h2]; exact hd _ _ hij hj
theorem desc_ok {N : Nat} : ∀ (f : Nat) (p : Array Nat) (n q : Nat), PermN N p → 1 ≤ n → q < n → n + f ≤ N → Down O k p n → Flat O k p (n - (q + 1)) n →
    askOk N (ltk O k) (kas_desc f p n q) fun r => PermN N r.1 ∧ n ≤ r.2.1 ∧ r.2.1 ≤ n + f ∧ r.2.2 < r.2.1 ∧ Down O k r.1 r.2.1 ∧ Flat O k r.1 (r.2.1 - (r.2.2 + 1)) r.2.1
  | 0, p, n, q, hp, _, hq, _, hd, hf => ⟨hp, Nat.le_refl _, Nat.le_refl _, hq, hd, hf⟩
  | f + 1, p, n, q, hp, h1, hq, hN, hd, hf => by
    refine ⟨hp.lt (by omega), hp.lt (by omega), ?_⟩
    cases hc : ltk O k (p.getD n 0) (p.getD (n - 1) 0) with
    | true =>
      dsimp only; rw [if_pos rfl]
      have one : ∀ (p' : Array Nat), Flat O k p' (n + 1 - (0 + 1)) (n + 1) := fun p' i j a1 a2 a3 a4 => by
        have : i = j := by omega
        subst this; exact O.refl _
      by_cases h0 : q > 0
      · rw [if_pos h0]
        have hp' := hp.rev (n - (q + 1)) n
        have hd' := Down.rev_flat hp (by omega) hd hf
        have step : O.le (kat k (kas_rev p (n - (q + 1)) n) n) (kat k (kas_rev p (n - (q + 1)) n) (n - 1)) := by
          rw [kat_rev hp (by omega), kat_rev hp (by omega), if_neg (by omega), if_pos (by omega)]
          exact O.trans _ _ _ (O.yes _ _ hc) (hf _ _ (by omega) (by omega) (by omega) (by omega))
        refine askOk_mono (fun r hr => ?_) _ (desc_ok f _ (n + 1) 0 hp' (by omega) (by omega) (by omega) (hd'.more h1 step) (one _))
        exact ⟨hr.1, by omega, by omega, hr.2.2.2.1, hr.2.2.2.2⟩
      · rw [if_neg h0]
        refine askOk_mono (fun r hr => ?_) _ (desc_ok f p (n + 1) 0 hp (by omega) (by omega) (by omega) (hd.more h1 (O.yes _ _ hc)) (one _))
        exact ⟨hr.1, by omega, by omega, hr.2.2.2.1, hr.2.2.2.2⟩
    | false =>
      dsimp only; rw [if_neg Bool.false_ne_true]
      refine ⟨hp.lt (by omega), hp.lt (by omega), ?_⟩
      cases hc2 : ltk O k (p.getD (n - 1) 0) (p.getD n 0) with
      | true =>
        dsimp only; rw [if_pos rfl]
        exact ⟨hp, Nat.le_refl _, by show n ≤ n + (f + 1); omega, hq, hd, hf⟩
      | false =>
        dsimp only; rw [if_neg Bool.false_ne_true]
        have le1 : O.le (kat k p (n - 1)) (kat k p n) := O.no _ _ hc
        have le2 : O.le (kat k p n) (kat k p (n - 1)) := O.no _ _ hc2
        have hf' : Flat O k p (n + 1 - (q + 1 + 1)) (n + 1) := fun i j a1 a2 a3 a4 => by
          by_cases hi : i < n
          · have l1 : O.le (kat k p i) (kat k p (n - 1)) := hf _ _ (by omega) hi (by omega) (by omega)
            by_cases hj : j < n
            · exact hf _ _ (by omega) hi (by omega) hj
            · have : j = n := by omega
              subst this; exact O.trans _ _ _ l1 le1
          · have : i = n := by omega
            subst this
            by_cases hj : j < i
            · exact O.trans _ _ _ le2 (hf _ _ (by omega) (by omega) (by omega) hj)
            · have : j = i := by omega
              subst this; exact O.refl _
        refine askOk_mono (fun r hr => ?_) _ (desc_ok f p (n + 1) (q + 1) hp (by omega) (by omega) (by omega) (hd.more h1 le2) hf')
        exact ⟨hr.1, by omega, by omega, hr.2.2.2.1, hr.2.2.2.2⟩
theorem Down.rev {N : Nat} {p : Array Nat} (hp : PermN N p) {n : Nat} (hn : n ≤ N) (hd : Down O k p n) : Up O k (kas_rev p 0 n) n := fun i j hij hj => by
  rw [kat_rev hp hn, kat_rev hp hn, if_pos (by omega), if_pos (by omega)]
  exact hd _ _ (by omega) (by omega)
theorem Up.rev {N : Nat} {p : Array Nat} (hp : PermN N p) {n : Nat} (hn : n ≤ N) (hd : Up O k p n) : Down O k (kas_rev p 0 n) n := fun i j hij hj => by
  rw [kat_rev hp hn, kat_rev hp hn, if_pos (by omega), if_pos (by omega)]
  exact hd _ _ (by omega) (by omega)
def Run (N : Nat) (O : PreO κ) (k : Nat → κ) (r : Nat × Array Nat) : Prop := PermN N r.2 ∧ 1 ≤ r.1 ∧ r.1 ≤ N ∧ Up O k r.2 r.1
theorem tail3_ok {N n : Nat} {p : Array Nat} (hp : PermN N p) (h1 : 1 ≤ n) (hn : n ≤ N) (hd : Down O k p n) : askOk N (ltk O k) (kas_tail3 n N p) (Run N O k) := by
  refine askOk_bind _ (askOk_mono (fun m hm => ?_) _ (asc_ok (hp.rev 0 n) (N - n) n h1 (by omega) (hd.rev hp hn)))
  exact ⟨hp.rev 0 n, by show 1 ≤ m; omega, by show m ≤ N; omega, hm.2.2.1⟩
theorem descPart_ok {N n : Nat} {p : Array Nat} (hp : PermN N p) (h1 : 1 ≤ n) (hn : n < N) (hd : Down O k p n) (he : O.le (kat k p n) (kat k p (n - 1))) : askOk N (ltk O k) (kas_descPart n N p) (Run N O k) := by
  refine askOk_bind _ (askOk_mono (fun r hr => ?_) _ (desc_ok (N - (n + 1)) p (n + 1) 0 hp (by omega) (by omega) (by omega) (hd.more h1 he) (fun i j a1 a2 a3 a4 => by
    have : i = j := by omega
    subst this; exact O.refl _)))
  obtain ⟨a1, a2, a3, a4, a5, a6⟩ := hr
  by_cases h0 : r.2.2 > 0
  · rw [if_pos h0]
    exact tail3_ok (a1.rev _ _) (by omega) (by omega) (Down.rev_flat a1 (by omega) a5 a6)
  · rw [if_neg h0]
    exact tail3_ok a1 (by omega) (by omega) a5
theorem count_ok {N : Nat} {p : Array Nat} (hp : PermN N p) (h1 : 1 ≤ N) : askOk N (ltk O k) (kas_count N p) (Run N O k) := by
  have u1 : Up O k p 1 := fun i j hij hj => by
    have : i = j := by omega
    subst this; exact O.refl _
  refine askOk_bind _ (askOk_mono (fun n hn => ?_) _ (asc_ok hp (N - 1) 1 (Nat.le_refl _) (by omega) u1))
  obtain ⟨a1, a2, a3, a4⟩ := hn
  by_cases e : (n == N) = true
  · rw [if_pos e]
    exact ⟨hp, a1, by show n ≤ N; omega, a3⟩
  · rw [if_neg e]
    have hne : n ≠ N := fun z => e (by rw [z]; simp)
    have hlt : n < N := by omega
    have hstop := O.yes _ _ (a4 (by omega))
    by_cases hg : n > 1
    · rw [if_pos hg]
      refine ⟨hp.lt (by omega), hp.lt (by omega), ?_⟩
      cases hc : ltk O k (p.getD 0 0) (p.getD (n - 1) 0) with
      | true =>
        dsimp only; rw [if_pos rfl]
        exact ⟨hp, a1, by show n ≤ N; omega, a3⟩
      | false =>
        dsimp only; rw [if_neg Bool.false_ne_true]
        refine descPart_ok (hp.rev 0 n) a1 hlt (a3.rev hp (by omega)) ?_
        rw [kat_rev hp (by omega), kat_rev hp (by omega), if_neg (by omega), if_pos (by omega)]
        have e0 : 0 + n - 1 - (n - 1) = 0 := by omega
        rw [e0]
        exact O.trans _ _ _ hstop (O.no _ _ hc)
    · rw [if_neg hg]
      have : n = 1 := by omega
      subst this
      refine descPart_ok hp (Nat.le_refl _) hlt (fun i j hij hj => ?_) hstop
      have : i = j := by omega
      subst this; exact O.refl _
theorem place_ok {N : Nat} {p : Array Nat} (hp : PermN N p) {c : Nat} (hc : c < N) (hu : Up O k p c) : ∀ (f l r : Nat), l ≤ r → r ≤ c → r - l ≤ f → (∀ i, i < l → O.le (kat k p i) (kat k p c)) → (∀ i, r ≤ i → i < c → O.le (kat k p c) (kat k p i)) →
    askOk N (ltk O k) (kas_place p c f l r) fun m => m ≤ c ∧ (∀ i, i < m → O.le (kat k p i) (kat k p c)) ∧ ∀ i, m ≤ i → i < c → O.le (kat k p c) (kat k p i)
  | 0, l, r, hlr, hrc, hf, hl, hr => ⟨by omega, hl, fun i h1 h2 => hr i (by omega) h2⟩
  | f + 1, l, r, hlr, hrc, hf, hl, hr => by
    show askOk N (ltk O k) (if l ≥ r then .ret l else .ask (p.getD c 0) (p.getD ((l + r) / 2) 0) fun z => if z = true then kas_place p c f l ((l + r) / 2) else kas_place p c f ((l + r) / 2 + 1) r) _
    by_cases h : l ≥ r
    · rw [if_pos h]
      exact ⟨by omega, hl, fun i h1 h2 => hr i (by omega) h2⟩
    · rw [if_neg h]
      refine ⟨hp.lt hc, hp.lt (by omega), ?_⟩
      cases hz : ltk O k (p.getD c 0) (p.getD ((l + r) / 2) 0) with
      | true =>
        dsimp only; rw [if_pos rfl]
        refine place_ok hp hc hu f l ((l + r) / 2) (by omega) (by omega) (by omega) hl fun i h1 h2 => ?_
        exact O.trans _ _ _ (O.yes _ _ hz) (hu _ _ h1 h2)
      | false =>
        dsimp only; rw [if_neg Bool.false_ne_true]
        refine place_ok hp hc hu f ((l + r) / 2 + 1) r (by omega) hrc (by omega) (fun i h1 => ?_) hr
        exact O.trans _ _ _ (hu i ((l + r) / 2) (by omega) (by omega)) (O.no _ _ hz)
theorem bin_ok {N : Nat} : ∀ (f : Nat) (p : Array Nat) (c : Nat), PermN N p → 1 ≤ c → c + f = N → Up O k p c → askOk N (ltk O k) (kas_bin f p c) fun p' => PermN N p' ∧ Up O k p' N
  | 0, p, c, hp, _, hN, hu => ⟨hp, by rw [← hN]; exact hu⟩
  | f + 1, p, c, hp, h1, hN, hu => by
    refine askOk_bind _ (askOk_mono (fun l hl => ?_) _ (place_ok hp (show c < N by omega) hu c 0 c (Nat.zero_le _) (Nat.le_refl _) (by omega) (fun i h => by omega) (fun i h1 h2 => by omega)))
    obtain ⟨a1, a2, a3⟩ := hl
    refine bin_ok f _ (c + 1) (hp.bub _ _) (by omega) (by omega) fun i j hij hj => ?_
    rw [kat_bub hp (show c < N by omega) (by omega), kat_bub hp (show c < N by omega) (by omega)]
    have ec : c - (c - l) = l := by omega
    rw [ec]
    by_cases hi : i = l
    · rw [if_pos hi]
      by_cases hj' : j = l
      · rw [if_pos hj']; exact O.refl _
      · rw [if_neg hj', if_pos (by omega)]
        exact a3 _ (by omega) (by omega)
    · rw [if_neg hi]
      by_cases hj' : j = l
      · rw [if_pos hj', if_neg (by omega)]
        exact a2 _ (by omega)
      · rw [if_neg hj']
        by_cases hi2 : l < i ∧ i ≤ c
        · rw [if_pos hi2, if_pos (by omega)]
          exact hu _ _ (by omega) (by omega)
        · rw [if_neg hi2]
          by_cases hj2 : l < j ∧ j ≤ c
          · rw [if_pos hj2]
            exact hu _ _ (by omega) (by omega)
          · rw [if_neg hj2]
            exact hu _ _ (by omega) (by omega)
theorem sort_ok {N : Nat} (h1 : 1 ≤ N) : askOk N (ltk O k) (kas_sort N) fun p => PermN N p ∧ Up O k p N := by
  refine askOk_bind _ (askOk_mono (fun r hr => ?_) _ (count_ok (O := O) (k := k) (p := (List.range N).toArray) (Array.Perm.refl _) h1))
  obtain ⟨a1, a2, a3, a4⟩ := hr
  by_cases h : r.1 < N
  · rw [if_pos h]
    have e : max r.1 1 = r.1 := by omega
    rw [e]
    exact bin_ok _ _ _ a1 a2 (by omega) a4
  · rw [if_neg h]
    have e : r.1 = N := by omega
    rw [e] at a4
    exact ⟨a1, a4⟩
end
end L3
namespace L3
open PySem PySem.Spec PySem.W L2
open PyProof.Rows hiding St
theorem ask_wp {α : Type} {cmp : Nat → Nat → (Bool → Shared → Prop) → Shared → Prop} {N : Nat} {lt : Nat → Nat → Bool} {s : Shared} (hc : ∀ i j, i < N → j < N → ∀ C : Bool → Shared → Prop, C (lt i j) s → cmp i j C s) :
    ∀ (t : KasT α) (Q : α → Prop), askOk N lt t Q → t.kasWp cmp (fun a s' => s' = s ∧ Q a) s
  | .ret _, _, h => ⟨rfl, h⟩
  | .ask i j k, Q, h => hc i j h.1 h.2.1 _ (ask_wp hc (k _) Q h.2.2)
section
variable {prog : Program} {w : World} {A : Around} {E : Value → Shared → Prop} {s : Shared}
theorem lsort_any {κ : Type} {O : PreO κ} {k : Nat → κ} {a : Addr} {vs : List Value} {n : Nat} {P : PySem.Fin → Shared → Prop} (hob : s.heap.get? a = some (seqObj "list" vs.toArray n)) (h64 : vs.length < 64)
    (ask : 2 ≤ vs.length → ∀ g : Heap, (∀ b o, b ≠ a → s.heap.get? b = some o → g.get? b = some o) → wpAny (model prog w) A (keyKind' vs.toArray) (fun κs s' => s' = { s with heap := g } ∧
      ∀ i j, i < vs.length → j < vs.length → ∀ C : Bool → Shared → Prop, C (O.lt (k i) (k j)) s' → kas_ask prog w A κs vs i j C s') NoE { s with heap := g })
    (h : ∀ p : Array Nat, PermN vs.length p → Up O k p vs.length → P (.done (.ret .none)) { s with heap := sortedHeap s.heap a vs (p.toList.map fun i => vs.getD i Value.none).toArray }) :
    wpAny (model prog w) A (Builtin.«list.sort» ⟨[.ref a], []⟩) P E s := by
  rw [list_sort_plain]
  have la : a < s.heap.objs.size := Heap.lt_size hob
  have hvz : vs.toArray.size ≤ sizeLine := by rw [List.size_toArray, sizeLine_eq]; omega
  refine wpAny_bind (listItems_at hob rfl ?_)
  refine wpAny_bind (listUpdate_at hob rfl ?_ hvz (Nat.zero_le _))
  obtain ⟨ep, h1⟩ : ∃ ep, (s.heap.update a (Obj.mapSeq fun _ => #[])).get? a = some (seqObj "list" #[] ep) := ⟨_, get?_update_seq hob (fun _ => #[])⟩
  refine wpAny_bind (seqEpoch_at h1 rfl ?_)
  refine wpAny_bind (wpAny_newTuple ?_ (by show vs.length ≤ _; rw [sizeLine_eq]; omega))
  refine wpAny_bind (wpAny_newList ?_ (Nat.zero_le _))
  refine wpAny_holding ?_
  obtain ⟨g, hg⟩ : ∃ g : Heap, g = ((s.heap.update a (Obj.mapSeq fun _ => #[])).push (seqObj "tuple" vs.toArray 0)).push (seqObj "list" #[] 0) := ⟨_, rfl⟩
  have hga : g.get? a = some (seqObj "list" #[] ep) := by
    rw [hg]
    exact Heap.get?_push_of_some _ (Heap.get?_push_of_some _ h1)
  have hkeep : ∀ b o, b ≠ a → s.heap.get? b = some o → g.get? b = some o := fun b o hb e => by
    rw [hg]
    exact Heap.get?_push_of_some _ (Heap.get?_push_of_some _ ((Heap.get?_update_ne _ _ _ _ hb).trans e))
  have hfin : ∀ out : Array Value, sortedHeap s.heap a vs out = g.update a (Obj.mapSeq fun _ => out) := fun out => by rw [hg]; rfl
  show wpAny (model prog w) A _ P E { s with heap := ((s.heap.update a (Obj.mapSeq fun _ => #[])).push (seqObj "tuple" vs.toArray 0)).push (seqObj "list" #[] 0) }
  rw [← hg]
  dsimp only
  have hz : vs.toArray.size = vs.length := by simp
  by_cases h2 : vs.toArray.size < 2
  · rw [if_pos h2, if_pos h2]
    refine wpAny_bind (wpAny_pure ?_)
    rw [StateT.run_pure]
    refine wpAny_bind (wpAny_pure ?_)
    dsimp only
    refine wpAny_bind (seqEpoch_at hga rfl ?_)
    have e0 : (arrOf (SortSt.mk' general' (vs.toArray.zip vs.toArray) #[] 7 none)).map (·.2) = vs.toArray := by
      show (vs.toArray.zip vs.toArray).map (·.2) = vs.toArray
      apply Array.toList_inj.mp
      rw [Array.toList_map, Array.toList_zip]
      exact List.map_snd_zip (Nat.le_refl _)
    rw [e0]
    refine wpAny_bind (listUpdate_at hga rfl ?_ (Nat.zero_le _) (Nat.le_succ_of_le hvz))
    simp only [bne_self_eq_false, Bool.false_eq_true, if_false]
    refine wpAny_pure ?_
    have q := h (List.range vs.length).toArray (Array.Perm.refl _) (fun i j hij hj => by
      have : i = j := by omega
      subst this; exact O.refl _)
    have ev : ((List.range vs.length).toArray.toList.map fun i => vs.getD i Value.none) = vs := by
      refine List.ext_getElem (by simp) fun i h1 h2 => ?_
      have hi : i < vs.length := h2
      simp [hi]
    rw [ev, hfin] at q
    exact q
  · rw [if_neg h2, if_neg h2]
    have hge : 2 ≤ vs.length := by omega
    refine wpAny_bind (wpAny_mono (ask hge g hkeep) (fun κs s' hk => ?_) fun _ _ z => z.elim)
    obtain ⟨rfl, hk⟩ := hk
    have tree := ask_wp (s := { s with heap := g }) (fun i j hi hj C hC => hk i j hi hj C hC) (kas_sort vs.length) _ (sort_ok (O := O) (k := k) (N := vs.length) (by omega))
    refine wpAny_bind (wpAny_mono (kat_run (E := E) (Q := fun st s' => s' = { s with heap := g } ∧ ∃ p : Array Nat, (PermN vs.length p ∧ Up O k p vs.length) ∧ arrOf st = p.map (kas_item (vs.toArray.zip vs.toArray)) ∧ failedOf st = none) rfl hge h64
      (fun p st s' a1 a2 a3 a4 => ⟨a4.1, p, a4.2, a2, a3⟩) tree) ?_ fun _ _ e => e)
    rintro ⟨⟨⟩, st⟩ s' ⟨rfl, p, ⟨hp, hu⟩, har, hf⟩
    dsimp only
    refine wpAny_bind (seqEpoch_at hga rfl ?_)
    have e0 := kat_snds (vs := vs) rfl har
    rw [e0]
    refine wpAny_bind (listUpdate_at hga rfl ?_ (Nat.zero_le _) (by
      rw [List.size_toArray, List.length_map, Array.length_toList, hp.size, sizeLine_eq]; omega))
    rw [hf]
    simp only [bne_self_eq_false, Bool.false_eq_true, if_false]
    have q := h p hp hu
    rw [hfin] at q
    exact wpAny_pure q
theorem sorted_any {κ : Type} {O : PreO κ} {k : Nat → κ} {l : Addr} {vs : List Value} {Q : Value → Shared → Prop} (hl : s.heap.IsList l vs.toArray) (h64 : vs.length < 64)
    (ask : 2 ≤ vs.length → ∀ g : Heap, (∀ b o, s.heap.get? b = some o → g.get? b = some o) → wpAny (model prog w) A.in1.in1 (keyKind' vs.toArray) (fun κs s' => s' = { s with heap := g } ∧
      ∀ i j, i < vs.length → j < vs.length → ∀ C : Bool → Shared → Prop, C (O.lt (k i) (k j)) s' → kas_ask prog w A.in1.in1 κs vs i j C s') NoE { s with heap := g })
    (h : ∀ p : Array Nat, PermN vs.length p → Up O k p vs.length → Q (.ref (s.heap.objs.size + 1)) { s with heap := sortedAll s.heap vs (p.toList.map fun i => vs.getD i Value.none).toArray }) :
    wpAny (model prog w) A (call (.builtin "sorted") [.ref l]) Q E s := by
  have hlz : vs.length ≤ sizeLine := by rw [sizeLine_eq]; omega
  refine Calls.call_function_entry kind_sorted plain_sorted entry_sorted (args_sorted1 _) ?_
  unfold Builtin.«sorted»
  refine wpAny_bind (m := checkCount "sorted" 1 1 _) (wpAny_pure ?_)
  refine wpAny_bind (collect_list hl ?_ hlz)
  refine wpAny_bind (wpAny_newList ?_ hlz)
  obtain ⟨g0, hg0⟩ : ∃ g0 : Heap, g0 = (s.heap.push (seqObj "list" #[] 0)).update s.heap.objs.size (Obj.mapSeq (· ++ vs.toArray)) := ⟨_, rfl⟩
  have hz0 : g0.objs.size = s.heap.objs.size + 1 := by rw [hg0, Heap.size_update, size_push']
  have hold : ∀ b o, s.heap.get? b = some o → (g0.push (seqObj "list" vs.toArray 0)).get? b = some o := fun b o e => by
    have lt : b < s.heap.objs.size := Heap.lt_size e
    refine Heap.get?_push_of_some _ ?_
    rw [hg0, Heap.get?_update_ne _ _ _ _ (Nat.ne_of_lt lt)]
    exact Heap.get?_push_of_some _ e
  have hL : (g0.push (seqObj "list" vs.toArray 0)).get? (s.heap.objs.size + 1) = some (seqObj "list" vs.toArray 0) := by
    rw [← hz0]; exact Heap.get?_push_size _ rfl
  show wpAny _ _ _ _ _ { s with heap := ((s.heap.push (seqObj "list" #[] 0)).update s.heap.objs.size (Obj.mapSeq (· ++ vs.toArray))).push (seqObj "list" vs.toArray 0) }
  rw [← hg0, hz0]
  refine wpAny_bind (wpAny_holding (wpAny_call_entry slot_list_sort ⟨_, hL, rfl⟩ entry_list_sort (lsort_any (O := O) (k := k) (s := { s with heap := g0.push (seqObj "list" vs.toArray 0) }) hL h64 (fun hge g hk => ?_) fun p hp hu => ⟨_, rfl, ?_⟩) (args_list_sort _)))
  · exact ask hge g fun b o e => hk b o (Nat.ne_of_lt (Nat.lt_succ_of_lt (Heap.lt_size e))) (hold b o e)
  · have q := h p hp hu
    refine wpAny_pure ⟨_, rfl, ?_⟩
    have e : sortedAll s.heap vs (p.toList.map fun i => vs.getD i Value.none).toArray = sortedHeap (g0.push (seqObj "list" vs.toArray 0)) (s.heap.objs.size + 1) vs (p.toList.map fun i => vs.getD i Value.none).toArray := by rw [hg0]; rfl
    rw [e] at q
    exact q
end
end L3

namespace L3
open PySem PySem.Spec PySem.W L2
open PyProof.Rows hiding St
structure Deq {δ : Type} [DecidableEq δ] (n : Nat) (K : PySem.W.Frag) (R : Hp → V → δ → Prop) : Prop where
  eq : ∀ {X : Cx} {pins : List (Addr × Obj)} {σ : St} {H : Hp} {s : Shared} {x y : V} {v u : Value} {d e : δ} {A : Around}, X.K = K → Inv X pins σ H s → A.units + n < cLine → R H x d → R H y e → RelV x v → RelV y u → SeqAt.EqAt A s v u (decide (d = e))
  un : ∀ {X : Cx} {pins : List (Addr × Obj)} {σ : St} {H : Hp} {s : Shared} {x : V} {d e : δ}, X.K = K → Inv X pins σ H s → R H x d → R H x e → d = e
def rInt : Hp → V → Int → Prop := fun _ x d => x = .int d
def rLs {δ : Type} (K : PySem.W.Frag) (R : Hp → V → δ → Prop) : Hp → V → List δ → Prop := fun H x ds => ∃ a xs, x = .ref a ∧ SqL K H a xs ∧ Paired (R H) xs ds
def rTp {δ : Type} (K : PySem.W.Frag) (R : Hp → V → δ → Prop) : Hp → V → List δ → Prop := fun H x ds => ∃ a xs, x = .ref a ∧ SqT K H a xs ∧ Paired (R H) xs ds
theorem deq_int (n : Nat) (K : PySem.W.Frag) : Deq n K rInt where
  eq := fun {X pins σ H s x y v u d e A} _ _ _ hx hy rx ry => by
    have hx : x = .int d := hx
    have hy : y = .int e := hy
    subst hx hy
    obtain ⟨t, rfl⟩ := rx
    obtain ⟨t', rfl⟩ := ry
    rw [← Bool.beq_eq_decide_eq]
    exact SeqAt.EqAt.int_int d t e t'
  un := fun {X pins σ H s x d e} _ _ h1 h2 => by
    have h1 : x = .int d := h1
    have h2 : x = .int e := h2
    rw [h1] at h2
    exact V.int.inj h2
theorem paired_get {α β : Type} {F : α → β → Prop} : ∀ {xs : List α} {ds : List β}, Paired F xs ds → ∀ (j : Nat) (h1 : j < xs.length) (h2 : j < ds.length), F xs[j] ds[j]
  | _, _, .cons h _, 0, _, _ => h
  | _, _, .cons _ t, j + 1, h1, h2 => paired_get t j (Nat.lt_of_succ_lt_succ h1) (Nat.lt_of_succ_lt_succ h2)
theorem paired_un {α β : Type} {F : α → β → Prop} (un : ∀ x d e, F x d → F x e → d = e) : ∀ {xs : List α} {ds es : List β}, Paired F xs ds → Paired F xs es → ds = es
  | _, _, _, .nil, .nil => rfl
  | _, _, _, .cons h t, .cons h' t' => by rw [un _ _ _ h h', paired_un un t t']
theorem all_eq {δ : Type} [DecidableEq δ] {ds es : List δ} {n : Nat} (h1 : ds.length = n) (h2 : es.length = n) : ((List.range n).all fun j => decide (ds[j]? = es[j]?)) = decide (ds = es) := by
  rw [Bool.eq_iff_iff, List.all_eq_true, decide_eq_true_iff]
  constructor
  · intro h
    refine List.ext_getElem (h1.trans h2.symm) fun j q1 q2 => ?_
    have := of_decide_eq_true (h j (List.mem_range.mpr (by omega)))
    rw [List.getElem?_eq_getElem q1, List.getElem?_eq_getElem q2] at this
    exact Option.some.inj this
  · rintro rfl j _
    exact decide_eq_true rfl
section
variable {δ : Type} [DecidableEq δ] {n : Nat} {K : PySem.W.Frag} {R : Hp → V → δ → Prop}
theorem vals_ix {xs : List V} {its : List Value} (r : Vals xs its) {j : Nat} (h1 : j < xs.length) (h2 : j < its.toArray.size) : RelV xs[j] its.toArray[j] := by
  have h2' : j < its.length := by simpa using h2
  have := paired_get r j h1 h2'
  simpa using this
theorem eqs_at {X : Cx} {pins : List (Addr × Obj)} {σ : St} {H : Hp} {s : Shared} {xs ys : List V} {ds es : List δ} {i1 i2 : List Value} {A : Around} (D : Deq n K R) (hK : X.K = K) (I : Inv X pins σ H s) (hu : A.units + n < cLine)
    (p1 : Paired (R H) xs ds) (p2 : Paired (R H) ys es) (r1 : Vals xs i1) (r2 : Vals ys i2) : ∀ j (h1 : j < i1.toArray.size) (h2 : j < i2.toArray.size), SeqAt.EqAt A s i1.toArray[j] i2.toArray[j] (decide (ds[j]? = es[j]?)) := fun j h1 h2 => by
  have l1 : j < xs.length := by rw [r1.length]; simpa using h1
  have l2 : j < ys.length := by rw [r2.length]; simpa using h2
  have l3 : j < ds.length := by rw [← p1.length]; exact l1
  have l4 : j < es.length := by rw [← p2.length]; exact l2
  have q := D.eq hK I hu (paired_get p1 j l1 l3) (paired_get p2 j l2 l4) (vals_ix r1 l1 h1) (vals_ix r2 l2 h2)
  have e : decide (ds[j]? = es[j]?) = decide (ds[j] = es[j]) := by
    rw [List.getElem?_eq_getElem l3, List.getElem?_eq_getElem l4]
    exact decide_eq_decide.mpr ⟨fun h => Option.some.inj h, fun h => congrArg some h⟩
  rw [e]
  exact q
theorem rc_lists {X : Cx} {pins : List (Addr × Obj)} {σ : St} {H : Hp} {s : Shared} {a b : Addr} {ds es : List δ} {A : Around} (D : Deq n K R) (hK : X.K = K) (I : Inv X pins σ H s) (hu : A.units + (n + 1) < cLine) (h1 : rLs K R H (.ref a) ds) (h2 : rLs K R H (.ref b) es) :
    SeqAt.RcAt A s (.ref a) (.ref b) (decide (ds = es)) ∧ SeqAt.RcNeAt A s (.ref a) (.ref b) (!decide (ds = es)) := by
  obtain ⟨a', xs, e1, q1, p1⟩ := h1
  obtain ⟨b', ys, e2, q2, p2⟩ := h2
  cases e1
  cases e2
  subst hK
  obtain ⟨i1, r1, l1, z1⟩ := I.list q1
  obtain ⟨i2, r2, l2, z2⟩ := I.list q2
  have hu0 : A.units < cLine := by omega
  have hu1 : A.in1.units + n < cLine := by
    have e : A.in1.units = A.units + 1 := rfl
    rw [e]; omega
  by_cases hl : xs.length = ys.length
  · have hz : i1.toArray.size = i2.toArray.size := by simp [← r1.length, ← r2.length, hl]
    have ee := eqs_at (A := A.in1) D rfl I hu1 p1 p2 r1 r2
    have al : ((List.range i1.toArray.size).all fun j => decide (ds[j]? = es[j]?)) = decide (ds = es) := all_eq (by rw [← p1.length, r1.length]; simp) (by rw [← p2.length, ← hl, r1.length]; simp)
    have q := SeqAt.RcAt.lists (e := fun j => decide (ds[j]? = es[j]?)) l1.isList l2.isList hz hu0 ee
    have q' := SeqAt.RcNeAt.lists (e := fun j => decide (ds[j]? = es[j]?)) l1.isList l2.isList hz hu0 ee
    rw [al] at q q'
    exact ⟨q, q'⟩
  · have hz : (i1.toArray.size != i2.toArray.size) = true := by simp [← r1.length, ← r2.length, hl]
    have e : decide (ds = es) = false := decide_eq_false fun z => hl (by rw [p1.length, p2.length, z])
    rw [e]
    exact ⟨SeqAt.RcAt.lists_lengths l1.isList l2.isList hz hu0, SeqAt.RcNeAt.lists_lengths l1.isList l2.isList hz hu0⟩
theorem rc_tups {X : Cx} {pins : List (Addr × Obj)} {σ : St} {H : Hp} {s : Shared} {a b : Addr} {ds es : List δ} {A : Around} (D : Deq n K R) (hK : X.K = K) (I : Inv X pins σ H s) (hu : A.units + (n + 1) < cLine) (h1 : rTp K R H (.ref a) ds) (h2 : rTp K R H (.ref b) es) :
    SeqAt.RcAt A s (.ref a) (.ref b) (decide (ds = es)) ∧ SeqAt.RcNeAt A s (.ref a) (.ref b) (!decide (ds = es)) := by
  obtain ⟨a', xs, e1, q1, p1⟩ := h1
  obtain ⟨b', ys, e2, q2, p2⟩ := h2
  cases e1
  cases e2
  subst hK
  obtain ⟨i1, r1, l1, z1⟩ := I.tuple q1
  obtain ⟨i2, r2, l2, z2⟩ := I.tuple q2
  have hu0 : A.units < cLine := by omega
  have hu1 : A.in1.units + n < cLine := by
    have e : A.in1.units = A.units + 1 := rfl
    rw [e]; omega
  have ee := eqs_at (A := A.in1) D rfl I hu1 p1 p2 r1 r2
  have n1 : i1.toArray.size = ds.length := by simp [← r1.length, p1.length]
  have n2 : i2.toArray.size = es.length := by simp [← r2.length, p2.length]
  have al : ((List.range (min i1.toArray.size i2.toArray.size)).all (fun j => decide (ds[j]? = es[j]?)) && i1.toArray.size == i2.toArray.size) = decide (ds = es) := by
    rw [n1, n2]
    by_cases hl : ds.length = es.length
    · rw [hl, Nat.min_self, all_eq hl rfl]
      simp
    · have e : decide (ds = es) = false := decide_eq_false fun z => hl (by rw [z])
      rw [e]
      simp [hl]
  have q := SeqAt.RcAt.tuples (e := fun j => decide (ds[j]? = es[j]?)) l1 l2 hu0 ee
  have q' := SeqAt.RcNeAt.tuples (e := fun j => decide (ds[j]? = es[j]?)) l1 l2 hu0 ee
  rw [al] at q q'
  exact ⟨q, q'⟩
theorem deq_ls (D : Deq n K R) : Deq (n + 1) K (rLs K R) where
  un := fun {X pins σ H s x d e} hK I h1 h2 => by
    obtain ⟨a, xs, e1, q1, p1⟩ := h1
    obtain ⟨b, ys, e2, q2, p2⟩ := h2
    rw [e1] at e2
    cases e2
    subst hK
    rw [I.list_inj q1 q2] at p1
    exact paired_un (F := R H) (fun x d e h h' => D.un rfl I h h') p1 p2
  eq := fun {X pins σ H s x y v u d e A} hK I hu h1 h2 rx ry => by
    obtain ⟨a, xs, rfl, q1, p1⟩ := id h1
    obtain ⟨b, ys, rfl, q2, p2⟩ := id h2
    cases rx
    cases ry
    by_cases hab : a = b
    · subst hab
      subst hK
      rw [I.list_inj q1 q2] at p1
      have ed : d = e := paired_un (F := R H) (fun x d e h h' => D.un rfl I h h') p1 p2
      rw [decide_eq_true ed]
      exact SeqAt.EqAt.same _
    · exact SeqAt.EqAt.of_refs hab (rc_lists D hK I hu h1 h2).1
theorem deq_tp (D : Deq n K R) : Deq (n + 1) K (rTp K R) where
  un := fun {X pins σ H s x d e} hK I h1 h2 => by
    obtain ⟨a, xs, e1, q1, p1⟩ := h1
    obtain ⟨b, ys, e2, q2, p2⟩ := h2
    rw [e1] at e2
    cases e2
    subst hK
    rw [I.tuple_inj q1 q2] at p1
    exact paired_un (F := R H) (fun x d e h h' => D.un rfl I h h') p1 p2
  eq := fun {X pins σ H s x y v u d e A} hK I hu h1 h2 rx ry => by
    obtain ⟨a, xs, rfl, q1, p1⟩ := id h1
    obtain ⟨b, ys, rfl, q2, p2⟩ := id h2
    cases rx
    cases ry
    by_cases hab : a = b
    · subst hab
      subst hK
      rw [I.tuple_inj q1 q2] at p1
      have ed : d = e := paired_un (F := R H) (fun x d e h h' => D.un rfl I h h') p1 p2
      rw [decide_eq_true ed]
      exact SeqAt.EqAt.same _
    · exact SeqAt.EqAt.of_refs hab (rc_tups D hK I hu h1 h2).1
end
section
variable {δ : Type} [DecidableEq δ] {n : Nat} {X : Cx} {R : Hp → V → δ → Prop}
theorem op_eqL (D : Deq n X.K R) (hu : X.A.units + (n + 1) < cLine) : OpR X (compareOp .Eq) (fun x y H Q => ∃ ds es, rLs X.K R H x ds ∧ rLs X.K R H y es ∧ Q (.bl (decide (ds = es))) H) := by
  intro pins s σ H x y v u Q I rx ry h
  obtain ⟨ds, es, h1, h2, q⟩ := h
  obtain ⟨a, _, rfl, _⟩ := id h1
  obtain ⟨b, _, rfl, _⟩ := id h2
  cases rx
  cases ry
  exact (rc_lists D rfl I hu h1 h2).1 _ _ _ _ ⟨.bl _, H, I, rfl, q⟩
theorem op_neL (D : Deq n X.K R) (hu : X.A.units + (n + 1) < cLine) : OpR X (compareOp .NotEq) (fun x y H Q => ∃ ds es, rLs X.K R H x ds ∧ rLs X.K R H y es ∧ Q (.bl (!decide (ds = es))) H) := by
  intro pins s σ H x y v u Q I rx ry h
  obtain ⟨ds, es, h1, h2, q⟩ := h
  obtain ⟨a, _, rfl, _⟩ := id h1
  obtain ⟨b, _, rfl, _⟩ := id h2
  cases rx
  cases ry
  exact (rc_lists D rfl I hu h1 h2).2 _ _ _ _ ⟨.bl _, H, I, rfl, q⟩
theorem op_eqT (D : Deq n X.K R) (hu : X.A.units + (n + 1) < cLine) : OpR X (compareOp .Eq) (fun x y H Q => ∃ ds es, rTp X.K R H x ds ∧ rTp X.K R H y es ∧ Q (.bl (decide (ds = es))) H) := by
  intro pins s σ H x y v u Q I rx ry h
  obtain ⟨ds, es, h1, h2, q⟩ := h
  obtain ⟨a, _, rfl, _⟩ := id h1
  obtain ⟨b, _, rfl, _⟩ := id h2
  cases rx
  cases ry
  exact (rc_tups D rfl I hu h1 h2).1 _ _ _ _ ⟨.bl _, H, I, rfl, q⟩
theorem op_neT (D : Deq n X.K R) (hu : X.A.units + (n + 1) < cLine) : OpR X (compareOp .NotEq) (fun x y H Q => ∃ ds es, rTp X.K R H x ds ∧ rTp X.K R H y es ∧ Q (.bl (!decide (ds = es))) H) := by
  intro pins s σ H x y v u Q I rx ry h
  obtain ⟨ds, es, h1, h2, q⟩ := h
  obtain ⟨a, _, rfl, _⟩ := id h1
  obtain ⟨b, _, rfl, _⟩ := id h2
  cases rx
  cases ry
  exact (rc_tups D rfl I hu h1 h2).2 _ _ _ _ ⟨.bl _, H, I, rfl, q⟩
theorem call_isi : CallR X (.builtin "isinstance") (fun xs H Q => ∃ x T t b, xs = [x, .ty T] ∧ TyOf X.K H x t ∧ PySem.W.kitOne X.K t (.type T) = some b ∧ Q (.bl b) H) := by
  intro pins s σ H xs us Q I r h
  obtain ⟨x, T, t, b, rfl, ty, e, q⟩ := h
  obtain ⟨u, w', rfl, rx, rt⟩ := vals2 r
  obtain rfl : w' = Value.type T := rt
  exact isinst_ok I rx ty e fun tk => ⟨.bl b, H, I.tok tk, rfl, q⟩
theorem call_sortI : CallR X (.builtin "sorted") (fun xs H Q => ∃ (l : Addr) (ns : List Int), xs = [.ref l] ∧ SqL X.K H l (ns.map V.int) ∧ ns.length < 64 ∧ ∀ (p : Addr) (ms : List Int), H p = none → ms.Perm ns → ms.Pairwise (· ≤ ·) → Q (.ref p) (upd H p (.lst (ms.map V.int)))) := by
  intro pins s σ H xs us Q I r h
  obtain ⟨l, ns, rfl, hq, hl, q⟩ := h
  obtain ⟨u, rfl, ru⟩ := vals1 r
  cases ru
  obtain ⟨its, rv, pl, hz⟩ := I.list hq
  have hlen : its.length = ns.length := by rw [← rv.length, List.length_map]
  refine sorted_ints pl.isList (intsAre_of rv) (by omega) fun out ms hi hp hs => ?_
  obtain ⟨ep, hat⟩ := sortedAll_at s.heap its out
  refine ⟨.ref _, _, I.laid (t' := s.toks) (o := .lst (ms.map V.int)) (fun b o e => sortedAll_old e) (Nat.le_succ _) ?_, rfl, q _ ms (I.hok.fresh (Nat.le_succ _)) hp hs⟩
  refine ⟨by rw [List.length_map, hp.length_eq, sizeLine_eq]; omega, out.toList, ep, vals_ints hi, ?_⟩
  rw [Array.toArray_toList]
  exact hat
end
end L3

namespace L3
open PySem PySem.Spec PySem.W L2
open PyProof.Rows hiding St
def pairAt (H : Hp) (x : V) (p : Int × Int) : Prop := ∃ a, x = .ref a ∧ H a = some (.tup [.int p.1, .int p.2])
def LP (K : PySem.W.Frag) (H : Hp) (l : Addr) (ps : List (Int × Int)) : Prop := ∃ xs, SqL K H l xs ∧ Paired (pairAt H) xs ps
theorem LP.mono {K : PySem.W.Frag} {H H' : Hp} {l : Addr} {ps : List (Int × Int)} (h : LP K H l ps) (e : Same H H') : LP K H' l ps := by
  obtain ⟨xs, h1, h2⟩ := h
  exact ⟨xs, e.seq h1, Paired.imp' (fun x p ⟨a, e1, e2⟩ => ⟨a, e1, e a _ e2⟩) h2⟩
def ordP : PreO (Int × Int) where
  lt a b := decide (a.1 < b.1 ∨ (a.1 = b.1 ∧ a.2 < b.2))
  le := M.leP
  refl := M.leP_refl
  trans _ _ _ := M.leP_trans
  yes a b h := by
    have := of_decide_eq_true h
    unfold M.leP; omega
  no a b h := by
    have := of_decide_eq_false h
    unfold M.leP; omega
theorem paired_at {α β : Type} {F : α → β → Prop} {xs : List α} {ds : List β} (h : Paired F xs ds) (a : α) (b : β) : ∀ (ix : List Nat), (∀ i ∈ ix, i < xs.length) → Paired F (ix.map fun i => xs.getD i a) (ix.map fun i => ds.getD i b)
  | [], _ => .nil
  | i :: r, hi => by
    have h1 : i < xs.length := hi i List.mem_cons_self
    have h2 : i < ds.length := by rw [← h.length]; exact h1
    refine .cons ?_ (paired_at h a b r fun j hj => hi j (List.mem_cons_of_mem _ hj))
    have e1 : xs.getD i a = xs[i] := by simp [h1]
    have e2 : ds.getD i b = ds[i] := by simp [h2]
    show F (xs.getD i a) (ds.getD i b)
    rw [e1, e2]
    exact paired_get h i h1 h2
theorem range_getD {α : Type} (l : List α) (d : α) : (List.range l.length).map (fun i => l.getD i d) = l := by
  refine List.ext_getElem (by simp) fun i h1 h2 => ?_
  simp [h2]
theorem perm_at {α : Type} {l : List α} {d : α} {p : Array Nat} (hp : PermN l.length p) : (p.toList.map fun i => l.getD i d).Perm l := by
  have h1 : p.toList.Perm (List.range l.length) := by
    have := Array.perm_iff_toList_perm.mp hp
    simpa using this
  have h2 := h1.map (fun i => l.getD i d)
  rw [range_getD] at h2
  exact h2
theorem pw_at {κ : Type} {O : PreO κ} {l : List κ} {d : κ} {p : Array Nat} (hp : PermN l.length p) (hu : Up O (fun i => l.getD i d) p l.length) : (p.toList.map fun i => l.getD i d).Pairwise O.le := by
  rw [List.pairwise_iff_getElem]
  intro i j h1 h2 hij
  have hz := hp.size
  have h1' : i < p.size := by simpa using h1
  have h2' : j < p.size := by simpa using h2
  have q := hu i j (Nat.le_of_lt hij) (by omega)
  unfold kat at q
  have e1 : p.getD i 0 = p[i] := by simp [Array.getD, h1']
  have e2 : p.getD j 0 = p[j] := by simp [Array.getD, h2']
  rw [e1, e2] at q
  simpa using q
section
variable {X : Cx} {pins : List (Addr × Obj)} {σ : St} {H : Hp} {s : Shared}
theorem pair_obj (I : Inv X pins σ H s) {x : V} {v : Value} {p : Int × Int} (h : pairAt H x p) (r : RelV x v) : ∃ a o n t u, v = .ref a ∧ s.heap.get? a = some o ∧ o.cls = .type "tuple" ∧ o.data = .seq #[.int p.1 t, .int p.2 u] n := by
  obtain ⟨a, rfl, e⟩ := h
  cases r
  obtain ⟨_, its, rv, o, ho, hc, n, hd⟩ := (show ObjOk X.prog X.w H s.heap a (.tup [.int p.1, .int p.2]) from I.hok a _ e)
  obtain ⟨u1, u2, rfl, ⟨t, rfl⟩, ⟨t', rfl⟩⟩ := vals2 rv
  exact ⟨a, o, n, t, t', rfl, ho, hc, hd⟩
theorem pairs_tups (I : Inv X pins σ H s) {g : Heap} (hk : ∀ b o, s.heap.get? b = some o → g.get? b = some o) : ∀ {xs : List V} {vs : List Value} {ps : List (Int × Int)}, Vals xs vs → Paired (pairAt H) xs ps →
    ∃ fs : List Value, KatTups g vs fs ∧ fs.length = vs.length ∧ ∀ f ∈ fs, ∃ i t, f = Value.int i t
  | _, _, _, .nil, .nil => ⟨[], KatTups.nil, rfl, (fun _ h => nomatch h)⟩
  | _, _, _, .cons r rr, .cons h hh => by
    obtain ⟨a, o, n, t, u, rfl, ho, hc, hd⟩ := pair_obj I h r
    obtain ⟨fs, h1, h2, h3⟩ := pairs_tups I hk rr hh
    refine ⟨_, KatTups.cons (f := .int _ t) (hk _ _ ho) hc hd rfl h1, by simp [h2], fun f hf => ?_⟩
    rcases List.mem_cons.mp hf with rfl | hf
    · exact ⟨_, _, rfl⟩
    · exact h3 f hf
theorem call_sortP : CallR X (.builtin "sorted") (fun xs H Q => ∃ (l : Addr) (ps : List (Int × Int)), xs = [.ref l] ∧ LP X.K H l ps ∧ ps.length < 64 ∧ ∀ (p : Addr) (ys : List V), H p = none → Paired (pairAt (upd H p (.lst ys))) ys (M.sortP ps) → Q (.ref p) (upd H p (.lst ys))) := by
  intro pins s σ H xs us Q I r h
  obtain ⟨l, ps, rfl, ⟨xs, hq, hp⟩, hl, q⟩ := h
  obtain ⟨u, rfl, ru⟩ := vals1 r
  cases ru
  obtain ⟨its, rv, pl, hz⟩ := I.list hq
  have n1 : xs.length = ps.length := hp.length
  have n2 : its.length = ps.length := by rw [← rv.length]; exact n1
  refine sorted_any (O := ordP) (k := fun i => ps.getD i (0, 0)) pl.isList (by omega) (fun hge g hk => ?_) fun p hpm hup => ?_
  · obtain ⟨fs, t1, t2, t3⟩ := pairs_tups I hk rv hp
    refine kat_kind (T := .type "int") t1 (by omega) (fun f hf => ?_) rfl ?_
    · obtain ⟨i, t, rfl⟩ := t3 f hf
      exact Looks.now
    · refine ⟨rfl, fun i j hi hj C hC => ?_⟩
      have gi : i < xs.length := by omega
      have gj : j < xs.length := by omega
      have ri := paired_get rv i gi hi
      have rj := paired_get rv j gj hj
      have pi' := paired_get hp i gi (by omega)
      have pj' := paired_get hp j gj (by omega)
      obtain ⟨a, oa, na, ta, ua, ea, ha, _, da⟩ := pair_obj I pi' ri
      obtain ⟨b, ob, nb, tb, ub, eb, hb, _, db⟩ := pair_obj I pj' rj
      have e1 : its.getD i Value.none = .ref a := by rw [← ea]; simp [hi]
      have e2 : its.getD j Value.none = .ref b := by rw [← eb]; simp [hj]
      have k1 : ps.getD i (0, 0) = ps[i] := by simp [show i < ps.length by omega]
      have k2 : ps.getD j (0, 0) = ps[j] := by simp [show j < ps.length by omega]
      unfold kas_ask
      rw [e1, e2]
      rw [k1, k2] at hC
      refine kat_lt (s := { s with heap := g }) (hk _ _ ha) da (hk _ _ hb) db ?_
      refine kat_cons (wpAny_eqBool_int ?_)
      by_cases c1 : ps[i].1 = ps[j].1
      · have b1 : (ps[i].1 == ps[j].1) = true := by rw [c1]; exact beq_self_eq_true _
        rw [b1]
        refine kat_yes (kat_cons (wpAny_eqBool_int ?_))
        by_cases c2 : ps[i].2 = ps[j].2
        · have b2 : (ps[i].2 == ps[j].2) = true := by rw [c2]; exact beq_self_eq_true _
          rw [b2]
          refine kat_yes (kat_nil ?_)
          have : ordP.lt ps[i] ps[j] = decide ((#[Value.int ps[i].1 ta, Value.int ps[i].2 ua] : Array Value).size < (#[Value.int ps[j].1 tb, Value.int ps[j].2 ub] : Array Value).size) := by
            show decide (_ ∨ _) = decide (2 < 2)
            exact decide_eq_decide.mpr ⟨fun h => by omega, fun h => absurd h (by omega)⟩
          rw [this] at hC
          exact hC
        · have b2 : (ps[i].2 == ps[j].2) = false := beq_eq_false_iff_ne.mpr c2
          rw [b2]
          refine kat_no (kat_one _ _ (lt_int ?_))
          have : ordP.lt ps[i] ps[j] = decide (ps[i].2 < ps[j].2) := decide_eq_decide.mpr ⟨fun h => by omega, fun h => .inr ⟨c1, h⟩⟩
          rw [this] at hC
          exact hC
      · have b1 : (ps[i].1 == ps[j].1) = false := beq_eq_false_iff_ne.mpr c1
        rw [b1]
        refine kat_no (oneLt_int ?_)
        have : ordP.lt ps[i] ps[j] = decide (ps[i].1 < ps[j].1) := decide_eq_decide.mpr ⟨fun h => by omega, fun h => .inl h⟩
        rw [this] at hC
        exact hC
  · rw [n2] at hpm hup
    obtain ⟨ep, hat⟩ := sortedAll_at s.heap its (p.toList.map fun i => its.getD i Value.none).toArray
    have ixs : ∀ i ∈ p.toList, i < xs.length := fun i hi => by
      have h1 : p.toList.Perm (List.range ps.length) := by
        have := Array.perm_iff_toList_perm.mp hpm
        simpa using this
      have := List.mem_range.mp (h1.mem_iff.mp hi)
      omega
    have np : H (s.heap.objs.size + 1) = none := I.hok.fresh (Nat.le_succ _)
    have sm : Same H (upd H (s.heap.objs.size + 1) (.lst (p.toList.map fun i => xs.getD i .non))) := fun b o e => by rw [upd_ne (ne_of_none e np)]; exact e
    have es : (p.toList.map fun i => ps.getD i (0, 0)) = M.sortP ps := M.sortP_uniq (perm_at hpm) (pw_at hpm hup)
    refine ⟨.ref _, _, I.laid (t' := s.toks) (o := .lst (p.toList.map fun i => xs.getD i .non)) (fun b o e => sortedAll_old e) (Nat.le_succ _) ?_, rfl, q _ _ np ?_⟩
    · refine ⟨?_, _, ep, paired_at rv .non Value.none p.toList ixs, hat⟩
      rw [List.length_map, Array.length_toList, hpm.size, sizeLine_eq]
      omega
    · rw [← es]
      exact Paired.imp' (fun x p ⟨a, e1, e2⟩ => ⟨a, e1, sm a _ e2⟩) (paired_at hp .non (0, 0) p.toList ixs)
end
end L3

namespace L3
open PySem PySem.Spec PySem.W L2
open PyProof.Rows hiding St
theorem iteDF {c A B : Prop} [Decidable c] (hc : ¬ c) (h : B) : if decide c = true then A else B := by rw [decide_eq_false hc]; exact iteF h
theorem iteDT {c A B : Prop} [Decidable c] (hc : c) (h : A) : if decide c = true then A else B := by rw [decide_eq_true hc]; exact iteT h
theorem iteNF {c A B : Prop} [Decidable c] (hc : ¬ c) (h : A) : if (!decide c) = true then A else B := by rw [decide_eq_false hc]; exact iteT h
theorem iteBF {b : Bool} {A B : Prop} (hb : b = false) (h : B) : if b = true then A else B := by rw [hb]; exact iteF h
theorem iteBT {b : Bool} {A B : Prop} (hb : b = true) (h : A) : if b = true then A else B := by rw [hb]; exact iteT h
theorem inV_ints (t : Int) (ms : List Int) : inV (.int t) (ms.map V.int) = decide (t ∈ ms) := by
  unfold inV
  rw [List.any_map, Bool.eq_iff_iff, List.any_eq_true, decide_eq_true_iff]
  constructor
  · rintro ⟨y, hy, e⟩
    have : (y == t) = true := e
    rw [eq_of_beq this] at hy
    exact hy
  · intro h
    exact ⟨t, h, beq_self_eq_true t⟩
theorem flat_ints (ms : List Int) : (ms.map V.int).all flatV = true := by
  rw [List.all_map, List.all_eq_true]
  intro x _
  rfl
theorem ints_get {ms : List Int} {i : Nat} {y : V} (h : (ms.map V.int)[i]? = some y) : ∃ t, ms[i]? = some t ∧ y = .int t := by
  rw [List.getElem?_map] at h
  cases e : ms[i]? with
  | none => rw [e] at h; cases h
  | some t => rw [e] at h; exact ⟨t, rfl, (Option.some.inj h).symm⟩
theorem Same.upd {H H' : Hp} {q : Addr} {o : HO} (e : Same H H') (n : H q = none) : Same H (L2.upd H' q o) := fun b u h => by
  rw [upd_ne (ne_of_none h n)]; exact e b u h
theorem Same.new {H : Hp} {q : Addr} {o : HO} (n : H q = none) : Same H (L2.upd H q o) := Same.upd (Same.refl H) n
theorem pairAt_same {H H' : Hp} (e : Same H H') {xs : List V} {ps : List (Int × Int)} (h : Paired (pairAt H) xs ps) : Paired (pairAt H') xs ps := Paired.imp' (fun x p ⟨a, e1, e2⟩ => ⟨a, e1, e a _ e2⟩) h
theorem pairAt_upd {H : Hp} {q : Addr} {o u : HO} (hq : H q = some u) (hu : ∀ ys, u ≠ .tup ys) {xs : List V} {ps : List (Int × Int)} (h : Paired (pairAt H) xs ps) : Paired (pairAt (L2.upd H q o)) xs ps :=
  Paired.imp' (fun x p ⟨a, e1, e2⟩ => ⟨a, e1, by rw [upd_ne (ne_of e2 hq (fun z => hu _ z.symm))]; exact e2⟩) h
theorem paired_snoc {α β : Type} {F : α → β → Prop} {xs : List α} {ds : List β} {a : α} {b : β} (h : Paired F xs ds) (hab : F a b) : Paired F (xs ++ [a]) (ds ++ [b]) := Paired.snoc h hab
def dHas (H : Hp) (d : Addr) (S : List Int) : Prop := ∃ kvs : List (Key × V), H d = some (.dK kvs) ∧ kvs.length ≤ S.length ∧ ∀ k : Int, (valV kvs (Sum.inl k : Key)).isSome = decide (k ∈ S)
theorem dHas.nil {H : Hp} {d : Addr} (h : H d = some (.dK [])) : dHas H d [] := ⟨[], h, Nat.le_refl _, fun k => by simp [valV]⟩
theorem dHas.same {H H' : Hp} {d : Addr} {S : List Int} (h : dHas H d S) (e : Same H H') : dHas H' d S := by
  obtain ⟨kvs, h1, h2, h3⟩ := h
  exact ⟨kvs, e _ _ h1, h2, h3⟩
theorem dHas.ne {H : Hp} {d q : Addr} {S : List Int} {o u : HO} (h : dHas H d S) (hq : H q = some u) (hu : ∀ kvs, u ≠ .dK kvs) : dHas (L2.upd H q o) d S := by
  obtain ⟨kvs, h1, h2, h3⟩ := h
  exact ⟨kvs, by rw [upd_ne (ne_of h1 hq (fun z => hu _ z.symm))]; exact h1, h2, h3⟩
theorem dHas.ne' {H : Hp} {d q : Addr} {S : List Int} {o : HO} (h : dHas H d S) (hq : d ≠ q) : dHas (L2.upd H q o) d S := by
  obtain ⟨kvs, h1, h2, h3⟩ := h
  exact ⟨kvs, by rw [upd_ne hq]; exact h1, h2, h3⟩
theorem dHas.put {H : Hp} {d : Addr} {S : List Int} (h : dHas H d S) (k : Int) (v : V) (hl : S.length < 1000) : ∃ H', DPut H d (.int k) v H' ∧ dHas H' d (S ++ [k]) ∧ (∃ kvs, H' = L2.upd H d (.dK kvs)) := by
  obtain ⟨kvs, h1, h2, h3⟩ := h
  refine ⟨_, DPut.k (k := Sum.inl k) h1 (small1000 (by omega)), ⟨_, upd_same, ?_, fun j => ?_⟩, _, rfl⟩
  · have := length_putK kvs (Sum.inl k : Key) v
    rw [List.length_append, List.length_singleton]
    omega
  · rw [valV_put]
    by_cases e : j = k
    · subst e
      rw [if_pos rfl]
      simp
    · rw [if_neg fun z => e (Sum.inl.inj z), h3 j]
      refine decide_eq_decide.mpr ?_
      rw [List.mem_append, List.mem_singleton]
      exact ⟨.inl, fun z => z.resolve_right e⟩
theorem dHas.get {H : Hp} {d : Addr} {S : List Int} (h : dHas H d S) (k : Int) : ∃ o, DGet H d (.int k) o ∧ o.isSome = decide (k ∈ S) := by
  obtain ⟨kvs, h1, h2, h3⟩ := h
  exact ⟨_, DGet.k (k := Sum.inl k) h1, h3 k⟩
structure Walk (J : It) (H1 : Hp) (vs : List V) : Prop where
  go : ∀ i H, Same H1 H → i < vs.length → J.go i H
  yld : ∀ i H x H', J.yld i H x H' → Same H1 H → i < vs.length → H' = H ∧ vs[i]? = some x
  stop : ∀ i H, Same H1 H → vs.length ≤ i → J.stop i H
theorem walk_rng (n : Nat) (H1 : Hp) : Walk (Itr 0 n) H1 ((M.ir n).map V.int) where
  go := fun i H _ h => by
    rw [List.length_map, M.ir_len] at h
    exact h
  yld := fun i H x H' h _ hi => by
    rw [List.length_map, M.ir_len] at hi
    obtain ⟨h1, h2⟩ := h
    refine ⟨h1, ?_⟩
    rw [List.getElem?_map, M.ir_get hi, h2, Int.zero_add]
    rfl
  stop := fun i H _ h => by
    rw [List.length_map, M.ir_len] at h
    exact h
theorem walk_list {K : PySem.W.Frag} {a : Addr} {H1 : Hp} {vs : List V} (h : SqL K H1 a vs) : Walk (Itl K a) H1 vs where
  go := fun i H e hi => ⟨vs, vs[i], Same.seq e h, List.getElem?_eq_getElem hi⟩
  yld := fun i H x H' q e hi => ⟨q.1, q.2 vs (Same.seq e h)⟩
  stop := fun i H e hi => ⟨vs, Same.seq e h, hi⟩
theorem comp_pure {own : List Str} {js : List Nat} {g : TG} {tc : TT} {te : TE} {σ : St} {H1 : Hp} {J : It} {vs : List V} {Q : VK} (W : Walk J H1 vs) (hz : vs.length ≤ sizeLine) (p : V → Bool) (f : V → V)
    (step : ∀ x H', x ∈ vs → Same H1 H' → ∀ (R : VK) (N : Hp → Prop), (p x = true → R (f x) H') → (p x = false → N H') → g x (inSt own σ js) H' fun σ2 H2 => Sub (inSt own σ js) σ2 ∧ tc σ2 H2 fun k H3 => if k = true then te σ2 H3 R else N H3)
    (fin : ∀ D, H1 D = none → Q (.ref D) (L2.upd H1 D (.lst ((vs.filter p).map f)))) :
    CompTo own js g tc te σ J H1 Q := by
  intro D hD
  refine ⟨fun i m H ys => H = L2.upd H1 D (.lst ys) ∧ ys = ((vs.take i).filter p).map f ∧ m = vs.length - i ∧ i ≤ vs.length, ⟨vs.length, rfl, by simp, by simp, Nat.zero_le _⟩, ?_⟩
  rintro i m H ys ⟨rfl, eys, rfl, hi⟩
  have sm : Same H1 (L2.upd H1 D (.lst ys)) := Same.new hD
  refine ⟨upd_same, ?_⟩
  by_cases hlt : i < vs.length
  · refine .inr ⟨W.go i _ sm hlt, ?_, fun x H' hy => ?_⟩
    · have h1 : ys.length ≤ i := by
        rw [eys, List.length_map]
        refine Nat.le_trans (List.length_filter_le _ _) ?_
        rw [List.length_take]
        omega
      omega
    · obtain ⟨rfl, hx⟩ := W.yld i _ x H' hy sm hlt
      have ef := take_succ_filter p vs i x hx
      refine step x _ (List.mem_of_getElem? hx) sm _ _ (fun hp => ⟨upd_same, vs.length - (i + 1), by omega, ?_, ?_, rfl, hlt⟩) fun hp => ⟨vs.length - (i + 1), by omega, rfl, ?_, rfl, hlt⟩
      · rw [upd_upd]
      · rw [ef, hp, eys]
        simp
      · rw [ef, hp, eys]
        simp
  · have e : i = vs.length := by omega
    subst e
    refine .inl ⟨W.stop _ _ sm (Nat.le_refl _), ?_⟩
    rw [List.take_length] at eys
    rw [eys]
    exact fin D hD
theorem sub_own {x : Str} {js : List Nat} {σ : St} {v : V} : Sub (inSt [x] σ js) ((inSt [x] σ js).set 0 (some v)) := fun j u h => by
  cases j with
  | zero => cases h
  | succ j => exact h
end L3

namespace L3
open PySem PySem.Spec PySem.W L2
open PyProof.Rows hiding St
theorem pints (H : Hp) : ∀ zs : List Int, Paired (rInt H) (zs.map V.int) zs
  | [] => .nil
  | _ :: zs => .cons rfl (pints H zs)
def onInt (p : Int → Bool) : V → Bool
  | .int k => p k
  | _ => false
theorem filt_int (p : Int → Bool) (l : List Int) : (((l.map V.int).filter (onInt p)).map fun v => v) = (l.filter p).map V.int := by
  rw [List.map_id', List.filter_map]
  rfl
theorem comp_int {x : Str} {js : List Nat} {tc : TT} {σ : St} {H1 : Hp} {J : It} {l : List Int} {Q : VK} (W : Walk J H1 (l.map V.int)) (hz : l.length ≤ 1000) (p : Int → Bool)
    (step : ∀ k H', k ∈ l → Same H1 H' → ∀ R : Bool → Hp → Prop, R (p k) H' → tc (some (.int k) :: caps σ js) H' R)
    (fin : ∀ D, H1 D = none → Q (.ref D) (L2.upd H1 D (.lst ((l.filter p).map V.int)))) : CompTo [x] js (gName 0) tc (tVar 0) σ J H1 Q := by
  refine comp_pure W (by rw [List.length_map]; exact Nat.le_of_lt (small1000 hz)) (onInt p) (fun v => v) (fun y H' hy sm R N hR hN => ?_) fun D hD => by rw [filt_int]; exact fin D hD
  obtain ⟨k, hk, rfl⟩ := List.mem_map.mp hy
  refine ⟨sub_own, step k H' hk sm _ ?_⟩
  cases e : p k with
  | true => exact iteT ⟨_, rfl, hR e⟩
  | false => exact iteF (hN e)
theorem pair_ix {H : Hp} {xs : List V} {ps : List (Int × Int)} (h : Paired (pairAt H) xs ps) {i : Nat} {y : V} (hi : xs[i]? = some y) : ∃ p a, ps[i]? = some p ∧ y = .ref a ∧ H a = some (.tup [.int p.1, .int p.2]) := by
  obtain ⟨h1, rfl⟩ := List.getElem?_eq_some_iff.mp hi
  have h2 : i < ps.length := by rw [← h.length]; exact h1
  obtain ⟨a, e1, e2⟩ := paired_get h i h1 h2
  exact ⟨ps[i], a, List.getElem?_eq_getElem h2, e1, e2⟩
theorem upd_self {H : Hp} {a : Addr} {o : HO} (h : H a = some o) : L2.upd H a o = H := by
  funext b
  unfold L2.upd
  split
  · rename_i e
    rw [e, h]
  · rfl
theorem take_snoc {α : Type} {l : List α} {i : Nat} {x : α} (h : l[i]? = some x) : l.take (i + 1) = l.take i ++ [x] := by
  obtain ⟨h1, rfl⟩ := List.getElem?_eq_some_iff.mp h
  exact List.take_succ_eq_append_getElem h1
end L3

namespace L3
open PySem PySem.Spec PySem.W L2
open PyProof.Rows hiding St
def tJoin (t : TS) : TS := fun D σ H => ∃ J : St → Hp → Prop, t { D with nx := J } σ H ∧ ∀ σ' H', J σ' H' → D.nx σ' H'
theorem ps_join {X : Cx} {st : Stmt} {t : TS} (h : PS X st t) : PS X st (tJoin t) := by
  intro pins s σ H D I ht
  obtain ⟨J, ht, hJ⟩ := ht
  refine thn (h pins s σ H _ I ht) fun f s' q => ?_
  cases f with
  | next =>
    obtain ⟨σ', H', I', q⟩ := q
    exact ⟨σ', H', I', hJ σ' H' q⟩
  | cont => exact q
  | brk => exact q
  | ret u => exact q
theorem neV (k v : Int) : (!decide (V.int k = V.int v)) = decide (k ≠ v) := by
  rw [dec_int, Bool.beq_eq_decide_eq, ← decide_not]
theorem sameR {H H' : Hp} {b : Addr} {o : HO} (e : Same H H') (h : H b = some o) : H' b = some o := e b o h
end L3

namespace L3
open PySem PySem.Spec PySem.W L2
open PyProof.Rows hiding St
def del (H : Hp) (D : Addr) : Hp := fun b => if b = D then none else H b
theorem del_ne {H : Hp} {D b : Addr} (h : b ≠ D) : del H D b = H b := by unfold del; rw [if_neg h]
theorem del_at {H : Hp} {D : Addr} : del H D D = none := by unfold del; rw [if_pos rfl]
theorem upd_del {H : Hp} {D : Addr} {o : HO} (h : H D = some o) : L2.upd (del H D) D o = H := by
  funext b
  by_cases e : b = D
  · subst e; rw [upd_same, h]
  · rw [upd_ne e, del_ne e]
theorem comp_all {own : List Str} {js : List Nat} {g : TG} {te : TE} {σ : St} {H1 : Hp} {J : It} {vs : List V} {Q : VK} (W : Walk J H1 vs) (hz : vs.length ≤ sizeLine) (R : Hp → V → V → Prop) (mono : ∀ H H' x y, Same H H' → R H x y → R H' x y)
    (step : ∀ x H' D ys, x ∈ vs → Same H1 H' → H' D = some (.lst ys) → ∀ (N : VK), (∀ v H4, Same H' H4 → R (del H4 D) x v → N v H4) → g x (inSt own σ js) H' fun σ2 H2 => Sub (inSt own σ js) σ2 ∧ te σ2 H2 N)
    (fin : ∀ D H0 ys, H1 D = none → Same H1 H0 → H0 D = none → Paired (R H0) vs ys → Q (.ref D) (L2.upd H0 D (.lst ys))) : CompTo own js g tYes te σ J H1 Q := by
  intro D hD
  refine ⟨fun i m H ys => (∃ H0, Same H1 H0 ∧ H0 D = none ∧ H = L2.upd H0 D (.lst ys) ∧ Paired (R H0) (vs.take i) ys) ∧ m = vs.length - i ∧ i ≤ vs.length,
    ⟨vs.length, ⟨H1, Same.refl _, hD, rfl, .nil⟩, by simp, Nat.zero_le _⟩, ?_⟩
  rintro i m H ys ⟨⟨H0, s0, n0, rfl, hp⟩, rfl, hi⟩
  have sm : Same H1 (L2.upd H0 D (.lst ys)) := Same.upd s0 hD
  refine ⟨upd_same, ?_⟩
  by_cases hlt : i < vs.length
  · refine .inr ⟨W.go i _ sm hlt, ?_, fun x H' hy => ?_⟩
    · have h1 := hp.length
      rw [List.length_take] at h1
      omega
    · obtain ⟨rfl, hx⟩ := W.yld i _ x H' hy sm hlt
      have key := step x _ D ys (List.mem_of_getElem? hx) sm upd_same (fun v H4 => H4 D = some (.lst ys) ∧ ∃ m', m' < vs.length - i ∧ ((∃ H0, Same H1 H0 ∧ H0 D = none ∧ L2.upd H4 D (.lst (ys ++ [v])) = L2.upd H0 D (.lst (ys ++ [v])) ∧ Paired (R H0) (vs.take (i + 1)) (ys ++ [v])) ∧ m' = vs.length - (i + 1) ∧ i + 1 ≤ vs.length)) ?_
      · exact key
      · intro v H4 s4 hR
        have hD4 : H4 D = some (.lst ys) := s4 _ _ upd_same
        have s04 : Same H0 (del H4 D) := fun b o e => by
          have nb : b ≠ D := ne_of_none e n0
          rw [del_ne nb]
          exact s4 b o (by rw [upd_ne nb]; exact e)
        refine ⟨hD4, vs.length - (i + 1), by omega, ⟨del H4 D, s0.trans s04, del_at, ?_, ?_⟩, rfl, hlt⟩
        · conv => lhs; rw [← upd_del hD4]
          rw [upd_upd]
        · rw [take_snoc hx]
          exact paired_snoc (Paired.imp' (fun a b q => mono _ _ a b s04 q) hp) hR
  · have e : i = vs.length := by omega
    subst e
    rw [List.take_length] at hp
    exact .inl ⟨W.stop _ _ sm (Nat.le_refl _), fin D H0 ys hD s0 n0 hp⟩
theorem cut_take {xs : List V} {s : Nat} : cutV xs none (some (s : Int)) = xs.take s := by
  unfold cutV
  rw [HT.sIx_none, HT.sIx_nat]
  simp only [List.drop_zero, Nat.sub_zero]
  by_cases h : s ≤ xs.length
  · rw [Nat.min_eq_left h]
  · rw [Nat.min_eq_right (by omega), List.take_length, List.take_of_length_le (by omega)]
theorem paired_take {α β : Type} {F : α → β → Prop} : ∀ {xs : List α} {ds : List β} (n : Nat), Paired F xs ds → Paired F (xs.take n) (ds.take n)
  | _, _, 0, _ => .nil
  | _, _, _ + 1, .nil => .nil
  | _, _, n + 1, .cons h t => .cons h (paired_take n t)
theorem sub_none {own : List Str} {σ σ' : St} : Sub (inSt own σ []) σ' := fun j v h => by
  have h' : (own.map (fun _ => (none : Option V)) ++ [])[j]? = some (some v) := h
  rw [List.append_nil, List.getElem?_map] at h'
  cases e : own[j]? with
  | none => rw [e] at h'; cases h'
  | some z => rw [e] at h'; cases h'
theorem paired_map {α β γ : Type} {F : α → β → Prop} {f : γ → β} : ∀ {xs : List α} {ys : List β} {ds : List γ}, Paired F xs ys → (∀ (i : Nat) (x : α) (d : γ) (y : β), xs[i]? = some x → ds[i]? = some d → F x y → y = f d) → xs.length = ds.length → ys = ds.map f
  | _, _, [], .nil, _, _ => rfl
  | _, _, _ :: _, .nil, _, h => absurd h (by simp)
  | _, _, [], .cons _ _, _, h => absurd h (by simp)
  | _, _, d :: ds, .cons h t, hf, hl => by
    rw [List.map_cons, hf 0 _ d _ rfl rfl h, paired_map t (fun i x d y a b c => hf (i + 1) x d y a b c) (by simpa using hl)]
end L3

namespace L3
open PySem PySem.Spec PySem.W L2
open PyProof.Rows hiding St
def rSortI (K : PySem.W.Frag) : List V → Hp → VK → Prop := fun xs H Q => ∃ (l : Addr) (ns : List Int), xs = [.ref l] ∧ SqL K H l (ns.map V.int) ∧ ns.length < 64 ∧ ∀ (p : Addr) (ms : List Int), H p = none → ms.Perm ns → ms.Pairwise (· ≤ ·) → Q (.ref p) (L2.upd H p (.lst (ms.map V.int)))
theorem call_sortI' {X : Cx} : CallR X (.builtin "sorted") (rSortI X.K) := call_sortI
def rListOf (K : PySem.W.Frag) : List V → Hp → VK → Prop := fun xs H Q => ∃ p ys, xs = [.ref p] ∧ (SqL K H p ys ∨ SqT K H p ys) ∧ ∀ l, H l = none → Q (.ref l) (L2.upd H l (.lst ys))
theorem call_listOf {X : Cx} : CallR X (.type "list") (rListOf X.K) := call_list_of
def rowR (H : Hp) (x : V) (zs : List Int) : Prop := ∃ l, x = .ref l ∧ H l = some (.lst (zs.map V.int))
def rowN (H0 H : Hp) (x : V) (zs : List Int) : Prop := ∃ l, x = .ref l ∧ H0 l = none ∧ H l = some (.lst (zs.map V.int))
theorem rowR_same {H H' : Hp} (e : Same H H') {xs : List V} {rs : List (List Int)} (h : Paired (rowR H) xs rs) : Paired (rowR H') xs rs := Paired.imp' (fun x p ⟨a, e1, e2⟩ => ⟨a, e1, e a _ e2⟩) h
theorem rowN_R {H0 H : Hp} {xs : List V} {rs : List (List Int)} (h : Paired (rowN H0 H) xs rs) : Paired (rowR H) xs rs := Paired.imp' (fun x p ⟨a, e1, _, e2⟩ => ⟨a, e1, e2⟩) h
theorem rowR_ls {K : PySem.W.Frag} {H : Hp} {x : V} {zs : List Int} (h : rowR H x zs) : rLs K rInt H x zs := by
  obtain ⟨l, rfl, e⟩ := h
  exact ⟨l, _, rfl, SqL.of e, pints _ _⟩
theorem rows_ls {K : PySem.W.Frag} {H : Hp} {D : Addr} {xs : List V} {rs : List (List Int)} (hD : H D = some (.lst xs)) (h : Paired (rowR H) xs rs) : rLs K (rLs K rInt) H (.ref D) rs :=
  ⟨D, xs, rfl, SqL.of hD, Paired.imp' (fun _ _ q => rowR_ls q) h⟩
theorem row_ix {H : Hp} {xs : List V} {rs : List (List Int)} (h : Paired (rowR H) xs rs) {i : Nat} {r : List Int} (hi : rs[i]? = some r) : ∃ l, xs[i]? = some (.ref l) ∧ H l = some (.lst (r.map V.int)) := by
  obtain ⟨h1, rfl⟩ := List.getElem?_eq_some_iff.mp hi
  have h2 : i < xs.length := by rw [h.length]; exact h1
  obtain ⟨l, e1, e2⟩ := paired_get h i h2 h1
  exact ⟨l, by rw [List.getElem?_eq_getElem h2, e1], e2⟩
theorem pairs_ls {K : PySem.W.Frag} {H : Hp} {l : Addr} {xs : List V} {ps : List (Int × Int)} (hl : H l = some (.lst xs)) (h : Paired (pairAt H) xs ps) : rLs K (rTp K rInt) H (.ref l) (ps.map fun p => [p.1, p.2]) := by
  refine ⟨l, xs, rfl, SqL.of hl, ?_⟩
  clear hl
  induction h with
  | nil => exact .nil
  | cons q _ ih =>
    obtain ⟨a, rfl, e⟩ := q
    exact .cons ⟨a, _, rfl, SqT.of e, .cons rfl (.cons rfl .nil)⟩ ih
theorem paired_get? {α β : Type} {F : α → β → Prop} {xs : List α} {ds : List β} (h : Paired F xs ds) {i : Nat} {x : α} (hi : xs[i]? = some x) : ∃ d, ds[i]? = some d ∧ F x d := by
  obtain ⟨h1, rfl⟩ := List.getElem?_eq_some_iff.mp hi
  have h2 : i < ds.length := by rw [← h.length]; exact h1
  exact ⟨ds[i], List.getElem?_eq_getElem h2, paired_get h i h1 h2⟩
section
variable {δ : Type} [DecidableEq δ] {n : Nat} {X : Cx} {R : Hp → V → δ → Prop}
open Classical in
theorem op_notInD (D : Deq n X.K R) (hu : X.A.units + (n + 1) < cLine) : OpR X (compareOp .NotIn) (fun x y H Q => ∃ d ds, R H x d ∧ rLs X.K R H y ds ∧ Q (.bl (!decide (d ∈ ds))) H) := by
  intro pins s σ H x y v u Q I rx ry h
  obtain ⟨d, ds, hx, ⟨p, xs, rfl, hq, hp⟩, q⟩ := h
  cases ry
  obtain ⟨its, r, pl, hz⟩ := I.list hq
  let e : Value → Bool := fun w => decide (∃ (j : Nat) (z : V), its[j]? = some w ∧ xs[j]? = some z ∧ ds[j]? = some d)
  have key : ∀ (j : Nat) (w : Value) (z : V) (dj : δ), its[j]? = some w → xs[j]? = some z → ds[j]? = some dj → RelV z w → R H z dj → e w = decide (dj = d) := by
    intro j w z dj h1 h2 h3 h4 h5
    rw [Bool.eq_iff_iff, decide_eq_true_iff, decide_eq_true_iff]
    constructor
    · rintro ⟨j', z', a1, a2, a3⟩
      obtain ⟨w', b1, b2⟩ := Vals.get r a2
      rw [a1] at b1
      cases b1
      have ez : z' = z := RelV.inj b2 h4
      subst ez
      obtain ⟨d', c1, c2⟩ := paired_get? hp a2
      rw [a3] at c1
      cases c1
      exact D.un rfl I h5 c2
    · rintro rfl
      exact ⟨j, z, h1, h2, h3⟩
  have each : ∀ w ∈ its.toArray, SeqAt.EqAt X.A.in1 s w v (e w) := by
    intro w hw
    obtain ⟨j, hj⟩ := List.getElem?_of_mem (show w ∈ its by simpa using hw)
    have hjx : j < xs.length := by
      have := (List.getElem?_eq_some_iff.mp hj).1
      rw [r.length]; exact this
    obtain ⟨dj, g1, g2⟩ := paired_get? hp (List.getElem?_eq_getElem hjx)
    obtain ⟨w', b1, b2⟩ := Vals.get r (List.getElem?_eq_getElem hjx)
    rw [hj] at b1
    cases b1
    rw [key j w xs[j] dj hj (List.getElem?_eq_getElem hjx) g1 b2 g2]
    exact D.eq rfl I (by have ee : X.A.in1.units = X.A.units + 1 := rfl; rw [ee]; omega) g2 hx b2 rx
  refine SeqAt.notIn_listAt e pl.isList each ⟨.bl _, H, I, rfl, ?_⟩
  have ea : its.toArray.any e = decide (d ∈ ds) := by
    rw [List.any_toArray, Bool.eq_iff_iff, List.any_eq_true, decide_eq_true_iff]
    constructor
    · rintro ⟨w, _, hw⟩
      obtain ⟨j, z, _, _, a3⟩ := of_decide_eq_true hw
      exact List.mem_of_getElem? a3
    · intro hd
      obtain ⟨j, hj⟩ := List.getElem?_of_mem hd
      have hjx : j < xs.length := by
        have := (List.getElem?_eq_some_iff.mp hj).1
        rw [hp.length]; exact this
      obtain ⟨w', b1, b2⟩ := Vals.get r (List.getElem?_eq_getElem hjx)
      exact ⟨w', List.mem_of_getElem? b1, decide_eq_true ⟨j, xs[j], b1, List.getElem?_eq_getElem hjx, hj⟩⟩
  rw [ea]
  have ed : ∀ (i1 i2 : Decidable (d ∈ ds)), @decide (d ∈ ds) i1 = @decide (d ∈ ds) i2 := fun i1 i2 => by congr
  rw [ed _ _]
  exact q
end
end L3

namespace L3
open PySem PySem.Spec PySem.W L2
open PyProof.Rows hiding St
section
variable {X : Cx}
theorem call_lenT : CallR X (.builtin "len") (fun xs H Q => ∃ (a : Addr) (kvs : List (List Key × V)), xs = [V.ref a] ∧ H a = some (.dT kvs) ∧ Q (.int kvs.length) H) := by
  intro pins s σ H xs us Q I r h
  obtain ⟨a, kvs, rfl, ha, q⟩ := h
  obtain ⟨u, rfl, ru⟩ := vals1 r
  cases ru
  obtain ⟨z, hd, xs', rel, hm⟩ := dt_of I.hok ha
  obtain ⟨o, es, ep, ho, hx, hdat, hk, hk2, hn⟩ := id hm
  have hsz : es.size = kvs.length := by
    have e1 := congrArg List.length hk
    rw [List.length_map, Array.length_toList, ← rel.length] at e1
    exact e1
  have hz : kvs.length < 2 ^ 62 := by rw [sizeLine_eq] at z; omega
  have body : MeetsIn X.prog X.w (Builtin.«dict.__len__» ⟨[.ref a], []⟩) (fun _ R t => t.heap.get? a = some o ∧ R (.ok (.ret (.int es.size t.toks))) { t with toks := t.toks + 1 }) :=
    .of_wp fun A R t ⟨g1, g2⟩ => by
      show wpAny _ _ (dictSize a >>= _) _ _ t
      unfold dictSize
      refine wpAny_bind (wpAny_bind (wpAny_dictEntries g1 hdat (wpAny_pure ?_)))
      show wpAny _ _ (Builtin.Dict.pendingCount a >>= _) _ _ t
      refine wpAny_bind (wpAny_pendingCount_other hd (wpAny_ret_mkInt ?_))
      rw [Nat.add_zero]
      exact g2
  refine Calls.call_function_entry kind_len plain_len entry_len (args_len1 _) ?_
  unfold Builtin.«len»
  refine wpAny_bind (m := oneArg "len" _) (wpAny_pure ?_)
  refine wpAny_bind (m := callSpecial? (.ref a) (Str.ofString "__len__")) (wpAny_callSpecial?_slot (name := Str.ofString "__len__") hm.typeIs PySem.F.slot_dict_len
    (call_meetsIn PySem.F.slot_dict_len hm.typeIs PySem.F.entry_dict_len (PySem.F.args_dict_len_1 _) body ⟨ho, ?_⟩))
  rw [hsz]
  show wpAny _ _ _ _ _ { s with toks := s.toks + 1 }
  refine wpAny_bind (wpAny_holding (wpAny_pure ?_))
  refine wpAny_bind (wpAny_letGo ?_)
  show wpAny _ _ (if ((kvs.length : Nat) : Int) < 0 then _ else _) _ _ _
  rw [if_neg (by omega)]
  show wpAny _ _ (if ((kvs.length : Nat) : Int) ≥ 2 ^ 63 then _ else _) _ _ _
  rw [if_neg (by omega)]
  exact wpAny_bind (wpAny_mkInt (wpAny_pure ⟨_, rfl, .int kvs.length, H, I.tok _, ⟨_, rfl⟩, q⟩))
def rCount {δ : Type} [DecidableEq δ] (K : PySem.W.Frag) (R : Hp → V → δ → Prop) : V → List V → Hp → VK → Prop := fun x vs H Q => ∃ (y : V) (d : δ) (ds : List δ), vs = [y] ∧ rLs K R H x ds ∧ R H y d ∧ Q (.int (ds.count d : Nat)) H
open Classical in
theorem mt_count {δ : Type} [DecidableEq δ] {n : Nat} {R : Hp → V → δ → Prop} (D : Deq n X.K R) (hu : X.A.units + (n + 1) < cLine) : MtM X "list.count" (rCount X.K R) := by
  intro pins s σ H x vs v us Q I rx rv h
  obtain ⟨y, d, ds, rfl, ⟨p, xs, rfl, hq, hp⟩, hy, q⟩ := h
  cases rx
  obtain ⟨u, rfl, ru⟩ := rv.one
  obtain ⟨its, r, pl, hz⟩ := I.list hq
  let e : Value → Bool := fun w => decide (∃ (j : Nat) (z : V), its[j]? = some w ∧ xs[j]? = some z ∧ ds[j]? = some d)
  have key : ∀ (j : Nat) (w : Value) (z : V) (dj : δ), its[j]? = some w → xs[j]? = some z → ds[j]? = some dj → RelV z w → R H z dj → e w = decide (dj = d) := by
    intro j w z dj h1 h2 h3 h4 h5
    rw [Bool.eq_iff_iff, decide_eq_true_iff, decide_eq_true_iff]
    constructor
    · rintro ⟨j', z', a1, a2, a3⟩
      obtain ⟨w', b1, b2⟩ := Vals.get r a2
      rw [a1] at b1
      cases b1
      have ez : z' = z := RelV.inj b2 h4
      subst ez
      obtain ⟨d', c1, c2⟩ := paired_get? hp a2
      rw [a3] at c1
      cases c1
      exact D.un rfl I h5 c2
    · rintro rfl
      exact ⟨j, z, h1, h2, h3⟩
  have each : ∀ w ∈ its.toArray, SeqAt.EqAt X.A.in1 s w u (e w) := by
    intro w hw
    obtain ⟨j, hj⟩ := List.getElem?_of_mem (show w ∈ its by simpa using hw)
    have hjx : j < xs.length := by
      have := (List.getElem?_eq_some_iff.mp hj).1
      rw [r.length]; exact this
    obtain ⟨dj, g1, g2⟩ := paired_get? hp (List.getElem?_eq_getElem hjx)
    obtain ⟨w', b1, b2⟩ := Vals.get r (List.getElem?_eq_getElem hjx)
    rw [hj] at b1
    cases b1
    rw [key j w xs[j] dj hj (List.getElem?_eq_getElem hjx) g1 b2 g2]
    exact D.eq rfl I (by have ee : X.A.in1.units = X.A.units + 1 := rfl; rw [ee]; omega) g2 hy b2 ru
  have ec : its.countP e = ds.count d := by
    have go : ∀ (a : List Value) (b : List V) (c : List δ), Paired RelV b a → Paired (R H) b c → (∀ (w : Value) (z : V) (dj : δ), (∃ j : Nat, a[j]? = some w ∧ b[j]? = some z ∧ c[j]? = some dj) → e w = decide (dj = d)) → a.countP e = c.count d := by
      intro a b c h1
      induction h1 generalizing c with
      | nil =>
        intro h2 _
        cases h2
        rfl
      | cons q1 t1 ih =>
        intro h2 hf
        cases h2 with
        | cons q2 t2 =>
          have := hf _ _ _ ⟨0, rfl, rfl, rfl⟩
          rw [List.countP_cons, List.count_cons, this, ih _ t2 fun w z dj ⟨j, a1, a2, a3⟩ => hf w z dj ⟨j + 1, a1, a2, a3⟩]
          congr 1
    refine go its xs ds r hp fun w z dj ⟨j, a1, a2, a3⟩ => ?_
    obtain ⟨w', b1, b2⟩ := Vals.get r a2
    rw [a1] at b1
    cases b1
    obtain ⟨d', c1, c2⟩ := paired_get? hp a2
    rw [a3] at c1
    cases c1
    exact key j w z dj a1 a2 a3 b2 c2
  obtain ⟨⟨cls, dd, data, sl⟩, ho, hc, nn, hdd⟩ := id pl.isList
  simp only at hc hdd
  subst hc hdd
  refine call_meets PySem.F.slot_list_count ⟨_, ho, rfl⟩ PySem.F.entry_list_count (PySem.F.args_list_count_2 _ _) (SeqAt.list_countAt p its.toArray nn dd sl u e) ⟨ho, each, ?_⟩
  refine ⟨.int (ds.count d : Nat), H, I.tok _, ⟨s.toks, ?_⟩, q⟩
  rw [← ec]
end
def kk (r : List Int) : List Key := r.map Sum.inl
theorem kkV (r : List Int) : (kk r).map kV = r.map V.int := by unfold kk; rw [List.map_map]; rfl
theorem kk_inj {a b : List Int} (h : kk a = kk b) : a = b := by
  unfold kk at h
  exact (List.map_inj_right fun x y e => Sum.inl.inj e).mp h
theorem keys_putK {κ : Type} [DecidableEq κ] (kvs : List (κ × V)) (k : κ) (v : V) : (putK kvs k v).map (·.1) = if k ∈ kvs.map (·.1) then kvs.map (·.1) else kvs.map (·.1) ++ [k] := by
  cases h : valV kvs k with
  | none =>
    rw [putK_new v h, if_neg (valV_not h), List.map_append]
    rfl
  | some y =>
    rw [if_pos (valV_in h)]
    unfold putK
    have ha : (kvs.any fun kv => decide (kv.1 = k)) = true := by rw [valV_any, h]; rfl
    rw [if_pos ha, List.map_map]
    refine List.map_congr_left fun kv _ => ?_
    show (if kv.1 = k then (kv.1, v) else kv).1 = kv.1
    split <;> rfl
def chAt (H : Hp) (x : V) (rs : List (List Int)) : Prop := ∃ D ys, x = .ref D ∧ H D = some (.lst ys) ∧ Paired (rowR H) ys rs
theorem chAt_same {H H' : Hp} (e : Same H H') {x : V} {rs : List (List Int)} (h : chAt H x rs) : chAt H' x rs := by
  obtain ⟨D, ys, h1, h2, h3⟩ := h
  exact ⟨D, ys, h1, e _ _ h2, rowR_same e h3⟩
theorem chAts_same {H H' : Hp} (e : Same H H') {xs : List V} {rs : List (List (List Int))} (h : Paired (chAt H) xs rs) : Paired (chAt H') xs rs := Paired.imp' (fun _ _ q => chAt_same e q) h
def dl (H : Hp) (a b c : Addr) : Hp := del (del (del H a) b) c
theorem dl_same {H : Hp} {a b c : Addr} : Same (dl H a b c) H := fun x o h => by
  unfold dl del at h
  by_cases h1 : x = c
  · rw [if_pos h1] at h; cases h
  · rw [if_neg h1] at h
    by_cases h2 : x = b
    · rw [if_pos h2] at h; cases h
    · rw [if_neg h2] at h
      by_cases h3 : x = a
      · rw [if_pos h3] at h; cases h
      · rw [if_neg h3] at h; exact h
theorem dl_of {H : Hp} {a b c x : Addr} (h1 : x ≠ a) (h2 : x ≠ b) (h3 : x ≠ c) : dl H a b c x = H x := by
  unfold dl
  rw [del_ne h3, del_ne h2, del_ne h1]
theorem dl_mono {H H' : Hp} {a b c : Addr} (e : ∀ x o, x ≠ a → x ≠ b → x ≠ c → H x = some o → H' x = some o) : Same (dl H a b c) (dl H' a b c) := fun x o h => by
  by_cases h3 : x = c
  · subst h3; unfold dl at h; rw [del_at] at h; cases h
  · by_cases h2 : x = b
    · subst h2; unfold dl at h; rw [del_ne h3, del_at] at h; cases h
    · by_cases h1 : x = a
      · subst h1; unfold dl at h; rw [del_ne h3, del_ne h2, del_at] at h; cases h
      · rw [dl_of h1 h2 h3] at h ⊢
        exact e x o h1 h2 h3 h
end L3
namespace L3
open PySem PySem.Spec PySem.W L2
open PyProof.Rows hiding St
def rLenS (K : PySem.W.Frag) : List V → Hp → VK → Prop := fun xs H Q => ∃ p ys, xs = [.ref p] ∧ (SqL K H p ys ∨ SqT K H p ys) ∧ Q (.int ys.length) H
theorem call_lenS {X : Cx} : CallR X (.builtin "len") (rLenS X.K) := call_len_seq
def rTupOf (K : PySem.W.Frag) : List V → Hp → VK → Prop := fun xs H Q => ∃ p ys, xs = [.ref p] ∧ ((SqL K H p ys ∧ ∀ l, H l = none → Q (.ref l) (L2.upd H l (.tup ys))) ∨ (SqT K H p ys ∧ Q (.ref p) H))
theorem call_tupOf {X : Cx} : CallR X (.type "tuple") (rTupOf X.K) := call_tuple_of
def lenIs (H : Hp) (m : Nat) : V → Bool
  | .ref a => match H a with
    | some (.lst zs) => decide (zs.length = m)
    | _ => false
  | _ => false
theorem lenIs_row {H : Hp} {m : Nat} {x : V} {zs : List Int} (h : rowR H x zs) : lenIs H m x = decide (zs.length = m) := by
  obtain ⟨l, rfl, e⟩ := h
  show (match H l with
    | some (.lst zs) => decide (zs.length = m)
    | _ => false) = _
  rw [e]
  show decide ((zs.map V.int).length = m) = _
  rw [List.length_map]
theorem filter_len {H : Hp} {m : Nat} : ∀ {xs : List V} {rs : List (List Int)}, Paired (rowR H) xs rs → (xs.filter (lenIs H m)).length = (rs.filter fun r => decide (r.length = m)).length
  | _, _, .nil => rfl
  | _, _, .cons h t => by
    have ih := filter_len (m := m) t
    rw [List.filter_cons, List.filter_cons, lenIs_row h]
    split
    · rw [List.length_cons, List.length_cons, ih]
    · exact ih
end L3


namespace L3
open PySem PySem.Spec PySem.W L2
open PyProof.Rows hiding St
theorem turnedL {X : Cx} {pins : List (Addr × Obj)} {σ : St} {H : Hp} {s : Shared} {h' : Heap} {t' : Nat} {fp : List Addr} (I : Inv X pins σ H s) (k : ∀ b o, b ∉ fp → s.heap.get? b = some o → h'.get? b = some o) (hf : ∀ b ∈ fp, FpOk X pins H b) : Inv X pins σ H { s with heap := h', toks := t' } := by
  have nit : ∀ b u, H b = some u → b ∉ fp := fun b u e z => by
    have := (hf b z).1
    rw [this] at e
    cases e
  refine I.step (g' := s.gens) (d' := s.drawn) (ch := fp) (fun b hb => ?_) (fun b o _ _ hc e _ => k b o hc e) (fun b o _ _ hc e _ => ⟨o.slots, k b o hc e⟩) (fun _ _ _ _ n => n)
    (fun b o hc e => ⟨o, k b o hc e⟩) (fun _ _ e => e) (fun _ _ _ e => e) (fun b ps e => ⟨#[], by rw [e]; simp⟩) (fun m hm => ?_) (fun b u e => ?_) I.bare
  · obtain ⟨f0, f1, f2, f3, f4, f5⟩ := hf b hb
    exact ⟨f3, f1, f4, f5⟩
  · obtain ⟨o, es, ep, ho, r⟩ := hm
    exact ⟨o, es, ep, k _ o (fun z => (hf _ z).2.1 rfl) ho, r⟩
  · refine (I.hok b u e).stay (fun c v hc q => k c v ?_ q) (fun _ q => q) fun _ _ q => q
    rcases hc with z | z
    · rw [z]; exact nit b u e
    · exact nit c _ z
theorem turnedNew {X : Cx} {pins : List (Addr × Obj)} {σ : St} {H : Hp} {s : Shared} {h' : Heap} {t' : Nat} {fp : List Addr} {T : Addr} {o : HO} (I : Inv X pins σ H s) (k : ∀ b o, b ∉ fp → s.heap.get? b = some o → h'.get? b = some o) (hf : ∀ b ∈ fp, FpOk X pins H b)
    (hT : s.heap.objs.size ≤ T) (new : ObjOk X.prog X.w (upd H T o) h' T o) : Inv X pins σ (upd H T o) { s with heap := h', toks := t' } := by
  have nT : H T = none := I.hok.fresh hT
  have nit : ∀ b u, H b = some u → b ∉ fp := fun b u e z => by
    have := (hf b z).1
    rw [this] at e
    cases e
  have old : ∀ b o, s.heap.get? b = some o → b ≠ T := fun b o e z => absurd (Nat.lt_of_lt_of_le (Heap.lt_size e) (by rw [z]; exact hT)) (Nat.lt_irrefl _)
  refine I.step (g' := s.gens) (d' := s.drawn) (ch := fp) (fun b hb => ?_) (fun b o _ _ hc e _ => k b o hc e) (fun b o _ _ hc e _ => ⟨o.slots, k b o hc e⟩) (fun b o' _ e n => by rw [upd_ne (old b o' e)]; exact n)
    (fun b o hc e => ⟨o, k b o hc e⟩) (fun b xs e => by rw [upd_ne (ne_of_none e nT)]; exact e) (fun b o' u e => by rw [upd_ne (ne_of_none e nT)]; exact e) (fun b ps e => ⟨#[], by rw [upd_ne (ne_of_none e nT), e]; simp⟩) (fun m hm => ?_) (fun b u e => ?_) I.bare
  · obtain ⟨f0, f1, f2, f3, f4, f5⟩ := hf b hb
    exact ⟨f3, f1, f4, f5⟩
  · obtain ⟨o, es, ep, ho, r⟩ := hm
    exact ⟨o, es, ep, k _ o (fun z => (hf _ z).2.1 rfl) ho, r⟩
  · by_cases hb : b = T
    · subst hb; rw [upd_same] at e; cases e; exact new
    · rw [upd_ne hb] at e
      refine (I.hok b u e).stay (fun c v hc q => k c v ?_ q) (fun c q => by rw [upd_ne (ne_of_none q nT)]; exact q) fun c xs q => by rw [upd_ne (ne_of_none q nT)]; exact q
      rcases hc with z | z
      · rw [z]; exact nit b u e
      · exact nit c _ z
def Ite (K : PySem.W.Frag) (a : Addr) : It :=
  ⟨(Itl K a).go, fun i H x H' => ∃ T v, x = .ref T ∧ H T = none ∧ H' = upd H T (.tup [.int (i : Nat), v]) ∧ ∀ xs, SqL K H a xs → xs[i]? = some v, (Itl K a).stop⟩
theorem turn_enum {P : Program} {w : World} {K : PySem.W.Frag} {es : List Expr} {k1 : Nat} {pos : Pos} (a e it : Addr) (hei : e ≠ it) :
    Turn P w K (.Tuple es k1 pos) (Ite K a) [e, it] e (fun i h => (∃ old, IsEnum h e it (i : Nat) old) ∧ h.IsListIter it a i) where
  mem := by simp
  obj := fun i h st b hb => by
    obtain ⟨⟨old, he⟩, o, e1, c, d⟩ := st
    rcases List.mem_cons.mp hb with z | z
    · subst z
      exact ⟨_, he, fun v z => by
        have z' : Data.fields _ = Data.cell v := z
        cases z'⟩
    · have z' : b = it := by simpa using z
      subst z'
      exact ⟨o, e1, fun v z => by rw [d] at z; cases z⟩
  keep := fun i h h' st k => by
    obtain ⟨⟨old, he⟩, hit⟩ := st
    exact ⟨⟨old, k e (by simp) _ he⟩, hit.at fun o q => k it (by simp) o q⟩
  item := by
    intro X hP hw hK hc i pins s σ H E I hf st hg
    subst hP hw hK
    obtain ⟨xs, x, hq, hx⟩ := hg
    obtain ⟨its, rv, p, hz⟩ := I.list hq
    obtain ⟨u, hu, ru⟩ := rv.get hx
    obtain ⟨⟨old, he⟩, hit⟩ := st
    refine wpAny_pyNext_enum_item he hit p.isList (x := u) (by simpa using hu) hei fun h' ho hit' hT hsz hk => ?_
    refine ⟨_, rfl, wpAny_letOwnedTupleGo_enum ho fun h2 he2 hs2 => ?_⟩
    have helt : e < s.heap.objs.size := Heap.lt_size he
    have hilt : it < s.heap.objs.size := by obtain ⟨_, x, _⟩ := hit; exact Heap.lt_size x
    have nT : H s.heap.objs.size = none := I.hok.fresh (Nat.le_refl _)
    have kk : ∀ b o, b ∉ [e, it] → s.heap.get? b = some o → h2.get? b = some o := fun b o hb q => by
      have n1 : b ≠ e := fun z => hb (by simp [z])
      have n2 : b ≠ it := fun z => hb (by simp [z])
      exact (hs2.2 b n1).trans (hk b o n1 n2 q)
    have hT2 : h2.get? s.heap.objs.size = some { cls := .type "tuple", data := .seq #[.int i s.toks, u] } := (hs2.2 _ (Nat.ne_of_gt helt)).trans hT
    refine ⟨.ref s.heap.objs.size, upd H s.heap.objs.size (.tup [.int (i : Nat), x]), ?_, rfl, ⟨_, x, rfl, nT, rfl, fun ys hy => by rw [I.list_inj hy hq]; exact hx⟩, ⟨⟨u, by simpa using he2⟩, hit'.at fun o y => (hs2.2 it hei.symm).trans y⟩, fun b hb => ?_⟩
    · show Inv X pins σ _ { s with heap := h2, toks := s.toks + 1 }
      refine turnedNew (t' := s.toks + 1) I kk hf (Nat.le_refl _) ?_
      exact ⟨by show 2 ≤ sizeLine; decide, [.int i s.toks, u], .cons ⟨s.toks, rfl⟩ (.cons ru .nil), _, hT2, rfl, 0, rfl⟩
    · have := (hf b hb).1
      rw [upd_ne (fun z => ?_)]
      · exact this
      · rcases List.mem_cons.mp hb with q | q
        · rw [q] at z; exact absurd z (Nat.ne_of_lt helt)
        · have q' : b = it := by simpa using q
          rw [q'] at z; exact absurd z (Nat.ne_of_lt hilt)
  done := by
    intro X hP hw hK hc i pins s σ H E I hf st hg
    subst hP hw hK
    obtain ⟨xs, hq, hx⟩ := hg
    obtain ⟨its, rv, p, hz⟩ := I.list hq
    obtain ⟨⟨old, he⟩, hit⟩ := st
    have hl := rv.length
    refine wpAny_pyNext_enum_end (I.ok.hd hc) he hit p.isList (by simp; omega) fun h' eb => ⟨rfl, ?_⟩
    exact turnedL (t' := s.toks) I (fun b o hb q => eb b o (fun z => hb (by simp [z])) q) hf
  self := fun _ _ _ _ _ st h => by
    obtain ⟨⟨old, he⟩, hit⟩ := st
    exact wpAny_pyIter_enum he h
def iEnum (K : PySem.W.Frag) (ta : TA) : TI := fun σ H R => ta σ H fun vs H1 => ∃ a, vs = [.ref a] ∧ (∃ xs, SqL K H1 a xs) ∧ R (Ite K a) H1
theorem boot_enumerate' : bootBuiltins "enumerate" = some (.type "enumerate") := by decide +kernel
section
variable {X : Cx}
theorem pi_enum {es : List Expr} {k1 : Nat} {tpos : Pos} {a : Expr} {ta : TA} {p pos : Pos} (hg : Gl X "enumerate") (hm : X.mg "enumerate" = none) (ha : PA X [a] ta) (hs : starEach [a] X.env = [(false, eval a X.env)] := by rfl) :
    PI X (.Tuple es k1 tpos) (.Call (.Name "enumerate" p) [a] [] pos) (iEnum X.K ta) := by
  intro pins s σ H R I h
  refine Call_ (ld_blt I hg hm boot_enumerate' (PyProof.Rows.callWith_type1 (thn (ha pos pins s σ H _ I h) fun us s1 ⟨vs, H1, I1, r1, q1⟩ => ?_) hs rfl))
  obtain ⟨b, e, ⟨xs, hq⟩, q⟩ := q1
  subst e
  cases r1 with
  | cons r rr =>
    cases rr
    cases r
    obtain ⟨its, rv, pl, hz⟩ := I1.list hq
    refine call_enumerate_list pl.isList fun h' he hit hsz hk => ?_
    refine wpAny_pyIter_enum he ?_
    have I2 : Inv X pins σ H1 { s1 with heap := h' } := I1.kept (t' := s1.toks) hk
    refine ⟨s1.heap.objs.size + 1, [s1.heap.objs.size + 1, s1.heap.objs.size], _, _, H1, rfl, I2, turn_enum b _ _ (Nat.ne_of_gt (Nat.lt_succ_self _)), ⟨⟨_, he⟩, hit⟩, fun c hc => ?_, q⟩
    rcases List.mem_cons.mp hc with z | z
    · subst z
      exact I1.fpOk (Nat.le_succ _) (I1.hok.fresh (Nat.le_succ _))
    · have z' : c = s1.heap.objs.size := by simpa using z
      subst z'
      exact I1.fpOk (Nat.le_refl _) (I1.hok.fresh (Nat.le_refl _))
theorem call_sumI (hc : X.calm = true) : CallR X (.builtin "sum") (fun xs H Q => ∃ (p : Addr) (ns : List Int), xs = [.ref p] ∧ SqL X.K H p (ns.map V.int) ∧ Q (.int ns.sum) H) := by
  intro pins s σ H xs us Q I r h
  obtain ⟨p, ns, rfl, hq, q⟩ := h
  obtain ⟨u, rfl, rx⟩ := vals1 r
  cases rx
  obtain ⟨its, rv, pl, hz⟩ := I.list hq
  have hi : IntsAre its ns := intsAre_of rv
  obtain ⟨xs, hx⟩ := hi.allInts.items
  have hl' : s.heap.IsList p (intItems xs) := hx ▸ pl.isList
  refine sum_intListG (I.ok.hd hc) hl' fun h' tk t' hk => ?_
  have e1 : ns = xs.toList.map (·.1) := by
    rw [← nums_intItems, ← hx]
    exact (show numsOf its.toArray.toList = ns from hi.numsOf).symm
  have e2 : preSum (numAt xs) xs.size = ns.sum := by
    rw [preSum_eq, List.take_of_length_le (by simp), e1]
  rw [e2]
  exact ⟨.int ns.sum, H, I.kept hk, ⟨_, rfl⟩, q⟩
theorem call_allB (hc : X.calm = true) : CallR X (.builtin "all") (fun xs H Q => ∃ (p : Addr) (bs : List Bool), xs = [.ref p] ∧ SqL X.K H p (bs.map V.bl) ∧ Q (.bl (bs.all id)) H) := by
  intro pins s σ H xs us Q I r h
  obtain ⟨p, bs, rfl, hq, q⟩ := h
  obtain ⟨u, rfl, rx⟩ := vals1 r
  cases rx
  obtain ⟨its, rv, pl, hz⟩ := I.list hq
  have hl := pl.isList
  have hlt : p < s.heap.objs.size := by obtain ⟨_, e, _⟩ := hl; exact Heap.lt_size e
  have hlen : its.length = bs.length := by rw [← rv.length, List.length_map]
  refine call_all_walk (wpAny_pyIter_list hl ?_)
  refine ⟨s.heap.objs.size, [s.heap.objs.size, p], [s.heap.objs.size], its.toArray.size, _, _, fun i => (bs[i]?).getD true, rfl, Walks.list (A := X.A.in1) (I.ok.hd hc) _ p (Nat.ne_of_lt hlt) its.toArray,
    ⟨⟨_, Heap.get?_push_size _ rfl, rfl, rfl⟩, hl.push _⟩, fun i v s' Q' E' hP hQ => ?_, fun h' tk hk => ?_⟩
  · have hP' : its[i]? = some v := by simpa using hP
    have hi : i < bs.length := by rw [← hlen]; exact (List.getElem?_eq_some_iff.mp hP').1
    have gi : (bs.map V.bl)[i]? = some (.bl bs[i]) := by rw [List.getElem?_map, List.getElem?_eq_getElem hi]; rfl
    obtain ⟨v', e1, e2⟩ := rv.get gi
    rw [hP'] at e1
    cases e1
    cases e2
    have hQ' : Q' ((bs[i]?).getD true) s' := hQ
    rw [List.getElem?_eq_getElem hi] at hQ'
    exact wpAny_truthy_bool hQ'
  · have e : ((List.range its.toArray.size).all fun i => (bs[i]?).getD true) = bs.all id := by
      rw [List.size_toArray, hlen]; exact LSm.range_all bs
    rw [e]
    exact ⟨.bl (bs.all id), H, I.kept (LSm.kept_iter hk), rfl, q⟩
end
theorem comp_grow {own : List Str} {js : List Nat} {g : TG} {tc : TT} {te : TE} {σ : St} {H1 : Hp} {J : It} {n : Nat} {Q : VK} (hz : n ≤ sizeLine) (p : Nat → Bool) (f : Nat → V)
    (hgo : ∀ i H, Same H1 H → i < n → J.go i H) (hstop : ∀ H, Same H1 H → J.stop n H)
    (step : ∀ i H D ys x H', i < n → Same H1 H → H D = some (.lst ys) → J.yld i H x H' → ∀ (R : VK) (N : Hp → Prop), (p i = true → ∀ H4, Same H H4 → R (f i) H4) → (p i = false → ∀ H4, Same H H4 → N H4) →
      g x (inSt own σ js) H' fun σ2 H2 => Sub (inSt own σ js) σ2 ∧ tc σ2 H2 fun k H3 => if k = true then te σ2 H3 R else N H3)
    (fin : ∀ D H0, H1 D = none → Same H1 H0 → H0 D = none → Q (.ref D) (L2.upd H0 D (.lst (((List.range n).filter p).map f)))) : CompTo own js g tc te σ J H1 Q := by
  intro D hD
  refine ⟨fun i m H ys => (∃ H0, Same H1 H0 ∧ H0 D = none ∧ H = L2.upd H0 D (.lst ys)) ∧ ys = ((List.range i).filter p).map f ∧ m = n - i ∧ i ≤ n,
    ⟨n, ⟨H1, Same.refl _, hD, rfl⟩, by simp, by simp, Nat.zero_le _⟩, ?_⟩
  rintro i m H ys ⟨⟨H0, s0, n0, rfl⟩, eys, rfl, hi⟩
  have sm : Same H1 (L2.upd H0 D (.lst ys)) := Same.upd s0 hD
  refine ⟨upd_same, ?_⟩
  have hlen : ys.length ≤ i := by
    rw [eys, List.length_map]
    exact Nat.le_trans (List.length_filter_le _ _) (by rw [List.length_range]; exact Nat.le_refl _)
  by_cases hlt : i < n
  · have back : ∀ H4, Same (L2.upd H0 D (.lst ys)) H4 → H4 D = some (.lst ys) ∧ Same H1 (del H4 D) := fun H4 s4 => by
      refine ⟨s4 _ _ upd_same, fun b o e => ?_⟩
      have nb : b ≠ D := ne_of_none e hD
      rw [del_ne nb]
      exact s4 b o (by rw [upd_ne nb]; exact s0 b o e)
    refine .inr ⟨hgo i _ sm hlt, by omega, fun x H' hy => ?_⟩
    refine step i _ D ys x H' hlt sm upd_same hy _ _ (fun hp H4 s4 => ?_) fun hp H4 s4 => ?_
    · obtain ⟨e4, d4⟩ := back H4 s4
      refine ⟨e4, n - (i + 1), by omega, ⟨del H4 D, d4, del_at, ?_⟩, ?_, rfl, hlt⟩
      · conv => lhs; rw [← upd_del e4]
        rw [upd_upd]
      · rw [List.range_succ, List.filter_append, List.map_append, eys]
        simp [hp]
    · obtain ⟨e4, d4⟩ := back H4 s4
      refine ⟨n - (i + 1), by omega, ⟨del H4 D, d4, del_at, (upd_del e4).symm⟩, ?_, rfl, hlt⟩
      rw [List.range_succ, List.filter_append, List.map_append, eys]
      simp [hp]
  · have e : i = n := by omega
    subst e
    refine .inl ⟨hstop _ sm, ?_⟩
    rw [eys]
    exact fin D H0 hD s0 n0
theorem sub_own2 {x y : Str} {js : List Nat} {σ : St} {u v : V} : Sub (inSt [x, y] σ js) (((inSt [x, y] σ js).set 0 (some u)).set 1 (some v)) := fun j w h => by
  cases j with
  | zero => cases h
  | succ j =>
    cases j with
    | zero => cases h
    | succ j => exact h
theorem for_enum {K : PySem.W.Frag} {a : Addr} {xs : List V} {g : TG} {tb : TS} {D : Ends} {σ : St} {H : Hp} (Pv : Nat → St → Hp → Prop) (h0 : Pv 0 σ H) (hl : ∀ i σ H, i ≤ xs.length → Pv i σ H → SqL K H a xs)
    (hs : ∀ i x σ H T, xs[i]? = some x → Pv i σ H → H T = none → g (.ref T) σ (L2.upd H T (.tup [.int (i : Nat), x])) fun σ2 H2 => tb { D with nx := Pv (i + 1), ct := Pv (i + 1), bk := D.nx } σ2 H2) (hd : ∀ σ H, Pv xs.length σ H → D.nx σ H) :
    ∃ W : Nat → Nat → St → Hp → Prop, (∃ m, W 0 m σ H) ∧ ∀ i m σ H, W i m σ H →
      ((Ite K a).stop i H ∧ D.nx σ H) ∨ ((Ite K a).go i H ∧ ∃ N : St → Hp → Prop, (∀ σ' H', N σ' H' → ∃ m', m' < m ∧ W (i + 1) m' σ' H') ∧ ∀ x H', (Ite K a).yld i H x H' → g x σ H' fun σ2 H2 => tb { D with nx := N, ct := N, bk := D.nx } σ2 H2) := by
  refine ⟨fun i m σ H => m = xs.length - i ∧ i ≤ xs.length ∧ Pv i σ H, ⟨xs.length, by simp, Nat.zero_le _, h0⟩, ?_⟩
  rintro i m σ H ⟨rfl, hi, p⟩
  have q := hl i σ H hi p
  by_cases hlt : i < xs.length
  · refine .inr ⟨⟨xs, xs[i], q, List.getElem?_eq_getElem hlt⟩, Pv (i + 1), fun σ' H' p' => ⟨xs.length - (i + 1), by omega, rfl, hlt, p'⟩, fun x H' hy => ?_⟩
    obtain ⟨T, v, rfl, nT, rfl, hv⟩ := hy
    exact hs i v σ H T (hv xs q) p nT
  · have e : i = xs.length := by omega
    subst e
    exact .inl ⟨⟨xs, q, Nat.le_refl _⟩, hd σ H p⟩
theorem and_sub {n : Nat} {A B : List Int} (hA : M.IsSet n A) (hB : M.IsSet n B) : Builtin.bitAnd (M.bits A) (M.bits B) = M.bits A ↔ A ⊆ B := by
  unfold M.bits
  rw [bitAnd_pp (Int.natCast_nonneg _) (Int.natCast_nonneg _), ← M.bits_sub hA hB, Int.toNat_natCast, Int.toNat_natCast]
  exact ⟨fun h => Int.ofNat.inj h, fun h => by rw [h]⟩
theorem sub_all_dec {A B : List Int} : (A.map fun t => decide (t ∈ B)).all id = decide (A ⊆ B) := by
  rw [Bool.eq_iff_iff, List.all_eq_true, decide_eq_true_iff]
  constructor
  · intro h x hx
    exact of_decide_eq_true (h _ (List.mem_map.mpr ⟨x, hx, rfl⟩))
  · intro h b hb
    obtain ⟨x, hx, rfl⟩ := List.mem_map.mp hb
    exact decide_eq_true (h hx)
def CBig (i j : Int) : Prop := i.natAbs < 2 ^ 8000 ∧ j.natAbs < 2 ^ 8000
def CDivB (i j : Int) : Prop := 0 < j ∧ j.natAbs < 2 ^ 8000
theorem bits8000 {i : Int} (h : i.natAbs < 2 ^ 8000) : Builtin.Int.intBits i ≤ 2 ^ 20 := by
  unfold Builtin.Int.intBits
  by_cases hi : i = 0
  · subst hi
    exact Nat.zero_le _
  · rw [if_neg (by simpa using hi)]
    have h1 : i.natAbs.log2 < 8000 := (Nat.log2_lt (by omega)).mpr h
    omega
section
variable {X : Cx}
theorem op_mulB : OpR X (binaryOp .Mult) (rI CBig fun i j => .int (i * j)) := opI fun _ _ _ _ _ _ _ hc q => mul_int q (IntMulOk.of_bits (bits8000 hc.1) (bits8000 hc.2))
theorem op_fdivB : OpR X (binaryOp .FloorDiv) (rI CDivB fun i j => .int (i / j)) := opI fun i j _ _ _ _ _ hc q => by
  have h1 : (0 : Int) < j := hc.1
  have h2 : j.natAbs.log2 < 9000 := Nat.lt_trans ((Nat.log2_lt (by omega)).mpr hc.2) (by decide)
  exact floordiv_int (by omega) (by rw [Int.fdiv_eq_ediv_of_nonneg i (by omega)]; exact q) (.inl (PyProof.noPylong_of_log2 h2))
end
end L3

namespace L3
open PySem PySem.Spec PySem.W L2
open PyProof.Rows hiding St
section
variable {X : Cx}
theorem call_maxT (hc : X.calm = true) : CallR X (.builtin "max") (fun xs H Q => ∃ (p : Addr) (i j : Int), xs = [.ref p] ∧ SqT X.K H p [.int i, .int j] ∧ Q (.int (if j > i then j else i)) H) := by
  intro pins s σ H xs us Q I r h
  obtain ⟨p, i, j, rfl, hq, q⟩ := h
  obtain ⟨u, rfl, rx⟩ := vals1 r
  cases rx
  obtain ⟨its, rv, pl, hz⟩ := I.tuple hq
  obtain ⟨v1, v2, rfl, ⟨t, rfl⟩, ⟨t', rfl⟩⟩ := vals2 rv
  have hT : s.heap.IsTuple p (intItems #[(i, t), (j, t')]) := by
    have e : (intItems #[(i, t), (j, t')]) = [Value.int i t, Value.int j t'].toArray := by simp [intItems]
    rw [e]
    exact pl
  have hlt : p < s.heap.objs.size := by obtain ⟨_, e, _⟩ := hT; exact Heap.lt_size e
  refine call_max_walk (wpAny_pyIter_tuple hT ?_)
  refine ⟨s.heap.objs.size, [s.heap.objs.size, p], [s.heap.objs.size], _, _, _, _, rfl, Walks.tuple (A := X.A.in1) (I.ok.hd hc) _ p (Nat.ne_of_lt hlt) (intItems #[(i, t), (j, t')]),
    ⟨⟨_, Heap.get?_push_size _ rfl, rfl, rfl⟩, hT.push _⟩, fun c hc => ?_, by simp [intItems], CmpOf.ints_gt (numAt #[(i, t), (j, t')]) (fun _ _ => intItems_at), fun v h' tk hP hk => ?_⟩
  · show c < (s.heap.push _).objs.size
    rw [Heap.size_push]
    rcases List.mem_cons.mp hc with rfl | hc
    · exact Nat.lt_succ_self _
    · have e : c = p := by simpa using hc
      rw [e]
      exact Nat.lt_succ_of_lt hlt
  · have hP' : (intItems #[(i, t), (j, t')])[argBest (fun a b => decide (numAt #[(i, t), (j, t')] a > numAt #[(i, t), (j, t')] b)) 1]? = some v := by
      have hsz2 : (intItems #[(i, t), (j, t')]).size - 1 = 1 := by simp [intItems]
      rw [← hsz2]; exact hP
    have hv : RelV (.int (if j > i then j else i)) v := by
      by_cases hba : j > i
      · have e : argBest (fun a b => decide (numAt #[(i, t), (j, t')] a > numAt #[(i, t), (j, t')] b)) 1 = 1 := by simp [argBest, numAt, hba]
        rw [e] at hP'
        rw [if_pos hba]
        exact ⟨t', by simpa [intItems] using hP'.symm⟩
      · have e : argBest (fun a b => decide (numAt #[(i, t), (j, t')] a > numAt #[(i, t), (j, t')] b)) 1 = 0 := by simp [argBest, numAt, hba]
        rw [e] at hP'
        rw [if_neg hba]
        exact ⟨t, by simpa [intItems] using hP'.symm⟩
    exact ⟨.int (if j > i then j else i), H, I.kept (LSm.kept_iter hk), hv, q⟩
theorem call_minT (hc : X.calm = true) : CallR X (.builtin "min") (fun xs H Q => ∃ (p : Addr) (i j : Int), xs = [.ref p] ∧ SqT X.K H p [.int i, .int j] ∧ Q (.int (if j < i then j else i)) H) := by
  intro pins s σ H xs us Q I r h
  obtain ⟨p, i, j, rfl, hq, q⟩ := h
  obtain ⟨u, rfl, rx⟩ := vals1 r
  cases rx
  obtain ⟨its, rv, pl, hz⟩ := I.tuple hq
  obtain ⟨v1, v2, rfl, ⟨t, rfl⟩, ⟨t', rfl⟩⟩ := vals2 rv
  have hT : s.heap.IsTuple p (intItems #[(i, t), (j, t')]) := by
    have e : (intItems #[(i, t), (j, t')]) = [Value.int i t, Value.int j t'].toArray := by simp [intItems]
    rw [e]
    exact pl
  have hlt : p < s.heap.objs.size := by obtain ⟨_, e, _⟩ := hT; exact Heap.lt_size e
  refine call_min_walk (wpAny_pyIter_tuple hT ?_)
  refine ⟨s.heap.objs.size, [s.heap.objs.size, p], [s.heap.objs.size], _, _, _, _, rfl, Walks.tuple (A := X.A.in1) (I.ok.hd hc) _ p (Nat.ne_of_lt hlt) (intItems #[(i, t), (j, t')]),
    ⟨⟨_, Heap.get?_push_size _ rfl, rfl, rfl⟩, hT.push _⟩, fun c hc => ?_, by simp [intItems], CmpOf.ints_lt (numAt #[(i, t), (j, t')]) (fun _ _ => intItems_at), fun v h' tk hP hk => ?_⟩
  · show c < (s.heap.push _).objs.size
    rw [Heap.size_push]
    rcases List.mem_cons.mp hc with rfl | hc
    · exact Nat.lt_succ_self _
    · have e : c = p := by simpa using hc
      rw [e]
      exact Nat.lt_succ_of_lt hlt
  · have hP' : (intItems #[(i, t), (j, t')])[argBest (fun a b => decide (numAt #[(i, t), (j, t')] a < numAt #[(i, t), (j, t')] b)) 1]? = some v := by
      have hsz2 : (intItems #[(i, t), (j, t')]).size - 1 = 1 := by simp [intItems]
      rw [← hsz2]; exact hP
    have hv : RelV (.int (if j < i then j else i)) v := by
      by_cases hba : j < i
      · have e : argBest (fun a b => decide (numAt #[(i, t), (j, t')] a < numAt #[(i, t), (j, t')] b)) 1 = 1 := by simp [argBest, numAt, hba]
        rw [e] at hP'
        rw [if_pos hba]
        exact ⟨t', by simpa [intItems] using hP'.symm⟩
      · have e : argBest (fun a b => decide (numAt #[(i, t), (j, t')] a < numAt #[(i, t), (j, t')] b)) 1 = 0 := by simp [argBest, numAt, hba]
        rw [e] at hP'
        rw [if_neg hba]
        exact ⟨t, by simpa [intItems] using hP'.symm⟩
    exact ⟨.int (if j < i then j else i), H, I.kept (LSm.kept_iter hk), hv, q⟩
end
theorem comp_allN {own : List Str} {js : List Nat} {g : TG} {te : TE} {σ : St} {H1 : Hp} {J : It} {vs : List V} {Q : VK} (W : Walk J H1 vs) (hz : vs.length ≤ sizeLine) (R : Hp → V → V → Prop) (mono : ∀ H H' x y, Same H H' → R H x y → R H' x y)
    (step : ∀ x H' D ys, x ∈ vs → H1 D = none → Same H1 H' → H' D = some (.lst ys) → ∀ (N : VK), (∀ v H4, Same H' H4 → R (del H4 D) x v → N v H4) → g x (inSt own σ js) H' fun σ2 H2 => Sub (inSt own σ js) σ2 ∧ te σ2 H2 N)
    (fin : ∀ D H0 ys, H1 D = none → Same H1 H0 → H0 D = none → Paired (R H0) vs ys → Q (.ref D) (L2.upd H0 D (.lst ys))) : CompTo own js g tYes te σ J H1 Q := by
  intro D hD
  refine ⟨fun i m H ys => (∃ H0, Same H1 H0 ∧ H0 D = none ∧ H = L2.upd H0 D (.lst ys) ∧ Paired (R H0) (vs.take i) ys) ∧ m = vs.length - i ∧ i ≤ vs.length,
    ⟨vs.length, ⟨H1, Same.refl _, hD, rfl, .nil⟩, by simp, Nat.zero_le _⟩, ?_⟩
  rintro i m H ys ⟨⟨H0, s0, n0, rfl, hp⟩, rfl, hi⟩
  have sm : Same H1 (L2.upd H0 D (.lst ys)) := Same.upd s0 hD
  refine ⟨upd_same, ?_⟩
  by_cases hlt : i < vs.length
  · refine .inr ⟨W.go i _ sm hlt, ?_, fun x H' hy => ?_⟩
    · have h1 := hp.length
      rw [List.length_take] at h1
      omega
    · obtain ⟨rfl, hx⟩ := W.yld i _ x H' hy sm hlt
      have key := step x _ D ys (List.mem_of_getElem? hx) hD sm upd_same (fun v H4 => H4 D = some (.lst ys) ∧ ∃ m', m' < vs.length - i ∧ ((∃ H0, Same H1 H0 ∧ H0 D = none ∧ L2.upd H4 D (.lst (ys ++ [v])) = L2.upd H0 D (.lst (ys ++ [v])) ∧ Paired (R H0) (vs.take (i + 1)) (ys ++ [v])) ∧ m' = vs.length - (i + 1) ∧ i + 1 ≤ vs.length)) ?_
      · exact key
      · intro v H4 s4 hR
        have hD4 : H4 D = some (.lst ys) := s4 _ _ upd_same
        have s04 : Same H0 (del H4 D) := fun b o e => by
          have nb : b ≠ D := ne_of_none e n0
          rw [del_ne nb]
          exact s4 b o (by rw [upd_ne nb]; exact e)
        refine ⟨hD4, vs.length - (i + 1), by omega, ⟨del H4 D, s0.trans s04, del_at, ?_, ?_⟩, rfl, hlt⟩
        · conv => lhs; rw [← upd_del hD4]
          rw [upd_upd]
        · rw [take_snoc hx]
          exact paired_snoc (Paired.imp' (fun a b q => mono _ _ a b s04 q) hp) hR
  · have e : i = vs.length := by omega
    subst e
    rw [List.take_length] at hp
    exact .inl ⟨W.stop _ _ sm (Nat.le_refl _), fin D H0 ys hD s0 n0 hp⟩
end L3

namespace L3
open PySem PySem.Spec PySem.W L2
open PyProof.Rows hiding St
theorem draws_str {prog : Program} {w : World} {A : Around} (hh : A.handled = none) (it : Addr) (x : Str) (t : Tok) :
    Draws prog w A it [it] x.cps.size (fun i v => ∃ c u, x.cps[i]? = some c ∧ v = .str ⟨#[c]⟩ u) (fun i h => h.IsStrIter it (strIterType x) x t i) := by
  unfold strIterType
  cases ha : x.cps.all (· < 128)
  · exact Draws.strWide hh it x t
  · exact Draws.strAscii hh it x t
def Its (x : Str) : It :=
  ⟨fun i _ => i < x.cps.size, fun i H v H' => ∃ T c, v = .ref T ∧ H T = none ∧ H' = upd H T (.tup [.int (i : Nat), .str ⟨#[c]⟩]) ∧ x.cps[i]? = some c, fun i _ => i = x.cps.size⟩
theorem turn_enumS {P : Program} {w : World} {K : PySem.W.Frag} {es : List Expr} {k1 : Nat} {pos : Pos} (x : Str) (t : Tok) (e it : Addr) (hei : e ≠ it) :
    Turn P w K (.Tuple es k1 pos) (Its x) [e, it] e (fun i h => (∃ old, IsEnum h e it (i : Nat) old) ∧ h.IsStrIter it (strIterType x) x t i) where
  mem := by simp
  obj := fun i h st b hb => by
    obtain ⟨⟨old, he⟩, o, e1, c, d⟩ := st
    rcases List.mem_cons.mp hb with z | z
    · subst z
      exact ⟨_, he, fun v z => by
        have z' : Data.fields _ = Data.cell v := z
        cases z'⟩
    · have z' : b = it := by simpa using z
      subst z'
      exact ⟨o, e1, fun v z => by rw [d] at z; cases z⟩
  keep := fun i h h' st k => by
    obtain ⟨⟨old, he⟩, o, ho, r⟩ := st
    exact ⟨⟨old, k e (by simp) _ he⟩, o, k it (by simp) o ho, r⟩
  item := by
    intro X hP hw hK hc i pins s σ H E I hf st hg
    subst hP hw hK
    obtain ⟨⟨old, he⟩, hit⟩ := st
    have D := draws_str (prog := X.prog) (w := X.w) (A := X.A.in1) (I.ok.hd hc) it x t
    refine wpAny_pyNext_enum_itemD D he hit hg hei (by simp [hei]) fun u h' tk hP ho hit' hT hsz hk => ?_
    obtain ⟨c, t', hx, rfl⟩ := hP
    refine ⟨_, rfl, wpAny_letOwnedTupleGo_enum ho fun h2 he2 hs2 => ?_⟩
    have helt : e < s.heap.objs.size := Heap.lt_size he
    have hilt : it < s.heap.objs.size := by obtain ⟨_, x, _⟩ := hit; exact Heap.lt_size x
    have nT : H s.heap.objs.size = none := I.hok.fresh (Nat.le_refl _)
    have kk : ∀ b o, b ∉ [e, it] → s.heap.get? b = some o → h2.get? b = some o := fun b o hb q => by
      have n1 : b ≠ e := fun z => hb (by simp [z])
      have n2 : b ≠ it := fun z => hb (by simp [z])
      exact (hs2.2 b n1).trans (hk b o n1 n2 q)
    have hT2 : h2.get? s.heap.objs.size = some { cls := .type "tuple", data := .seq #[.int i tk, .str ⟨#[c]⟩ t'] } := (hs2.2 _ (Nat.ne_of_gt helt)).trans hT
    refine ⟨.ref s.heap.objs.size, upd H s.heap.objs.size (.tup [.int (i : Nat), .str ⟨#[c]⟩]), ?_, rfl, ⟨_, c, rfl, nT, rfl, hx⟩, ⟨⟨_, by simpa using he2⟩, ?_⟩, fun b hb => ?_⟩
    · show Inv X pins σ _ { s with heap := h2, toks := tk + 1 }
      refine turnedNew (t' := tk + 1) I kk hf (Nat.le_refl _) ?_
      exact ⟨by show 2 ≤ sizeLine; decide, [.int i tk, .str ⟨#[c]⟩ t'], .cons ⟨tk, rfl⟩ (.cons ⟨t', rfl⟩ .nil), _, hT2, rfl, 0, rfl⟩
    · obtain ⟨o, ho', r⟩ := hit'
      exact ⟨o, (hs2.2 it hei.symm).trans ho', r⟩
    · have := (hf b hb).1
      rw [upd_ne (fun z => ?_)]
      · exact this
      · rcases List.mem_cons.mp hb with q | q
        · rw [q] at z; exact absurd z (Nat.ne_of_lt helt)
        · have q' : b = it := by simpa using q
          rw [q'] at z; exact absurd z (Nat.ne_of_lt hilt)
  done := by
    intro X hP hw hK hc i pins s σ H E I hf st hg
    subst hP hw hK
    obtain ⟨⟨old, he⟩, hit⟩ := st
    have D := draws_str (prog := X.prog) (w := X.w) (A := X.A.in1) (I.ok.hd hc) it x t
    have hg' : i = x.cps.size := hg
    rw [hg'] at hit
    refine wpAny_pyNext_enum_endD D he hit fun h' eb => ⟨rfl, ?_⟩
    exact turnedL (t' := s.toks) I (fun b o hb q => eb b o (fun z => hb (by simp [z])) q) hf
  self := fun _ _ _ _ _ st h => by
    obtain ⟨⟨old, he⟩, hit⟩ := st
    exact wpAny_pyIter_enum he h
def iEnumS (ta : TA) : TI := fun σ H R => ta σ H fun vs H1 => ∃ x : Str, vs = [.str x] ∧ R (Its x) H1
section
variable {X : Cx}
theorem pi_enumS {es : List Expr} {k1 : Nat} {tpos : Pos} {a : Expr} {ta : TA} {p pos : Pos} (hg : Gl X "enumerate") (hm : X.mg "enumerate" = none) (ha : PA X [a] ta) (hs : starEach [a] X.env = [(false, eval a X.env)] := by rfl) :
    PI X (.Tuple es k1 tpos) (.Call (.Name "enumerate" p) [a] [] pos) (iEnumS ta) := by
  intro pins s σ H R I h
  refine Call_ (ld_blt I hg hm boot_enumerate' (PyProof.Rows.callWith_type1 (thn (ha pos pins s σ H _ I h) fun us s1 ⟨vs, H1, I1, r1, q1⟩ => ?_) hs rfl))
  obtain ⟨x, e, q⟩ := q1
  subst e
  cases r1 with
  | cons r rr =>
    cases rr
    obtain ⟨t, rfl⟩ := r
    refine call_enumerate_str fun h' he hit hsz hk => ?_
    refine wpAny_pyIter_enum he ?_
    have I2 : Inv X pins σ H1 { s1 with heap := h' } := I1.kept (t' := s1.toks) hk
    refine ⟨s1.heap.objs.size + 1, [s1.heap.objs.size + 1, s1.heap.objs.size], _, _, H1, rfl, I2, turn_enumS x t _ _ (Nat.ne_of_gt (Nat.lt_succ_self _)), ⟨⟨_, he⟩, hit⟩, fun c hc => ?_, q⟩
    rcases List.mem_cons.mp hc with z | z
    · subst z
      exact I1.fpOk (Nat.le_succ _) (I1.hok.fresh (Nat.le_succ _))
    · have z' : c = s1.heap.objs.size := by simpa using z
      subst z'
      exact I1.fpOk (Nat.le_refl _) (I1.hok.fresh (Nat.le_refl _))
theorem strs_of : ∀ {ts : List Str} {us : List Value}, Vals (ts.map V.str) us → ∃ l : List (Str × Tok), us = strValues l ∧ l.map (·.1) = ts
  | [], us, r => by
    cases r
    exact ⟨[], rfl, rfl⟩
  | t :: ts, us, r => by
    cases r with
    | cons r rr =>
      obtain ⟨k, rfl⟩ := r
      obtain ⟨l, h1, h2⟩ := strs_of rr
      exact ⟨(t, k) :: l, by rw [h1]; rfl, by rw [List.map_cons, h2]⟩
theorem mt_join : MtR X "str.join" (fun x xs H Q => ∃ (sep : Str) (p : Addr) (ts : List Str), x = .str sep ∧ xs = [.ref p] ∧ SqL X.K H p (ts.map V.str) ∧ JoinOk sep ts = true ∧ Q (.str (Txt.join sep ts)) H) := by
  intro pins s σ H x xs v us Q I rx rv h
  obtain ⟨sep, p, ts, rfl, rfl, hq, hok, q⟩ := h
  obtain ⟨t, rfl⟩ := rx
  obtain ⟨u, rfl, ru⟩ := rv.one
  cases ru
  obtain ⟨its, r2, pl, hz⟩ := I.list hq
  obtain ⟨l, rfl, hl⟩ := strs_of r2
  exact SC.join pl.isList hl hok fun t' k => ⟨.str (Txt.join sep ts), H, I.tok k, ⟨t', rfl⟩, q⟩
end
def sgn (c : Nat) : Str := ⟨#[c]⟩
def txt (cs : List Nat) : Str := ⟨cs.toArray⟩
theorem glued_signs : ∀ cs : List Nat, Txt.join ⟨#[]⟩ (cs.map sgn) = txt cs := by
  intro cs
  unfold Txt.join Builtin.Str.glued txt
  have go : ∀ (cs : List Nat) (acc : Array Nat), (cs.map sgn).foldl (fun acc p => acc ++ (#[] : Array Nat) ++ p.cps) acc = acc ++ cs.toArray := by
    intro cs
    induction cs with
    | nil => intro acc; simp
    | cons c cs ih =>
      intro acc
      rw [List.map_cons, List.foldl_cons, ih]
      simp [sgn]
  cases cs with
  | nil => rfl
  | cons c cs =>
    congr 1
    show (cs.map sgn).foldl (fun acc p => acc ++ (#[] : Array Nat) ++ p.cps) (sgn c).cps = _
    rw [go]
    simp [sgn]
theorem signs_ok {cs : List Nat} (h : cs.length ≤ 1000) : JoinOk ⟨#[]⟩ (cs.map sgn) = true := by
  refine joinOk_of ?_
  have e : ∀ cs : List Nat, ((cs.map sgn).map (·.length)).sum = cs.length := by
    intro cs
    induction cs with
    | nil => rfl
    | cons c cs ih =>
      rw [List.map_cons, List.map_cons, List.sum_cons, ih, List.length_cons]
      show 1 + cs.length = _
      omega
  rw [e, List.length_map]
  show cs.length + cs.length * 0 ≤ _
  omega
theorem txt_len (cs : List Nat) : (txt cs).length = cs.length := by unfold txt Str.length; simp
theorem txt_add (cs ds : List Nat) : txt cs ++ txt ds = txt (cs ++ ds) := by
  show Str.append _ _ = _
  unfold Str.append txt
  simp
theorem txt_inj {cs ds : List Nat} (h : txt cs = txt ds) : cs = ds := by
  have := congrArg (fun s => s.cps.toList) h
  simpa [txt] using this
theorem for_enumS {cs : List Nat} {g : TG} {tb : TS} {D : Ends} {σ : St} {H : Hp} (Pv : Nat → St → Hp → Prop) (h0 : Pv 0 σ H)
    (hs : ∀ i c σ H T, cs[i]? = some c → Pv i σ H → H T = none → g (.ref T) σ (L2.upd H T (.tup [.int (i : Nat), .str (sgn c)])) fun σ2 H2 => tb { D with nx := Pv (i + 1), ct := Pv (i + 1), bk := D.nx } σ2 H2) (hd : ∀ σ H, Pv cs.length σ H → D.nx σ H) :
    ∃ W : Nat → Nat → St → Hp → Prop, (∃ m, W 0 m σ H) ∧ ∀ i m σ H, W i m σ H →
      ((Its (txt cs)).stop i H ∧ D.nx σ H) ∨ ((Its (txt cs)).go i H ∧ ∃ N : St → Hp → Prop, (∀ σ' H', N σ' H' → ∃ m', m' < m ∧ W (i + 1) m' σ' H') ∧ ∀ x H', (Its (txt cs)).yld i H x H' → g x σ H' fun σ2 H2 => tb { D with nx := N, ct := N, bk := D.nx } σ2 H2) := by
  have sz : (txt cs).cps.size = cs.length := by simp [txt]
  refine ⟨fun i m σ H => m = cs.length - i ∧ i ≤ cs.length ∧ Pv i σ H, ⟨cs.length, by simp, Nat.zero_le _, h0⟩, ?_⟩
  rintro i m σ H ⟨rfl, hi, p⟩
  by_cases hlt : i < cs.length
  · refine .inr ⟨(by show i < (txt cs).cps.size; omega), Pv (i + 1), fun σ' H' p' => ⟨cs.length - (i + 1), by omega, rfl, hlt, p'⟩, fun x H' hy => ?_⟩
    obtain ⟨T, c, rfl, nT, rfl, hv⟩ := hy
    exact hs i c σ H T (by simpa [txt] using hv) p nT
  · have e : i = cs.length := by omega
    subst e
    exact .inl ⟨(by show cs.length = (txt cs).cps.size; omega), hd σ H p⟩
end L3

namespace PySem.SeqAt
open AutoSeq1 (wpAny_loadPart')
open MeetsSeq MeetsSeq2 MeetsSeq3
theorem lt_loopB (l b : Addr) (bs cs : List Bool) (n n2 : Nat) (dd dd2 : Option Addr) (sl sl2 : Array (Option Value)) (hsz : bs.length = cs.length) (k : Nat) :
    ∀ i : Nat, bs.length - i = k → Meets (Builtin.«list.__eq__.loop» ⟨[.ref l, .ref b, rawInt i, rawInt 0], []⟩)
      (fun A R s => s.heap.get? l = some { cls := .type "list", dict := dd, data := .seq (bs.map Value.bool).toArray n, slots := sl } ∧ s.heap.get? b = some { cls := .type "list", dict := dd2, data := .seq (cs.map Value.bool).toArray n2, slots := sl2 } ∧
        R (.ok (.ret (.bool (M.bltB (bs.drop i) (cs.drop i))))) s) := by
  induction k with
  | zero =>
    intro i hk prog w A R s h
    obtain ⟨hp, g, d, tk, os⟩ := s; obtain ⟨hl, hb, h⟩ := h
    wp_walk using wpAny_loadPart' hl, wpAny_loadPart' hb
    have hi1 : (bs.map Value.bool).toArray[((i : Nat) : Int).toNat]? = none := by simp; omega
    have hi2 : (cs.map Value.bool).toArray[((i : Nat) : Int).toNat]? = none := by simp; omega
    have hd : bs.drop i = [] := by simp; omega
    rw [hd] at h
    rw [hi1, hi2]
    wp_walk using wpAny_loadPart' hl, wpAny_loadPart' hb
    show R (.ok (.ret (.bool (decide ((bs.map Value.bool).toArray.size < (cs.map Value.bool).toArray.size))))) _
    have e : decide ((bs.map Value.bool).toArray.size < (cs.map Value.bool).toArray.size) = false := decide_eq_false (by simp [hsz])
    rw [e]
    exact h
  | succ k ih =>
    intro i hk prog w A R s h
    obtain ⟨hp, g, d, tk, os⟩ := s; obtain ⟨hl, hb, h⟩ := h
    wp_walk using wpAny_loadPart' hl, wpAny_loadPart' hb
    have hlt : i < bs.length := by omega
    have hlt2 : i < cs.length := by omega
    have hi1 : (bs.map Value.bool).toArray[((i : Nat) : Int).toNat]? = some (.bool bs[i]) := by simp [hlt]
    have hi2 : (cs.map Value.bool).toArray[((i : Nat) : Int).toNat]? = some (.bool cs[i]) := by simp [hlt2]
    have hd1 : bs.drop i = bs[i] :: bs.drop (i + 1) := List.drop_eq_getElem_cons hlt
    have hd2 : cs.drop i = cs[i] :: cs.drop (i + 1) := List.drop_eq_getElem_cons hlt2
    have hc : ((i : Int) + 1) = ((i + 1 : Nat) : Int) := by push_cast; rfl
    rw [hd1, hd2] at h
    unfold M.bltB at h
    rw [hi1, hi2]
    refine wpAny_bind (EqAt.bool_bool bs[i] cs[i] prog w _ _ ?_)
    by_cases hb' : bs[i] = cs[i]
    · rw [if_pos hb'] at h
      rw [hb', beq_self_eq_true]
      wp_walk
      rw [hc]
      exact ⟨plainId_quiet plain_eq_loop _, codeAny_builtin entry_eq_loop (by
        rw [Around.under_plainId plain_eq_loop _]
        exact ih (i + 1) (by omega) prog w A R _ ⟨hl, hb, h⟩)⟩
    · rw [if_neg hb'] at h
      rw [beq_eq_false_iff_ne.mpr hb']
      have hri : ∀ (E : Value → Shared → Prop) (Q : Value → Shared → Prop), Q (.bool (!bs[i] && cs[i])) ⟨hp, g, d, tk, os⟩ → wpAny (model prog w) A.in1 (richCompare .Lt (.bool bs[i]) (.bool cs[i])) Q E ⟨hp, g, d, tk, os⟩ := fun E Q hq => by
        refine PyProof.Rows.lt_bool ?_
        have e : decide (PyProof.Rows.b2i bs[i] < PyProof.Rows.b2i cs[i]) = (!bs[i] && cs[i]) := by
          cases bs[i] <;> cases cs[i] <;> rfl
        rw [e]
        exact hq
      wp_walk using wpAny_loadPart' hl, wpAny_loadPart' hb
      rw [hi1, hi2]
      refine wpAny_bind (hri _ _ ?_)
      wp_walk
      exact h
theorem list_ltB (l b : Addr) (bs cs : List Bool) (n n2 : Nat) (dd dd2 : Option Addr) (sl sl2 : Array (Option Value)) (hsz : bs.length = cs.length) :
    Meets (Builtin.«list.__lt__» ⟨[.ref l, .ref b], []⟩)
      (fun A R s => s.heap.get? l = some { cls := .type "list", dict := dd, data := .seq (bs.map Value.bool).toArray n, slots := sl } ∧ s.heap.get? b = some { cls := .type "list", dict := dd2, data := .seq (cs.map Value.bool).toArray n2, slots := sl2 } ∧
        R (.ok (.ret (.bool (M.bltB bs cs)))) s) := by
  intro prog w A R s h
  obtain ⟨hp, g, d, tk, os⟩ := s; obtain ⟨hl, hb, h⟩ := h
  have f3 := AutoSeq1.sub_list_list
  wp_walk using wpAny_loadPart' hl, wpAny_loadPart' hb
  exact ⟨plainId_quiet plain_eq_loop _, codeAny_builtin entry_eq_loop (by
    rw [Around.under_plainId plain_eq_loop _]
    exact lt_loopB l b bs cs n n2 dd dd2 sl sl2 hsz _ 0 rfl prog w A R _ ⟨hl, hb, by simpa using h⟩)⟩
end PySem.SeqAt
namespace L3
open PySem PySem.Spec PySem.W L2
open PyProof.Rows hiding St
def rBl : Hp → V → Bool → Prop := fun _ x d => x = .bl d
theorem deq_bl (n : Nat) (K : PySem.W.Frag) : Deq n K rBl where
  eq := fun {X pins σ H s x y v u d e A} _ _ _ hx hy rx ry => by
    have hx : x = .bl d := hx
    have hy : y = .bl e := hy
    subst hx hy
    cases rx
    cases ry
    rw [← Bool.beq_eq_decide_eq]
    exact SeqAt.EqAt.bool_bool d e
  un := fun {X pins σ H s x d e} _ _ h1 h2 => by
    have h1 : x = .bl d := h1
    have h2 : x = .bl e := h2
    rw [h1] at h2
    exact V.bl.inj h2
theorem pbls (H : Hp) : ∀ zs : List Bool, Paired (rBl H) (zs.map V.bl) zs
  | [] => .nil
  | _ :: zs => .cons rfl (pbls H zs)
theorem bools_of : ∀ {bs : List Bool} {us : List Value}, Vals (bs.map V.bl) us → us = bs.map Value.bool
  | [], us, r => by
    cases r
    rfl
  | b :: bs, us, r => by
    cases r with
    | cons r rr =>
      cases r
      rw [bools_of rr]
      rfl
def tripAt (H : Hp) (x : V) (t : M.Trip) : Prop := ∃ a b c, x = .ref a ∧ H a = some (.tup [.int t.1, .ref b, .ref c]) ∧ H b = some (.lst (t.2.1.map V.bl)) ∧ H c = some (.lst (t.2.2.map V.int))
theorem tripAt_same {H H' : Hp} (e : Same H H') {xs : List V} {ts : List M.Trip} (h : Paired (tripAt H) xs ts) : Paired (tripAt H') xs ts :=
  Paired.imp' (fun x p ⟨a, b, c, e1, e2, e3, e4⟩ => ⟨a, b, c, e1, e a _ e2, e b _ e3, e c _ e4⟩) h
abbrev TripN (n : Nat) := { t : M.Trip // t.2.1.length = n }
def ordT (n : Nat) : PreO (TripN n) where
  lt a b := M.ltT a.1 b.1
  le a b := M.leT a.1 b.1
  refl a := M.leT_refl _
  trans _ _ _ := M.leT_trans
  yes a b h := M.lt_le h
  no a b h := M.nlt_le a.2 b.2 h
def tripsN {n : Nat} (ts : List M.Trip) (h : ∀ t ∈ ts, t.2.1.length = n) : List (TripN n) := ts.pmap (fun t ht => ⟨t, ht⟩) h
theorem tripsN_val {n : Nat} {ts : List M.Trip} (h : ∀ t ∈ ts, t.2.1.length = n) : (tripsN ts h).map (·.1) = ts := by
  unfold tripsN
  rw [List.map_pmap]
  induction ts with
  | nil => rfl
  | cons t ts ih => rw [List.pmap_cons, ih]
section
variable {X : Cx} {pins : List (Addr × Obj)} {σ : St} {H : Hp} {s : Shared}
theorem trip_obj (I : Inv X pins σ H s) {x : V} {v : Value} {p : M.Trip} (h : tripAt H x p) (r : RelV x v) :
    ∃ a b c o n t, v = .ref a ∧ s.heap.get? a = some o ∧ o.cls = .type "tuple" ∧ o.data = .seq #[.int p.1 t, .ref b, .ref c] n ∧ H b = some (.lst (p.2.1.map V.bl)) ∧ H c = some (.lst (p.2.2.map V.int)) := by
  obtain ⟨a, b, c, rfl, e, eb, ec⟩ := h
  cases r
  obtain ⟨_, its, rv, o, ho, hc, n, hd⟩ := (show ObjOk X.prog X.w H s.heap a (.tup [.int p.1, .ref b, .ref c]) from I.hok a _ e)
  cases rv with
  | cons r1 rv =>
    cases rv with
    | cons r2 rv =>
      cases rv with
      | cons r3 rv =>
        cases rv
        obtain ⟨t, rfl⟩ := r1
        cases r2
        cases r3
        exact ⟨a, b, c, o, n, t, rfl, ho, hc, hd, eb, ec⟩
theorem trips_tups (I : Inv X pins σ H s) {g : Heap} (hk : ∀ b o, s.heap.get? b = some o → g.get? b = some o) : ∀ {xs : List V} {vs : List Value} {ps : List M.Trip}, Vals xs vs → Paired (tripAt H) xs ps →
    ∃ fs : List Value, KatTups g vs fs ∧ fs.length = vs.length ∧ ∀ f ∈ fs, ∃ i t, f = Value.int i t
  | _, _, _, .nil, .nil => ⟨[], KatTups.nil, rfl, (fun _ h => nomatch h)⟩
  | _, _, _, .cons r rr, .cons h hh => by
    obtain ⟨a, b, c, o, n, t, rfl, ho, hc, hd, _, _⟩ := trip_obj I h r
    obtain ⟨fs, h1, h2, h3⟩ := trips_tups I hk rr hh
    refine ⟨_, KatTups.cons (f := .int _ t) (hk _ _ ho) hc hd rfl h1, by simp [h2], fun f hf => ?_⟩
    rcases List.mem_cons.mp hf with rfl | hf
    · exact ⟨_, _, rfl⟩
    · exact h3 f hf
theorem lt_flags (I : Inv X pins σ H s) {A : Around} {E : Value → Shared → Prop} {b b' : Addr} {r r' : List Bool} {Q : Value → Shared → Prop} (hu : A.units < cLine) (h1 : H b = some (.lst (r.map V.bl))) (h2 : H b' = some (.lst (r'.map V.bl))) (hl : r.length = r'.length)
    (h : Q (.bool (M.bltB r r')) s) : wpAny (model X.prog X.w) A (compareOp .Lt (.ref b) (.ref b')) Q E s := by
  obtain ⟨_, its, n, rv, ho⟩ := (show ObjOk X.prog X.w H s.heap b (.lst (r.map V.bl)) from I.hok b _ h1)
  obtain ⟨_, its2, n2, rv2, ho2⟩ := (show ObjOk X.prog X.w H s.heap b' (.lst (r'.map V.bl)) from I.hok b' _ h2)
  rw [bools_of rv] at ho
  rw [bools_of rv2] at ho2
  exact richCompare_meets_room (op := .Lt) ⟨_, ho, rfl⟩ ⟨_, ho2, rfl⟩ PySem.F.slot_list_lt PySem.F.entry_list_lt (PySem.F.args_list_lt_2 _ _) (SeqAt.list_ltB b b' r r' n n2 none none #[] #[] hl)
    ⟨ho, ho2, show Value.bool (M.bltB r r') ≠ Value.notImplemented ∧ Q (.bool (M.bltB r r')) s from ⟨(fun x => nomatch x), h⟩⟩ hu
theorem call_sortT (hu : X.A.units + 8 < cLine) : CallR X (.builtin "sorted") (fun xs H Q => ∃ (l : Addr) (n : Nat) (ts : List M.Trip), xs = [.ref l] ∧ (∃ xs, SqL X.K H l xs ∧ Paired (tripAt H) xs ts) ∧ M.RowsOf n ts ∧ (∀ x ∈ ts, ∀ y ∈ ts, x.2.1 = y.2.1 → x = y) ∧ ts.length < 64 ∧
    ∀ (p : Addr) (ys : List V), H p = none → Paired (tripAt (upd H p (.lst ys))) ys (M.sortT ts) → Q (.ref p) (upd H p (.lst ys))) := by
  intro pins s σ H xs us Q I r h
  obtain ⟨l, n, ps, rfl, ⟨xs, hq, hp⟩, hr0, hinj, hl, q⟩ := h
  have hr : ∀ t ∈ ps, t.2.1.length = n := hr0
  obtain ⟨u, rfl, ru⟩ := vals1 r
  cases ru
  obtain ⟨its, rv, pl, hz⟩ := I.list hq
  have n1 : xs.length = ps.length := hp.length
  have n2 : its.length = ps.length := by rw [← rv.length]; exact n1
  have nN : (tripsN ps hr).length = ps.length := by unfold tripsN; simp
  have dT : TripN n := ⟨(0, List.replicate n false, []), by simp⟩
  have gN : ∀ i (h : i < ps.length), ((tripsN ps hr).getD i dT).1 = ps[i] := fun i h => by
    have e : (tripsN ps hr)[i]? = some ⟨ps[i], hr _ (List.getElem_mem h)⟩ := by unfold tripsN; simp [h]
    rw [List.getD_eq_getElem?_getD, e]
    rfl
  refine sorted_any (O := ordT n) (k := fun i => (tripsN ps hr).getD i dT) pl.isList (by omega) (fun hge g hk => ?_) fun p hpm hup => ?_
  · obtain ⟨fs, t1, t2, t3⟩ := trips_tups I hk rv hp
    refine kat_kind (T := .type "int") t1 (by omega) (fun f hf => ?_) rfl ?_
    · obtain ⟨i, t, rfl⟩ := t3 f hf
      exact Looks.now
    · refine ⟨rfl, fun i j hi hj C hC => ?_⟩
      have gi : i < xs.length := by omega
      have gj : j < xs.length := by omega
      have ri := paired_get rv i gi hi
      have rj := paired_get rv j gj hj
      have pi' := paired_get hp i gi (by omega)
      have pj' := paired_get hp j gj (by omega)
      obtain ⟨a, b, c, oa, na, ta, ea, ha, _, da, eb1, ec1⟩ := trip_obj I pi' ri
      obtain ⟨a2, b2, c2, ob, nb, tb, eb, hb, _, db, eb2, ec2⟩ := trip_obj I pj' rj
      have e1 : its.getD i Value.none = .ref a := by rw [← ea]; simp [hi]
      have e2 : its.getD j Value.none = .ref a2 := by rw [← eb]; simp [hj]
      have I2 : Inv X pins σ H { s with heap := g } := I.kept (t' := s.toks) hk
      have lr : (ps[i]'(by omega)).2.1.length = (ps[j]'(by omega)).2.1.length := by rw [hr _ (List.getElem_mem _), hr _ (List.getElem_mem _)]
      have hCe : (ordT n).lt ((tripsN ps hr).getD i dT) ((tripsN ps hr).getD j dT) = M.ltT (ps[i]'(by omega)) (ps[j]'(by omega)) := by
        show M.ltT _ _ = _
        rw [gN i (by omega), gN j (by omega)]
      unfold kas_ask
      rw [e1, e2]
      rw [hCe] at hC
      have hA2 : X.A.in1.in1.units = X.A.units + 2 := rfl
      refine kat_lt (s := { s with heap := g }) (hk _ _ ha) da (hk _ _ hb) db ?_
      refine kat_cons (wpAny_eqBool_int ?_)
      by_cases q1 : (ps[i]'(by omega)).1 = (ps[j]'(by omega)).1
      · have b1 : ((ps[i]'(by omega)).1 == (ps[j]'(by omega)).1) = true := by rw [q1]; exact beq_self_eq_true _
        rw [b1]
        refine kat_yes (kat_cons ?_)
        have deqB := (deq_ls (deq_bl 0 X.K)).eq (A := X.A.in1.in1) rfl I2 (by omega) (x := .ref b) (y := .ref b2) (v := .ref b) (u := .ref b2) ⟨b, _, rfl, SqL.of eb1, pbls _ _⟩ ⟨b2, _, rfl, SqL.of eb2, pbls _ _⟩ rfl rfl
        refine deqB _ _ _ _ ?_
        by_cases q2 : (ps[i]'(by omega)).2.1 = (ps[j]'(by omega)).2.1
        · rw [decide_eq_true q2]
          have et : ps[i]'(by omega) = ps[j]'(by omega) := hinj _ (List.getElem_mem _) _ (List.getElem_mem _) q2
          refine kat_yes (kat_cons ?_)
          have deqI := (deq_ls (deq_int 0 X.K)).eq (A := X.A.in1.in1) rfl I2 (by omega) (x := .ref c) (y := .ref c2) (v := .ref c) (u := .ref c2) ⟨c, _, rfl, SqL.of ec1, pints _ _⟩ ⟨c2, _, rfl, SqL.of ec2, pints _ _⟩ rfl rfl
          refine deqI _ _ _ _ ?_
          have e3 : (ps[i]'(by omega)).2.2 = (ps[j]'(by omega)).2.2 := by rw [et]
          rw [decide_eq_true e3]
          refine kat_yes (kat_nil ?_)
          have : M.ltT (ps[i]'(by omega)) (ps[j]'(by omega)) = decide ((#[Value.int (ps[i]'(by omega)).1 ta, .ref b, .ref c] : Array Value).size < (#[Value.int (ps[j]'(by omega)).1 tb, .ref b2, .ref c2] : Array Value).size) := by
            rw [et]
            unfold M.ltT
            rw [if_pos rfl]
            have bb : ∀ z : List Bool, M.bltB z z = false := fun z => by
              induction z with
              | nil => rfl
              | cons x z ih => unfold M.bltB; rw [if_pos rfl]; exact ih
            rw [bb]
            rfl
          rw [this] at hC
          exact hC
        · rw [decide_eq_false q2]
          refine kat_no (kat_one _ _ (lt_flags I2 (by omega) eb1 eb2 lr ?_))
          have : M.ltT (ps[i]'(by omega)) (ps[j]'(by omega)) = M.bltB (ps[i]'(by omega)).2.1 (ps[j]'(by omega)).2.1 := by unfold M.ltT; rw [if_pos q1]
          rw [this] at hC
          exact hC
      · have b1 : ((ps[i]'(by omega)).1 == (ps[j]'(by omega)).1) = false := beq_eq_false_iff_ne.mpr q1
        rw [b1]
        refine kat_no (oneLt_int ?_)
        have : M.ltT (ps[i]'(by omega)) (ps[j]'(by omega)) = decide ((ps[i]'(by omega)).1 < (ps[j]'(by omega)).1) := by unfold M.ltT; rw [if_neg q1]
        rw [this] at hC
        exact hC
  · rw [n2] at hpm hup
    obtain ⟨ep, hat⟩ := sortedAll_at s.heap its (p.toList.map fun i => its.getD i Value.none).toArray
    have ixs : ∀ i ∈ p.toList, i < xs.length := fun i hi => by
      have h1 : p.toList.Perm (List.range ps.length) := by
        have := Array.perm_iff_toList_perm.mp hpm
        simpa using this
      have := List.mem_range.mp (h1.mem_iff.mp hi)
      omega
    have np : H (s.heap.objs.size + 1) = none := I.hok.fresh (Nat.le_succ _)
    have sm : Same H (upd H (s.heap.objs.size + 1) (.lst (p.toList.map fun i => xs.getD i .non))) := fun b o e => by rw [upd_ne (ne_of_none e np)]; exact e
    rw [← nN] at hpm hup
    have pm := (perm_at (d := dT) hpm).map (·.1)
    have pw := pw_at (d := dT) hpm hup
    have ev : ((p.toList.map fun i => (tripsN ps hr).getD i dT).map (·.1)) = p.toList.map fun i => ps.getD i dT.1 := by
      rw [List.map_map]
      refine List.map_congr_left fun i hi => ?_
      have hi' : i < ps.length := by have := ixs i hi; omega
      show ((tripsN ps hr).getD i dT).1 = _
      rw [gN i hi', List.getD_eq_getElem?_getD, List.getElem?_eq_getElem hi']
      rfl
    rw [tripsN_val, ev] at pm
    have pw' : (p.toList.map fun i => ps.getD i dT.1).Pairwise M.leT := by
      rw [← ev, List.pairwise_map]
      exact pw
    have es : (p.toList.map fun i => ps.getD i dT.1) = M.sortT ps := M.sortT_uniq hr hinj pm pw'
    refine ⟨.ref _, _, I.laid (t' := s.toks) (o := .lst (p.toList.map fun i => xs.getD i .non)) (fun b o e => sortedAll_old e) (Nat.le_succ _) ?_, rfl, q _ _ np ?_⟩
    · refine ⟨?_, _, ep, paired_at rv .non Value.none p.toList ixs, hat⟩
      rw [List.length_map, Array.length_toList, hpm.size, sizeLine_eq]
      omega
    · rw [← es]
      exact tripAt_same sm (paired_at hp .non dT.1 p.toList ixs)
end
end L3

set_option maxHeartbeats 4000000
namespace L3
open PySem PySem.W PyProof.Rows
def sst (κ : SortKind) (it : Array Keyed) (p : Array Nat) (pend : Array (Nat × Nat × Nat)) : SortSt := SortSt.mk' κ (p.map (kas_item it)) pend 7 none
def Known (prog : Program) (w : World) (A : Around) (κ : SortKind) (it : Array Keyed) (N : Nat) (L : Nat → Nat → Bool) (s : Shared) : Prop :=
  ∀ i j, i < N → j < N → ∀ C : Bool → Shared → Prop, C (L i j) s → kas_cmp prog w A κ it i j C s
section
variable {prog : Program} {w : World} {A : Around} {E : Value → Shared → Prop} {κ : SortKind} {it : Array Keyed} {N : Nat} {L : Nat → Nat → Bool} {s : Shared} {p : Array Nat} {pend : Array (Nat × Nat × Nat)}
theorem s_at {i : Nat} (hi : i < p.size) : (p.map (kas_item it))[i]? = some (kas_item it (p.getD i 0)) := by
  have e : p.getD i 0 = p[i] := by simp [Array.getD, hi]
  rw [e, Array.getElem?_map, Array.getElem?_eq_getElem hi]
  rfl
theorem s_ltK (hk : Known prog w A κ it N L s) {i j : Nat} {st : SortSt} {Q : Option Bool → SortSt → Shared → Prop} (hst : kindOf st = κ) (hi : i < N) (hj : j < N) (h : Q (some (L i j)) st s) : kasC (model prog w) A E (lt' (kas_item it i) (kas_item it j)) Q st s := by
  rw [lt'_eq]
  refine kasC_bind (kasC_get ?_)
  rw [hst]
  refine kasC_bind (kasC_lift (wpAny_attempt (wpAny_mono (hk i j hi hj (fun b s' => b = L i j ∧ s' = s) ⟨rfl, rfl⟩) (fun c s' hc => ?_) fun _ _ z => z.elim)))
  obtain ⟨rfl, rfl⟩ := hc
  exact kasC_pure h
theorem s_lt (hk : Known prog w A κ it N L s) (hp : PermN N p) {i j : Nat} {Q : Option Bool → SortSt → Shared → Prop} (hi : i < N) (hj : j < N) (h : Q (some (L (p.getD i 0) (p.getD j 0))) (sst κ it p pend) s) : kasC (model prog w) A E (ltAt' i j) Q (sst κ it p pend) s := by
  rw [ltAt'_eq]
  refine kasC_bind (kasC_get ?_)
  show kasC _ _ _ (elem' (p.map (kas_item it)) i >>= fun x => elem' (p.map (kas_item it)) j >>= fun y => lt' x y) Q _ _
  rw [elem'_eq, elem'_eq, s_at (by rw [hp.size]; exact hi), s_at (by rw [hp.size]; exact hj)]
  exact kasC_bind (kasC_pure (kasC_bind (kasC_pure (s_ltK hk rfl (hp.lt hi) (hp.lt hj) h))))
theorem s_move {k l : Nat} {Q : Unit → SortSt → Shared → Prop} (h : Q () (sst κ it (bubble p k (k - l)) pend) s) : kasC (model prog w) A E (moveDown' k l) Q (sst κ it p pend) s := by
  rw [moveDown'_eq]
  refine kasC_modify ?_
  have e1 : bubble (p.map (kas_item it)) k (k - l) = (bubble p k (k - l)).map (kas_item it) := kas_swaps_map (kas_item it) (fun i => k - i) (fun i => k - i - 1) _ p
  show Q ⟨⟩ (SortSt.mk' κ (bubble (p.map (kas_item it)) k (k - l)) pend 7 none) s
  rw [e1]
  exact h
def placeP (L : Nat → Nat → Bool) (p : Array Nat) (lo k : Nat) : Nat → Nat → Nat → Nat
  | 0, l, _ => l
  | f + 1, l, r => if l ≥ r then l else if L (p.getD (lo + k) 0) (p.getD (lo + (l + r) / 2) 0) = true then placeP L p lo k f l ((l + r) / 2) else placeP L p lo k f ((l + r) / 2 + 1) r
def binP (L : Nat → Nat → Bool) (lo : Nat) : Nat → Array Nat → Nat → Array Nat
  | 0, p, _ => p
  | f + 1, p, k => binP L lo f (bubble p (lo + k) ((lo + k) - (lo + placeP L p lo k k 0 k))) (k + 1)
theorem s_bin (hk : Known prog w A κ it N L s) (hp : PermN N p) {lo n ok : Nat} (hn : lo + n ≤ N) {Q : Bool → SortSt → Shared → Prop} (h : PermN N (binP L lo (n - max ok 1) p (max ok 1)) → Q true (sst κ it (binP L lo (n - max ok 1) p (max ok 1)) pend) s) :
    kasC (model prog w) A E (binarySort' lo n ok) Q (sst κ it p pend) s := by
  rw [binarySort'_eq]
  refine kasC_bind (kasC_range ?_)
  have outer : ∀ (f k : Nat) (q : Array Nat), max ok 1 ≤ k → k + f = max n (max ok 1) → PermN N q → ∀ {R : Option Bool × Unit → SortSt → Shared → Prop} {body : Nat → Option Bool × Unit → StateT SortSt Sem (ForInStep (Option Bool × Unit))},
      (PermN N (binP L lo f q k) → R (none, ()) (sst κ it (binP L lo f q k) pend) s) →
      (∀ (k : Nat) (q : Array Nat) (R' : ForInStep (Option Bool × Unit) → SortSt → Shared → Prop), k < n → PermN N q → R' (.yield (none, ())) (sst κ it (bubble q (lo + k) ((lo + k) - (lo + placeP L q lo k k 0 k))) pend) s → kasC (model prog w) A E (body k (none, ())) R' (sst κ it q pend) s) →
      kasC (model prog w) A E (forIn (List.range' k f) (none, ()) body) R (sst κ it q pend) s := by
    intro f
    induction f with
    | zero => exact fun k q _ _ hq R body hR _ => kasC_nil (hR hq)
    | succ f ih =>
      intro k q hk0 hkf hq R body hR hb
      rw [List.range'_succ]
      exact kasC_cons (hb k q _ (by omega) hq (ih (k + 1) _ (by omega) (by omega) (hq.bub _ _) hR hb))
  refine outer (n - max ok 1) (max ok 1) p (Nat.le_refl _) (by omega) hp (fun hq => kasC_pure (h hq)) fun k q R' hkn hq hR => ?_
  refine kasC_bind (kasC_range ?_)
  have inner : ∀ (f l r : Nat) (ls : List Nat), ls.length = f → r ≤ k → ∀ {R : Option Bool × Nat × Nat → SortSt → Shared → Prop} {body : Nat → Option Bool × Nat × Nat → StateT SortSt Sem (ForInStep (Option Bool × Nat × Nat))},
      (∀ r', R (none, placeP L q lo k f l r, r') (sst κ it q pend) s) →
      (∀ x l r (R' : ForInStep (Option Bool × Nat × Nat) → SortSt → Shared → Prop), l ≥ r → R' (.done (none, l, r)) (sst κ it q pend) s → kasC (model prog w) A E (body x (none, l, r)) R' (sst κ it q pend) s) →
      (∀ x l r (R' : ForInStep (Option Bool × Nat × Nat) → SortSt → Shared → Prop), l < r → r ≤ k → R' (.yield (if L (q.getD (lo + k) 0) (q.getD (lo + (l + r) / 2) 0) = true then (none, l, (l + r) / 2) else (none, (l + r) / 2 + 1, r))) (sst κ it q pend) s → kasC (model prog w) A E (body x (none, l, r)) R' (sst κ it q pend) s) →
      kasC (model prog w) A E (forIn ls (none, l, r) body) R (sst κ it q pend) s := by
    intro f
    induction f with
    | zero =>
      intro l r ls hls _ R body hR _ _
      cases ls with
      | nil => exact kasC_nil (hR r)
      | cons _ _ => simp at hls
    | succ f ih =>
      intro l r ls hls hr R body hR h1 h2
      cases ls with
      | nil => simp at hls
      | cons x ls =>
        have hls' : ls.length = f := by simpa using hls
        have ep : placeP L q lo k (f + 1) l r = if l ≥ r then l else if L (q.getD (lo + k) 0) (q.getD (lo + (l + r) / 2) 0) = true then placeP L q lo k f l ((l + r) / 2) else placeP L q lo k f ((l + r) / 2 + 1) r := rfl
        by_cases hlr : l ≥ r
        · rw [ep, if_pos hlr] at hR
          exact kasC_cons (h1 x l r _ hlr (hR r))
        · rw [ep, if_neg hlr] at hR
          refine kasC_cons (h2 x l r _ (by omega) hr ?_)
          cases c : L (q.getD (lo + k) 0) (q.getD (lo + (l + r) / 2) 0) with
          | true =>
            rw [c] at hR
            exact ih l ((l + r) / 2) ls hls' (by omega) hR h1 h2
          | false =>
            rw [c] at hR
            exact ih ((l + r) / 2 + 1) r ls hls' hr hR h1 h2
  refine inner k 0 k _ (by rw [List.length_range']; omega) (Nat.le_refl _) (fun r' => ?_) (fun x l r R'' hge hR'' => ?_) fun x l r R'' hlt hr hR'' => ?_
  · exact kasC_bind (s_move (kasC_pure hR))
  · dsimp only
    rw [if_pos hge]
    exact kasC_pure hR''
  · dsimp only
    rw [if_neg (by omega)]
    refine kasC_bind (s_lt hk hq (by omega) (by omega) ?_)
    cases c : L (q.getD (lo + k) 0) (q.getD (lo + (l + r) / 2) 0) with
    | true =>
      rw [c] at hR''
      exact kasC_pure hR''
    | false =>
      rw [c] at hR''
      exact kasC_pure hR''
theorem s_two (hk : Known prog w A κ it N L s) (hp : PermN N p) {lo nrem : Nat} (hn : lo + nrem ≤ N) (h3 : 3 ≤ nrem) (c1 : L (p.getD (lo + 1) 0) (p.getD lo 0) = false) (c2 : L (p.getD (lo + 2) 0) (p.getD (lo + 1) 0) = true) (c3 : L (p.getD lo 0) (p.getD (lo + 1) 0) = true)
    {Q : Option Nat → SortSt → Shared → Prop} (h : Q (some 2) (sst κ it p pend) s) : kasC (model prog w) A E (countRun' lo nrem) Q (sst κ it p pend) s := by
  rw [countRun'_eq]
  obtain ⟨m, rfl⟩ : ∃ m, nrem = m + 3 := ⟨nrem - 3, by omega⟩
  refine kasC_bind (kasC_range ?_)
  show kasC _ _ _ (forIn (1 :: 2 :: List.range' 3 m) _ _) _ _ _
  refine kasC_cons (kasC_bind (s_lt hk hp (by omega) (by omega) ?_))
  rw [show lo + 1 - 1 = lo by omega, c1]
  refine kasC_pure ?_
  refine kasC_cons (kasC_bind (s_lt hk hp (by omega) (by omega) ?_))
  rw [show lo + (1 + 1) - 1 = lo + 1 by omega, show lo + (1 + 1) = lo + 2 by omega, c2]
  refine kasC_pure ?_
  dsimp only
  rw [if_neg (by simp)]
  rw [if_pos (by omega)]
  refine kasC_bind (s_lt hk hp (by omega) (by omega) ?_)
  rw [show lo + (1 + 1) - 1 = lo + 1 by omega, c3]
  exact kasC_pure h
end
end L3

set_option maxHeartbeats 4000000
namespace L3
open PySem PySem.W PyProof.Rows
def gallop' : Bool → Keyed → Array Keyed → Nat → Nat → Nat → StateT SortSt Sem (Option Nat) := sortPriv% PySem.Builtin.gallop
def mergeHi' : Array Keyed → Array Keyed → StateT SortSt Sem (Array Keyed) := sortPriv% PySem.Builtin.mergeHi
section
variable {prog : Program} {w : World} {A : Around} {E : Value → Shared → Prop} {κ : SortKind} {it : Array Keyed} {N : Nat} {L : Nat → Nat → Bool} {s : Shared} {st : SortSt} {p q x y : Array Nat} {pend : Array (Nat × Nat × Nat)}
theorem s_elem {i : Nat} {Q : Keyed → SortSt → Shared → Prop} (hi : i < q.size) (h : Q (kas_item it (q.getD i 0)) st s) : kasC (model prog w) A E (elem' (q.map (kas_item it)) i) Q st s := by
  rw [elem'_eq, s_at hi]
  exact kasC_pure h
def Ins (N : Nat) (q : Array Nat) : Prop := ∀ i, i < q.size → q.getD i 0 < N
theorem s_gal1 (hk : Known prog w A κ it N L s) (hst : kindOf st = κ) (hq : Ins N q) {kI : Nat} (hkI : kI < N) (hz : 35 ≤ q.size) (c0 : L kI (q.getD 0 0) = false) (c1 : L kI (q.getD 1 0) = true) {Q : Option Nat → SortSt → Shared → Prop} (h : Q (some 1) st s) :
    kasC (model prog w) A E (gallop' false (kas_item it kI) (q.map (kas_item it)) 0 35 0) Q st s := by
  refine kasC_bind (kasC_bind (s_elem (by omega) ?_))
  rw [if_neg Bool.false_ne_true]
  refine kasC_bind (s_ltK hk hst hkI (hq _ (by omega)) (kasC_pure ?_))
  rw [show 0 + 0 = 0 from rfl, c0]
  dsimp only [Option.map_some]
  rw [if_pos (show (!false) = true from rfl)]
  refine kasC_bind (kasC_range ?_)
  show kasC _ _ _ (forIn (0 :: List.range' 1 34) _ _) _ _ _
  refine kasC_cons ?_
  dsimp only
  rw [if_neg (by omega)]
  refine kasC_bind (kasC_bind (s_elem (by omega) ?_))
  rw [if_neg Bool.false_ne_true]
  refine kasC_bind (s_ltK hk hst hkI (hq _ (by omega)) (kasC_pure ?_))
  rw [show 0 + (0 + 1) = 1 from rfl, c1]
  dsimp only [Option.map_some]
  rw [if_pos (show (!(!true)) = true from rfl)]
  refine kasC_pure ?_
  dsimp only
  refine kasC_bind (kasC_range ?_)
  show kasC _ _ _ (forIn (0 :: List.range' 1 34) _ _) _ _ _
  refine kasC_cons ?_
  dsimp only
  rw [if_pos (by omega)]
  exact kasC_pure (kasC_pure h)
theorem s_gal2 (hk : Known prog w A κ it N L s) (hst : kindOf st = κ) (hq : Ins N q) {kI : Nat} (hkI : kI < N) (hz : 70 ≤ q.size) (c34 : L (q.getD 69 0) kI = false) (c33 : L (q.getD 68 0) kI = false) (c31 : L (q.getD 66 0) kI = false) (c27 : L (q.getD 62 0) kI = false) (c19 : L (q.getD 54 0) kI = true)
    (c23 : L (q.getD 58 0) kI = false) (c21 : L (q.getD 56 0) kI = false) (c20 : L (q.getD 55 0) kI = true) {Q : Option Nat → SortSt → Shared → Prop} (h : Q (some 21) st s) :
    kasC (model prog w) A E (gallop' true (kas_item it kI) (q.map (kas_item it)) 35 35 34) Q st s := by
  refine kasC_bind (kasC_bind (s_elem (by omega) ?_))
  rw [if_pos rfl]
  refine s_ltK hk hst (hq _ (by omega)) hkI ?_
  rw [show 35 + 34 = 69 from rfl, c34]
  dsimp only
  rw [if_neg Bool.false_ne_true]
  refine kasC_bind (kasC_range ?_)
  show kasC _ _ _ (forIn (0 :: 1 :: 2 :: 3 :: List.range' 4 31) _ _) _ _ _
  refine kasC_cons ?_
  dsimp only
  rw [if_neg (by omega)]
  refine kasC_bind (kasC_bind (s_elem (by omega) ?_))
  rw [if_pos rfl]
  refine s_ltK hk hst (hq _ (by omega)) hkI ?_
  rw [show 35 + (34 - 1) = 68 from rfl, c33]
  dsimp only
  rw [if_neg Bool.false_ne_true]
  refine kasC_pure (kasC_cons ?_)
  dsimp only
  rw [if_neg (by omega)]
  refine kasC_bind (kasC_bind (s_elem (by omega) ?_))
  rw [if_pos rfl]
  refine s_ltK hk hst (hq _ (by omega)) hkI ?_
  rw [show 35 + (34 - (2 * 1 + 1)) = 66 from rfl, c31]
  dsimp only
  rw [if_neg Bool.false_ne_true]
  refine kasC_pure (kasC_cons ?_)
  dsimp only
  rw [if_neg (by omega)]
  refine kasC_bind (kasC_bind (s_elem (by omega) ?_))
  rw [if_pos rfl]
  refine s_ltK hk hst (hq _ (by omega)) hkI ?_
  rw [show 35 + (34 - (2 * (2 * 1 + 1) + 1)) = 62 from rfl, c27]
  dsimp only
  rw [if_neg Bool.false_ne_true]
  refine kasC_pure (kasC_cons ?_)
  dsimp only
  rw [if_neg (by omega)]
  refine kasC_bind (kasC_bind (s_elem (by omega) ?_))
  rw [if_pos rfl]
  refine s_ltK hk hst (hq _ (by omega)) hkI ?_
  rw [show 35 + (34 - (2 * (2 * (2 * 1 + 1) + 1) + 1)) = 54 from rfl, c19]
  dsimp only
  rw [if_pos rfl]
  refine kasC_pure ?_
  dsimp only
  refine kasC_bind (kasC_range ?_)
  show kasC _ _ _ (forIn (0 :: 1 :: 2 :: 3 :: List.range' 4 31) (none, 20, 27) _) _ _ _
  refine kasC_cons ?_
  dsimp only
  rw [if_neg (by omega)]
  refine kasC_bind (kasC_bind (s_elem (by omega) ?_))
  rw [if_pos rfl]
  refine s_ltK hk hst (hq _ (by omega)) hkI ?_
  rw [show 35 + (20 + (27 - 20) / 2) = 58 from rfl, c23]
  dsimp only
  rw [if_neg Bool.false_ne_true]
  refine kasC_pure ?_
  show kasC _ _ _ (forIn (1 :: 2 :: 3 :: List.range' 4 31) (none, 20, 23) _) _ _ _
  refine kasC_cons ?_
  dsimp only
  rw [if_neg (by omega)]
  refine kasC_bind (kasC_bind (s_elem (by omega) ?_))
  rw [if_pos rfl]
  refine s_ltK hk hst (hq _ (by omega)) hkI ?_
  rw [show 35 + (20 + (23 - 20) / 2) = 56 from rfl, c21]
  dsimp only
  rw [if_neg Bool.false_ne_true]
  refine kasC_pure ?_
  show kasC _ _ _ (forIn (2 :: 3 :: List.range' 4 31) (none, 20, 21) _) _ _ _
  refine kasC_cons ?_
  dsimp only
  rw [if_neg (by omega)]
  refine kasC_bind (kasC_bind (s_elem (by omega) ?_))
  rw [if_pos rfl]
  refine s_ltK hk hst (hq _ (by omega)) hkI ?_
  rw [show 35 + (20 + (21 - 20) / 2) = 55 from rfl, c20]
  dsimp only
  rw [if_pos rfl]
  refine kasC_pure ?_
  show kasC _ _ _ (forIn (3 :: List.range' 4 31) (none, 21, 21) _) _ _ _
  refine kasC_cons ?_
  dsimp only
  rw [if_pos (by omega)]
  exact kasC_pure (kasC_pure h)
def hiP (L : Nat → Nat → Bool) (x y : Array Nat) : Nat → Nat → Nat → Array Nat → Nat → Nat → Option (Array Nat)
  | 0, _, _, _, _, _ => none
  | f + 1, na, nb, out, ac, bc =>
    if L (y.getD (nb - 1) 0) (x.getD (na - 1) 0) = true then
      if (na - 1 == 0) = true then some (x.extract 0 (na - 1) ++ y.extract 0 nb ++ (out.push (x.getD (na - 1) 0)).reverse)
      else if ac + 1 ≥ 7 then none else hiP L x y f (na - 1) nb (out.push (x.getD (na - 1) 0)) (ac + 1) 0
    else if (nb - 1 == 1) = true then some (y.extract 0 (nb - 1) ++ x.extract 0 na ++ (out.push (y.getD (nb - 1) 0)).reverse)
      else if bc + 1 ≥ 7 then none else hiP L x y f na (nb - 1) (out.push (y.getD (nb - 1) 0)) 0 (bc + 1)
abbrev HiSt := Option (Array Keyed) × Nat × Nat × Array Keyed × Nat × Nat
def hiStep (L : Nat → Nat → Bool) (it : Array Keyed) (x y : Array Nat) (na nb : Nat) (out : Array Nat) (ac bc : Nat) : ForInStep HiSt :=
  if L (y.getD (nb - 1) 0) (x.getD (na - 1) 0) = true then
    if (na - 1 == 0) = true then .done (some ((x.extract 0 (na - 1) ++ y.extract 0 nb ++ (out.push (x.getD (na - 1) 0)).reverse).map (kas_item it)), na - 1, nb, (out.push (x.getD (na - 1) 0)).map (kas_item it), ac + 1, 0)
    else if ac + 1 ≥ 7 then .done (none, na - 1, nb, (out.push (x.getD (na - 1) 0)).map (kas_item it), ac + 1, 0) else .yield (none, na - 1, nb, (out.push (x.getD (na - 1) 0)).map (kas_item it), ac + 1, 0)
  else if (nb - 1 == 1) = true then .done (some ((y.extract 0 (nb - 1) ++ x.extract 0 na ++ (out.push (y.getD (nb - 1) 0)).reverse).map (kas_item it)), na, nb - 1, (out.push (y.getD (nb - 1) 0)).map (kas_item it), 0, bc + 1)
    else if bc + 1 ≥ 7 then .done (none, na, nb - 1, (out.push (y.getD (nb - 1) 0)).map (kas_item it), 0, bc + 1) else .yield (none, na, nb - 1, (out.push (y.getD (nb - 1) 0)).map (kas_item it), 0, bc + 1)
theorem s_hiLoop {m : Array Nat} : ∀ (f na nb : Nat) (out : Array Nat) (ac bc : Nat) (ls : List Nat), ls.length = f → 0 < na → na ≤ x.size → 1 < nb → nb ≤ y.size → hiP L x y f na nb out ac bc = some m →
    ∀ {R : HiSt → SortSt → Shared → Prop} {body : Nat → HiSt → StateT SortSt Sem (ForInStep HiSt)}, (∀ na nb out ac bc, R (some (m.map (kas_item it)), na, nb, out, ac, bc) st s) →
    (∀ (z na nb : Nat) (out : Array Nat) (ac bc : Nat) (R' : ForInStep HiSt → SortSt → Shared → Prop), 0 < na → na ≤ x.size → 1 < nb → nb ≤ y.size → R' (hiStep L it x y na nb out ac bc) st s → kasC (model prog w) A E (body z (none, na, nb, out.map (kas_item it), ac, bc)) R' st s) →
    kasC (model prog w) A E (forIn ls (none, na, nb, out.map (kas_item it), ac, bc) body) R st s := by
  intro f
  induction f with
  | zero => intro na nb out ac bc ls _ _ _ _ _ h; cases h
  | succ f ih =>
    intro na nb out ac bc ls hls h1 h2 h3 h4 h R body hR hb
    cases ls with
    | nil => simp at hls
    | cons z ls =>
      have hls' : ls.length = f := by simpa using hls
      refine kasC_cons (hb z na nb out ac bc _ h1 h2 h3 h4 ?_)
      unfold hiP at h
      unfold hiStep
      by_cases c : L (y.getD (nb - 1) 0) (x.getD (na - 1) 0) = true
      · rw [if_pos c] at h ⊢
        by_cases e : (na - 1 == 0) = true
        · rw [if_pos e] at h ⊢
          cases h
          exact hR _ _ _ _ _
        · rw [if_neg e] at h ⊢
          by_cases g : ac + 1 ≥ 7
          · rw [if_pos g] at h; cases h
          · rw [if_neg g] at h ⊢
            have : na - 1 ≠ 0 := fun z => e (by rw [z]; rfl)
            exact ih _ _ _ _ _ _ hls' (by omega) (by omega) h3 h4 h hR hb
      · rw [if_neg c] at h ⊢
        by_cases e : (nb - 1 == 1) = true
        · rw [if_pos e] at h ⊢
          cases h
          exact hR _ _ _ _ _
        · rw [if_neg e] at h ⊢
          by_cases g : bc + 1 ≥ 7
          · rw [if_pos g] at h; cases h
          · rw [if_neg g] at h ⊢
            have : nb - 1 ≠ 1 := fun z => e (by rw [z]; rfl)
            exact ih _ _ _ _ _ _ hls' h1 h2 (by omega) (by omega) h hR hb
theorem map_psh {α β : Type} (f : α → β) (xs : Array α) (a : α) : (xs.map f).push (f a) = (xs.push a).map f := by simp
theorem map_ext {α β : Type} (f : α → β) (xs : Array α) (i j : Nat) : (xs.map f).extract i j = (xs.extract i j).map f := by simp
theorem map_app {α β : Type} (f : α → β) (xs ys : Array α) : xs.map f ++ ys.map f = (xs ++ ys).map f := by simp
theorem map_rev {α β : Type} (f : α → β) (xs : Array α) : (xs.map f).reverse = xs.reverse.map f := by simp
theorem s_hi (hk : Known prog w A κ it N L s) (hst : kindOf st = κ) (hg : gallopOf st = 7) (hx : Ins N x) (hy : Ins N y) (hxz : 2 ≤ x.size) (hyz : 2 ≤ y.size) {m : Array Nat} (hm : hiP L x y (x.size + y.size) (x.size - 1) y.size #[x.getD (x.size - 1) 0] 0 0 = some m)
    {Q : Array Keyed → SortSt → Shared → Prop} (h : Q (m.map (kas_item it)) st s) : kasC (model prog w) A E (mergeHi' (x.map (kas_item it)) (y.map (kas_item it))) Q st s := by
  refine kasC_bind (kasC_lift (wpAny_rule ?_))
  simp only [Array.size_map]
  refine kasC_bind (s_elem (by omega) ?_)
  rw [if_neg (fun z => by have := eq_of_beq z; omega), if_neg (fun z => by have := eq_of_beq z; omega)]
  refine kasC_bind (kasC_get ?_)
  refine kasC_bind (kasC_range ?_)
  obtain ⟨t, ht⟩ : ∃ t, x.size + y.size = t + 1 := ⟨x.size + y.size - 1, by omega⟩
  have el : List.range' 0 (x.size + y.size - 0) = 0 :: List.range' 1 t := by rw [Nat.sub_zero, ht]; rfl
  rw [el]
  refine kasC_cons (kasC_bind (kasC_range ?_))
  have e0 : #[kas_item it (x.getD (x.size - 1) 0)] = (#[x.getD (x.size - 1) 0] : Array Nat).map (kas_item it) := by simp
  dsimp only
  rw [e0]
  refine s_hiLoop (st := st) (m := m) (x.size + y.size) (x.size - 1) y.size #[x.getD (x.size - 1) 0] 0 0 _ (by rw [List.length_range']; omega) (by omega) (by omega) (by omega) (Nat.le_refl _) hm (fun na nb out ac bc => ?_) fun z na nb out ac bc R' h1 h2 h3 h4 hR => ?_
  · exact kasC_pure (kasC_pure h)
  · dsimp only
    refine kasC_bind (s_elem (by omega) (kasC_bind (s_elem (by omega) (kasC_bind (s_ltK hk hst (hy _ (by omega)) (hx _ (by omega)) ?_)))))
    unfold hiStep at hR
    cases c : L (y.getD (nb - 1) 0) (x.getD (na - 1) 0) with
    | true =>
      rw [c, if_pos rfl] at hR
      dsimp only
      rw [if_pos rfl]
      refine kasC_bind (s_elem (by omega) ?_)
      rw [map_ext, map_ext, map_psh, map_rev, map_app, map_app]
      by_cases e : (na - 1 == 0) = true
      · rw [if_pos e] at hR ⊢
        exact kasC_pure hR
      · rw [if_neg e] at hR ⊢
        by_cases g : ac + 1 ≥ gallopOf st
        · rw [if_pos g]
          rw [if_pos (by rw [hg] at g; exact g)] at hR
          exact kasC_pure hR
        · rw [if_neg g]
          rw [if_neg (by rw [hg] at g; exact g)] at hR
          exact kasC_pure hR
    | false =>
      rw [c, if_neg Bool.false_ne_true] at hR
      dsimp only
      rw [if_neg Bool.false_ne_true]
      refine kasC_bind (s_elem (by omega) ?_)
      rw [map_ext, map_ext, map_psh, map_rev, map_app, map_app]
      by_cases e : (nb - 1 == 1) = true
      · rw [if_pos e] at hR ⊢
        exact kasC_pure hR
      · rw [if_neg e] at hR ⊢
        by_cases g : bc + 1 ≥ gallopOf st
        · rw [if_pos g]
          rw [if_pos (by rw [hg] at g; exact g)] at hR
          exact kasC_pure hR
        · rw [if_neg g]
          rw [if_neg (by rw [hg] at g; exact g)] at hR
          exact kasC_pure hR
end
end L3

set_option maxHeartbeats 4000000
namespace L3
open PySem PySem.W PyProof.Rows
def putP (p m : Array Nat) (c : Nat) : Array Nat := m.toList.zipIdx.foldl (fun a z => a.setIfInBounds (c + z.2) z.1) p
theorem put_map {α β : Type} (f : α → β) (c : Nat) : ∀ (l : List (α × Nat)) (p : Array α), (l.map fun z => (f z.1, z.2)).foldl (fun a z => a.setIfInBounds (c + z.2) z.1) (p.map f) = (l.foldl (fun a z => a.setIfInBounds (c + z.2) z.1) p).map f
  | [], _ => rfl
  | z :: l, p => by
    show (l.map fun z => (f z.1, z.2)).foldl (fun a z => a.setIfInBounds (c + z.2) z.1) ((p.map f).setIfInBounds (c + z.2) (f z.1)) = _
    rw [show (p.map f).setIfInBounds (c + z.2) (f z.1) = (p.setIfInBounds (c + z.2) z.1).map f by simp]
    exact put_map f c l _
theorem put_items {it : Array Keyed} {p m : Array Nat} {c : Nat} : List.foldl (fun a z => a.setIfInBounds (c + z.2) z.1) (p.map (kas_item it)) (m.map (kas_item it)).toList.zipIdx = (putP p m c).map (kas_item it) := by
  have e : (m.map (kas_item it)).toList.zipIdx = m.toList.zipIdx.map fun z => (kas_item it z.1, z.2) := by
    rw [Array.toList_map, List.zipIdx_map]
    rfl
  rw [e]
  exact put_map (kas_item it) c _ p
theorem PermN.ins {N : Nat} {p : Array Nat} (h : PermN N p) : Ins N p := fun i hi => h.lt (by rw [← h.size]; exact hi)
theorem Ins.ext {N : Nat} {p : Array Nat} (h : Ins N p) (i j : Nat) : Ins N (p.extract i j) := fun k hk => by
  have hs : k < min j p.size - i := by simpa using hk
  have e : (p.extract i j).getD k 0 = p.getD (i + k) 0 := by
    rw [Array.getD_eq_getD_getElem?, Array.getD_eq_getD_getElem?, Array.getElem?_extract, if_pos hs]
  rw [e]
  exact h _ (by omega)
section
variable {prog : Program} {w : World} {A : Around} {E : Value → Shared → Prop} {κ : SortKind} {it : Array Keyed} {L : Nat → Nat → Bool} {s : Shared} {p m : Array Nat}
theorem er1 {α : Type} (a b c : α) : ((#[a, b] : Array α).setIfInBounds 0 c).eraseIdxIfInBounds (0 + 1) = #[c] := by simp [Array.eraseIdxIfInBounds]
theorem s_set {st st' : SortSt} {Q : PUnit → SortSt → Shared → Prop} (h : Q ⟨⟩ st' s) : kasC (model prog w) A E (set st' : StateT SortSt Sem PUnit) Q st s := by
  unfold kasC
  rw [StateT.run_set]
  exact wpAny_pure h
structure Mrg (L : Nat → Nat → Bool) (p m : Array Nat) : Prop where
  c0 : L (p.getD 35 0) (p.getD 0 0) = false
  c1 : L (p.getD 35 0) (p.getD 1 0) = true
  c34 : L (p.getD 69 0) (p.getD 34 0) = false
  c33 : L (p.getD 68 0) (p.getD 34 0) = false
  c31 : L (p.getD 66 0) (p.getD 34 0) = false
  c27 : L (p.getD 62 0) (p.getD 34 0) = false
  c19 : L (p.getD 54 0) (p.getD 34 0) = true
  c23 : L (p.getD 58 0) (p.getD 34 0) = false
  c21 : L (p.getD 56 0) (p.getD 34 0) = false
  c20 : L (p.getD 55 0) (p.getD 34 0) = true
  hi : hiP L (p.extract 1 35) (p.extract 35 56) 55 33 21 #[(p.extract 1 35).getD 33 0] 0 0 = some m
theorem s_merge (hk : Known prog w A κ it 70 L s) (hp : PermN 70 p) (M : Mrg L p m) {pw : Nat} {Q : Bool → SortSt → Shared → Prop} (h : Q true (sst κ it (putP p m 1) #[(0, 70, pw)]) s) :
    kasC (model prog w) A E (mergeAt' 0) Q (sst κ it p #[(0, 35, pw), (35, 35, 0)]) s := by
  have sz := hp.size
  have s1 : (p.extract 1 35).size = 34 := by simp [sz]
  have s2 : (p.extract 35 56).size = 21 := by simp [sz]
  refine kasC_bind (kasC_get ?_)
  have e1 : (pendingOf (sst κ it p #[(0, 35, pw), (35, 35, 0)]))[0]? = some (0, 35, pw) := rfl
  have e2 : (pendingOf (sst κ it p #[(0, 35, pw), (35, 35, 0)]))[0 + 1]? = some (35, 35, 0) := rfl
  rw [e1, e2]
  dsimp only
  have e3 : ((pendingOf (sst κ it p #[(0, 35, pw), (35, 35, 0)])).setIfInBounds 0 (0, 35 + 35, pw)).eraseIdxIfInBounds (0 + 1) = #[(0, 70, pw)] := er1 _ _ _
  rw [e3]
  refine kasC_bind (s_set (st' := sst κ it p #[(0, 70, pw)]) ?_)
  show kasC _ _ _ (elem' (p.map (kas_item it)) 35 >>= fun _ => _) Q _ s
  refine kasC_bind (s_elem (by omega) ?_)
  refine kasC_bind (s_gal1 hk rfl hp.ins (hp.lt (by omega)) (by omega) M.c0 M.c1 ?_)
  dsimp only
  rw [if_neg (by decide)]
  refine kasC_bind (s_elem (by omega) ?_)
  refine kasC_bind (s_gal2 hk rfl hp.ins (hp.lt (by omega)) (by omega) M.c34 M.c33 M.c31 M.c27 M.c19 M.c23 M.c21 M.c20 ?_)
  dsimp only
  rw [if_neg (by decide), if_neg (by decide)]
  show kasC _ _ _ (mergeHi' ((p.map (kas_item it)).extract 1 35) ((p.map (kas_item it)).extract 35 56) >>= fun _ => _) Q _ s
  rw [map_ext, map_ext]
  refine kasC_bind (s_hi (m := m) hk rfl rfl (hp.ins.ext 1 35) (hp.ins.ext 35 56) (by omega) (by omega) (by rw [s1, s2]; exact M.hi) ?_)
  refine kasC_bind (kasC_modify (kasC_bind (kasC_get (kasC_pure ?_))))
  show Q true (SortSt.mk' κ (List.foldl (fun a z => a.setIfInBounds (1 + z.2) z.1) (p.map (kas_item it)) (m.map (kas_item it)).toList.zipIdx) #[(0, 70, pw)] 7 none) s
  rw [put_items]
  exact h
end
end L3

set_option maxHeartbeats 4000000
namespace L3
open PySem PySem.W PyProof.Rows
section
variable {prog : Program} {w : World} {A : Around} {E : Value → Shared → Prop} {κ : SortKind} {it : Array Keyed} {L : Nat → Nat → Bool} {s : Shared} {q1 q2 m : Array Nat}
structure Way (L : Nat → Nat → Bool) (q1 q2 m : Array Nat) : Prop where
  a1 : L 1 0 = false
  a2 : L 2 1 = true
  a3 : L 0 1 = true
  b1 : binP L 0 33 (List.range 70).toArray 2 = q1
  d1 : L (q1.getD 36 0) (q1.getD 35 0) = false
  d2 : L (q1.getD 37 0) (q1.getD 36 0) = true
  d3 : L (q1.getD 35 0) (q1.getD 36 0) = true
  b2 : binP L 35 33 q1 2 = q2
  mg : Mrg L q2 m
theorem er2 {α : Type} (a : α) (f : α → α) : (#[a] : Array α).modify ((#[a] : Array α).size - 1) f = #[f a] := by kernel_rfl
theorem r70 {i : Nat} (h : i < 70) : ((List.range 70).toArray).getD i 0 = i := by simp [Array.getD, h]
theorem s_runs (hk : Known prog w A κ it 70 L s) (W : Way L q1 q2 m) {Q : Unit → SortSt → Shared → Prop} (h : ∀ st', arrOf st' = (putP q2 m 1).map (kas_item it) → failedOf st' = none → Q () st' s) :
    kasC (model prog w) A E sortRuns' Q (sst κ it (List.range 70).toArray #[]) s := by
  have hp0 : PermN 70 (List.range 70).toArray := Array.Perm.refl _
  rw [sortRuns'_eq]
  refine kasC_bind (kasC_get ?_)
  dsimp only
  have hsz : (arrOf (sst κ it (List.range 70).toArray #[])).size = 70 := by
    show ((List.range 70).toArray.map (kas_item it)).size = 70
    simp
  have hmr : minRun' 70 70 0 = 35 := rfl
  simp only [hsz, hmr]
  refine kasC_bind (kasC_range ?_)
  show kasC _ _ _ (forIn (0 :: 1 :: 2 :: List.range' 3 67) _ _) _ _ _
  refine kasC_cons ?_
  dsimp only
  rw [if_neg (by omega)]
  refine kasC_bind (s_two hk hp0 (by omega) (by omega) (by rw [r70 (by omega), r70 (by omega)]; exact W.a1) (by rw [r70 (by omega), r70 (by omega)]; exact W.a2) (by rw [r70 (by omega), r70 (by omega)]; exact W.a3) ?_)
  dsimp only
  rw [if_pos (by omega)]
  refine kasC_bind (kasC_lift (wpAny_rule ?_))
  refine kasC_bind (s_bin hk hp0 (lo := 0) (n := 35) (ok := 2) (by omega) fun hp1 => ?_)
  rw [show binP L 0 (35 - max 2 1) (List.range 70).toArray (max 2 1) = q1 from W.b1] at hp1 ⊢
  simp only [Bool.not_true, Bool.false_eq_true, if_false]
  refine kasC_bind (kasC_get ?_)
  rw [show (pendingOf (sst κ it q1 #[])).back? = none from rfl]
  dsimp only
  refine kasC_bind (kasC_modify (kasC_pure ?_))
  show kasC _ _ _ (forIn (1 :: 2 :: List.range' 3 67) _ _) _ (sst κ it q1 #[(0, 35, 0)]) s
  refine kasC_cons ?_
  dsimp only
  rw [if_neg (by omega)]
  refine kasC_bind (s_two hk hp1 (by omega) (by omega) W.d1 W.d2 W.d3 ?_)
  dsimp only
  rw [if_pos (by omega)]
  refine kasC_bind (kasC_lift (wpAny_rule ?_))
  refine kasC_bind (s_bin hk hp1 (lo := 35) (n := 35) (ok := 2) (by omega) fun hp2 => ?_)
  rw [show binP L 35 (35 - max 2 1) q1 (max 2 1) = q2 from W.b2] at hp2 ⊢
  simp only [Bool.not_true, Bool.false_eq_true, if_false]
  refine kasC_bind (kasC_get ?_)
  rw [show (pendingOf (sst κ it q2 #[(0, 35, 0)])).back? = some (0, 35, 0) from rfl]
  dsimp only
  refine kasC_bind (kasC_range ?_)
  show kasC _ _ _ (forIn (0 :: List.range' 1 69) _ _) _ _ _
  refine kasC_cons (kasC_bind (kasC_get ?_))
  rw [if_neg (show ¬ (pendingOf (sst κ it q2 #[(0, 35, 0)])).size > 1 from Nat.lt_irrefl 1)]
  dsimp only
  refine kasC_pure ?_
  dsimp only
  refine kasC_bind (kasC_modify ?_)
  generalize power' 70 (2 * 0 + 35) (2 * 0 + 35 + 35 + min (70 - (0 + min (70 - 0) 35)) 35) 70 = pw
  have e2 : (pendingOf (sst κ it q2 #[(0, 35, 0)])).modify ((pendingOf (sst κ it q2 #[(0, 35, 0)])).size - 1) (fun x => (x.1, x.2.1, pw)) = #[(0, 35, pw)] := er2 _ _
  rw [e2]
  refine kasC_bind (kasC_modify (kasC_pure ?_))
  show kasC _ _ _ (forIn (2 :: List.range' 3 67) _ _) _ (sst κ it q2 #[(0, 35, pw), (35, 35, 0)]) s
  refine kasC_cons ?_
  dsimp only
  rw [if_pos (by omega)]
  refine kasC_pure ?_
  dsimp only
  refine kasC_bind (kasC_range ?_)
  show kasC _ _ _ (forIn (0 :: 1 :: List.range' 2 68) _ _) _ _ _
  refine kasC_cons (kasC_bind (kasC_get ?_))
  rw [if_neg (show ¬ (pendingOf (sst κ it q2 #[(0, 35, pw), (35, 35, 0)])).size ≤ 1 from (show ¬ 2 ≤ 1 by decide))]
  refine kasC_bind (s_merge hk hp2 W.mg ?_)
  simp only [Bool.not_true, Bool.false_eq_true, if_false]
  refine kasC_pure ?_
  refine kasC_cons (kasC_bind (kasC_get ?_))
  rw [if_pos (show (pendingOf (sst κ it (putP q2 m 1) #[(0, 70, pw)])).size ≤ 1 from Nat.le_refl 1)]
  refine kasC_pure ?_
  dsimp only
  exact kasC_pure (h _ rfl rfl)
end
end L3

set_option maxHeartbeats 4000000
namespace L3
open PySem PySem.W PyProof.Rows
open PySem PySem.Spec PySem.W L2
open PyProof.Rows hiding St
section
variable {prog : Program} {w : World} {A : Around} {E : Value → Shared → Prop} {s : Shared}
theorem lsort_way {L : Nat → Nat → Bool} {q1 q2 m : Array Nat} {a : Addr} {vs : List Value} {n : Nat} {P : PySem.Fin → Shared → Prop} (hob : s.heap.get? a = some (seqObj "list" vs.toArray n)) (h70 : vs.length = 70) (W : Way L q1 q2 m) (hz70 : (putP q2 m 1).size ≤ 100)
    (ask : ∀ g : Heap, (∀ b o, b ≠ a → s.heap.get? b = some o → g.get? b = some o) → wpAny (model prog w) A (keyKind' vs.toArray) (fun κs s' => s' = { s with heap := g } ∧
      ∀ i j, i < vs.length → j < vs.length → ∀ C : Bool → Shared → Prop, C (L i j) s' → kas_ask prog w A κs vs i j C s') NoE { s with heap := g })
    (h : P (.done (.ret .none)) { s with heap := sortedHeap s.heap a vs ((putP q2 m 1).toList.map fun i => vs.getD i Value.none).toArray }) :
    wpAny (model prog w) A (Builtin.«list.sort» ⟨[.ref a], []⟩) P E s := by
  rw [list_sort_plain]
  have la : a < s.heap.objs.size := Heap.lt_size hob
  have hvz : vs.toArray.size ≤ sizeLine := by rw [List.size_toArray, sizeLine_eq]; omega
  refine wpAny_bind (listItems_at hob rfl ?_)
  refine wpAny_bind (listUpdate_at hob rfl ?_ hvz (Nat.zero_le _))
  obtain ⟨ep, h1⟩ : ∃ ep, (s.heap.update a (Obj.mapSeq fun _ => #[])).get? a = some (seqObj "list" #[] ep) := ⟨_, get?_update_seq hob (fun _ => #[])⟩
  refine wpAny_bind (seqEpoch_at h1 rfl ?_)
  refine wpAny_bind (wpAny_newTuple ?_ (by show vs.length ≤ _; rw [sizeLine_eq]; omega))
  refine wpAny_bind (wpAny_newList ?_ (Nat.zero_le _))
  refine wpAny_holding ?_
  obtain ⟨g, hg⟩ : ∃ g : Heap, g = ((s.heap.update a (Obj.mapSeq fun _ => #[])).push (seqObj "tuple" vs.toArray 0)).push (seqObj "list" #[] 0) := ⟨_, rfl⟩
  have hga : g.get? a = some (seqObj "list" #[] ep) := by
    rw [hg]
    exact Heap.get?_push_of_some _ (Heap.get?_push_of_some _ h1)
  have hkeep : ∀ b o, b ≠ a → s.heap.get? b = some o → g.get? b = some o := fun b o hb e => by
    rw [hg]
    exact Heap.get?_push_of_some _ (Heap.get?_push_of_some _ ((Heap.get?_update_ne _ _ _ _ hb).trans e))
  have hfin : ∀ out : Array Value, sortedHeap s.heap a vs out = g.update a (Obj.mapSeq fun _ => out) := fun out => by rw [hg]; rfl
  show wpAny (model prog w) A _ P E { s with heap := ((s.heap.update a (Obj.mapSeq fun _ => #[])).push (seqObj "tuple" vs.toArray 0)).push (seqObj "list" #[] 0) }
  rw [← hg]
  dsimp only
  have hz : vs.toArray.size = vs.length := by simp
  have h2 : ¬ vs.toArray.size < 2 := by rw [hz]; omega
  rw [if_neg h2, if_neg h2]
  refine wpAny_bind (wpAny_mono (ask g hkeep) (fun κs s' hk => ?_) fun _ _ z => z.elim)
  obtain ⟨rfl, hk⟩ := hk
  have kn : Known prog w A κs (vs.toArray.zip vs.toArray) 70 L { s with heap := g } := fun i j hi hj C hC => by
    have q := hk i j (by omega) (by omega) C hC
    rw [kat_ask_eq rfl] at q
    exact q
  have est : SortSt.mk' κs (vs.toArray.zip vs.toArray) #[] 7 none = sst κs (vs.toArray.zip vs.toArray) (List.range 70).toArray #[] := by
    have e := kas_range (vs.toArray.zip vs.toArray)
    rw [show (vs.toArray.zip vs.toArray).size = 70 by simp [h70]] at e
    unfold sst
    rw [e]
  rw [est]
  refine wpAny_bind (wpAny_mono (s_runs (E := E) (Q := fun _ st s' => s' = { s with heap := g } ∧ arrOf st = (putP q2 m 1).map (kas_item (vs.toArray.zip vs.toArray)) ∧ failedOf st = none) kn W fun st a1 a2 => ⟨rfl, a1, a2⟩) ?_ fun _ _ e => e)
  rintro ⟨⟨⟩, st⟩ s' ⟨rfl, har, hf⟩
  dsimp only at har hf ⊢
  refine wpAny_bind (seqEpoch_at hga rfl ?_)
  have e0 := kat_snds (vs := vs) rfl har
  rw [e0]
  refine wpAny_bind (listUpdate_at hga rfl ?_ (Nat.zero_le _) (by
    rw [List.size_toArray, List.length_map, Array.length_toList, sizeLine_eq]; omega))
  rw [hf]
  simp only [bne_self_eq_false, Bool.false_eq_true, if_false]
  rw [hfin] at h
  exact wpAny_pure h
theorem sorted_way {L : Nat → Nat → Bool} {q1 q2 m : Array Nat} {l : Addr} {vs : List Value} {Q : Value → Shared → Prop} (hl : s.heap.IsList l vs.toArray) (h70 : vs.length = 70) (W : Way L q1 q2 m) (hz70 : (putP q2 m 1).size ≤ 100)
    (ask : ∀ g : Heap, (∀ b o, s.heap.get? b = some o → g.get? b = some o) → wpAny (model prog w) A.in1.in1 (keyKind' vs.toArray) (fun κs s' => s' = { s with heap := g } ∧
      ∀ i j, i < vs.length → j < vs.length → ∀ C : Bool → Shared → Prop, C (L i j) s' → kas_ask prog w A.in1.in1 κs vs i j C s') NoE { s with heap := g })
    (h : Q (.ref (s.heap.objs.size + 1)) { s with heap := sortedAll s.heap vs ((putP q2 m 1).toList.map fun i => vs.getD i Value.none).toArray }) :
    wpAny (model prog w) A (call (.builtin "sorted") [.ref l]) Q E s := by
  have hlz : vs.length ≤ sizeLine := by rw [sizeLine_eq]; omega
  refine Calls.call_function_entry kind_sorted plain_sorted entry_sorted (args_sorted1 _) ?_
  unfold Builtin.«sorted»
  refine wpAny_bind (m := checkCount "sorted" 1 1 _) (wpAny_pure ?_)
  refine wpAny_bind (collect_list hl ?_ hlz)
  refine wpAny_bind (wpAny_newList ?_ hlz)
  obtain ⟨g0, hg0⟩ : ∃ g0 : Heap, g0 = (s.heap.push (seqObj "list" #[] 0)).update s.heap.objs.size (Obj.mapSeq (· ++ vs.toArray)) := ⟨_, rfl⟩
  have hz0 : g0.objs.size = s.heap.objs.size + 1 := by rw [hg0, Heap.size_update, size_push']
  have hold : ∀ b o, s.heap.get? b = some o → (g0.push (seqObj "list" vs.toArray 0)).get? b = some o := fun b o e => by
    have lt : b < s.heap.objs.size := Heap.lt_size e
    refine Heap.get?_push_of_some _ ?_
    rw [hg0, Heap.get?_update_ne _ _ _ _ (Nat.ne_of_lt lt)]
    exact Heap.get?_push_of_some _ e
  have hL : (g0.push (seqObj "list" vs.toArray 0)).get? (s.heap.objs.size + 1) = some (seqObj "list" vs.toArray 0) := by
    rw [← hz0]; exact Heap.get?_push_size _ rfl
  show wpAny _ _ _ _ _ { s with heap := ((s.heap.push (seqObj "list" #[] 0)).update s.heap.objs.size (Obj.mapSeq (· ++ vs.toArray))).push (seqObj "list" vs.toArray 0) }
  rw [← hg0, hz0]
  refine wpAny_bind (wpAny_holding (wpAny_call_entry slot_list_sort ⟨_, hL, rfl⟩ entry_list_sort (lsort_way (s := { s with heap := g0.push (seqObj "list" vs.toArray 0) }) hL h70 W hz70 (fun g hk => ?_) ⟨_, rfl, ?_⟩) (args_list_sort _)))
  · exact ask g fun b o e => hk b o (Nat.ne_of_lt (Nat.lt_succ_of_lt (Heap.lt_size e))) (hold b o e)
  · have q := h
    refine wpAny_pure ⟨_, rfl, ?_⟩
    have e : sortedAll s.heap vs ((putP q2 m 1).toList.map fun i => vs.getD i Value.none).toArray = sortedHeap (g0.push (seqObj "list" vs.toArray 0)) (s.heap.objs.size + 1) vs ((putP q2 m 1).toList.map fun i => vs.getD i Value.none).toArray := by rw [hg0]; rfl
    rw [e] at q
    exact q
end
end L3

set_option maxHeartbeats 4000000
namespace L3
open PySem PySem.W PyProof.Rows
def rank8 : List Nat := [0, 7, 6, 5, 27, 22, 4, 26, 21, 17, 3, 25, 20, 16, 55, 46, 13, 52, 43, 37, 2, 24, 19, 15, 54, 45, 12, 51, 42, 36, 10, 49, 40, 34, 31, 1, 23, 18, 14, 53, 44, 11, 50, 41, 35, 9, 48, 39, 33, 69, 64, 30, 67, 62, 59, 8, 47, 38, 32, 68, 63, 29, 66, 61, 58, 28, 65, 60, 57, 56]
def ord8 (i j : Nat) : Bool := decide (rank8.getD i 0 < rank8.getD j 0)
def run1 : Array Nat := #[0, 20, 10, 6, 3, 2, 1, 30, 26, 16, 23, 13, 9, 22, 12, 8, 5, 21, 11, 7, 4, 34, 33, 29, 19, 32, 28, 18, 25, 15, 31, 27, 17, 24, 14, 35, 36, 37, 38, 39, 40, 41, 42, 43, 44, 45, 46, 47, 48, 49, 50, 51, 52, 53, 54, 55, 56, 57, 58, 59, 60, 61, 62, 63, 64, 65, 66, 67, 68, 69]
def run2 : Array Nat := #[0, 20, 10, 6, 3, 2, 1, 30, 26, 16, 23, 13, 9, 22, 12, 8, 5, 21, 11, 7, 4, 34, 33, 29, 19, 32, 28, 18, 25, 15, 31, 27, 17, 24, 14, 35, 55, 45, 41, 38, 37, 36, 65, 61, 51, 58, 48, 44, 57, 47, 43, 40, 56, 46, 42, 39, 69, 68, 64, 54, 67, 63, 53, 60, 50, 66, 62, 52, 59, 49]
def mrg8 : Array Nat := #[35, 20, 10, 6, 3, 2, 1, 55, 45, 30, 41, 26, 16, 38, 23, 13, 9, 37, 22, 12, 8, 5, 36, 21, 11, 7, 4, 65, 61, 51, 34, 58, 48, 33, 44, 29, 19, 57, 47, 32, 43, 28, 18, 40, 25, 15, 56, 46, 31, 42, 27, 17, 39, 24, 14]
def all8 : Array Nat := #[0, 35, 20, 10, 6, 3, 2, 1, 55, 45, 30, 41, 26, 16, 38, 23, 13, 9, 37, 22, 12, 8, 5, 36, 21, 11, 7, 4, 65, 61, 51, 34, 58, 48, 33, 44, 29, 19, 57, 47, 32, 43, 28, 18, 40, 25, 15, 56, 46, 31, 42, 27, 17, 39, 24, 14, 69, 68, 64, 54, 67, 63, 53, 60, 50, 66, 62, 52, 59, 49]
theorem way8 : Way ord8 run1 run2 mrg8 where
  a1 := by decide +kernel
  a2 := by decide +kernel
  a3 := by decide +kernel
  b1 := by decide +kernel
  d1 := by decide +kernel
  d2 := by decide +kernel
  d3 := by decide +kernel
  b2 := by decide +kernel
  mg := ⟨by decide +kernel, by decide +kernel, by decide +kernel, by decide +kernel, by decide +kernel, by decide +kernel, by decide +kernel, by decide +kernel, by decide +kernel, by decide +kernel, by decide +kernel⟩
theorem put8 : putP run2 mrg8 1 = all8 := by decide +kernel
theorem len8 : (M.trips 8 (M.flg 8)).length = 70 := by decide +kernel
def dT8 : M.Trip := (0, [], [])
theorem ord8_is : ∀ i, i < 70 → ∀ j, j < 70 → M.ltT ((M.trips 8 (M.flg 8)).getD i dT8) ((M.trips 8 (M.flg 8)).getD j dT8) = ord8 i j := by decide +kernel
theorem sort8 : (all8.toList.map fun i => (M.trips 8 (M.flg 8)).getD i dT8) = M.sortT (M.trips 8 (M.flg 8)) := by decide +kernel
end L3

set_option maxHeartbeats 4000000
namespace L3
open PySem PySem.Spec PySem.W L2
open PyProof.Rows hiding St
section
variable {X : Cx}
theorem call_sort8 (hu : X.A.units + 8 < cLine) : CallR X (.builtin "sorted") (fun xs H Q => ∃ l : Addr, xs = [.ref l] ∧ (∃ xs, SqL X.K H l xs ∧ Paired (tripAt H) xs (M.trips 8 (M.flg 8))) ∧
    ∀ (p : Addr) (ys : List V), H p = none → Paired (tripAt (upd H p (.lst ys))) ys (M.sortT (M.trips 8 (M.flg 8))) → Q (.ref p) (upd H p (.lst ys))) := by
  intro pins s σ H xs us Q I r h
  obtain ⟨l, rfl, ⟨xs, hq, hp⟩, q⟩ := h
  have hr0 : M.RowsOf 8 (M.trips 8 (M.flg 8)) := M.trips_rows fun r hr => M.flg_len hr
  have hinj0 : ∀ x ∈ M.trips 8 (M.flg 8), ∀ y ∈ M.trips 8 (M.flg 8), x.2.1 = y.2.1 → x = y := M.trips_inj
  obtain ⟨ps, hps⟩ : ∃ ps, ps = M.trips 8 (M.flg 8) := ⟨_, rfl⟩
  have ls : ps.length = 70 := by rw [hps]; exact len8
  have oi : ∀ i, i < 70 → ∀ j, j < 70 → M.ltT (ps.getD i dT8) (ps.getD j dT8) = ord8 i j := by rw [hps]; exact ord8_is
  have so : (all8.toList.map fun i => ps.getD i dT8) = M.sortT ps := by rw [hps]; exact sort8
  rw [← hps] at hp q hr0 hinj0
  have hr : ∀ t ∈ ps, t.2.1.length = 8 := hr0
  have hinj := hinj0
  obtain ⟨u, rfl, ru⟩ := vals1 r
  cases ru
  obtain ⟨its, rv, pl, hz⟩ := I.list hq
  have n1 : xs.length = ps.length := hp.length
  have n2 : its.length = ps.length := by rw [← rv.length]; exact n1
  refine sorted_way (L := ord8) pl.isList (by omega) way8 (by rw [put8]; decide +kernel) (fun g hk => ?_) ?_
  · obtain ⟨fs, t1, t2, t3⟩ := trips_tups I hk rv hp
    refine kat_kind (T := .type "int") t1 (by omega) (fun f hf => ?_) rfl ?_
    · obtain ⟨i, t, rfl⟩ := t3 f hf
      exact Looks.now
    · refine ⟨rfl, fun i j hi hj C hC => ?_⟩
      have gi : i < xs.length := by omega
      have gj : j < xs.length := by omega
      have ri := paired_get rv i gi hi
      have rj := paired_get rv j gj hj
      have pi' := paired_get hp i gi (by omega)
      have pj' := paired_get hp j gj (by omega)
      obtain ⟨a, b, c, oa, na, ta, ea, ha, _, da, eb1, ec1⟩ := trip_obj I pi' ri
      obtain ⟨a2, b2, c2, ob, nb, tb, eb, hb, _, db, eb2, ec2⟩ := trip_obj I pj' rj
      have e1 : its.getD i Value.none = .ref a := by rw [← ea]; simp [hi]
      have e2 : its.getD j Value.none = .ref a2 := by rw [← eb]; simp [hj]
      have I2 : Inv X pins σ H { s with heap := g } := I.kept (t' := s.toks) hk
      have lr : (ps[i]'(by omega)).2.1.length = (ps[j]'(by omega)).2.1.length := by rw [hr _ (List.getElem_mem _), hr _ (List.getElem_mem _)]
      have gi8 : ps.getD i dT8 = ps[i]'(by omega) := by rw [List.getD_eq_getElem?_getD, List.getElem?_eq_getElem (by omega)]; rfl
      have gj8 : ps.getD j dT8 = ps[j]'(by omega) := by rw [List.getD_eq_getElem?_getD, List.getElem?_eq_getElem (by omega)]; rfl
      have hCe : ord8 i j = M.ltT (ps[i]'(by omega)) (ps[j]'(by omega)) := by rw [← oi i (by omega) j (by omega), gi8, gj8]
      unfold kas_ask
      rw [e1, e2]
      rw [hCe] at hC
      have hA2 : X.A.in1.in1.units = X.A.units + 2 := rfl
      refine kat_lt (s := { s with heap := g }) (hk _ _ ha) da (hk _ _ hb) db ?_
      refine kat_cons (wpAny_eqBool_int ?_)
      by_cases q1 : (ps[i]'(by omega)).1 = (ps[j]'(by omega)).1
      · have b1 : ((ps[i]'(by omega)).1 == (ps[j]'(by omega)).1) = true := by rw [q1]; exact beq_self_eq_true _
        rw [b1]
        refine kat_yes (kat_cons ?_)
        have deqB := (deq_ls (deq_bl 0 X.K)).eq (A := X.A.in1.in1) rfl I2 (by omega) (x := .ref b) (y := .ref b2) (v := .ref b) (u := .ref b2) ⟨b, _, rfl, SqL.of eb1, pbls _ _⟩ ⟨b2, _, rfl, SqL.of eb2, pbls _ _⟩ rfl rfl
        refine deqB _ _ _ _ ?_
        by_cases q2 : (ps[i]'(by omega)).2.1 = (ps[j]'(by omega)).2.1
        · rw [decide_eq_true q2]
          have et : ps[i]'(by omega) = ps[j]'(by omega) := hinj _ (List.getElem_mem _) _ (List.getElem_mem _) q2
          refine kat_yes (kat_cons ?_)
          have deqI := (deq_ls (deq_int 0 X.K)).eq (A := X.A.in1.in1) rfl I2 (by omega) (x := .ref c) (y := .ref c2) (v := .ref c) (u := .ref c2) ⟨c, _, rfl, SqL.of ec1, pints _ _⟩ ⟨c2, _, rfl, SqL.of ec2, pints _ _⟩ rfl rfl
          refine deqI _ _ _ _ ?_
          have e3 : (ps[i]'(by omega)).2.2 = (ps[j]'(by omega)).2.2 := by rw [et]
          rw [decide_eq_true e3]
          refine kat_yes (kat_nil ?_)
          have : M.ltT (ps[i]'(by omega)) (ps[j]'(by omega)) = decide ((#[Value.int (ps[i]'(by omega)).1 ta, .ref b, .ref c] : Array Value).size < (#[Value.int (ps[j]'(by omega)).1 tb, .ref b2, .ref c2] : Array Value).size) := by
            rw [et]
            unfold M.ltT
            rw [if_pos rfl]
            have bb : ∀ z : List Bool, M.bltB z z = false := fun z => by
              induction z with
              | nil => rfl
              | cons x z ih => unfold M.bltB; rw [if_pos rfl]; exact ih
            rw [bb]
            rfl
          rw [this] at hC
          exact hC
        · rw [decide_eq_false q2]
          refine kat_no (kat_one _ _ (lt_flags I2 (by omega) eb1 eb2 lr ?_))
          have : M.ltT (ps[i]'(by omega)) (ps[j]'(by omega)) = M.bltB (ps[i]'(by omega)).2.1 (ps[j]'(by omega)).2.1 := by unfold M.ltT; rw [if_pos q1]
          rw [this] at hC
          exact hC
      · have b1 : ((ps[i]'(by omega)).1 == (ps[j]'(by omega)).1) = false := beq_eq_false_iff_ne.mpr q1
        rw [b1]
        refine kat_no (oneLt_int ?_)
        have : M.ltT (ps[i]'(by omega)) (ps[j]'(by omega)) = decide ((ps[i]'(by omega)).1 < (ps[j]'(by omega)).1) := by unfold M.ltT; rw [if_neg q1]
        rw [this] at hC
        exact hC
  · rw [put8]
    obtain ⟨ep, hat⟩ := sortedAll_at s.heap its (all8.toList.map fun i => its.getD i Value.none).toArray
    have ixs : ∀ i ∈ all8.toList, i < xs.length := fun i hi => by
      have h1 : ∀ i ∈ all8.toList, i < 70 := by decide +kernel
      have := h1 i hi
      omega
    have np : H (s.heap.objs.size + 1) = none := I.hok.fresh (Nat.le_succ _)
    have sm : Same H (upd H (s.heap.objs.size + 1) (.lst (all8.toList.map fun i => xs.getD i .non))) := fun b o e => by rw [upd_ne (ne_of_none e np)]; exact e
    refine ⟨.ref _, _, I.laid (t' := s.toks) (o := .lst (all8.toList.map fun i => xs.getD i .non)) (fun b o e => sortedAll_old e) (Nat.le_succ _) ?_, rfl, q _ _ np ?_⟩
    · refine ⟨?_, _, ep, paired_at rv .non Value.none all8.toList ixs, hat⟩
      rw [List.length_map]
      exact Nat.le_of_lt (small1000 (by decide +kernel))
    · rw [← so]
      exact tripAt_same sm (paired_at hp .non dT8 all8.toList ixs)
theorem call_sortU {id : String} {r r' : List V → Hp → VK → Prop} (h : CallR X (.builtin id) r) (h' : CallR X (.builtin id) r') : CallR X (.builtin id) (fun xs H Q => r xs H Q ∨ r' xs H Q) := by
  intro pins s σ H xs us Q I rv q
  rcases q with q | q
  · exact h pins s σ H xs us Q I rv q
  · exact h' pins s σ H xs us Q I rv q
end
end L3

set_option maxHeartbeats 4000000
namespace Law
open PySem PySem.Spec PySem.W L2 L3
open PyProof.Rows hiding St
structure Dn (K : PySem.W.Frag) (mg : Str → Option Value) (x : Str) (st : Stmt) (ps : List Str) (f : Addr) (fd : FuncData) : Prop where
  fn : Fun K x x st f fd
  mg : mg x = some (.ref f)
  bi : Binds K fd ps []

def top (i : Nat) : Stmt := PySem.Challenge.pw_setchains_k15_middle.main.body.getD i (.Pass ⟨0, 0, 0, 0⟩)
abbrev s_check_many : Stmt := top 7
abbrev s_check_set : Stmt := top 8
abbrev s_paired : Stmt := top 10
abbrev s_loose : Stmt := top 11
abbrev s_chain : Stmt := top 13
abbrev s_picks : Stmt := top 15
abbrev s_how_many : Stmt := top 16
abbrev s_endings : Stmt := top 17
abbrev s_of_lesser_size : Stmt := top 18
abbrev s_size_of_bottom : Stmt := top 19
abbrev s_bottom_of : Stmt := top 20
abbrev s_set_of : Stmt := top 21
abbrev s_middle : Stmt := top 24
abbrev s__law_cell_at : Stmt := top 26
abbrev s__law_whole : Stmt := top 27
abbrev s__law_is_set : Stmt := top 28
abbrev s__law_pairs : Stmt := top 29
abbrev s__law_loose : Stmt := top 30
abbrev s__law_bottoms : Stmt := top 31
abbrev s__law_alike : Stmt := top 32
abbrev s_law : Stmt := top 33
section
variable {P : Program} {w : World} {K : PySem.W.Frag} {mg : Str → Option Value} {base : Heap}

def spCm : Sp := fun vs H Q _ => ∃ n : Int, vs = [.int n] ∧ 0 ≤ n ∧ n ≤ 40 ∧ Q .non H
theorem sc_cm : FnScope ["many"] ["many"] (defScope s_check_many) := ⟨rfl, rfl, rfl, by decide +kernel, rfl, by decide +kernel, by decide +kernel⟩
theorem ok_cm {f : Addr} {fd : FuncData} {tk : Tok} (D : Dn K mg "check_many" s_check_many ["many"] f fd) (hM : mg "MOST_THINGS" = some (.int 40 tk)) : FnOk P w K mg base CX0 1 f fd ["many"] spCm := by
  refine D.fn.ok sc_cm (fun vs H Q E h => ?_) (fun cdv A outer s H vs Q E hr h => ?_)
  · obtain ⟨n, rfl, _⟩ := h
    rfl
  · obtain ⟨n, rfl, h0, h1, k⟩ := h
    refine ⟨_, pss_one (ps_if (PW.pt (pw_or (pt_cmpR op_lt (pv 0) pe_int (nomark _)) (pw_or1 (pt_cmpR op_gt (pv 0) (pe_glob (v := .int 40) rfl hM ⟨tk, rfl⟩) (nomark _))))) pss_never pss_nil), ?_⟩
    refine ⟨_, rfl, _, _, rfl, rfl, _, rfl, ?_⟩
    refine iteDF (by omega) ?_
    refine ⟨_, rfl, _, _, rfl, rfl, _, rfl, ?_⟩
    refine iteDF (by omega) ?_
    exact k

def spCs : Sp := fun vs H Q _ => ∃ (n : Nat) (a : Addr) (ms : List Int), vs = [.int n, .ref a] ∧ n ≤ 40 ∧ H a = some (.lst (ms.map V.int)) ∧ M.IsSet n ms ∧ Q .non H
theorem sc_cs : FnScope ["many", "members", "least", "member"] ["many", "members"] (defScope s_check_set) := ⟨rfl, rfl, rfl, by decide +kernel, rfl, by decide +kernel, by decide +kernel⟩
theorem ok_cs {f f1 : Addr} {fd fd1 : FuncData} (D : Dn K mg "check_set" s_check_set ["many", "members"] f fd) (D1 : Dn K mg "check_many" s_check_many ["many"] f1 fd1)
    (G1 : FnOk P w K mg base CX0 1 f1 fd1 ["many"] spCm) : FnOk P w K mg base CX0 2 f fd ["many", "members"] spCs := by
  refine D.fn.ok sc_cs (fun vs H Q E h => ?_) (fun cdv A outer s H vs Q E hr h => ?_)
  · obtain ⟨n, a, ms, rfl, _⟩ := h
    rfl
  · obtain ⟨n, a, ms, rfl, hn, hA, hS, k⟩ := h
    refine ⟨_, pss_cons (ps_expr (pe_call G1 hr rfl D1.mg D1.fn.kp D1.bi .nil pass0 (pa_cons (pv 0) pa_nil)))
      (pss_cons (ps_set (i := 2) sc_cs.nd rfl (Or.inl rfl) pe_int)
      (pss_one (ps_for PassesOwn.never rfl (pi_list (pv 1)) (pg_name (i := 3) sc_cs.nd rfl (Or.inl rfl))
        (pss_cons (ps_if (PW.pt (pw_or (pt_cmpR op_lt (pv 3) (pv 2) (nomark _)) (pw_or1 (pt_cmpR op_ge (pv 3) (pv 0) (nomark _))))) pss_never pss_nil)
        (pss_one (ps_set (i := 2) sc_cs.nd rfl (Or.inl rfl) (pe_op op_add (pv 3) pe_int))))))), ?_⟩
    refine ⟨_, rfl, (n : Int), rfl, by omega, by omega, ?_⟩
    refine ⟨_, rfl, a, rfl, ⟨_, SqL.of hA⟩, for_list (K := K) (a := a) (xs := ms.map V.int) (fun i σ H' => H' = H ∧ ∃ (l : Int) (v : Option V), σ = [some (.int n), some (.ref a), some (.int l), v] ∧ ∀ t ∈ ms.drop i, l ≤ t)
      ⟨rfl, 0, none, rfl, fun t ht => hS.lo t (List.mem_of_mem_drop ht)⟩ (fun i σ H' _ ⟨e, _⟩ => by rw [e]; exact SqL.of hA) ?_ ?_⟩
    · rintro i y σ H' hi ⟨rfl, l, v, rfl, hl⟩
      obtain ⟨t, ht, rfl⟩ := ints_get hi
      have hlt : i < ms.length := (List.getElem?_eq_some_iff.mp ht).1
      have hd : ms.drop i = t :: ms.drop (i + 1) := by rw [List.drop_eq_getElem_cons hlt, (List.getElem?_eq_some_iff.mp ht).2]
      have h1 : l ≤ t := hl t (by rw [hd]; exact List.mem_cons_self)
      have h2 : t < n := hS.hi t (List.mem_of_getElem? ht)
      refine ⟨_, rfl, _, rfl, _, _, rfl, rfl, _, rfl, ?_⟩
      refine iteDF (by omega) ?_
      refine ⟨_, rfl, _, rfl, _, _, rfl, rfl, _, rfl, ?_⟩
      refine iteDF (by omega) ?_
      refine ⟨_, rfl, _, _, rfl, rfl, ?_⟩
      refine ⟨rfl, t + 1, some (.int t), rfl, fun u hu => ?_⟩
      have hp := hS.up
      rw [← List.take_append_drop i ms, List.pairwise_append, hd, List.pairwise_cons] at hp
      have := hp.2.1.1 u hu
      omega
    · rintro σ H' ⟨rfl, _⟩
      exact k

def spPr (K : PySem.W.Frag) : Sp := fun vs H Q _ => ∃ (n : Nat) (a : Addr) (ms : List Int), vs = [.int n, .ref a] ∧ n ≤ 40 ∧ H a = some (.lst (ms.map V.int)) ∧ M.IsSet n ms ∧ ∀ (l : Addr) (ys : List V) (H' : Hp), H l = none → Same H H' → H' l = some (.lst ys) → Paired (pairAt H') ys (M.prs n ms) → Q (.ref l) H'
theorem sc_pr : FnScope ["many", "members", "pairs", "waiting", "thing"] ["many", "members"] (defScope s_paired) := ⟨rfl, rfl, rfl, by decide +kernel, rfl, by decide +kernel, by decide +kernel⟩
theorem ok_pr {f f1 : Addr} {fd fd1 : FuncData} (D : Dn K mg "paired" s_paired ["many", "members"] f fd) (D1 : Dn K mg "check_set" s_check_set ["many", "members"] f1 fd1)
    (G1 : FnOk P w K mg base CX0 2 f1 fd1 ["many", "members"] spCs) (zr : mg "range" = none) (zl : mg "len" = none) (zs : mg "sorted" = none) : FnOk P w K mg base CX0 3 f fd ["many", "members"] (spPr K) := by
  refine D.fn.ok sc_pr (fun vs H Q E h => ?_) (fun cdv A outer s H vs Q E hr h => ?_)
  · obtain ⟨n, a, ms, rfl, _⟩ := h
    rfl
  · obtain ⟨n, a, ms, rfl, hn, hA, hS, k⟩ := h
    refine ⟨_, pss_cons (ps_expr (pe_call G1 hr rfl D1.mg D1.fn.kp D1.bi .nil pass0 (pa_cons (pv 0) (pa_cons (pv 1) pa_nil))))
      (pss_cons (ps_set (i := 2) sc_pr.nd rfl (Or.inl rfl) (pe_lst pa_nil))
      (pss_cons (ps_set (i := 3) sc_pr.nd rfl (Or.inl rfl) (pe_lst pa_nil))
      (pss_cons (ps_for PassesOwn.never rfl (pi_range1 rfl zr (pa_cons (pv 0) pa_nil)) (pg_name (i := 4) sc_pr.nd rfl (Or.inl rfl))
        (pss_one (ps_if (pt_cmpR op_notIn_seq (pv 4) (pv 1) rfl)
          (pss_one (ps_expr (pe_bm PySem.F.plainAttrs_list PySem.F.slot_list_append PySem.F.type_list_append mt_append (pv 3) (pa_cons (pv 4) pa_nil))))
          (pss_one (ps_if (pt_cmpR op_gt (pe_callB call_len_seq rfl zl PySem.boot_len (pa_cons (pv 3) pa_nil)) pe_int (nomark _))
            (pss_one (ps_expr (pe_bm PySem.F.plainAttrs_list PySem.F.slot_list_append PySem.F.type_list_append mt_append (pv 2)
              (pa_cons (pe_tup (pa_cons (pe_bm0 PySem.F.plainAttrs_list PySem.F.slot_list_pop PySem.F.type_list_pop mt_pop (pv 3)) (pa_cons (pv 4) pa_nil))) pa_nil)))) pss_nil)))))
      (pss_one (ps_ret (pe_callB call_sortP rfl zs boot_sorted (pa_cons (pv 2) pa_nil))))))), ?_⟩
    refine ⟨_, rfl, _, rfl, n, a, ms, rfl, hn, hA, hS, ?_⟩
    refine ⟨Nat.zero_le _, fun p np => ⟨Nat.zero_le _, fun q nq => ?_⟩⟩
    have nq0 : H q = none := (Same.new np).free nq
    have npq : p ≠ q := ne_of_none upd_same nq
    have s0 : Same H (upd (upd H p (.lst [])) q (.lst [])) := Same.upd (Same.new np) nq0
    refine ⟨_, rfl, (n : Int), rfl, by omega, by omega, for_range (lo := 0) (n := (n : Int).toNat) (fun i σ H' => ∃ (xs : List V) (v : Option V), σ = [some (.int n), some (.ref a), some (.ref p), some (.ref q), v] ∧ Same H H' ∧
        H' p = some (.lst xs) ∧ Paired (pairAt H') xs (M.pst ms i).2 ∧ H' q = some (.lst ((M.pst ms i).1.map V.int)))
      ⟨[], none, rfl, s0, by rw [upd_ne npq]; exact upd_same, .nil, upd_same⟩ ?_ ?_⟩
    · rintro i σ H' hi ⟨xs, v, rfl, sm, hp, hx, hq⟩
      have hin : i < n := by omega
      have wl := M.pst_wlen ms i
      have pl := M.pst_plen ms i
      have hxl : xs.length = (M.pst ms i).2.length := hx.length
      have e0 : (0 : Int) + (i : Int) = i := by omega
      refine ⟨_, rfl, _, rfl, a, _, rfl, .inl (SqL.of (sm _ _ hA)), rfl, flat_ints ms, _, rfl, ?_⟩
      rw [e0, if_pos rfl, inV_ints]
      by_cases hm : (i : Int) ∈ ms
      · refine iteNS hm ?_
        refine ⟨_, rfl, q, _, rfl, .inl (SqL.of hq), _, _, rfl, rfl, _, rfl, ?_⟩
        rcases M.last_cases (M.pst ms i).1 with e | ⟨w', b, e⟩
        · refine iteDF ?_ ?_
          · rw [e]
            exact Int.lt_irrefl 0
          · have e2 : M.pst ms i = ([], (M.pst ms i).2) := Prod.ext e rfl
            refine ⟨xs, some (.int i), rfl, sm, hp, ?_, ?_⟩
            · rw [M.pst_succ, e2, M.stp_nil hm]
              exact hx
            · rw [M.pst_succ, e2, M.stp_nil hm]
              rw [e] at hq
              exact hq
        · have e2 : M.pst ms i = (w' ++ [b], (M.pst ms i).2) := Prod.ext e rfl
          refine iteDT ?_ ?_
          · rw [e, List.length_map, List.length_append]
            show (0 : Int) < ((w'.length + 1 : Nat) : Int)
            omega
          · rw [e, List.map_append] at hq
            refine ⟨_, rfl, .inl ⟨rfl, _, SqL.of hp⟩, ?_⟩
            refine ⟨_, rfl, .inl ⟨rfl, _, SqL.of hq⟩, q, _, .int b, rfl, rfl, hq, ?_, ?_⟩
            · simp
            · refine ⟨_, rfl, by show 2 ≤ sizeLine; decide, fun t nt => ?_⟩
              have nt' : H' t = none := by
                cases z : H' t with
                | none => rfl
                | some o =>
                  by_cases ez : t = q
                  · rw [ez, upd_same] at nt; cases nt
                  · rw [upd_ne ez, z] at nt; cases nt
              have npt : p ≠ t := ne_of_none hp nt'
              have nqt : q ≠ t := ne_of_none hq nt'
              refine ⟨p, xs, .ref t, rfl, rfl, by rw [upd_ne npt, upd_ne npq]; exact hp, by rw [hxl]; exact small1000 (by omega), ?_⟩
              refine ⟨xs ++ [.ref t], some (.int i), rfl, ?_, upd_same, ?_, ?_⟩
              · exact Same.upd (Same.upd (Same.upd sm nq0) (sm.free nt')) np
              · rw [M.pst_succ, e2, M.stp_pop hm]
                refine paired_snoc ?_ ⟨t, rfl, by rw [upd_ne npt.symm]; exact upd_same⟩
                refine pairAt_upd (u := .lst xs) (by rw [upd_ne npt, upd_ne npq]; exact hp) (fun _ z => nomatch z) ?_
                refine pairAt_same (Same.new (by rw [upd_ne nqt.symm]; exact nt')) ?_
                exact pairAt_upd hq (fun _ z => nomatch z) hx
              · rw [M.pst_succ, e2, M.stp_pop hm, upd_ne npq.symm, upd_ne nqt, upd_same]
                simp
      · refine iteNF hm ?_
        refine ⟨_, rfl, .inl ⟨rfl, _, SqL.of hq⟩, _, rfl, q, _, _, rfl, rfl, hq, by rw [List.length_map]; exact small1000 (by omega), ?_⟩
        refine ⟨xs, some (.int i), rfl, Same.upd sm nq0, by rw [upd_ne npq]; exact hp, ?_, ?_⟩
        · rw [M.pst_succ, M.stp_out hm]
          exact pairAt_upd hq (fun _ z => nomatch z) hx
        · rw [M.pst_succ, M.stp_out hm, upd_same]
          simp
    · rintro σ H' ⟨xs, v, rfl, sm, hp, hx, hq⟩
      have en : (n : Int).toNat = n := by omega
      rw [en] at hx
      refine ⟨_, rfl, p, _, rfl, ⟨xs, SqL.of hp, hx⟩, by have := M.pst_plen ms n; omega, fun l ys nl hy => ?_⟩
      exact k l ys _ (sm.free nl) (Same.upd sm (sm.free nl)) upd_same hy

def spLo : Sp := fun vs H Q _ => ∃ (n : Nat) (a : Addr) (ms : List Int), vs = [.int n, .ref a] ∧ n ≤ 40 ∧ H a = some (.lst (ms.map V.int)) ∧ M.IsSet n ms ∧
  ∀ (t h o : Addr) (H' : Hp), H t = none → H h = none → H o = none → h ≠ o → Same H H' → H' t = some (.tup [.ref h, .ref o]) → H' h = some (.lst ((M.lms n ms).map V.int)) → H' o = some (.lst ((M.los n ms).map V.int)) → Q (.ref t) H'
theorem sc_lo : FnScope ["many", "members", "bound", "pair", "free", "held", "others"] ["many", "members"] (defScope s_loose) := ⟨rfl, rfl, rfl, by decide +kernel, rfl, by decide +kernel, by decide +kernel⟩
theorem ok_lo {f fP : Addr} {fd dP : FuncData} (D : Dn K mg "loose" s_loose ["many", "members"] f fd) (DP : Dn K mg "paired" s_paired ["many", "members"] fP dP)
    (GP : FnOk P w K mg base CX0 3 fP dP ["many", "members"] (spPr K)) (zr : mg "range" = none) : FnOk P w K mg base CX0 4 f fd ["many", "members"] spLo := by
  refine D.fn.ok sc_lo (fun vs H Q E h => ?_) (fun cdv A outer s H vs Q E hr h => ?_)
  · obtain ⟨n, a, ms, rfl, _⟩ := h
    rfl
  · obtain ⟨n, a, ms, rfl, hn, hA, hS, k⟩ := h
    have hu := hu_of hr
    refine ⟨_, pss_cons (ps_set (i := 2) sc_lo.nd rfl (Or.inr rfl) pe_dnewK)
      (pss_cons (ps_for PassesOwn.never rfl (pi_list (pe_call GP hr rfl DP.mg DP.fn.kp DP.bi .nil pass0 (pa_cons (pv 0) (pa_cons (pv 1) pa_nil)))) (pg_name (i := 3) sc_lo.nd rfl (Or.inl rfl))
        (pss_cons (ps_dput hu (pv 2) (pe_ix ix_tup (pv 3) pe_int (fun _ _ => rfl)) pe_bl rfl) (pss_one (ps_dput hu (pv 2) (pe_ix ix_tup (pv 3) pe_int (fun _ _ => rfl)) pe_bl rfl))))
      (pss_cons (ps_setC (i := 4) (own := ["thing"]) (red := ["bound"]) (js := [2]) (g := gName 0) (tc := tB (tDNotIn (tVar 0) (tVar 1))) (te := tVar 0) rfl sc_lo.nd rfl (Or.inl rfl) rfl
          ⟨rfl, (by decide +kernel), (by decide +kernel), (by show ∀ y ∈ (_ : List (Str × NameKind)), y.2 = NameKind.free → (defScope s_loose).names.lookup y.1 = some .cell ∨ (defScope s_loose).names.lookup y.1 = some .free; decide +kernel),
            ⟨(by decide +kernel), (by show ∀ y ∈ (_ : List Str), (defScope s_loose).names.lookup y = some .cell ∨ (defScope s_loose).names.lookup y = some .free; decide +kernel), rfl⟩⟩
          (pi_range1 rfl zr (pa_cons (pv 0) pa_nil))
          (fun Y hY => by
            obtain ⟨cl, pins, s1, H1, C, fp, rfl⟩ := hY.ex
            exact pg_name (i := 0) (by show (["thing", "bound"] : List Str).Nodup; decide +kernel) rfl (Or.inl rfl))
          (fun Y hY => by
            obtain ⟨cl, pins, s1, H1, C, fp, rfl⟩ := hY.ex
            exact pts_one (pt_cmp (pc_dnotin hu (pv 0) (pv 1))))
          (fun Y hY => by
            obtain ⟨cl, pins, s1, H1, C, fp, rfl⟩ := hY.ex
            exact pv 0))
      (pss_cons (ps_setC (i := 5) (own := ["thing"]) (red := ["members"]) (js := [1]) (g := gName 0) (tc := tTest (tOp (rIn K false) (tVar 0) (tVar 1))) (te := tVar 0) rfl sc_lo.nd rfl (Or.inl rfl) rfl
          ⟨rfl, (by decide +kernel), (by decide +kernel), (by show ∀ y ∈ (_ : List (Str × NameKind)), y.2 = NameKind.free → (defScope s_loose).names.lookup y.1 = some .cell ∨ (defScope s_loose).names.lookup y.1 = some .free; decide +kernel),
            ⟨(by decide +kernel), (by show ∀ y ∈ (_ : List Str), (defScope s_loose).names.lookup y = some .cell ∨ (defScope s_loose).names.lookup y = some .free; decide +kernel), rfl⟩⟩
          (pi_list (pv 4))
          (fun Y hY => by
            obtain ⟨cl, pins, s1, H1, C, fp, rfl⟩ := hY.ex
            exact pg_name (i := 0) (by show (["thing", "members"] : List Str).Nodup; decide +kernel) rfl (Or.inl rfl))
          (fun Y hY => by
            obtain ⟨cl, pins, s1, H1, C, fp, rfl⟩ := hY.ex
            exact pts_one (pt_cmpR op_in_seq (pv 0) (pv 1) rfl))
          (fun Y hY => by
            obtain ⟨cl, pins, s1, H1, C, fp, rfl⟩ := hY.ex
            exact pv 0))
      (pss_cons (ps_setC (i := 6) (own := ["thing"]) (red := ["members"]) (js := [1]) (g := gName 0) (tc := tTest (tOp (rIn K true) (tVar 0) (tVar 1))) (te := tVar 0) rfl sc_lo.nd rfl (Or.inl rfl) rfl
          ⟨rfl, (by decide +kernel), (by decide +kernel), (by show ∀ y ∈ (_ : List (Str × NameKind)), y.2 = NameKind.free → (defScope s_loose).names.lookup y.1 = some .cell ∨ (defScope s_loose).names.lookup y.1 = some .free; decide +kernel),
            ⟨(by decide +kernel), (by show ∀ y ∈ (_ : List Str), (defScope s_loose).names.lookup y = some .cell ∨ (defScope s_loose).names.lookup y = some .free; decide +kernel), rfl⟩⟩
          (pi_list (pv 4))
          (fun Y hY => by
            obtain ⟨cl, pins, s1, H1, C, fp, rfl⟩ := hY.ex
            exact pg_name (i := 0) (by show (["thing", "members"] : List Str).Nodup; decide +kernel) rfl (Or.inl rfl))
          (fun Y hY => by
            obtain ⟨cl, pins, s1, H1, C, fp, rfl⟩ := hY.ex
            exact pts_one (pt_cmpR op_notIn_seq (pv 0) (pv 1) rfl))
          (fun Y hY => by
            obtain ⟨cl, pins, s1, H1, C, fp, rfl⟩ := hY.ex
            exact pv 0))
      (pss_one (ps_ret (pe_tup (pa_cons (pv 5) (pa_cons (pv 6) pa_nil))))))))), ?_⟩
    have plen := M.prs_len n ms
    have en : (n : Int).toNat = n := by omega
    -- bound = {}
    refine fun d nd => ?_
    refine ⟨_, rfl, _, rfl, n, a, ms, rfl, hn, (Same.new nd) _ _ hA, hS, fun l ys H1 nl s1 hl hp => ?_⟩
    have hd1 : H1 d = some (.dK []) := s1 _ _ upd_same
    have nld : l ≠ d := ne_of hl hd1 (fun z => nomatch z)
    have sH : Same H H1 := (Same.new nd).trans s1
    refine ⟨l, rfl, ⟨_, SqL.of hl⟩, for_list (K := K) (a := l) (xs := ys) (fun i σ H' => ∃ (v : Option V) (kv : List (Key × V)), σ = [some (.int n), some (.ref a), some (.ref d), v, none, none, none] ∧ H' = upd H1 d (.dK kv) ∧ dHas H' d (M.bset ((M.prs n ms).take i)))
      ⟨none, [], rfl, (upd_self hd1).symm, dHas.nil hd1⟩ (fun i σ H' _ ⟨v, kv, _, e, _⟩ => by rw [e]; exact SqL.of (by rw [upd_ne nld]; exact hl)) ?_ ?_⟩
    · rintro i y σ H' hi ⟨v, kv, rfl, rfl, hd⟩
      obtain ⟨p, ta, hpi, rfl, hta⟩ := pair_ix hp hi
      have hip : i < (M.prs n ms).length := (List.getElem?_eq_some_iff.mp hpi).1
      have ntd : ta ≠ d := ne_of hta hd1 (fun z => nomatch z)
      have bl := M.bset_len ((M.prs n ms).take i)
      rw [List.length_take] at bl
      obtain ⟨H2, q1, q2, kv2, rfl⟩ := hd.put p.1 (.bl true) (by omega)
      obtain ⟨H3, q3, q4, kv3, rfl⟩ := q2.put p.2 (.bl true) (by rw [List.length_append, List.length_singleton]; omega)
      refine ⟨_, rfl, _, rfl, ta, _, _, .int p.1, rfl, rfl, SqT.of (by rw [upd_ne ntd]; exact hta), rfl, d, _, rfl, q1, ?_⟩
      refine ⟨_, rfl, _, rfl, ta, _, _, .int p.2, rfl, rfl, SqT.of (by rw [upd_ne ntd, upd_ne ntd]; exact hta), rfl, d, _, rfl, q3, ?_⟩
      refine ⟨some (.ref ta), kv3, rfl, by rw [upd_upd, upd_upd], ?_⟩
      rw [take_snoc hpi, M.bset_snoc]
      exact q4
    · rintro σ H' ⟨v, kv, rfl, rfl, hd⟩
      rw [hp.length, List.take_length] at hd
      have s2 : Same H (upd H1 d (.dK kv)) := Same.upd sH nd
      have hA2 := s2 _ _ hA
      generalize upd H1 d (.dK kv) = H2 at hd s2 hA2
      -- free
      refine ⟨_, rfl, (n : Int), rfl, by omega, by omega, comp_int (l := M.ir (n : Int).toNat) (walk_rng _ H2) (by rw [M.ir_len]; omega) (fun x => decide (x ∉ M.bset (M.prs n ms))) (fun kk H' _ sm R hR => ?_) fun fr nf => ?_⟩
      · obtain ⟨o, q, r⟩ := (hd.same sm).get kk
        refine ⟨_, rfl, _, rfl, d, o, rfl, q, _, rfl, ?_⟩
        rw [r, ← decide_not]
        exact hR
      · rw [en]
        have s3 : Same H (upd H2 fr (.lst ((M.unb n ms).map V.int))) := Same.upd s2 (s2.free nf)
        have hf3 : (upd H2 fr (.lst ((M.unb n ms).map V.int))) fr = some (.lst ((M.unb n ms).map V.int)) := upd_same
        show tSeq _ _ _ _ (upd H2 fr (.lst ((M.unb n ms).map V.int)))
        generalize upd H2 fr (.lst ((M.unb n ms).map V.int)) = H3 at s3 hf3
        have ul := M.unb_len n ms
        -- held
        refine ⟨_, rfl, fr, rfl, ⟨_, SqL.of hf3⟩, comp_int (walk_list (SqL.of hf3)) (by omega) (fun x => decide (x ∈ ms)) (fun kk H' _ sm R hR => ?_) fun hh nh => ?_⟩
        · refine ⟨_, rfl, _, rfl, a, _, rfl, .inl (SqL.of (sm _ _ (s3 _ _ hA))), rfl, flat_ints ms, _, rfl, ?_⟩
          rw [inV_ints]
          exact hR
        · rw [M.unb_lms]
          have s4 : Same H3 (upd H3 hh (.lst ((M.lms n ms).map V.int))) := Same.new nh
          have hh4 : (upd H3 hh (.lst ((M.lms n ms).map V.int))) hh = some (.lst ((M.lms n ms).map V.int)) := upd_same
          generalize upd H3 hh (.lst ((M.lms n ms).map V.int)) = H4 at s4 hh4
          -- others
          refine ⟨_, rfl, fr, rfl, ⟨_, SqL.of (s4 _ _ hf3)⟩, comp_int (walk_list (SqL.of (s4 _ _ hf3))) (by omega) (fun x => decide (x ∉ ms)) (fun kk H' _ sm R hR => ?_) fun oo no => ?_⟩
          · refine ⟨_, rfl, _, rfl, a, _, rfl, .inl (SqL.of (sm _ _ (s4 _ _ (s3 _ _ hA)))), rfl, flat_ints ms, _, rfl, ?_⟩
            rw [inV_ints]
            show R (!decide (kk ∈ ms)) H'
            rw [← decide_not]
            exact hR
          · rw [M.unb_los]
            have nho : hh ≠ oo := ne_of_none hh4 no
            refine ⟨_, rfl, _, rfl, by show 2 ≤ sizeLine; decide, fun t nt => ?_⟩
            have s5 : Same H4 (upd H4 oo (.lst ((M.los n ms).map V.int))) := Same.new no
            refine k t hh oo _ ((s3.trans (s4.trans s5)).free nt) (s3.free nh) ((s3.trans s4).free no) nho ((s3.trans (s4.trans s5)).trans (Same.new nt)) upd_same ?_ ?_
            · exact (Same.new nt) _ _ (s5 _ _ hh4)
            · exact (Same.new nt) _ _ upd_same

def spCh : Sp := fun vs H Q _ => ∃ (n : Nat) (a : Addr) (ms : List Int), vs = [.int n, .ref a] ∧ n ≤ 40 ∧ H a = some (.lst (ms.map V.int)) ∧ M.IsSet n ms ∧
  ∀ (D : Addr) (ys : List V) (H' : Hp), H D = none → Same H H' → H' D = some (.lst ys) → Paired (rowN H H') ys (M.chn n ms) → (∀ l, .ref l ∈ ys → l ≠ D) → Q (.ref D) H'
theorem sc_ch : FnScope ["many", "members", "free", "climbed", "kept"] ["many", "members"] (defScope s_chain) := ⟨rfl, rfl, rfl, by decide +kernel, rfl, by decide +kernel, by decide +kernel⟩
theorem ch_conv {n : Nat} {ms : List Int} {H H0 : Hp} : ∀ (l : List Nat) (ys : List V), Paired (fun x y => ∃ (i : Nat) (p : Addr), x = V.int i ∧ y = .ref p ∧ H p = none ∧ H0 p = some (.lst ((M.row n ms i).map V.int))) ((l.map fun (i : Nat) => (i : Int)).map V.int) ys →
    Paired (rowN H H0) ys (l.map (M.row n ms))
  | [], ys, h => by
    cases h
    exact .nil
  | i :: l, ys, h => by
    cases h with
    | cons q t =>
      obtain ⟨j, p, e1, rfl, e3, e4⟩ := q
      have e : i = j := by
        have e1' : (i : Int) = (j : Int) := V.int.inj e1
        omega
      subst e
      exact .cons ⟨p, rfl, e3, e4⟩ (ch_conv l _ t)
theorem ok_ch {f fL : Addr} {fd dL : FuncData} (D : Dn K mg "chain" s_chain ["many", "members"] f fd) (DL : Dn K mg "loose" s_loose ["many", "members"] fL dL)
    (GL : FnOk P w K mg base CX0 4 fL dL ["many", "members"] spLo) (zr : mg "range" = none) (zl : mg "len" = none) (zs : mg "sorted" = none) : FnOk P w K mg base CX0 5 f fd ["many", "members"] spCh := by
  refine D.fn.ok sc_ch (fun vs H Q E h => ?_) (fun cdv A outer s H vs Q E hr h => ?_)
  · obtain ⟨n, a, ms, rfl, _⟩ := h
    rfl
  · obtain ⟨n, a, ms, rfl, hn, hA, hS, k⟩ := h
    refine ⟨_, pss_cons (ps_set (i := 2) sc_ch.nd rfl (Or.inr rfl) (pe_call GL hr rfl DL.mg DL.fn.kp DL.bi .nil pass0 (pa_cons (pv 0) (pa_cons (pv 1) pa_nil))))
      (pss_cons (ps_set (i := 3) sc_ch.nd rfl (Or.inr rfl) (pe_op op_cat (pe_ix ix_tup (pv 2) pe_int (fun _ _ => rfl)) (pe_ix ix_tup (pv 2) pe_int (fun _ _ => rfl))))
      (pss_cons (ps_set (i := 4) sc_ch.nd rfl (Or.inr rfl) (pe_comp (own := ["member"]) (red := ["free"]) (js := [2]) (g := gName 0) (tc := tTest (tOp (rIn K true) (tVar 0) (tOp (rIxT K) (tVar 1) (tC (.int 0))))) (te := tVar 0) rfl
          ⟨rfl, (by decide +kernel), (by decide +kernel), (by show ∀ y ∈ (_ : List (Str × NameKind)), y.2 = NameKind.free → (defScope s_chain).names.lookup y.1 = some .cell ∨ (defScope s_chain).names.lookup y.1 = some .free; decide +kernel),
            ⟨(by decide +kernel), (by show ∀ y ∈ (_ : List Str), (defScope s_chain).names.lookup y = some .cell ∨ (defScope s_chain).names.lookup y = some .free; decide +kernel), rfl⟩⟩
          (pi_list (pv 1))
          (fun Y hY => by
            obtain ⟨cl, pins, s1, H1, C, fp, rfl⟩ := hY.ex
            exact pg_name (i := 0) (by show (["member", "free"] : List Str).Nodup; decide +kernel) rfl (Or.inl rfl))
          (fun Y hY => by
            obtain ⟨cl, pins, s1, H1, C, fp, rfl⟩ := hY.ex
            exact pts_one (pt_cmpR op_notIn_seq (pv 0) (pe_ix ix_tup (pv 1) pe_int (fun _ _ => rfl)) rfl))
          (fun Y hY => by
            obtain ⟨cl, pins, s1, H1, C, fp, rfl⟩ := hY.ex
            exact pv 0)))
      (pss_one (ps_ret (pe_comp (own := ["size"]) (red := ["climbed", "kept"]) (js := [3, 4]) (g := gName 0) (tc := tYes) (te := tCB (rSortI K) (tCons (tOp rCat (tVar 2) (tSl (rSlL K) (tVar 1) tNoPart (tPart (tVar 0)))) tNil)) rfl
          ⟨rfl, (by decide +kernel), (by decide +kernel), (by show ∀ y ∈ (_ : List (Str × NameKind)), y.2 = NameKind.free → (defScope s_chain).names.lookup y.1 = some .cell ∨ (defScope s_chain).names.lookup y.1 = some .free; decide +kernel),
            ⟨(by decide +kernel), (by show ∀ y ∈ (_ : List Str), (defScope s_chain).names.lookup y = some .cell ∨ (defScope s_chain).names.lookup y = some .free; decide +kernel), rfl⟩⟩
          (pi_range1 rfl zr (pa_cons (pe_op op_add (pe_callB call_len_seq rfl zl PySem.boot_len (pa_cons (pv 3) pa_nil)) pe_int) pa_nil))
          (fun Y hY => by
            obtain ⟨cl, pins, s1, H1, C, fp, rfl⟩ := hY.ex
            exact pg_name (i := 0) (by show (["size", "climbed", "kept"] : List Str).Nodup; decide +kernel) rfl (Or.inl rfl))
          (fun Y hY => by
            obtain ⟨cl, pins, s1, H1, C, fp, rfl⟩ := hY.ex
            exact pts_nil)
          (fun Y hY => by
            obtain ⟨cl, pins, s1, H1, C, fp, rfl⟩ := hY.ex
            exact pe_callB call_sortI' rfl zs boot_sorted (pa_cons (pe_op op_cat (pv 2) (pe_slice sl_list (pv 1) po_none (po_some (pv 0)))) pa_nil))))))), ?_⟩
    have msl := hS.len
    have cll := M.clm_len n ms
    have prt := M.parts hS
    have lm := M.lms_len n ms
    have lo := M.los_len n ms
    have cle : (M.clm n ms).length = (M.lms n ms).length + (M.los n ms).length := by unfold M.clm; rw [List.length_append]
    -- free
    refine ⟨_, rfl, _, rfl, n, a, ms, rfl, hn, hA, hS, fun t h o H1 nt nh no hho s1 ht hh ho => ?_⟩
    -- climbed
    refine ⟨_, rfl, t, _, _, .ref h, rfl, rfl, SqT.of ht, rfl, _, rfl, t, _, _, .ref o, rfl, rfl, SqT.of ht, rfl, h, o, _, _, rfl, rfl, hh, ho, by rw [List.length_map, List.length_map]; exact Nat.le_of_lt (small1000 (by omega)), fun c nc => ?_⟩
    rw [← List.map_append]
    have s2 : Same H1 (upd H1 c (.lst ((M.clm n ms).map V.int))) := Same.new nc
    have hc : (upd H1 c (.lst ((M.clm n ms).map V.int))) c = some (.lst ((M.clm n ms).map V.int)) := upd_same
    show tSeq _ _ _ _ (upd H1 c (.lst ((M.clm n ms).map V.int)))
    generalize upd H1 c (.lst ((M.clm n ms).map V.int)) = H2 at s2 hc
    have hA2 := s2 _ _ (s1 _ _ hA)
    -- kept
    refine ⟨_, rfl, a, rfl, ⟨_, SqL.of hA2⟩, comp_int (walk_list (SqL.of hA2)) (by omega) (fun x => decide (x ∉ M.lms n ms)) (fun kk H' _ sm R hR => ?_) fun kp nk => ?_⟩
    · refine ⟨_, rfl, _, rfl, t, _, _, .ref h, rfl, rfl, SqT.of (sm _ _ (s2 _ _ ht)), rfl, h, _, rfl, .inl (SqL.of (sm _ _ (s2 _ _ hh))), rfl, flat_ints _, _, rfl, ?_⟩
      rw [inV_ints]
      show R (!decide (kk ∈ M.lms n ms)) H'
      rw [← decide_not]
      exact hR
    · have s3 : Same H2 (upd H2 kp (.lst ((M.kep n ms).map V.int))) := Same.new nk
      have hk : (upd H2 kp (.lst ((M.kep n ms).map V.int))) kp = some (.lst ((M.kep n ms).map V.int)) := upd_same
      show gName 4 _ _ (upd H2 kp (.lst ((M.kep n ms).map V.int))) _
      generalize upd H2 kp (.lst ((M.kep n ms).map V.int)) = H3 at s3 hk
      have hc3 := s3 _ _ hc
      have kel : (M.kep n ms).length ≤ ms.length := List.length_filter_le _ _
      have s03 : Same H H3 := s1.trans (s2.trans s3)
      -- the rows
      refine ⟨_, rfl, c, _, rfl, .inl (SqL.of hc3), _, _, rfl, rfl, _, rfl, by rw [List.length_map]; omega, by rw [List.length_map]; omega, ?_⟩
      rw [List.length_map]
      have em : (((M.clm n ms).length : Int) + 1).toNat = (M.clm n ms).length + 1 := by omega
      rw [em]
      refine comp_all (walk_rng _ H3) (by rw [List.length_map, M.ir_len]; exact Nat.le_of_lt (small1000 (by omega))) (fun Hx x y => ∃ (i : Nat) (p : Addr), x = V.int i ∧ y = .ref p ∧ H p = none ∧ Hx p = some (.lst ((M.row n ms i).map V.int))) (fun Hx Hy x y sm q => ?_) (fun x H' D' ys hx sm hD N hN => ?_) fun D' H0 ys nD s0 n0 hp => ?_
      · obtain ⟨i, p, e1, e2, e3, e4⟩ := q
        exact ⟨i, p, e1, e2, e3, sm _ _ e4⟩
      · obtain ⟨kk, hkk, rfl⟩ := List.mem_map.mp hx
        have hk' := M.mem_ir.mp hkk
        have ek : ((kk.toNat : Nat) : Int) = kk := by omega
        refine ⟨sub_own, ?_⟩
        refine ⟨_, rfl, _, rfl, _, rfl, kk, rfl, c, _, rfl, SqL.of (sm _ _ hc3), fun p np => ?_⟩
        have ecut : cutV ((M.clm n ms).map V.int) none (some kk) = ((M.clm n ms).take kk.toNat).map V.int := by
          conv => lhs; rw [← ek]
          rw [cut_take, List.map_take]
        rw [ecut]
        have nkp : kp ≠ p := ne_of_none (sm _ _ hk) np
        refine ⟨kp, p, _, _, rfl, rfl, by rw [upd_ne nkp]; exact sm _ _ hk, upd_same, by rw [List.length_map, List.length_map, List.length_take]; exact Nat.le_of_lt (small1000 (by omega)), fun q nq => ?_⟩
        rw [← List.map_append]
        refine ⟨q, _, rfl, SqL.of upd_same, by rw [List.length_append, List.length_take]; omega, fun l zs' nl hpm hup => ?_⟩
        rw [M.sorted_row hS hpm hup]
        have s4 : Same H' (upd (upd H' p (.lst (((M.clm n ms).take kk.toNat).map V.int))) q (.lst ((M.kep n ms ++ (M.clm n ms).take kk.toNat).map V.int))) := Same.upd (Same.new np) ((Same.new np).free nq)
        have nl' : H' l = none := s4.free nl
        have nlD : l ≠ D' := fun z => by rw [z, hD] at nl'; cases nl'
        refine hN _ _ (Same.upd s4 nl') ⟨kk.toNat, l, by rw [ek], rfl, (s03.trans sm).free nl', ?_⟩
        rw [del_ne nlD]
        exact upd_same
      · have hr := ch_conv (n := n) (ms := ms) (H := H) (H0 := H0) (List.range ((M.clm n ms).length + 1)) ys hp
        have sD : Same H0 (upd H0 D' (.lst ys)) := Same.new n0
        refine k D' ys _ (s03.free nD) ((s03.trans s0).trans sD) upd_same ?_ fun l hl z => ?_
        · exact Paired.imp' (fun x zs' ⟨l, e1, e2, e3⟩ => ⟨l, e1, e2, sD _ _ e3⟩) hr
        · obtain ⟨i, hi⟩ := List.getElem?_of_mem hl
          obtain ⟨d, _, p, e1, _, e3⟩ := paired_get? hr hi
          cases e1
          rw [z, n0] at e3
          cases e3

def spPic : Sp := fun vs H Q _ => ∃ (n : Nat) (k : Int), vs = [.int n, .int k] ∧ n ≤ 1000 ∧ k ≤ 1000 ∧ Q (.int (M.pk n k)) H
theorem sc_pic : FnScope ["many", "size", "ways", "step"] ["many", "size"] (defScope s_picks) := ⟨rfl, rfl, rfl, by decide +kernel, rfl, by decide +kernel, by decide +kernel⟩
theorem ok_pic {f : Addr} {fd : FuncData} (D : Dn K mg "picks" s_picks ["many", "size"] f fd) (zr : mg "range" = none) : FnOk P w K mg base CX0 1 f fd ["many", "size"] spPic := by
  refine D.fn.ok sc_pic (fun vs H Q E h => ?_) (fun cdv A outer s H vs Q E hr h => ?_)
  · obtain ⟨n, k, rfl, _⟩ := h
    rfl
  · obtain ⟨n, k, rfl, hn, hk, q⟩ := h
    refine ⟨_, pss_cons (ps_if (pt_cmpR op_lt (pv 1) pe_int (nomark _)) (pss_one (ps_ret pe_int)) pss_nil)
      (pss_cons (ps_set (i := 2) sc_pic.nd rfl (Or.inl rfl) pe_int)
      (pss_cons (ps_for PassesOwn.never rfl (pi_range1 rfl zr (pa_cons (pv 1) pa_nil)) (pg_name (i := 3) sc_pic.nd rfl (Or.inl rfl))
        (pss_one (ps_set (i := 2) sc_pic.nd rfl (Or.inl rfl) (pe_op op_fdiv (pe_op op_mul (pv 2) (pe_op op_sub (pv 0) (pv 3))) (pe_op op_add (pv 3) pe_int)))))
      (pss_one (ps_ret (pv 2))))), ?_⟩
    refine ⟨_, rfl, _, _, rfl, rfl, _, rfl, ?_⟩
    by_cases h0 : k < 0
    · refine iteDT h0 ?_
      rw [M.pk_neg h0] at q
      exact q
    · refine iteDF h0 ?_
      obtain ⟨m, rfl⟩ := Int.eq_ofNat_of_zero_le (by omega : 0 ≤ k)
      rw [M.pk_nat] at q
      refine ⟨_, rfl, (m : Int), rfl, by omega, by omega, for_range (lo := 0) (n := (m : Int).toNat) (fun i σ H' => H' = H ∧ ∃ v : Option V, σ = [some (.int n), some (.int m), some (.int (M.ch n i)), v])
        ⟨rfl, none, by rw [M.ch_zero]; rfl⟩ ?_ ?_⟩
      · rintro i σ H' hi ⟨rfl, v, rfl⟩
        have e0 : (0 : Int) + (i : Int) = i := by omega
        rw [e0]
        refine ⟨_, rfl, _, rfl, _, rfl, _, _, rfl, rfl, _, _, rfl, rfl, .inr ⟨by omega, by omega⟩, _, rfl, _, _, rfl, rfl, _, _, rfl, rfl, ⟨by omega, by omega⟩, ?_⟩
        refine ⟨rfl, some (.int i), ?_⟩
        show [some (V.int n), some (V.int m), some (V.int ((M.ch n i : Int) * ((n : Int) - (i : Int)) / ((i : Int) + 1))), some (V.int i)] = _
        rw [M.pk_turn]
      · rintro σ H' ⟨rfl, v, rfl⟩
        have en : (m : Int).toNat = m := by omega
        rw [en]
        exact ⟨_, rfl, q⟩

def spHm : Sp := fun vs H Q _ => ∃ n : Nat, vs = [.int n] ∧ n ≤ 40 ∧ Q (.int (M.tot n)) H
theorem sc_hm : FnScope ["many"] ["many"] (defScope s_how_many) := ⟨rfl, rfl, rfl, by decide +kernel, rfl, by decide +kernel, by decide +kernel⟩
theorem half_nat (n : Nat) : (n : Int) / 2 = ((n / 2 : Nat) : Int) := by omega
theorem ok_hm {f fC fP : Addr} {fd dC dP : FuncData} (D : Dn K mg "how_many" s_how_many ["many"] f fd) (DC : Dn K mg "check_many" s_check_many ["many"] fC dC) (GC : FnOk P w K mg base CX0 1 fC dC ["many"] spCm)
    (DP : Dn K mg "picks" s_picks ["many", "size"] fP dP) (GP : FnOk P w K mg base CX0 1 fP dP ["many", "size"] spPic) : FnOk P w K mg base CX0 2 f fd ["many"] spHm := by
  refine D.fn.ok sc_hm (fun vs H Q E h => ?_) (fun cdv A outer s H vs Q E hr h => ?_)
  · obtain ⟨n, rfl, _⟩ := h
    rfl
  · obtain ⟨n, rfl, hn, q⟩ := h
    refine ⟨_, pss_cons (ps_expr (pe_call GC hr rfl DC.mg DC.fn.kp DC.bi .nil pass0 (pa_cons (pv 0) pa_nil)))
      (pss_one (ps_ret (pe_call GP hr rfl DP.mg DP.fn.kp DP.bi .nil pass0 (pa_cons (pv 0) (pa_cons (pe_op op_fdiv (pv 0) pe_int) pa_nil))))), ?_⟩
    refine ⟨_, rfl, (n : Int), rfl, by omega, by omega, ?_⟩
    refine ⟨_, rfl, _, rfl, _, _, rfl, rfl, ⟨by decide, by decide⟩, n, _, rfl, by omega, by omega, ?_⟩
    rw [half_nat]
    exact q

def spEn : Sp := fun vs H Q _ => ∃ (l : Nat) (k w : Int), vs = [.int l, .int k, .int w] ∧ l ≤ 1000 ∧ k ≤ 1000 ∧ k - w - 1 ≤ 1000 ∧ Q (.int (M.en l k w)) H
theorem sc_en : FnScope ["left", "lacking", "waiting"] ["left", "lacking", "waiting"] (defScope s_endings) := ⟨rfl, rfl, rfl, by decide +kernel, rfl, by decide +kernel, by decide +kernel⟩
theorem ok_en {f fP : Addr} {fd dP : FuncData} (D : Dn K mg "endings" s_endings ["left", "lacking", "waiting"] f fd)
    (DP : Dn K mg "picks" s_picks ["many", "size"] fP dP) (GP : FnOk P w K mg base CX0 1 fP dP ["many", "size"] spPic) : FnOk P w K mg base CX0 2 f fd ["left", "lacking", "waiting"] spEn := by
  refine D.fn.ok sc_en (fun vs H Q E h => ?_) (fun cdv A outer s H vs Q E hr h => ?_)
  · obtain ⟨l, k, w, rfl, _⟩ := h
    rfl
  · obtain ⟨l, k, w, rfl, hl, hk, hw, q⟩ := h
    refine ⟨_, pss_one (ps_ret (pe_op op_sub (pe_call GP hr rfl DP.mg DP.fn.kp DP.bi .nil pass0 (pa_cons (pv 0) (pa_cons (pv 1) pa_nil)))
      (pe_call GP hr rfl DP.mg DP.fn.kp DP.bi .nil pass0 (pa_cons (pv 0) (pa_cons (pe_op op_sub (pe_op op_sub (pv 1) (pv 2)) pe_int) pa_nil))))), ?_⟩
    refine ⟨_, rfl, _, rfl, l, k, rfl, hl, hk, ?_⟩
    refine ⟨_, rfl, _, rfl, _, rfl, _, _, rfl, rfl, _, _, rfl, rfl, l, _, rfl, hl, hw, ?_⟩
    exact ⟨_, _, rfl, rfl, q⟩
def spOl : Sp := fun vs H Q _ => ∃ (n : Nat) (s : Int), vs = [.int n, .int s] ∧ n ≤ 1000 ∧ s ≤ 1000 ∧ Q (.int (M.pk n (s - 1))) H
theorem sc_ol : FnScope ["many", "size"] ["many", "size"] (defScope s_of_lesser_size) := ⟨rfl, rfl, rfl, by decide +kernel, rfl, by decide +kernel, by decide +kernel⟩
theorem ok_ol {f fP : Addr} {fd dP : FuncData} (D : Dn K mg "of_lesser_size" s_of_lesser_size ["many", "size"] f fd)
    (DP : Dn K mg "picks" s_picks ["many", "size"] fP dP) (GP : FnOk P w K mg base CX0 1 fP dP ["many", "size"] spPic) : FnOk P w K mg base CX0 2 f fd ["many", "size"] spOl := by
  refine D.fn.ok sc_ol (fun vs H Q E h => ?_) (fun cdv A outer s H vs Q E hr h => ?_)
  · obtain ⟨n, k, rfl, _⟩ := h
    rfl
  · obtain ⟨n, k, rfl, hn, hk, q⟩ := h
    refine ⟨_, pss_one (ps_ret (pe_call GP hr rfl DP.mg DP.fn.kp DP.bi .nil pass0 (pa_cons (pv 0) (pa_cons (pe_op op_sub (pv 1) pe_int) pa_nil)))), ?_⟩
    exact ⟨_, rfl, _, rfl, _, _, rfl, rfl, n, _, rfl, hn, by omega, q⟩

def spSb : Sp := fun vs H Q _ => ∃ (n : Nat) (m : Int), vs = [.int n, .int m] ∧ n ≤ 40 ∧ ∀ H', Same H H' → Q (.int (M.szb n m)) H'
theorem sc_sb : FnScope ["many", "number", "passed"] ["many", "number"] (defScope s_size_of_bottom) := ⟨rfl, rfl, rfl, by decide +kernel, rfl, by decide +kernel, by decide +kernel⟩
theorem szb_ir (n : Nat) (m : Int) : ((M.ir (n / 2)).filter fun x => decide (M.pk n x ≤ m)).length = M.szb n m := by
  unfold M.ir M.szb
  rw [List.filter_map, List.length_map]
  rfl
theorem ok_sb {f fO : Addr} {fd dO : FuncData} (D : Dn K mg "size_of_bottom" s_size_of_bottom ["many", "number"] f fd)
    (DO : Dn K mg "of_lesser_size" s_of_lesser_size ["many", "size"] fO dO) (GO : FnOk P w K mg base CX0 2 fO dO ["many", "size"] spOl)
    (zr : mg "range" = none) (zl : mg "len" = none) : FnOk P w K mg base CX0 3 f fd ["many", "number"] spSb := by
  refine D.fn.ok sc_sb (fun vs H Q E h => ?_) (fun cdv A outer s H vs Q E hr h => ?_)
  · obtain ⟨n, m, rfl, _⟩ := h
    rfl
  · obtain ⟨n, m, rfl, hn, q⟩ := h
    refine ⟨_, pss_cons (ps_setC (i := 2) (own := ["size"]) (red := ["many", "number"]) (js := [0, 1]) (g := gName 0) (tc := tTest (tOp (rI0 fun i j => .bl (decide (i ≤ j))) (tCall spOl [] E0 (tCons (tVar 1) (tCons (tOp (rI0 fun i j => .int (i + j)) (tVar 0) (tC (.int 1))) tNil))) (tVar 2))) (te := tVar 0) rfl sc_sb.nd rfl (Or.inl rfl) rfl
        ⟨rfl, (by decide +kernel), (by decide +kernel), (by show ∀ y ∈ (_ : List (Str × NameKind)), y.2 = NameKind.free → (defScope s_size_of_bottom).names.lookup y.1 = some .cell ∨ (defScope s_size_of_bottom).names.lookup y.1 = some .free; decide +kernel), ⟨(by decide +kernel), (by show ∀ y ∈ (_ : List Str), (defScope s_size_of_bottom).names.lookup y = some .cell ∨ (defScope s_size_of_bottom).names.lookup y = some .free; decide +kernel), rfl⟩⟩ (pi_range1 rfl zr (pa_cons (pe_op op_fdiv (pv 0) pe_int) pa_nil))
        (fun Y hY => by (obtain ⟨_, _, _, _, _, _, rfl⟩ := hY.ex; exact (pg_name (i := 0) (by show (["size", "many", "number"] : List Str).Nodup; decide +kernel) rfl (Or.inl rfl))))
        (fun Y hY => by (obtain ⟨_, _, _, _, _, _, rfl⟩ := hY.ex; exact (pts_one (pt_cmpR op_le (pe_call GO hr rfl DO.mg DO.fn.kp DO.bi .nil pass0 (pa_cons (pv 1) (pa_cons (pe_op op_add (pv 0) pe_int) pa_nil))) (pv 2) (nomark _)))))
        (fun Y hY => by (obtain ⟨_, _, _, _, _, _, rfl⟩ := hY.ex; exact (pv 0))))
      (pss_one (ps_ret (pe_callB call_len_seq rfl zl PySem.boot_len (pa_cons (pv 2) pa_nil)))), ?_⟩
    have en : ((n : Int) / 2).toNat = n / 2 := by omega
    refine ⟨_, rfl, _, _, rfl, rfl, ⟨by decide, by decide⟩, _, rfl, by omega, by omega, comp_int (l := M.ir ((n : Int) / 2).toNat) (walk_rng _ H) (by rw [M.ir_len]; omega) (fun x => decide (M.pk n x ≤ m)) (fun k H' hk sm R hR => ?_) fun l nl => ?_⟩
    · obtain ⟨k0, k1⟩ := M.mem_ir.mp hk
      refine ⟨_, rfl, _, rfl, _, _, rfl, rfl, n, k + 1, rfl, by omega, by omega, ?_⟩
      rw [show k + 1 - 1 = k by omega]
      exact ⟨_, rfl, _, _, rfl, rfl, _, rfl, hR⟩
    · refine ⟨_, rfl, l, _, rfl, .inl (SqL.of upd_same), ?_⟩
      rw [List.length_map, en, szb_ir]
      exact q _ (Same.new nl)

def spBo : Sp := fun vs H Q _ => ∃ (n : Nat) (m : Int), vs = [.int n, .int m] ∧ n ≤ 40 ∧ 0 ≤ m ∧ m < M.tot n ∧ ∀ (l : Addr) (H' : Hp), H l = none → Same H H' → H' l = some (.lst ((M.bo n m).map V.int)) → Q (.ref l) H'
theorem sc_bo : FnScope ["many", "number", "lacking", "ahead", "waiting", "bottom", "thing", "without"] ["many", "number"] (defScope s_bottom_of) := ⟨rfl, rfl, rfl, by decide +kernel, rfl, by decide +kernel, by decide +kernel⟩
theorem ok_bo {f fC fH fS fO fE : Addr} {fd dC dH dS dO dE : FuncData} (D : Dn K mg "bottom_of" s_bottom_of ["many", "number"] f fd)
    (DC : Dn K mg "check_many" s_check_many ["many"] fC dC) (GC : FnOk P w K mg base CX0 1 fC dC ["many"] spCm)
    (DH : Dn K mg "how_many" s_how_many ["many"] fH dH) (GH : FnOk P w K mg base CX0 2 fH dH ["many"] spHm)
    (DS : Dn K mg "size_of_bottom" s_size_of_bottom ["many", "number"] fS dS) (GS : FnOk P w K mg base CX0 3 fS dS ["many", "number"] spSb)
    (DO : Dn K mg "of_lesser_size" s_of_lesser_size ["many", "size"] fO dO) (GO : FnOk P w K mg base CX0 2 fO dO ["many", "size"] spOl)
    (DE : Dn K mg "endings" s_endings ["left", "lacking", "waiting"] fE dE) (GE : FnOk P w K mg base CX0 2 fE dE ["left", "lacking", "waiting"] spEn)
    (zr : mg "range" = none) : FnOk P w K mg base CX0 4 f fd ["many", "number"] spBo := by
  refine D.fn.ok sc_bo (fun vs H Q E h => ?_) (fun cdv A outer s H vs Q E hr h => ?_)
  · obtain ⟨n, m, rfl, _⟩ := h
    rfl
  · obtain ⟨n, m, rfl, hn, h0, h1, q⟩ := h
    have r1 := hr.mono (show 1 ≤ 3 by decide)
    have r2 := hr.mono (show 2 ≤ 3 by decide)
    have hz := (M.szb_ok (n := n) (m := m) h0 h1).1
    refine ⟨_, pss_cons (ps_expr (pe_call GC r1 rfl DC.mg DC.fn.kp DC.bi .nil pass0 (pa_cons (pv 0) pa_nil)))
      (pss_cons (ps_if (PW.pt (pw_or (pt_cmpR op_lt (pv 1) pe_int (nomark _)) (pw_or1 (pt_cmpR op_ge (pv 1) (pe_call GH r2 rfl DH.mg DH.fn.kp DH.bi .nil pass0 (pa_cons (pv 0) pa_nil)) (nomark _))))) pss_never pss_nil)
      (pss_cons (ps_set (i := 2) sc_bo.nd rfl (Or.inl rfl) (pe_call GS hr rfl DS.mg DS.fn.kp DS.bi .nil pass0 (pa_cons (pv 0) (pa_cons (pv 1) pa_nil))))
      (pss_cons (ps_set (i := 3) sc_bo.nd rfl (Or.inl rfl) (pe_op op_sub (pv 1) (pe_call GO r2 rfl DO.mg DO.fn.kp DO.bi .nil pass0 (pa_cons (pv 0) (pa_cons (pv 2) pa_nil)))))
      (pss_cons (ps_set (i := 4) sc_bo.nd rfl (Or.inl rfl) pe_int)
      (pss_cons (ps_set (i := 5) sc_bo.nd rfl (Or.inl rfl) (pe_lst pa_nil))
      (pss_cons (ps_for PassesOwn.never rfl (pi_range1 rfl zr (pa_cons (pv 0) pa_nil)) (pg_name (i := 6) sc_bo.nd rfl (Or.inl rfl))
        (pss_cons (ps_set (i := 7) sc_bo.nd rfl (Or.inl rfl) (pe_call GE r2 rfl DE.mg DE.fn.kp DE.bi .nil pass0 (pa_cons (pe_op op_sub (pe_op op_sub (pv 0) (pv 6)) pe_int) (pa_cons (pv 2) (pa_cons (pe_op op_add (pv 4) pe_int) pa_nil)))))
        (pss_one (ps_if (pt_cmpR op_lt (pv 3) (pv 7) (nomark _))
          (pss_one (ps_aug (i := 4) sc_bo.nd rfl (Or.inl rfl) pe_int iop_add))
          (pss_cons (ps_aug (i := 3) sc_bo.nd rfl (Or.inl rfl) (pv 7) iop_sub)
          (pss_cons (ps_expr (pe_bm PySem.F.plainAttrs_list PySem.F.slot_list_append PySem.F.type_list_append mt_append (pv 5) (pa_cons (pv 6) pa_nil)))
          (pss_cons (ps_aug (i := 2) sc_bo.nd rfl (Or.inl rfl) pe_int iop_sub)
          (pss_one (ps_aug (i := 4) sc_bo.nd rfl (Or.inl rfl) pe_int iop_sub)))))))))
      (pss_one (ps_ret (pv 5))))))))), ?_⟩
    refine ⟨_, rfl, (n : Int), rfl, by omega, by omega, ?_⟩
    refine ⟨_, rfl, _, _, rfl, rfl, _, rfl, ?_⟩
    refine iteDF (by omega) ?_
    refine ⟨_, rfl, _, rfl, n, rfl, hn, _, _, rfl, rfl, _, rfl, ?_⟩
    refine iteDF (by omega) ?_
    refine ⟨_, rfl, _, rfl, n, m, rfl, hn, fun H1 s1 => ?_⟩
    refine ⟨_, rfl, _, rfl, _, rfl, n, _, rfl, by omega, by omega, _, _, rfl, rfl, ?_⟩
    refine ⟨Nat.zero_le _, fun l nl => ?_⟩
    have nl0 : H l = none := s1.free nl
    refine ⟨_, rfl, (n : Int), rfl, by omega, by omega, for_range (lo := 0) (n := (n : Int).toNat) (fun i σ H' => ∃ (k a w : Int) (xs : List Int) (v v' : Option V), σ = [some (.int n), some (.int m), some (.int k), some (.int a), some (.int w), some (.ref l), v, v'] ∧ Same H H' ∧ H' l = some (.lst (xs.map V.int)) ∧
        xs.length ≤ i ∧ k ≤ 40 ∧ -(i : Int) ≤ w ∧ xs ++ M.U (n - i) i k w a = M.bo n m)
      ⟨_, _, _, [], none, none, rfl, Same.upd s1 nl0, upd_same, Nat.le_refl 0, by omega, by omega, rfl⟩ ?_ ?_⟩
    · rintro i σ H' hi ⟨k, a, w, xs, v, v', rfl, sm, hl, hx, hk, hw, hU⟩
      have e0 : (0 : Int) + (i : Int) = i := by omega
      rw [e0]
      have hin : i < n := by omega
      have e1 : n - i = (n - (i + 1)) + 1 := by omega
      have e2 : ((i : Nat) : Int) + 1 = ((i + 1 : Nat) : Int) := by omega
      have e3 : (n : Int) - (i : Int) - 1 = ((n - (i + 1) : Nat) : Int) := by omega
      rw [e1] at hU
      refine ⟨_, rfl, _, rfl, _, _, rfl, rfl, _, _, rfl, rfl, _, rfl, _, rfl, _, _, rfl, rfl, n - (i + 1), k, w + 1, (by show [V.int ((n : Int) - (i : Int) - 1), V.int k, V.int (w + 1)] = _; rw [e3]), by omega, by omega, by omega, ?_⟩
      refine ⟨_, rfl, _, rfl, _, _, rfl, rfl, _, rfl, ?_⟩
      by_cases ha : a < M.en (n - (i + 1)) k (w + 1)
      · refine iteDT ha ?_
        have hU' : M.U ((n - (i + 1)) + 1) i k w a = M.U (n - (i + 1)) ((i : Int) + 1) k (w + 1) a := if_pos ha
        rw [hU', e2] at hU
        refine ⟨_, rfl, _, _, rfl, rfl, ?_⟩
        exact ⟨_, _, _, xs, _, _, rfl, sm, hl, by omega, hk, by omega, hU⟩
      · refine iteDF ha ?_
        have hU' : M.U ((n - (i + 1)) + 1) i k w a = (i : Int) :: M.U (n - (i + 1)) ((i : Int) + 1) (k - 1) (w - 1) (a - M.en (n - (i + 1)) k (w + 1)) := if_neg ha
        rw [hU', e2] at hU
        refine ⟨_, rfl, _, rfl, _, _, rfl, rfl, ?_⟩
        refine ⟨_, rfl, .inl ⟨rfl, _, SqL.of hl⟩, _, rfl, l, _, _, rfl, rfl, hl, by rw [List.length_map]; exact small1000 (by omega), ?_⟩
        refine ⟨_, rfl, _, _, rfl, rfl, ?_⟩
        refine ⟨_, rfl, _, _, rfl, rfl, ?_⟩
        refine ⟨_, _, _, xs ++ [(i : Int)], _, _, rfl, Same.upd sm nl0, ?_, ?_, by omega, by omega, ?_⟩
        · rw [upd_same, List.map_append]
          rfl
        · rw [List.length_append, List.length_singleton]
          omega
        · rw [List.append_assoc]
          exact hU
    · rintro σ H' ⟨k, a, w, xs, v, v', rfl, sm, hl, hx, hk, hw, hU⟩
      have en : (n : Int).toNat = n := by omega
      rw [en, Nat.sub_self] at hU
      have hz : M.U 0 (n : Int) k w a = [] := rfl
      rw [hz, List.append_nil] at hU
      rw [hU] at hl
      exact ⟨_, rfl, q l H' nl0 sm hl⟩

def spSo : Sp := fun vs H Q _ => ∃ (n : Nat) (m : Int) (p : Nat), vs = [.int n, .int m, .int p] ∧ n ≤ 40 ∧ 0 ≤ m ∧ m < M.tot n ∧ p ≤ (M.clm n (M.bo n m)).length ∧
  ∀ (l : Addr) (H' : Hp), H l = none → Same H H' → H' l = some (.lst ((M.row n (M.bo n m) p).map V.int)) → Q (.ref l) H'
theorem sc_so : FnScope ["many", "number", "place", "steps"] ["many", "number", "place"] (defScope s_set_of) := ⟨rfl, rfl, rfl, by decide +kernel, rfl, by decide +kernel, by decide +kernel⟩
theorem rowN_ix {H0 H : Hp} {xs : List V} {rs : List (List Int)} (h : Paired (rowN H0 H) xs rs) {i : Nat} {r : List Int} (hi : rs[i]? = some r) : ∃ l, xs[i]? = some (.ref l) ∧ H0 l = none ∧ H l = some (.lst (r.map V.int)) := by
  obtain ⟨h1, rfl⟩ := List.getElem?_eq_some_iff.mp hi
  have h2 : i < xs.length := by rw [h.length]; exact h1
  obtain ⟨a, e1, e2, e3⟩ := paired_get h i h2 h1
  exact ⟨a, by rw [List.getElem?_eq_getElem h2, e1], e2, e3⟩
theorem ok_so {f fC fB : Addr} {fd dC dB : FuncData} (D : Dn K mg "set_of" s_set_of ["many", "number", "place"] f fd)
    (DC : Dn K mg "chain" s_chain ["many", "members"] fC dC) (GC : FnOk P w K mg base CX0 5 fC dC ["many", "members"] spCh)
    (DB : Dn K mg "bottom_of" s_bottom_of ["many", "number"] fB dB) (GB : FnOk P w K mg base CX0 4 fB dB ["many", "number"] spBo)
    (zl : mg "len" = none) : FnOk P w K mg base CX0 6 f fd ["many", "number", "place"] spSo := by
  refine D.fn.ok sc_so (fun vs H Q E h => ?_) (fun cdv A outer s H vs Q E hr h => ?_)
  · obtain ⟨n, m, p, rfl, _⟩ := h
    rfl
  · obtain ⟨n, m, p, rfl, hn, h0, h1, hp, q⟩ := h
    have r4 := hr.mono (show 4 ≤ 5 by decide)
    refine ⟨_, pss_cons (ps_set (i := 3) sc_so.nd rfl (Or.inl rfl) (pe_call GC hr rfl DC.mg DC.fn.kp DC.bi .nil pass0 (pa_cons (pv 0) (pa_cons (pe_call GB r4 rfl DB.mg DB.fn.kp DB.bi .nil pass0 (pa_cons (pv 0) (pa_cons (pv 1) pa_nil))) pa_nil))))
      (pss_cons (ps_if (PW.pt (pw_or (pt_cmpR op_lt (pv 2) pe_int (nomark _)) (pw_or1 (pt_cmpR op_ge (pv 2) (pe_callB call_len_seq rfl zl PySem.boot_len (pa_cons (pv 3) pa_nil)) (nomark _))))) pss_never pss_nil)
      (pss_one (ps_ret (pe_ix ix_list (pv 3) (pv 2) (fun _ _ => rfl))))), ?_⟩
    have hB := (M.bo_ok (n := n) (m := m) h0 h1).1
    refine ⟨_, rfl, _, rfl, _, rfl, n, m, rfl, hn, h0, h1, fun b H1 nb s1 hb => ?_⟩
    refine ⟨n, b, _, rfl, hn, hb, hB.set, fun c ys H2 nc s2 hc hp2 hne => ?_⟩
    refine ⟨_, rfl, _, _, rfl, rfl, _, rfl, ?_⟩
    refine iteDF (by omega) ?_
    have yl : ys.length = (M.clm n (M.bo n m)).length + 1 := by rw [hp2.length, M.chn_len]
    refine ⟨_, rfl, _, rfl, c, _, rfl, .inl (SqL.of hc), _, _, rfl, rfl, _, rfl, ?_⟩
    refine iteDF (by rw [yl]; omega) ?_
    obtain ⟨r, hr1, nr, hr2⟩ := rowN_ix hp2 (M.chn_get (n := n) (ms := M.bo n m) (i := p) (by omega))
    refine ⟨_, rfl, _, rfl, c, ys, _, .ref r, rfl, rfl, SqL.of hc, atI_nat hr1, ?_⟩
    exact q r H2 (s1.free nr) (s1.trans s2) hr2

def midAt (n i : Nat) : List Int := M.row n (M.bo n i) (n / 2 - (M.bo n i).length)
def rowM (l : Addr) (H0 H : Hp) (x : V) (zs : List Int) : Prop := ∃ a, x = .ref a ∧ H0 a = none ∧ a ≠ l ∧ H a = some (.lst (zs.map V.int))
theorem rowM_same {l : Addr} {H0 H H' : Hp} (e : Same H H') {xs : List V} {rs : List (List Int)} (h : Paired (rowM l H0 H) xs rs) : Paired (rowM l H0 H') xs rs := Paired.imp' (fun x p ⟨a, e1, n0, n, e2⟩ => ⟨a, e1, n0, n, e a _ e2⟩) h
theorem rowM_upd {l : Addr} {H0 H : Hp} {o : HO} {xs : List V} {rs : List (List Int)} (h : Paired (rowM l H0 H) xs rs) : Paired (rowM l H0 (upd H l o)) xs rs := Paired.imp' (fun x p ⟨a, e1, n0, n, e2⟩ => ⟨a, e1, n0, n, by rw [upd_ne n]; exact e2⟩) h
def spMi : Sp := fun vs H Q _ => ∃ n : Nat, vs = [.int n] ∧ n ≤ 8 ∧ ∀ (l : Addr) (ys : List V) (H' : Hp), H l = none → Same H H' → H' l = some (.lst ys) → Paired (rowM l H H') ys ((List.range (M.tot n).toNat).map (midAt n)) → Q (.ref l) H'
theorem sc_mi : FnScope ["many", "family", "number", "place"] ["many"] (defScope s_middle) := ⟨rfl, rfl, rfl, by decide +kernel, rfl, by decide +kernel, by decide +kernel⟩
theorem tot_le {n : Nat} (h : n ≤ 8) : M.tot n ≤ 70 := by
  rcases (show n = 0 ∨ n = 1 ∨ n = 2 ∨ n = 3 ∨ n = 4 ∨ n = 5 ∨ n = 6 ∨ n = 7 ∨ n = 8 by omega) with rfl | rfl | rfl | rfl | rfl | rfl | rfl | rfl | rfl <;> decide +kernel
theorem ok_mi {f fC fH fB fS : Addr} {fd dC dH dB dS : FuncData} {tk : Tok} (D : Dn K mg "middle" s_middle ["many"] f fd)
    (DC : Dn K mg "check_many" s_check_many ["many"] fC dC) (GC : FnOk P w K mg base CX0 1 fC dC ["many"] spCm)
    (DH : Dn K mg "how_many" s_how_many ["many"] fH dH) (GH : FnOk P w K mg base CX0 2 fH dH ["many"] spHm)
    (DB : Dn K mg "bottom_of" s_bottom_of ["many", "number"] fB dB) (GB : FnOk P w K mg base CX0 4 fB dB ["many", "number"] spBo)
    (DS : Dn K mg "set_of" s_set_of ["many", "number", "place"] fS dS) (GS : FnOk P w K mg base CX0 6 fS dS ["many", "number", "place"] spSo)
    (hM : mg "MOST_FOR_MIDDLE" = some (.int 8 tk)) (zl : mg "len" = none) (zr : mg "range" = none) : FnOk P w K mg base CX0 7 f fd ["many"] spMi := by
  refine D.fn.ok sc_mi (fun vs H Q E h => ?_) (fun cdv A outer s H vs Q E hr h => ?_)
  · obtain ⟨n, rfl, _⟩ := h
    rfl
  · obtain ⟨n, rfl, hn, q⟩ := h
    have r1 := hr.mono (show 1 ≤ 6 by decide)
    have r2 := hr.mono (show 2 ≤ 6 by decide)
    have r4 := hr.mono (show 4 ≤ 6 by decide)
    refine ⟨_, pss_cons (ps_expr (pe_call GC r1 rfl DC.mg DC.fn.kp DC.bi .nil pass0 (pa_cons (pv 0) pa_nil)))
      (pss_cons (ps_if (pt_cmpR op_gt (pv 0) (pe_glob (v := .int 8) rfl hM ⟨tk, rfl⟩) (nomark _)) pss_never pss_nil)
      (pss_cons (ps_set (i := 1) sc_mi.nd rfl (Or.inl rfl) (pe_lst pa_nil))
      (pss_cons (ps_for PassesOwn.never rfl (pi_range1 rfl zr (pa_cons (pe_call GH r2 rfl DH.mg DH.fn.kp DH.bi .nil pass0 (pa_cons (pv 0) pa_nil)) pa_nil)) (pg_name (i := 2) sc_mi.nd rfl (Or.inl rfl))
        (pss_cons (ps_set (i := 3) sc_mi.nd rfl (Or.inl rfl) (pe_op op_sub (pe_op op_fdiv (pv 0) pe_int) (pe_callB call_len_seq rfl zl PySem.boot_len (pa_cons (pe_call GB r4 rfl DB.mg DB.fn.kp DB.bi .nil pass0 (pa_cons (pv 0) (pa_cons (pv 2) pa_nil))) pa_nil))))
        (pss_one (ps_expr (pe_bm PySem.F.plainAttrs_list PySem.F.slot_list_append PySem.F.type_list_append mt_append (pv 1) (pa_cons (pe_call GS hr rfl DS.mg DS.fn.kp DS.bi .nil pass0 (pa_cons (pv 0) (pa_cons (pv 2) (pa_cons (pv 3) pa_nil)))) pa_nil))))))
      (pss_one (ps_ret (pv 1)))))), ?_⟩
    have tp := M.tot_pos n
    have tl := tot_le hn
    refine ⟨_, rfl, (n : Int), rfl, by omega, by omega, ?_⟩
    refine ⟨_, rfl, _, _, rfl, rfl, _, rfl, ?_⟩
    refine iteDF (by omega) ?_
    refine ⟨Nat.zero_le _, fun l nl => ?_⟩
    have hl0 : (upd H l (.lst [])) l = some (.lst []) := upd_same
    have s0 : Same H (upd H l (.lst [])) := Same.new nl
    refine ⟨_, rfl, n, rfl, by omega, M.tot n, rfl, by omega, by omega, for_range (lo := 0) (n := (M.tot n).toNat) (fun i σ H' => ∃ (v2 v3 : Option V) (ys : List V), σ = [some (.int n), some (.ref l), v2, v3] ∧ Same H H' ∧ H' l = some (.lst ys) ∧ Paired (rowM l H H') ys ((List.range i).map (midAt n)))
      ⟨none, none, [], rfl, s0, hl0, .nil⟩ ?_ ?_⟩
    · rintro i σ H1 hi ⟨v2, v3, ys, rfl, s1, hl1, hp⟩
      have e0 : (0 : Int) + (i : Int) = i := by omega
      rw [e0]
      have m0 : (0 : Int) ≤ (i : Int) := by omega
      have m1 : (i : Int) < M.tot n := by omega
      obtain ⟨hB, hBl, hBr⟩ := M.bo_ok (n := n) (m := i) m0 m1
      have bp := M.bot_parts hB
      have yl : ys.length = i := by rw [hp.length]; simp
      refine ⟨_, rfl, _, _, rfl, rfl, ⟨by decide, by decide⟩, _, rfl, _, rfl, n, i, rfl, by omega, m0, m1, fun b H2 nb s2 hb => ?_⟩
      refine ⟨b, _, rfl, .inl (SqL.of hb), _, _, rfl, rfl, ?_⟩
      have ep : (n : Int) / 2 - (((M.bo n i).map V.int).length : Int) = ((n / 2 - (M.bo n i).length : Nat) : Int) := by
        rw [List.length_map]
        omega
      show gName 3 (V.int ((n : Int) / 2 - (((M.bo n i).map V.int).length : Int))) _ _ _
      rw [ep]
      have hl2 := s2 _ _ hl1
      refine ⟨_, rfl, .inl ⟨rfl, _, SqL.of hl2⟩, _, rfl, _, rfl, _, rfl, n, i, n / 2 - (M.bo n i).length, rfl, by omega, m0, m1, by omega, fun r H3 nr s3 hr3 => ?_⟩
      have hl3 := s3 _ _ hl2
      refine ⟨l, _, _, rfl, rfl, hl3, small1000 (by omega), ?_⟩
      have rl : r ≠ l := Ne.symm (ne_of_none hl2 nr)
      have s13 := s2.trans s3
      refine ⟨_, _, _, rfl, Same.upd (s1.trans s13) nl, upd_same, ?_⟩
      rw [List.range_succ, List.map_append]
      refine paired_snoc (rowM_upd (rowM_same s13 hp)) ⟨r, rfl, (s1.trans s2).free nr, rl, ?_⟩
      rw [upd_ne rl]
      exact hr3
    · rintro σ H1 ⟨v2, v3, ys, rfl, s1, hl1, hp⟩
      exact ⟨_, rfl, q l ys H1 nl s1 hl1 hp⟩

def spCell (K : PySem.W.Frag) : Sp := fun vs H Q _ => ∃ (a : Addr) (ns : List Int) (k : Nat), vs = [.ref a, .int k] ∧ SqL K H a (ns.map V.int) ∧ Q (.int (ns.getD k 0)) H
theorem sc_cell : FnScope ["script", "k"] ["script", "k"] (defScope s__law_cell_at) := ⟨rfl, rfl, rfl, by decide +kernel, rfl, by decide +kernel, by decide +kernel⟩
theorem ok_cell {f : Addr} {fd : FuncData} (D : Dn K mg "_law_cell_at" s__law_cell_at ["script", "k"] f fd) (zl : mg "len" = none) : FnOk P w K mg base CX0 1 f fd ["script", "k"] (spCell K) := by
  refine D.fn.ok sc_cell (fun vs H Q E h => ?_) (fun cdv A outer s H vs Q E hr h => ?_)
  · obtain ⟨a, ns, j, rfl, _⟩ := h
    rfl
  · obtain ⟨a, ns, j, rfl, hA, k⟩ := h
    refine ⟨_, pss_cons (ps_if (pt_cmpR op_lt (pv 1) (pe_callB call_len_seq rfl zl PySem.boot_len (pa_cons (pv 0) pa_nil)) (nomark _)) (pss_one (ps_ret (pe_ix ix_list (pv 0) (pv 1) (fun _ _ => rfl)))) pss_nil)
      (pss_one (ps_ret pe_int)), ?_⟩
    refine ⟨_, rfl, _, rfl, a, _, rfl, .inl hA, _, _, rfl, rfl, _, rfl, ?_⟩
    rw [List.length_map]
    by_cases hj : j < ns.length
    · refine iteDT (by omega) ?_
      refine ⟨_, rfl, _, rfl, a, _, _, .int (ns.getD j 0), rfl, rfl, hA, atI_nat ?_, k⟩
      rw [List.getElem?_map, List.getElem?_eq_getElem hj]
      simp [hj]
    · refine iteDF (by omega) ?_
      have e : ns.getD j 0 = 0 := by simp [Nat.le_of_not_lt hj]
      rw [e] at k
      exact k

def spWh : Sp := fun vs H Q _ => ∃ i : Int, vs = [.int i] ∧ Q (.bl true) H
theorem sc_wh : FnScope ["found"] ["found"] (defScope s__law_whole) := ⟨rfl, rfl, rfl, by decide +kernel, rfl, by decide +kernel, by decide +kernel⟩
theorem ok_wh {f : Addr} {fd : FuncData} (D : Dn K mg "_law_whole" s__law_whole ["found"] f fd) (zi : mg "isinstance" = none) (zn : mg "int" = none) (zb : mg "bool" = none) : FnOk P w K mg base CX0 1 f fd ["found"] spWh := by
  refine D.fn.ok sc_wh (fun vs H Q E h => ?_) (fun cdv A outer s H vs Q E hr h => ?_)
  · obtain ⟨i, rfl, _⟩ := h
    rfl
  · obtain ⟨i, rfl, k⟩ := h
    refine ⟨_, pss_one (ps_ret (pe_and (pe_callB call_isi rfl zi boot_isinstance (pa_cons (pv 0) (pa_cons (pe_bltn (v := .ty "int") rfl zn PyProof.Rows.boot_int rfl) pa_nil)))
      (pe_one (pe_not (pe_callB call_isi rfl zi boot_isinstance (pa_cons (pv 0) (pa_cons (pe_bltn (v := .ty "bool") rfl zb PyProof.Rows.boot_bool rfl) pa_nil))))))), ?_⟩
    refine ⟨_, rfl, _, _, _, true, rfl, TyOf.int i, rfl, true, rfl, ?_⟩
    refine iteT ?_
    exact ⟨_, rfl, _, _, _, false, rfl, TyOf.int i, rfl, false, rfl, k⟩

theorem mod_nat {i : Int} {m : Nat} (hm : 0 < m) : ∃ n : Nat, i % (m : Int) = (n : Int) ∧ n < m := by
  have h0 := Int.emod_nonneg i (show (m : Int) ≠ 0 by omega)
  have h1 := Int.emod_lt_of_pos i (show (0 : Int) < m by omega)
  exact ⟨(i % (m : Int)).toNat, by omega, by omega⟩

def spLp : Sp := fun vs H Q _ => ∃ (n : Nat) (a : Addr) (ms : List Int), vs = [.ref a] ∧ n ≤ 40 ∧ H a = some (.lst (ms.map V.int)) ∧ M.IsSet n ms ∧ ∀ (l : Addr) (ys : List V) (H' : Hp), H l = none → Same H H' → H' l = some (.lst ys) → Paired (pairAt H') ys (M.prs n ms) → Q (.ref l) H'
theorem sc_lp : FnScope ["members", "inside", "closed", "found", "free", "thing"] ["members"] (defScope s__law_pairs) := ⟨rfl, rfl, rfl, by decide +kernel, rfl, by decide +kernel, by decide +kernel⟩
def lpP (ms : List Int) (fnd : List (Int × Int)) : V → Bool
  | .int k => decide (k ∉ ms ∧ k ∉ M.fst' fnd)
  | _ => false
theorem lp_free (ms : List Int) (fnd : List (Int × Int)) (t : Int) : ((((M.ir t.toNat).map V.int).filter (lpP ms fnd)).map fun v => v) = (M.lfree ms fnd t).map V.int := by
  rw [List.map_id', List.filter_map]
  rfl
theorem ok_lp {f : Addr} {fd : FuncData} (D : Dn K mg "_law_pairs" s__law_pairs ["members"] f fd) (zr : mg "range" = none) (zs : mg "sorted" = none) : FnOk P w K mg base CX0 1 f fd ["members"] spLp := by
  refine D.fn.ok sc_lp (fun vs H Q E h => ?_) (fun cdv A outer s H vs Q E hr h => ?_)
  · obtain ⟨n, a, ms, rfl, _⟩ := h
    rfl
  · obtain ⟨n, a, ms, rfl, hn, hA, hS, k⟩ := h
    have hu := hu_of hr
    have hmsl := hS.len
    refine ⟨_, pss_cons (ps_set (i := 1) sc_lp.nd rfl (Or.inr rfl) pe_dnewK)
      (pss_cons (ps_for PassesOwn.never rfl (pi_list (pv 0)) (pg_name (i := 5) sc_lp.nd rfl (Or.inl rfl)) (pss_one (ps_dput hu (pv 1) (pv 5) pe_bl rfl)))
      (pss_cons (ps_set (i := 2) sc_lp.nd rfl (Or.inr rfl) pe_dnewK)
      (pss_cons (ps_set (i := 3) sc_lp.nd rfl (Or.inl rfl) (pe_lst pa_nil))
      (pss_cons (ps_for PassesOwn.never rfl (pi_list (pv 0)) (pg_name (i := 5) sc_lp.nd rfl (Or.inl rfl))
        (pss_cons (ps_setC (i := 4) (own := ["k"]) (red := ["closed", "inside"]) (js := [2, 1]) (g := gName 0) (tc := tAnd (tB (tDNotIn (tVar 0) (tVar 2))) (tB (tDNotIn (tVar 0) (tVar 1)))) (te := tVar 0) rfl sc_lp.nd rfl (Or.inl rfl) rfl
          ⟨rfl, (by decide +kernel), (by decide +kernel), (by show ∀ y ∈ (_ : List (Str × NameKind)), y.2 = NameKind.free → (defScope s__law_pairs).names.lookup y.1 = some .cell ∨ (defScope s__law_pairs).names.lookup y.1 = some .free; decide +kernel),
            ⟨(by decide +kernel), (by show ∀ y ∈ (_ : List Str), (defScope s__law_pairs).names.lookup y = some .cell ∨ (defScope s__law_pairs).names.lookup y = some .free; decide +kernel), rfl⟩⟩
          (pi_range1 rfl zr (pa_cons (pv 5) pa_nil))
          (fun Y hY => by
            obtain ⟨cl, pins, s1, H1, C, fp, rfl⟩ := hY.ex
            exact pg_name (i := 0) (by show (["k", "closed", "inside"] : List Str).Nodup; decide +kernel) rfl (Or.inl rfl))
          (fun Y hY => by
            obtain ⟨cl, pins, s1, H1, C, fp, rfl⟩ := hY.ex
            exact pts_one (PW.pt (pw_and (pt_cmp (pc_dnotin hu (pv 0) (pv 2))) (pw_and1 (pt_cmp (pc_dnotin hu (pv 0) (pv 1)))))))
          (fun Y hY => by
            obtain ⟨cl, pins, s1, H1, C, fp, rfl⟩ := hY.ex
            exact pv 0))
        (pss_one (ps_if (pt_cmpR (op_neL (deq_int 0 _) hu) (pv 4) (pe_lst pa_nil) (nomark _))
          (pss_cons (ps_dput hu (pv 2) (pe_ix ix_list (pv 4) (pe_un un_neg pe_int) (fun _ _ => rfl)) pe_bl rfl)
          (pss_one (ps_expr (pe_bm PySem.F.plainAttrs_list PySem.F.slot_list_append PySem.F.type_list_append mt_append (pv 3)
            (pa_cons (pe_tup (pa_cons (pe_ix ix_list (pv 4) (pe_un un_neg pe_int) (fun _ _ => rfl)) (pa_cons (pv 5) pa_nil))) pa_nil)))))
          pss_nil))))
      (pss_one (ps_ret (pe_callB call_sortP rfl zs boot_sorted (pa_cons (pv 3) pa_nil)))))))), ?_⟩
    -- inside
    refine fun d1 n1 => ?_
    refine ⟨_, rfl, a, rfl, ⟨_, SqL.of ((Same.new n1) _ _ hA)⟩, for_list (K := K) (a := a) (xs := ms.map V.int) (fun i σ H' => ∃ (v : Option V), σ = [some (.ref a), some (.ref d1), none, none, none, v] ∧ Same H H' ∧ dHas H' d1 (ms.take i))
      ⟨none, rfl, Same.new n1, dHas.nil upd_same⟩ (fun i σ H' _ ⟨v, _, sm, _⟩ => SqL.of (sm _ _ hA)) ?_ ?_⟩
    · rintro i y σ H' hi ⟨v, rfl, sm, hd⟩
      obtain ⟨t, ht, rfl⟩ := ints_get hi
      have hlt : i < ms.length := (List.getElem?_eq_some_iff.mp ht).1
      obtain ⟨H2, q1, q2, kvs, rfl⟩ := hd.put t (.bl true) (by rw [List.length_take]; omega)
      refine ⟨_, rfl, _, rfl, d1, _, rfl, q1, some (.int t), rfl, Same.upd sm n1, ?_⟩
      rw [List.take_succ_eq_append_getElem hlt, (List.getElem?_eq_some_iff.mp ht).2]
      exact q2
    · rintro σ H1 ⟨v, rfl, sm1, hd1⟩
      rw [List.length_map, List.take_length] at hd1
      -- closed, found
      refine fun d2 n2 => ⟨Nat.zero_le _, fun l nl => ?_⟩
      have nd : d1 ≠ d2 := by
        obtain ⟨kvs, e, _⟩ := hd1
        exact ne_of_none e n2
      have nl1 : H1 l = none := (Same.new n2).free nl
      have n20 : H d2 = none := sm1.free n2
      have nl0 : H l = none := sm1.free nl1
      have sm3 : Same H1 (upd (upd H1 d2 (.dK [])) l (.lst [])) := Same.upd (Same.new n2) nl1
      have hd2 : dHas (upd (upd H1 d2 (.dK [])) l (.lst [])) d2 [] := dHas.nil (by rw [upd_ne (ne_of_none upd_same nl)]; exact upd_same)
      refine ⟨_, rfl, a, rfl, ⟨_, SqL.of ((sm1.trans sm3) _ _ hA)⟩, for_list (K := K) (a := a) (xs := ms.map V.int) (fun i σ H' => ∃ (fnd : List (Int × Int)) (xs : List V) (v4 v5 : Option V), σ = [some (.ref a), some (.ref d1), some (.ref d2), some (.ref l), v4, v5] ∧ Same H H' ∧
          dHas H' d1 ms ∧ dHas H' d2 (M.fst' fnd) ∧ H' l = some (.lst xs) ∧ Paired (pairAt H') xs fnd ∧ M.LInv ms i fnd ∧ fnd.length ≤ i)
        ⟨[], [], none, v, rfl, sm1.trans sm3, hd1.same sm3, hd2, upd_same, .nil, M.linv_zero hS, Nat.le_refl _⟩ (fun i σ H' _ ⟨_, _, _, _, _, sm, _⟩ => SqL.of (sm _ _ hA)) ?_ ?_⟩
      · rintro i y σ H' hi ⟨fnd, xs, v4, v5, rfl, sm, g1, g2, gl, gp, gi, gn⟩
        obtain ⟨t, ht, rfl⟩ := ints_get hi
        have hlt : i < ms.length := (List.getElem?_eq_some_iff.mp ht).1
        have htm := List.mem_of_getElem? ht
        have t0 := hS.lo t htm
        have t1 := hS.hi t htm
        have hfl : fnd.length < 1000 := by omega
        have hxl : xs.length = fnd.length := gp.length
        refine ⟨_, rfl, t, rfl, by omega, by omega, comp_pure (walk_rng t.toNat H') (by rw [List.length_map, M.ir_len]; exact Nat.le_of_lt (small1000 (by omega))) (lpP ms fnd) (fun v => v) ?_ ?_⟩
        · intro x H2 hx sm2 R N hR hN
          obtain ⟨kk, _, rfl⟩ := List.mem_map.mp hx
          refine ⟨sub_own, ?_⟩
          obtain ⟨o1, q1, r1⟩ := (g1.same sm2).get kk
          obtain ⟨o2, q2, r2⟩ := (g2.same sm2).get kk
          refine ⟨_, rfl, _, rfl, d1, o1, rfl, q1, _, rfl, ?_⟩
          rw [r1]
          by_cases c1 : kk ∈ ms
          · refine iteNS c1 ?_
            refine iteF ?_
            refine hN ?_
            exact decide_eq_false fun z => z.1 c1
          · refine iteNF c1 ?_
            refine ⟨_, rfl, _, rfl, d2, o2, rfl, q2, _, rfl, ?_⟩
            rw [r2]
            by_cases c2 : kk ∈ M.fst' fnd
            · refine iteNS c2 ?_
              refine hN ?_
              exact decide_eq_false fun z => z.2 c2
            · refine iteNF c2 ?_
              exact ⟨_, rfl, hR (decide_eq_true ⟨c1, c2⟩)⟩
        · intro fr nf
          rw [lp_free]
          refine ⟨_, rfl, Nat.zero_le _, fun e ne => ?_⟩
          have nfe : fr ≠ e := ne_of_none upd_same ne
          have ne1 : H' e = none := (Same.new nf).free ne
          have sm2 : Same H' (upd (upd H' fr (.lst ((M.lfree ms fnd t).map V.int))) e (.lst [])) := Same.upd (Same.new nf) ne1
          have hfr : (upd (upd H' fr (.lst ((M.lfree ms fnd t).map V.int))) e (.lst [])) fr = some (.lst ((M.lfree ms fnd t).map V.int)) := by rw [upd_ne nfe]; exact upd_same
          generalize hH2 : upd (upd H' fr (.lst ((M.lfree ms fnd t).map V.int))) e (.lst []) = H2 at sm2 hfr
          have pint : ∀ zs : List Int, Paired (rInt H2) (zs.map V.int) zs := fun zs => by
            induction zs with
            | nil => exact .nil
            | cons z zs ih => exact .cons rfl ih
          have he2 : H2 e = some (.lst []) := by rw [← hH2]; exact upd_same
          refine ⟨M.lfree ms fnd t, [], ⟨fr, _, rfl, SqL.of hfr, pint _⟩, ⟨e, _, rfl, SqL.of he2, .nil⟩, _, rfl, ?_⟩
          obtain ⟨L1, L2'⟩ := M.linv_turn hS gi ht
          have g1' := g1.same sm2
          have g2' := g2.same sm2
          have gl' := sm2 _ _ gl
          have gp' := pairAt_same sm2 gp
          have sm' := sm.trans sm2
          rcases M.last_cases (M.lfree ms fnd t) with ee | ⟨w', b, ee⟩
          · refine iteNS ee ?_
            exact ⟨fnd, xs, _, _, rfl, sm', g1', g2', gl', gp', L1 ee, by omega⟩
          · refine iteNF (by rw [ee]; simp) ?_
            rw [ee, List.map_append] at hfr
            obtain ⟨H3, p1, p2, kvs, rfl⟩ := g2'.put b (.bl true) (by unfold M.fst'; rw [List.length_map]; exact hfl)
            refine ⟨_, rfl, _, rfl, _, rfl, fr, _, _, _, rfl, rfl, SqL.of hfr, atI_last _ _, d2, _, rfl, p1, ?_⟩
            have q2 : ∃ kv, H2 d2 = some (.dK kv) := by
              obtain ⟨kv, z, _⟩ := g2'
              exact ⟨kv, z⟩
            obtain ⟨kv, q2⟩ := q2
            have nfd : fr ≠ d2 := ne_of hfr q2 (fun z => nomatch z)
            have nld : l ≠ d2 := ne_of gl' q2 (fun z => nomatch z)
            refine ⟨_, rfl, .inl ⟨rfl, _, SqL.of (by rw [upd_ne nld]; exact gl')⟩, ?_⟩
            refine ⟨_, rfl, _, rfl, fr, _, _, _, rfl, rfl, SqL.of (by rw [upd_ne nfd]; exact hfr), atI_last _ _, _, rfl, by show 2 ≤ sizeLine; decide, fun tp nt => ?_⟩
            have nt' : H2 tp = none := by
              cases z : H2 tp with
              | none => rfl
              | some o =>
                by_cases ez : tp = d2
                · rw [ez, upd_same] at nt; cases nt
                · rw [upd_ne ez, z] at nt; cases nt
            have nlt : l ≠ tp := ne_of_none gl' nt'
            have ndt : d2 ≠ tp := ne_of_none q2 nt'
            refine ⟨l, xs, .ref tp, rfl, rfl, by rw [upd_ne nlt, upd_ne nld]; exact gl', by rw [hxl]; exact small1000 (by omega), ?_⟩
            refine ⟨fnd ++ [(b, t)], xs ++ [.ref tp], _, _, rfl, ?_, ?_, ?_, upd_same, ?_, L2' w' b ee, by rw [List.length_append, List.length_singleton]; omega⟩
            · exact Same.upd (Same.upd (Same.upd sm' n20) (sm'.free nt')) nl0
            · refine dHas.ne' (dHas.same (dHas.ne' g1' nd) (Same.new (by rw [upd_ne ndt.symm]; exact nt'))) ?_
              obtain ⟨kv1, z1, _⟩ := g1'
              exact ne_of z1 gl' (fun z => nomatch z)
            · have ef : M.fst' (fnd ++ [(b, t)]) = M.fst' fnd ++ [b] := by unfold M.fst'; simp
              rw [ef]
              exact dHas.ne' (p2.same (Same.new (by rw [upd_ne ndt.symm]; exact nt'))) nld.symm
            · refine paired_snoc ?_ ⟨tp, rfl, by rw [upd_ne nlt.symm]; exact upd_same⟩
              refine pairAt_upd (u := .lst xs) (by rw [upd_ne nlt, upd_ne nld]; exact gl') (fun _ z => nomatch z) ?_
              refine pairAt_same (Same.new (by rw [upd_ne ndt.symm]; exact nt')) ?_
              exact pairAt_upd q2 (fun _ z => nomatch z) gp'
      · rintro σ H' ⟨fnd, xs, v4, v5, rfl, sm, g1, g2, gl, gp, gi, gn⟩
        rw [List.length_map] at gi gn
        have ef := M.linv_end hS gi
        refine ⟨_, rfl, l, fnd, rfl, ⟨xs, SqL.of gl, gp⟩, by omega, fun p ys np hy => ?_⟩
        rw [ef] at hy
        exact k p ys _ (sm.free np) (Same.upd sm (sm.free np)) upd_same hy

theorem sc_ll : FnScope ["size", "members", "taken", "one", "other", "alone"] ["size", "members"] (defScope s__law_loose) := ⟨rfl, rfl, rfl, by decide +kernel, rfl, by decide +kernel, by decide +kernel⟩
theorem ok_ll {f fP : Addr} {fd dP : FuncData} (D : Dn K mg "_law_loose" s__law_loose ["size", "members"] f fd) (DP : Dn K mg "_law_pairs" s__law_pairs ["members"] fP dP)
    (GP : FnOk P w K mg base CX0 1 fP dP ["members"] spLp) (zr : mg "range" = none) : FnOk P w K mg base CX0 2 f fd ["size", "members"] spLo := by
  refine D.fn.ok sc_ll (fun vs H Q E h => ?_) (fun cdv A outer s H vs Q E hr h => ?_)
  · obtain ⟨n, a, ms, rfl, _⟩ := h
    rfl
  · obtain ⟨n, a, ms, rfl, hn, hA, hS, k⟩ := h
    have hu := hu_of hr
    refine ⟨_, pss_cons (ps_set (i := 2) sc_ll.nd rfl (Or.inr rfl) pe_dnewK)
      (pss_cons (ps_for PassesOwn.never rfl (pi_list (pe_call GP hr rfl DP.mg DP.fn.kp DP.bi .nil pass0 (pa_cons (pv 1) pa_nil))) (pg_tup rfl (pgs_cons (pg_name (i := 3) sc_ll.nd rfl (Or.inl rfl)) (pgs_cons (pg_name (i := 4) sc_ll.nd rfl (Or.inl rfl)) pgs_nil)))
        (pss_cons (ps_dput hu (pv 2) (pv 3) pe_bl rfl) (pss_one (ps_dput hu (pv 2) (pv 4) pe_bl rfl))))
      (pss_cons (ps_setC (i := 5) (own := ["thing"]) (red := ["taken"]) (js := [2]) (g := gName 0) (tc := tB (tDNotIn (tVar 0) (tVar 1))) (te := tVar 0) rfl sc_ll.nd rfl (Or.inl rfl) rfl
          ⟨rfl, (by decide +kernel), (by decide +kernel), (by show ∀ y ∈ (_ : List (Str × NameKind)), y.2 = NameKind.free → (defScope s__law_loose).names.lookup y.1 = some .cell ∨ (defScope s__law_loose).names.lookup y.1 = some .free; decide +kernel),
            ⟨(by decide +kernel), (by show ∀ y ∈ (_ : List Str), (defScope s__law_loose).names.lookup y = some .cell ∨ (defScope s__law_loose).names.lookup y = some .free; decide +kernel), rfl⟩⟩
          (pi_list (pv 1))
          (fun Y hY => by
            obtain ⟨cl, pins, s1, H1, C, fp, rfl⟩ := hY.ex
            exact pg_name (i := 0) (by show (["thing", "taken"] : List Str).Nodup; decide +kernel) rfl (Or.inl rfl))
          (fun Y hY => by
            obtain ⟨cl, pins, s1, H1, C, fp, rfl⟩ := hY.ex
            exact pts_one (pt_cmp (pc_dnotin hu (pv 0) (pv 1))))
          (fun Y hY => by
            obtain ⟨cl, pins, s1, H1, C, fp, rfl⟩ := hY.ex
            exact pv 0))
      (pss_one (ps_ret (pe_tup (pa_cons (pv 5) (pa_cons (pe_comp (own := ["thing"]) (red := ["members", "taken"]) (js := [1, 2]) (g := gName 0) (tc := tAnd (tB (tDNotIn (tVar 0) (tVar 2))) (tTest (tOp (rIn K true) (tVar 0) (tVar 1)))) (te := tVar 0) rfl
          ⟨rfl, (by decide +kernel), (by decide +kernel), (by show ∀ y ∈ (_ : List (Str × NameKind)), y.2 = NameKind.free → (defScope s__law_loose).names.lookup y.1 = some .cell ∨ (defScope s__law_loose).names.lookup y.1 = some .free; decide +kernel),
            ⟨(by decide +kernel), (by show ∀ y ∈ (_ : List Str), (defScope s__law_loose).names.lookup y = some .cell ∨ (defScope s__law_loose).names.lookup y = some .free; decide +kernel), rfl⟩⟩
          (pi_range1 rfl zr (pa_cons (pv 0) pa_nil))
          (fun Y hY => by
            obtain ⟨cl, pins, s1, H1, C, fp, rfl⟩ := hY.ex
            exact pg_name (i := 0) (by show (["thing", "members", "taken"] : List Str).Nodup; decide +kernel) rfl (Or.inl rfl))
          (fun Y hY => by
            obtain ⟨cl, pins, s1, H1, C, fp, rfl⟩ := hY.ex
            exact pts_one (PW.pt (pw_and (pt_cmp (pc_dnotin hu (pv 0) (pv 2))) (pw_and1 (pt_cmpR op_notIn_seq (pv 0) (pv 1) rfl)))))
          (fun Y hY => by
            obtain ⟨cl, pins, s1, H1, C, fp, rfl⟩ := hY.ex
            exact pv 0)) pa_nil))))))), ?_⟩
    have plen := M.prs_len n ms
    have en : (n : Int).toNat = n := by omega
    refine fun d nd => ?_
    refine ⟨_, rfl, n, a, ms, rfl, hn, (Same.new nd) _ _ hA, hS, fun l ys H1 nl s1 hl hp => ?_⟩
    have hd1 : H1 d = some (.dK []) := s1 _ _ upd_same
    have nld : l ≠ d := ne_of hl hd1 (fun z => nomatch z)
    have sH : Same H H1 := (Same.new nd).trans s1
    refine ⟨l, rfl, ⟨_, SqL.of hl⟩, for_list (K := K) (a := l) (xs := ys) (fun i σ H' => ∃ (v v' : Option V) (kv : List (Key × V)), σ = [some (.int n), some (.ref a), some (.ref d), v, v', none] ∧ H' = upd H1 d (.dK kv) ∧ dHas H' d (M.bset ((M.prs n ms).take i)))
      ⟨none, none, [], rfl, (upd_self hd1).symm, dHas.nil hd1⟩ (fun i σ H' _ ⟨v, v', kv, _, e, _⟩ => by rw [e]; exact SqL.of (by rw [upd_ne nld]; exact hl)) ?_ ?_⟩
    · rintro i y σ H' hi ⟨v, v', kv, rfl, rfl, hd⟩
      obtain ⟨p, ta, hpi, rfl, hta⟩ := pair_ix hp hi
      have hip : i < (M.prs n ms).length := (List.getElem?_eq_some_iff.mp hpi).1
      have ntd : ta ≠ d := ne_of hta hd1 (fun z => nomatch z)
      have bl := M.bset_len ((M.prs n ms).take i)
      rw [List.length_take] at bl
      obtain ⟨H2, q1, q2, kv2, rfl⟩ := hd.put p.1 (.bl true) (by omega)
      obtain ⟨H3, q3, q4, kv3, rfl⟩ := q2.put p.2 (.bl true) (by rw [List.length_append, List.length_singleton]; omega)
      refine ⟨ta, _, rfl, SqT.of (by rw [upd_ne ntd]; exact hta), rfl, _, _, rfl, _, _, rfl, rfl, ?_⟩
      refine ⟨_, rfl, _, rfl, d, _, rfl, q1, ?_⟩
      refine ⟨_, rfl, _, rfl, d, _, rfl, q3, ?_⟩
      refine ⟨some (.int p.1), some (.int p.2), kv3, rfl, by rw [upd_upd, upd_upd], ?_⟩
      rw [take_snoc hpi, M.bset_snoc]
      exact q4
    · rintro σ H' ⟨v, v', kv, rfl, rfl, hd⟩
      rw [hp.length, List.take_length] at hd
      have s2 : Same H (upd H1 d (.dK kv)) := Same.upd sH nd
      have hA2 := s2 _ _ hA
      generalize upd H1 d (.dK kv) = H2 at hd s2 hA2
      have msl := hS.len
      -- alone
      refine ⟨_, rfl, a, rfl, ⟨_, SqL.of hA2⟩, comp_int (walk_list (SqL.of hA2)) (by omega) (fun x => decide (x ∉ M.bset (M.prs n ms))) (fun kk H' _ sm R hR => ?_) fun al na => ?_⟩
      · obtain ⟨o, q, r⟩ := (hd.same sm).get kk
        refine ⟨_, rfl, _, rfl, d, o, rfl, q, _, rfl, ?_⟩
        rw [r, ← decide_not]
        exact hR
      · rw [M.ms_lms hS]
        have s3 : Same H2 (upd H2 al (.lst ((M.lms n ms).map V.int))) := Same.new na
        have hal : (upd H2 al (.lst ((M.lms n ms).map V.int))) al = some (.lst ((M.lms n ms).map V.int)) := upd_same
        generalize upd H2 al (.lst ((M.lms n ms).map V.int)) = H3 at s3 hal
        -- the others
        refine ⟨_, rfl, _, rfl, (n : Int), rfl, by omega, by omega, comp_int (l := M.ir (n : Int).toNat) (walk_rng _ H3) (by rw [M.ir_len]; omega) (fun x => decide (x ∉ M.bset (M.prs n ms) ∧ x ∉ ms)) (fun kk H' _ sm R hR => ?_) fun ot no => ?_⟩
        · obtain ⟨o, q, r⟩ := ((hd.same s3).same sm).get kk
          refine ⟨_, rfl, _, rfl, d, o, rfl, q, _, rfl, ?_⟩
          rw [r]
          by_cases c1 : kk ∈ M.bset (M.prs n ms)
          · refine iteNS c1 ?_
            rw [decide_eq_false (fun z => z.1 c1)] at hR
            exact hR
          · refine iteNF c1 ?_
            refine ⟨_, rfl, _, rfl, a, _, rfl, .inl (SqL.of (sm _ _ (s3 _ _ hA2))), rfl, flat_ints ms, _, rfl, ?_⟩
            rw [inV_ints]
            show R (!decide (kk ∈ ms)) H'
            by_cases c2 : kk ∈ ms
            · rw [decide_eq_false (fun z => z.2 c2)] at hR
              rw [decide_eq_true c2]
              exact hR
            · rw [decide_eq_true (show kk ∉ M.bset (M.prs n ms) ∧ kk ∉ ms from ⟨c1, c2⟩)] at hR
              rw [decide_eq_false c2]
              exact hR
        · rw [en, M.ir_los]
          have nao : al ≠ ot := ne_of_none hal no
          refine ⟨by show 2 ≤ sizeLine; decide, fun t nt => ?_⟩
          have s4 : Same H3 (upd H3 ot (.lst ((M.los n ms).map V.int))) := Same.new no
          refine k t al ot _ ((s2.trans (s3.trans s4)).free nt) (s2.free na) ((s2.trans s3).free no) nao ((s2.trans (s3.trans s4)).trans (Same.new nt)) upd_same ?_ ?_
          · exact (Same.new nt) _ _ (s4 _ _ hal)
          · exact (Same.new nt) _ _ upd_same

def spIs (K : PySem.W.Frag) : Sp := fun vs H Q _ => ∃ (a b : Addr) (ns : List Int), vs = [.ref a, .ref b] ∧ H a = some (.lst (ns.map V.int)) ∧ H b = some (.lst (ns.map V.int)) ∧ ns.length ≤ 63 ∧ Q (.bl true) H
theorem sc_is : FnScope ["found", "due", "k"] ["found", "due"] (defScope s__law_is_set) := ⟨rfl, rfl, rfl, by decide +kernel, rfl, by decide +kernel, by decide +kernel⟩
theorem ok_is {f f1 : Addr} {fd fd1 : FuncData} (D : Dn K mg "_law_is_set" s__law_is_set ["found", "due"] f fd) (D1 : Dn K mg "_law_whole" s__law_whole ["found"] f1 fd1) (G1 : FnOk P w K mg base CX0 1 f1 fd1 ["found"] spWh)
    (zi : mg "isinstance" = none) (zl : mg "list" = none) (zn : mg "len" = none) (zr : mg "range" = none) : FnOk P w K mg base CX0 2 f fd ["found", "due"] (spIs K) := by
  refine D.fn.ok sc_is (fun vs H Q E h => ?_) (fun cdv A outer s H vs Q E hr h => ?_)
  · obtain ⟨a, b, ns, rfl, _⟩ := h
    rfl
  · obtain ⟨a, b, ns, rfl, ha, hb, hz, k⟩ := h
    refine ⟨_, pss_cons (ps_if (PW.pt (pw_or (pt_not (pt_val (pe_callB call_isi rfl zi boot_isinstance (pa_cons (pv 0) (pa_cons (pe_bltn (v := .ty "list") rfl zl PyProof.Rows.boot_list rfl) pa_nil)))))
        (pw_or1 (pt_cmpR op_ne (pe_callB call_len_seq rfl zn PySem.boot_len (pa_cons (pv 0) pa_nil)) (pe_callB call_len_seq rfl zn PySem.boot_len (pa_cons (pv 1) pa_nil)) (nomark _))))) pss_never pss_nil)
      (pss_cons (ps_for PassesOwn.never rfl (pi_range1 rfl zr (pa_cons (pe_callB call_len_seq rfl zn PySem.boot_len (pa_cons (pv 1) pa_nil)) pa_nil)) (pg_name (i := 2) sc_is.nd rfl (Or.inl rfl))
        (pss_one (ps_if (PW.pt (pw_or (pt_not (pt_val (pe_call G1 hr rfl D1.mg D1.fn.kp D1.bi .nil pass0 (pa_cons (pe_ix ix_list (pv 0) (pv 2) (fun _ _ => rfl)) pa_nil))))
            (pw_or1 (pt_cmpR op_ne (pe_ix ix_list (pv 0) (pv 2) (fun _ _ => rfl)) (pe_ix ix_list (pv 1) (pv 2) (fun _ _ => rfl)) (nomark _))))) pss_never pss_nil)))
      (pss_one (ps_ret pe_bl))), ?_⟩
    refine ⟨_, rfl, _, _, _, true, rfl, TyOf.lst ha, rfl, true, rfl, ?_⟩
    refine iteBF rfl ?_
    refine ⟨_, rfl, a, _, rfl, .inl (SqL.of ha), _, rfl, b, _, rfl, .inl (SqL.of hb), rfl, _, rfl, ?_⟩
    refine iteNS rfl ?_
    refine ⟨_, rfl, b, _, rfl, .inl (SqL.of hb), _, rfl, by rw [List.length_map]; omega, by rw [List.length_map]; omega, for_range (lo := 0) (n := ((ns.map V.int).length : Int).toNat) (fun i σ H' => H' = H ∧ ∃ v : Option V, σ = [some (.ref a), some (.ref b), v])
      ⟨rfl, none, rfl⟩ ?_ ?_⟩
    · rintro i σ H' hi ⟨rfl, v, rfl⟩
      have e0 : (0 : Int) + (i : Int) = i := by omega
      rw [List.length_map] at hi
      have hin : i < ns.length := by omega
      have gi : (ns.map V.int)[i]? = some (.int ns[i]) := by rw [List.getElem?_map, List.getElem?_eq_getElem hin]; rfl
      refine ⟨_, rfl, _, rfl, a, _, _, _, rfl, rfl, SqL.of ha, (by rw [e0]; exact atI_nat gi), ns[i], rfl, true, rfl, ?_⟩
      refine iteBF rfl ?_
      refine ⟨_, rfl, _, rfl, a, _, _, _, rfl, rfl, SqL.of ha, (by rw [e0]; exact atI_nat gi), _, rfl, _, rfl, b, _, _, _, rfl, rfl, SqL.of hb, (by rw [e0]; exact atI_nat gi), rfl, _, rfl, ?_⟩
      refine iteNS rfl ?_
      exact ⟨rfl, _, rfl⟩
    · rintro σ H' ⟨rfl, _⟩
      exact k

def famAt5 (H : Hp) (a : Addr) (F : List (List Int)) : Prop := ∃ ys, H a = some (.lst ys) ∧ Paired (rowR H) ys F
theorem famAt5.same {H H' : Hp} {a : Addr} {F : List (List Int)} (h : famAt5 H a F) (e : Same H H') : famAt5 H' a F := by
  obtain ⟨ys, h1, h2⟩ := h
  exact ⟨ys, e _ _ h1, rowR_same e h2⟩

def bRowO (l : Addr) (H : Hp) (x : V) (r : List Bool) : Prop := ∃ c, x = .ref c ∧ c ≠ l ∧ H c = some (.lst (r.map V.bl))
theorem bRowO_same {l : Addr} {H H' : Hp} (e : Same H H') {xs : List V} {rs : List (List Bool)} (h : Paired (bRowO l H) xs rs) : Paired (bRowO l H') xs rs := Paired.imp' (fun x p ⟨a, e1, n, e2⟩ => ⟨a, e1, n, e a _ e2⟩) h
theorem bRow_more {l : Addr} {b : Bool} {H1 H0 : Hp} : ∀ {ys zs : List V} {F : List (List Bool)}, Paired (bRowO l H1) ys F → Paired (fun x y => ∀ r, bRowO l H1 x r → bRowO l H0 y (r ++ [b])) ys zs → Paired (bRowO l H0) zs (F.map fun r => r ++ [b])
  | _, _, _, .nil, .nil => .nil
  | _, _, _, .cons a b, .cons c d => .cons (c _ a) (bRow_more b d)
theorem paired_append {α β : Type} {F : α → β → Prop} : ∀ {xs ys : List α} {ds es : List β}, Paired F xs ds → Paired F ys es → Paired F (xs ++ ys) (ds ++ es)
  | _, _, _, _, .nil, h => h
  | _, _, _, _, .cons a b, h => .cons a (paired_append b h)
def tripO (l : Addr) (H : Hp) (x : V) (t : M.Trip) : Prop := ∃ a b c, x = .ref a ∧ b ≠ l ∧ c ≠ l ∧ a ≠ l ∧ H a = some (.tup [.int t.1, .ref b, .ref c]) ∧ H b = some (.lst (t.2.1.map V.bl)) ∧ H c = some (.lst (t.2.2.map V.int))
theorem tripO_T {l : Addr} {H : Hp} {xs : List V} {ts : List M.Trip} (h : Paired (tripO l H) xs ts) : Paired (tripAt H) xs ts := Paired.imp' (fun x p ⟨a, b, c, e1, _, _, _, e2, e3, e4⟩ => ⟨a, b, c, e1, e2, e3, e4⟩) h
theorem tripO_same {l : Addr} {H H' : Hp} (e : Same H H') {xs : List V} {ts : List M.Trip} (h : Paired (tripO l H) xs ts) : Paired (tripO l H') xs ts := Paired.imp' (fun x p ⟨a, b, c, e1, n1, n2, n3, e2, e3, e4⟩ => ⟨a, b, c, e1, n1, n2, n3, e a _ e2, e b _ e3, e c _ e4⟩) h
theorem tripO_upd {l : Addr} {H : Hp} {o : HO} {xs : List V} {ts : List M.Trip} (h : Paired (tripO l H) xs ts) : Paired (tripO l (upd H l o)) xs ts :=
  Paired.imp' (fun x p ⟨a, b, c, e1, n1, n2, n3, e2, e3, e4⟩ => ⟨a, b, c, e1, n1, n2, n3, by rw [upd_ne n3]; exact e2, by rw [upd_ne n1]; exact e3, by rw [upd_ne n2]; exact e4⟩) h
theorem trips_rowsR {H1 H0 : Hp} : ∀ {ys zs : List V} {ts : List M.Trip}, Paired (tripAt H1) ys ts → Paired (fun x y => ∀ t, tripAt H1 x t → rowR H0 y t.2.2) ys zs → Paired (rowR H0) zs (ts.map fun t => t.2.2)
  | _, _, _, .nil, .nil => .nil
  | _, _, _, .cons a b, .cons c d => .cons (c _ a) (trips_rowsR b d)
theorem trips_snoc_in {n : Nat} {rs : List (List Bool)} {r : List Bool} (h : M.lms n (M.mem n r) = []) : M.trips n (rs ++ [r]) = M.trips n rs ++ [M.trip n r] := by
  unfold M.trips
  rw [List.filter_append, List.map_append]
  simp [h]
theorem trips_snoc_out {n : Nat} {rs : List (List Bool)} {r : List Bool} (h : M.lms n (M.mem n r) ≠ []) : M.trips n (rs ++ [r]) = M.trips n rs := by
  unfold M.trips
  rw [List.filter_append, List.map_append]
  simp [h]
theorem trips_len (n : Nat) (rs : List (List Bool)) : (M.trips n rs).length ≤ rs.length := by
  unfold M.trips
  rw [List.length_map]
  exact List.length_filter_le _ _
def spBt : Sp := fun vs H Q _ => ∃ n : Nat, vs = [.int n] ∧ n ≤ 8 ∧ ∀ (l : Addr) (ys : List V) (H' : Hp), H l = none → Same H H' → H' l = some (.lst ys) → Paired (rowR H') ys (M.bots n) → Q (.ref l) H'
theorem sc_bt : FnScope ["size", "found", "flags", "k", "row", "members"] ["size"] (defScope s__law_bottoms) := ⟨rfl, rfl, rfl, by decide +kernel, rfl, by decide +kernel, by decide +kernel⟩
theorem ok_bt {f fL : Addr} {fd dL : FuncData} (D : Dn K mg "_law_bottoms" s__law_bottoms ["size"] f fd) (DL : Dn K mg "_law_loose" s__law_loose ["size", "members"] fL dL) (GL : FnOk P w K mg base CX0 2 fL dL ["size", "members"] spLo)
    (zr : mg "range" = none) (zl : mg "len" = none) (zs : mg "sorted" = none) : FnOk P w K mg base CX0 3 f fd ["size"] spBt := by
  refine D.fn.ok sc_bt (fun vs H Q E h => ?_) (fun cdv A outer s H vs Q E hr h => ?_)
  · obtain ⟨n, rfl, _⟩ := h
    rfl
  · obtain ⟨n, rfl, hn, q⟩ := h
    have hu := hu_of hr
    have hu8 : (A.deeper (envOfC "_law_bottoms" (defScope s__law_bottoms) s.heap.objs.size f cdv)).units + 8 < cLine := by have := hr.units; omega
    refine ⟨_, pss_cons (ps_set (i := 1) sc_bt.nd rfl (Or.inl rfl) (pe_lst pa_nil))
      (pss_cons (ps_set (i := 2) sc_bt.nd rfl (Or.inl rfl) (pe_lst (pa_cons (pe_lst pa_nil) pa_nil)))
      (pss_cons (ps_for PassesOwn.never rfl (pi_range1 rfl zr (pa_cons (pv 0) pa_nil)) (pg_name (i := 3) sc_bt.nd rfl (Or.inl rfl))
        (pss_one (ps_set (i := 2) sc_bt.nd rfl (Or.inl rfl) (pe_op op_cat
          (pe_comp (own := ["row"]) (red := []) (js := []) (g := gName 0) (tc := tYes) (te := tOp rCat (tVar 0) (tLst (tCons (tC (.bl false)) tNil))) rfl
            ⟨rfl, (by decide +kernel), (by decide +kernel), (by show ∀ y ∈ (_ : List (Str × NameKind)), y.2 = NameKind.free → (defScope s__law_bottoms).names.lookup y.1 = some .cell ∨ (defScope s__law_bottoms).names.lookup y.1 = some .free; decide +kernel), ⟨(fun _ h => nomatch h), (fun _ h => nomatch h), rfl⟩⟩ (pi_list (pv 2))
            (fun Y hY => by (obtain ⟨_, _, _, _, _, _, rfl⟩ := hY.ex; exact (pg_name (i := 0) (by show (["row"] : List Str).Nodup; decide +kernel) rfl (Or.inl rfl))))
            (fun Y hY => by (obtain ⟨_, _, _, _, _, _, rfl⟩ := hY.ex; exact pts_nil))
            (fun Y hY => by (obtain ⟨_, _, _, _, _, _, rfl⟩ := hY.ex; exact (pe_op op_cat (pv 0) (pe_lst (pa_cons pe_bl pa_nil))))))
          (pe_comp (own := ["row"]) (red := []) (js := []) (g := gName 0) (tc := tYes) (te := tOp rCat (tVar 0) (tLst (tCons (tC (.bl true)) tNil))) rfl
            ⟨rfl, (by decide +kernel), (by decide +kernel), (by show ∀ y ∈ (_ : List (Str × NameKind)), y.2 = NameKind.free → (defScope s__law_bottoms).names.lookup y.1 = some .cell ∨ (defScope s__law_bottoms).names.lookup y.1 = some .free; decide +kernel), ⟨(fun _ h => nomatch h), (fun _ h => nomatch h), rfl⟩⟩ (pi_list (pv 2))
            (fun Y hY => by (obtain ⟨_, _, _, _, _, _, rfl⟩ := hY.ex; exact (pg_name (i := 0) (by show (["row"] : List Str).Nodup; decide +kernel) rfl (Or.inl rfl))))
            (fun Y hY => by (obtain ⟨_, _, _, _, _, _, rfl⟩ := hY.ex; exact pts_nil))
            (fun Y hY => by (obtain ⟨_, _, _, _, _, _, rfl⟩ := hY.ex; exact (pe_op op_cat (pv 0) (pe_lst (pa_cons pe_bl pa_nil))))))))))
      (pss_cons (ps_for PassesOwn.never rfl (pi_list (pv 2)) (pg_name (i := 4) sc_bt.nd rfl (Or.inr rfl))
        (pss_cons (ps_setC (i := 5) (own := ["thing"]) (red := ["row"]) (js := [4]) (g := gName 0) (tc := tB (tOp (rIxL K) (tVar 1) (tVar 0))) (te := tVar 0) rfl sc_bt.nd rfl (Or.inl rfl) rfl
          ⟨rfl, (by decide +kernel), (by decide +kernel), (by show ∀ y ∈ (_ : List (Str × NameKind)), y.2 = NameKind.free → (defScope s__law_bottoms).names.lookup y.1 = some .cell ∨ (defScope s__law_bottoms).names.lookup y.1 = some .free; decide +kernel), ⟨(by decide +kernel), (by show ∀ y ∈ (_ : List Str), (defScope s__law_bottoms).names.lookup y = some .cell ∨ (defScope s__law_bottoms).names.lookup y = some .free; decide +kernel), rfl⟩⟩ (pi_range1 rfl zr (pa_cons (pv 0) pa_nil))
          (fun Y hY => by (obtain ⟨_, _, _, _, _, _, rfl⟩ := hY.ex; exact (pg_name (i := 0) (by show (["thing", "row"] : List Str).Nodup; decide +kernel) rfl (Or.inl rfl))))
          (fun Y hY => by (obtain ⟨_, _, _, _, _, _, rfl⟩ := hY.ex; exact (pts_one (pt_val (pe_ix ix_list (pv 1) (pv 0) (fun _ _ => rfl))))))
          (fun Y hY => by (obtain ⟨_, _, _, _, _, _, rfl⟩ := hY.ex; exact (pv 0))))
        (pss_one (ps_if (pt_cmpR (op_eqL (deq_int 0 _) hu) (pe_ix ix_tup (pe_call GL hr rfl DL.mg DL.fn.kp DL.bi .nil pass0 (pa_cons (pv 0) (pa_cons (pv 5) pa_nil))) pe_int (fun _ _ => rfl)) (pe_lst pa_nil) (nomark _))
          (pss_one (ps_expr (pe_bm PySem.F.plainAttrs_list PySem.F.slot_list_append PySem.F.type_list_append mt_append (pv 1)
            (pa_cons (pe_tup (pa_cons (pe_callB call_lenS rfl zl PySem.boot_len (pa_cons (pv 5) pa_nil)) (pa_cons (pv 4) (pa_cons (pv 5) pa_nil)))) pa_nil)))) pss_nil))))
      (pss_one (ps_ret (pe_comp (own := ["some", "row", "members"]) (red := []) (js := []) (g := gTup K 3 (gCons (gName 0) (gCons (gName 1) (gCons (gName 2) gNil)))) (tc := tYes) (te := tVar 2) rfl
        ⟨rfl, (by decide +kernel), (by decide +kernel), (by show ∀ y ∈ (_ : List (Str × NameKind)), y.2 = NameKind.free → (defScope s__law_bottoms).names.lookup y.1 = some .cell ∨ (defScope s__law_bottoms).names.lookup y.1 = some .free; decide +kernel), ⟨(fun _ h => nomatch h), (fun _ h => nomatch h), rfl⟩⟩ (pi_list (pe_callB (call_sortU (call_sortT hu8) (call_sort8 hu8)) rfl zs boot_sorted (pa_cons (pv 1) pa_nil)))
        (fun Y hY => by (obtain ⟨_, _, _, _, _, _, rfl⟩ := hY.ex; exact (pg_tup rfl (pgs_cons (pg_name (i := 0) (by show (["some", "row", "members"] : List Str).Nodup; decide +kernel) rfl (Or.inl rfl)) (pgs_cons (pg_name (i := 1) (by show (["some", "row", "members"] : List Str).Nodup; decide +kernel) rfl (Or.inl rfl)) (pgs_cons (pg_name (i := 2) (by show (["some", "row", "members"] : List Str).Nodup; decide +kernel) rfl (Or.inl rfl)) pgs_nil))))))
        (fun Y hY => by (obtain ⟨_, _, _, _, _, _, rfl⟩ := hY.ex; exact pts_nil))
        (fun Y hY => by (obtain ⟨_, _, _, _, _, _, rfl⟩ := hY.ex; exact (pv 2))))))))), ?_⟩
    have p7 : 2 ^ n ≤ 256 := by
      have : 2 ^ n ≤ 2 ^ 8 := Nat.pow_le_pow_right (by decide) (by omega)
      exact this
    -- found, flags
    refine ⟨Nat.zero_le _, fun l nl => ?_⟩
    have s0 : Same H (upd H l (.lst [])) := Same.new nl
    have hl0 : (upd H l (.lst [])) l = some (.lst []) := upd_same
    generalize upd H l (.lst []) = H0 at s0 hl0
    refine ⟨Nat.zero_le _, fun e ne => ?_⟩
    have s1 : Same H0 (upd H0 e (.lst [])) := Same.new ne
    have he : (upd H0 e (.lst [])) e = some (.lst []) := upd_same
    have nel : e ≠ l := fun z => by rw [z, hl0] at ne; cases ne
    generalize upd H0 e (.lst []) = H1 at s1 he
    refine ⟨by show 1 ≤ sizeLine; decide, fun g ng => ?_⟩
    have s2 : Same H1 (upd H1 g (.lst [.ref e])) := Same.new ng
    have hg : (upd H1 g (.lst [.ref e])) g = some (.lst [.ref e]) := upd_same
    generalize upd H1 g (.lst [.ref e]) = H2 at s2 hg
    refine ⟨_, rfl, (n : Int), rfl, by omega, by omega, for_range (lo := 0) (n := (n : Int).toNat) (fun i σ H' => ∃ (g : Addr) (ys : List V) (v : Option V), σ = [some (.int n), some (.ref l), some (.ref g), v, none, none] ∧ Same H0 H' ∧ H' g = some (.lst ys) ∧ Paired (bRowO l H') ys (M.flg i))
      ⟨g, [.ref e], none, rfl, s1.trans s2, hg, .cons ⟨e, rfl, nel, s2 _ _ he⟩ .nil⟩ ?_ ?_⟩
    · rintro i σ H3 hi ⟨g, ys, v, rfl, s3, hg3, hp3⟩
      have e0 : (0 : Int) + (i : Int) = i := by omega
      rw [e0]
      have yl := hp3.length
      rw [M.flg_count] at yl
      have pi7 : 2 ^ i ≤ 256 := by
        have : 2 ^ i ≤ 2 ^ 8 := Nat.pow_le_pow_right (by decide) (by omega)
        exact this
      have hl3 := s3 _ _ hl0
      -- one half
      have half : ∀ (b : Bool) (H4 : Hp), Same H3 H4 → ∀ (Q' : VK), (∀ D zs H5, H4 D = none → Same H4 H5 → H5 D = some (.lst zs) → Paired (bRowO l H5) zs ((M.flg i).map fun r => r ++ [b]) → Q' (.ref D) H5) →
          CompTo ["row"] [] (gName 0) tYes (tOp rCat (tVar 0) (tLst (tCons (tC (.bl b)) tNil))) ([some (.int n), some (.ref l), some (.ref g), v, none, none].set 3 (some (.int i))) (Itl K g) H4 Q' := by
        intro b H4 s4 Q' fin
        have hg4 := s4 _ _ hg3
        have hp4 := bRowO_same s4 hp3
        refine comp_all (walk_list (SqL.of hg4)) (Nat.le_of_lt (small1000 (by omega))) (fun H x y => ∀ r, bRowO l H4 x r → bRowO l H y (r ++ [b])) (fun H H' x y sm h r hr => by obtain ⟨c, h1, h2, h3⟩ := h r hr; exact ⟨c, h1, h2, sm _ _ h3⟩) (fun x H' D zs hx sm hD N hN => ?_) fun D H5 zs nD s5 nD5 hz => ?_
        · obtain ⟨j, hj⟩ := List.getElem?_of_mem hx
          obtain ⟨r, hr0, c, rfl, ncl, hc⟩ := paired_get? hp4 hj
          have rl := M.flg_len (List.mem_of_getElem? hr0)
          refine ⟨sub_none, ?_⟩
          refine ⟨_, rfl, by show 1 ≤ sizeLine; decide, fun t nt => ?_⟩
          have hc' := sm _ _ hc
          have nct : c ≠ t := ne_of_none hc' nt
          refine ⟨c, t, _, _, rfl, rfl, by rw [upd_ne nct]; exact hc', upd_same, ?_, fun u nu => ?_⟩
          · rw [List.length_map]
            exact Nat.le_of_lt (small1000 (by show r.length + 1 ≤ 1000; omega))
          · have nu0 : H' u = none := (Same.new nt).free nu
            have nuD : u ≠ D := fun z => by rw [z, hD] at nu0; cases nu0
            have nul : u ≠ l := fun z => by rw [z, sm _ _ (s4 _ _ hl3)] at nu0; cases nu0
            refine hN _ _ ((Same.new nt).trans (Same.new nu)) fun r' hr' => ?_
            obtain ⟨c', e1, _, e2⟩ := hr'
            cases e1
            rw [hc] at e2
            have e3 : r.map V.bl = r'.map V.bl := HO.lst.inj (Option.some.inj e2)
            refine ⟨u, rfl, nul, ?_⟩
            rw [del_ne nuD, upd_same, e3, List.map_append]
            rfl
        · exact fin D zs _ nD (Same.upd s5 nD) upd_same (bRowO_same (Same.new nD5) (bRow_more hp4 hz))
      refine ⟨_, rfl, g, rfl, ⟨_, SqL.of hg3⟩, half false H3 (Same.refl _) _ fun d1 z1 H4 nd1 s4 hd1 hz1 => ?_⟩
      refine ⟨_, rfl, g, rfl, ⟨_, SqL.of (s4 _ _ hg3)⟩, half true H4 s4 _ fun d2 z2 H5 nd2 s5 hd2 hz2 => ?_⟩
      have zl1 := hz1.length
      have zl2 := hz2.length
      rw [List.length_map, M.flg_count] at zl1 zl2
      refine ⟨d1, d2, z1, z2, rfl, rfl, s5 _ _ hd1, hd2, Nat.le_of_lt (small1000 (by omega)), fun p np => ?_⟩
      refine ⟨p, z1 ++ z2, _, rfl, s3.trans (s4.trans (s5.trans (Same.new np))), upd_same, ?_⟩
      exact bRowO_same (Same.new np) (paired_append (bRowO_same s5 hz1) hz2)
    rintro σ H3 ⟨g, ys, v, rfl, s3, hg3, hp3⟩
    have en : (n : Int).toNat = n := by omega
    rw [en] at hp3
    have yl := hp3.length
    rw [M.flg_count] at yl
    have hl3 := s3 _ _ hl0
    have ngl : g ≠ l := fun z => by
      rw [z, hl3] at hg3
      have : ys = [] := (HO.lst.inj (Option.some.inj hg3)).symm
      rw [this] at yl
      have := Nat.pow_pos (n := n) (show 0 < 2 by decide)
      simp at yl
      omega
    -- the bottoms
    refine ⟨_, rfl, g, rfl, ⟨_, SqL.of hg3⟩, for_list (K := K) (a := g) (xs := ys) (fun i σ H' => ∃ (zs : List V) (v1 v2 : Option V), σ = [some (.int n), some (.ref l), some (.ref g), v, v1, v2] ∧ Same H H' ∧ H' g = some (.lst ys) ∧ Paired (bRowO l H') ys (M.flg n) ∧ H' l = some (.lst zs) ∧ Paired (tripO l H') zs (M.trips n ((M.flg n).take i)))
      ⟨[], none, none, rfl, s0.trans s3, hg3, hp3, hl3, .nil⟩ (fun i σ H' _ ⟨_, _, _, _, _, e, _⟩ => SqL.of e) ?_ ?_⟩
    · rintro i y σ H4 hi ⟨zs, v1, v2, rfl, s4, hg4, hp4, hl4, ht4⟩
      obtain ⟨r, hr0, c, rfl, ncl, hc⟩ := paired_get? hp4 hi
      have rl := M.flg_len (List.mem_of_getElem? hr0)
      have hi128 : i < 2 ^ n := by have := (List.getElem?_eq_some_iff.mp hi).1; omega
      have zl := ht4.length
      have tl := trips_len n ((M.flg n).take i)
      rw [List.length_take] at tl
      -- members
      refine ⟨_, rfl, (n : Int), rfl, by omega, by omega, comp_int (l := M.ir (n : Int).toNat) (walk_rng _ H4) (by rw [M.ir_len]; omega) (fun x => r.getD x.toNat false) (fun kk H' hk sm R hR => ?_) fun m nm => ?_⟩
      · obtain ⟨k0, k1⟩ := M.mem_ir.mp hk
        obtain ⟨j, rfl⟩ := Int.eq_ofNat_of_zero_le k0
        have hj : j < r.length := by omega
        have e1 : r.getD ((j : Int)).toNat false = r[j] := by rw [Int.toNat_natCast]; exact M.getD_of hj
        rw [e1] at hR
        exact ⟨_, rfl, _, rfl, c, _, _, .bl r[j], rfl, rfl, SqL.of (sm _ _ hc), atI_nat (by rw [List.getElem?_map, List.getElem?_eq_getElem hj]; rfl), _, rfl, hR⟩
      rw [en]
      have e1 : ((M.ir n).filter fun x => r.getD x.toNat false) = M.mem n r := rfl
      rw [e1]
      have hS := M.mem_set n r
      have sm1 : Same H4 (upd H4 m (.lst ((M.mem n r).map V.int))) := Same.new nm
      have hm : (upd H4 m (.lst ((M.mem n r).map V.int))) m = some (.lst ((M.mem n r).map V.int)) := upd_same
      have nml : m ≠ l := fun z => by rw [z, hl4] at nm; cases nm
      generalize upd H4 m (.lst ((M.mem n r).map V.int)) = H5 at sm1 hm
      -- loose
      refine ⟨_, rfl, _, rfl, n, m, _, rfl, by omega, hm, hS, fun t h o H6 nt nh no hho s6 ht hh ho => ?_⟩
      refine ⟨t, _, 0, .ref h, rfl, rfl, SqT.of ht, rfl, ?_⟩
      refine ⟨Nat.zero_le _, fun z nz => ?_⟩
      have nhz : h ≠ z := ne_of_none hh nz
      refine ⟨M.lms n (M.mem n r), [], ⟨h, _, rfl, SqL.of (by rw [upd_ne nhz]; exact hh), pints _ _⟩, ⟨z, [], rfl, SqL.of upd_same, .nil⟩, _, rfl, ?_⟩
      have s7 : Same H4 (upd H6 z (.lst [])) := sm1.trans (s6.trans (Same.new nz))
      have hm7 : (upd H6 z (.lst [])) m = some (.lst ((M.mem n r).map V.int)) := (s6.trans (Same.new nz)) _ _ hm
      generalize upd H6 z (.lst []) = H7 at s7 hm7
      have hl7 := s7 _ _ hl4
      have hc7 := s7 _ _ hc
      by_cases hb : M.lms n (M.mem n r) = []
      · refine iteDT hb ?_
        refine ⟨_, rfl, .inl ⟨rfl, _, SqL.of hl7⟩, _, rfl, m, _, rfl, .inl (SqL.of hm7), _, rfl, _, rfl, by show 3 ≤ sizeLine; decide, fun u nu => ?_⟩
        have nlu : l ≠ u := ne_of_none hl7 nu
        have ncu : c ≠ u := ne_of_none hc7 nu
        have nmu : m ≠ u := ne_of_none hm7 nu
        refine ⟨l, zs, _, rfl, rfl, by rw [upd_ne nlu]; exact hl7, by rw [zl]; exact small1000 (by omega), ?_⟩
        have s8 : Same H (upd H7 u (.tup [.int ((M.mem n r).map V.int).length, .ref c, .ref m])) := (s4.trans s7).trans (Same.new nu)
        refine ⟨zs ++ [.ref u], _, _, rfl, Same.upd s8 nl, ?_, ?_, upd_same, ?_⟩
        · rw [upd_ne ngl]
          exact (s7.trans (Same.new nu)) _ _ hg4
        · have := bRowO_same (s7.trans (Same.new (o := .tup [.int ((M.mem n r).map V.int).length, .ref c, .ref m]) nu)) hp4
          exact Paired.imp' (fun x p ⟨a, e1, n1, e2⟩ => ⟨a, e1, n1, by rw [upd_ne n1]; exact e2⟩) this
        · rw [take_snoc hr0, trips_snoc_in hb]
          refine paired_snoc (tripO_upd (tripO_same (s7.trans (Same.new nu)) ht4)) ⟨u, c, m, rfl, ncl, nml, nlu.symm, ?_, ?_, ?_⟩
          · rw [upd_ne nlu.symm, upd_same, List.length_map]
            rfl
          · rw [upd_ne ncl, upd_ne ncu]
            exact hc7
          · rw [upd_ne nml, upd_ne nmu]
            exact hm7
      · refine iteDF hb ?_
        refine ⟨zs, _, _, rfl, s4.trans s7, s7 _ _ hg4, bRowO_same s7 hp4, hl7, ?_⟩
        rw [take_snoc hr0, trips_snoc_out hb]
        exact tripO_same s7 ht4
    · rintro σ H4 ⟨zs, v1, v2, rfl, s4, hg4, hp4, hl4, ht4⟩
      have e2 : (M.flg n).take ys.length = M.flg n := by rw [yl, ← M.flg_count, List.take_length]
      rw [e2] at ht4
      suffices after : ∀ (p : Addr) (xs : List V), H4 p = none → Paired (tripAt (upd H4 p (.lst xs))) xs (M.sortT (M.trips n (M.flg n))) → ∃ a, (V.ref p = .ref a) ∧ (∃ ys, SqL K (upd H4 p (.lst xs)) a ys) ∧ CompTo ["some", "row", "members"] [] (gTup K 3 (gCons (gName 0) (gCons (gName 1) (gCons (gName 2) gNil)))) tYes (tVar 2) [some (.int n), some (.ref l), some (.ref g), v, v1, v2] (Itl K a) (upd H4 p (.lst xs)) Q by
        refine ⟨_, rfl, ?_⟩
        by_cases h8 : n = 8
        · subst h8
          exact .inr ⟨l, rfl, ⟨zs, SqL.of hl4, tripO_T ht4⟩, after⟩
        · exact .inl ⟨l, n, _, rfl, ⟨zs, SqL.of hl4, tripO_T ht4⟩, M.trips_rows fun r hr => M.flg_len hr, M.trips_inj, M.trips_few n (List.mem_range.mpr (by omega)), after⟩
      intro p xs np hx
      have s5 : Same H4 (upd H4 p (.lst xs)) := Same.new np
      have hp5 : (upd H4 p (.lst xs)) p = some (.lst xs) := upd_same
      generalize upd H4 p (.lst xs) = H5 at s5 hp5 hx
      have xl : xs.length ≤ 256 := by
        rw [hx.length, (M.sortT_perm _).length_eq]
        have := trips_len n (M.flg n)
        rw [M.flg_count] at this
        omega
      refine ⟨p, rfl, ⟨_, SqL.of hp5⟩, ?_⟩
      refine comp_allN (walk_list (SqL.of hp5)) (Nat.le_of_lt (small1000 (by omega))) (fun H x y => ∀ t, tripAt H5 x t → rowR H y t.2.2) (fun H H' x y sm h t ht => by obtain ⟨c, h1, h2⟩ := h t ht; exact ⟨c, h1, sm _ _ h2⟩) (fun x H' D' ys2 hx' nD' sm hD' N hN => ?_) fun D' H6 fs nD s6 n6 hf6 => ?_
      · obtain ⟨i, hi⟩ := List.getElem?_of_mem hx'
        obtain ⟨t, ht0, a, b, c, rfl, ha, hb, hc⟩ := paired_get? hx hi
        refine ⟨a, _, rfl, SqT.of (sm _ _ ha), rfl, _, _, rfl, _, _, rfl, _, _, rfl, rfl, sub_none, ?_⟩
        refine ⟨_, rfl, hN _ _ (Same.refl _) fun t' ht' => ?_⟩
        obtain ⟨a', b', c', e1, e2, e3, e4⟩ := ht'
        cases e1
        rw [ha] at e2
        have z := HO.tup.inj (Option.some.inj e2)
        injection z with z1 z2
        injection z2 with z2 z3
        injection z3 with z3 _
        injection z3 with z3
        subst z3
        exact ⟨c, rfl, by rw [del_ne (ne_of_none hc nD')]; exact sm _ _ e4⟩
      · refine q D' fs _ ((s4.trans s5).free nD) ((s4.trans s5).trans (Same.upd s6 nD)) upd_same ?_
        exact rowR_same (Same.new n6) (trips_rowsR hx hf6)

theorem bots8 : M.bots 8 = (List.range (M.ch 8 (8 / 2))).map fun (m : Nat) => M.bo 8 (m : Int) := by decide +kernel
def spAf (K : PySem.W.Frag) : Sp := fun vs H Q _ => ∃ (a b : Addr) (F : List (List Int)), vs = [.ref a, .ref b] ∧ famAt5 H a F ∧ famAt5 H b F ∧ F.length ≤ 100 ∧ (∀ r ∈ F, r.length ≤ 63) ∧ Q (.bl true) H
theorem sc_af : FnScope ["found", "due", "k"] ["found", "due"] (defScope s__law_alike) := ⟨rfl, rfl, rfl, by decide +kernel, rfl, by decide +kernel, by decide +kernel⟩
theorem ok_af {f f1 : Addr} {fd fd1 : FuncData} (D : Dn K mg "_law_alike" s__law_alike ["found", "due"] f fd) (D1 : Dn K mg "_law_is_set" s__law_is_set ["found", "due"] f1 fd1) (G1 : FnOk P w K mg base CX0 2 f1 fd1 ["found", "due"] (spIs K))
    (zi : mg "isinstance" = none) (zl : mg "list" = none) (zn : mg "len" = none) (zr : mg "range" = none) : FnOk P w K mg base CX0 3 f fd ["found", "due"] (spAf K) := by
  refine D.fn.ok sc_af (fun vs H Q E h => ?_) (fun cdv A outer s H vs Q E hr h => ?_)
  · obtain ⟨a, b, F, rfl, _⟩ := h
    rfl
  · obtain ⟨a, b, F, rfl, ⟨xs, ha, hx⟩, ⟨ys, hb, hy⟩, hF, hl, q⟩ := h
    refine ⟨_, pss_cons (ps_if (PW.pt (pw_or (pt_not (pt_val (pe_callB call_isi rfl zi boot_isinstance (pa_cons (pv 0) (pa_cons (pe_bltn (v := .ty "list") rfl zl PyProof.Rows.boot_list rfl) pa_nil)))))
          (pw_or1 (pt_cmpR op_ne (pe_callB call_len_seq rfl zn PySem.boot_len (pa_cons (pv 0) pa_nil)) (pe_callB call_len_seq rfl zn PySem.boot_len (pa_cons (pv 1) pa_nil)) (nomark _))))) pss_never pss_nil)
      (pss_cons (ps_for PassesOwn.never rfl (pi_range1 rfl zr (pa_cons (pe_callB call_len_seq rfl zn PySem.boot_len (pa_cons (pv 1) pa_nil)) pa_nil)) (pg_name (i := 2) sc_af.nd rfl (Or.inl rfl))
        (pss_one (ps_if (pt_not (pt_val (pe_call G1 hr rfl D1.mg D1.fn.kp D1.bi .nil pass0 (pa_cons (pe_ix ix_list (pv 0) (pv 2) (fun _ _ => rfl)) (pa_cons (pe_ix ix_list (pv 1) (pv 2) (fun _ _ => rfl)) pa_nil))))) pss_never pss_nil)))
      (pss_one (ps_ret pe_bl))), ?_⟩
    have xl := hx.length
    have yl := hy.length
    refine ⟨_, rfl, _, _, _, true, rfl, TyOf.lst ha, rfl, true, rfl, ?_⟩
    refine iteBF rfl ?_
    refine ⟨_, rfl, a, _, rfl, .inl (SqL.of ha), _, rfl, b, _, rfl, .inl (SqL.of hb), rfl, _, rfl, ?_⟩
    refine iteNS (by rw [xl, yl]) ?_
    refine ⟨_, rfl, b, _, rfl, .inl (SqL.of hb), (ys.length : Int), rfl, by omega, by omega, for_range (lo := 0) (n := ((ys.length : Nat) : Int).toNat) (fun i σ H' => H' = H ∧ ∃ v : Option V, σ = [some (.ref a), some (.ref b), v]) ⟨rfl, none, rfl⟩ ?_ ?_⟩
    · rintro i σ H' hi ⟨rfl, v, rfl⟩
      have e0 : (0 : Int) + (i : Int) = i := by omega
      rw [e0]
      have hiF : i < F.length := by omega
      obtain ⟨u, gu, hu⟩ := row_ix hx (List.getElem?_eq_getElem hiF)
      obtain ⟨w', gw, hw⟩ := row_ix hy (List.getElem?_eq_getElem hiF)
      refine ⟨_, rfl, _, rfl, a, _, _, _, rfl, rfl, SqL.of ha, atI_nat gu, _, rfl, _, rfl, b, _, _, _, rfl, rfl, SqL.of hb, atI_nat gw, u, w', _, rfl, hu, hw, hl _ (List.getElem_mem hiF), true, rfl, ?_⟩
      refine iteBF rfl ?_
      exact ⟨rfl, _, rfl⟩
    · rintro σ H' ⟨rfl, v, rfl⟩
      exact q

def spLaw (K : PySem.W.Frag) : Sp := fun vs H Q _ => ∃ (a : Addr) (ns : List Int), vs = [.ref a] ∧ SqL K H a (ns.map V.int) ∧ ns.length ≤ 63 ∧ ∀ H', Q (.bl true) H'
theorem sc_law : FnScope ["script", "size", "due", "bottom", "others", "found"] ["script"] (defScope s_law) := ⟨rfl, rfl, rfl, by decide +kernel, rfl, by decide +kernel, by decide +kernel⟩
theorem mid_len (n i : Nat) : (midAt n i).length ≤ n := by
  unfold midAt M.row
  exact Nat.le_trans (List.length_filter_le _ _) (by rw [M.ir_len]; exact Nat.le_refl _)
theorem bot_kep {n : Nat} {B : List Int} (h : M.IsBot n B) : M.kep n B = B ∧ M.clm n B = M.los n B := by
  constructor
  · unfold M.kep
    rw [h.no]
    exact List.filter_eq_self.mpr fun x _ => by simp
  · unfold M.clm
    rw [h.no]
    rfl
def rowD (l : Addr) (H : Hp) (x : V) (zs : List Int) : Prop := ∃ a, x = .ref a ∧ a ≠ l ∧ H a = some (.lst (zs.map V.int))
theorem rowD_R {l : Addr} {H : Hp} {xs : List V} {rs : List (List Int)} (h : Paired (rowD l H) xs rs) : Paired (rowR H) xs rs := Paired.imp' (fun x p ⟨a, e1, _, e2⟩ => ⟨a, e1, e2⟩) h
theorem rowD_same {l : Addr} {H H' : Hp} (e : Same H H') {xs : List V} {rs : List (List Int)} (h : Paired (rowD l H) xs rs) : Paired (rowD l H') xs rs := Paired.imp' (fun x p ⟨a, e1, n, e2⟩ => ⟨a, e1, n, e a _ e2⟩) h
theorem rowD_upd {l : Addr} {H : Hp} {o : HO} {xs : List V} {rs : List (List Int)} (h : Paired (rowD l H) xs rs) : Paired (rowD l (upd H l o)) xs rs := Paired.imp' (fun x p ⟨a, e1, n, e2⟩ => ⟨a, e1, n, by rw [upd_ne n]; exact e2⟩) h
theorem rowM_R {l : Addr} {H0 H : Hp} {xs : List V} {rs : List (List Int)} (h : Paired (rowM l H0 H) xs rs) : Paired (rowR H) xs rs := Paired.imp' (fun x p ⟨a, e1, _, _, e2⟩ => ⟨a, e1, e2⟩) h
theorem ok_law {f fC fT fL fM fA : Addr} {fd dC dT dL dM dA : FuncData} (D : Dn K mg "law" s_law ["script"] f fd)
    (DC : Dn K mg "_law_cell_at" s__law_cell_at ["script", "k"] fC dC) (GC : FnOk P w K mg base CX0 1 fC dC ["script", "k"] (spCell K))
    (DT : Dn K mg "_law_bottoms" s__law_bottoms ["size"] fT dT) (GT : FnOk P w K mg base CX0 3 fT dT ["size"] spBt)
    (DL : Dn K mg "_law_loose" s__law_loose ["size", "members"] fL dL) (GL : FnOk P w K mg base CX0 2 fL dL ["size", "members"] spLo)
    (DM : Dn K mg "middle" s_middle ["many"] fM dM) (GM : FnOk P w K mg base CX0 7 fM dM ["many"] spMi)
    (DA : Dn K mg "_law_alike" s__law_alike ["found", "due"] fA dA) (GA : FnOk P w K mg base CX0 3 fA dA ["found", "due"] (spAf K))
    (zn : mg "len" = none) (zs : mg "sorted" = none) : FnOk P w K mg base CX0 8 f fd ["script"] (spLaw K) := by
  refine D.fn.ok sc_law (fun vs H Q E h => ?_) (fun cdv A outer s H vs Q E hr h => ?_)
  · obtain ⟨a, ns, rfl, _⟩ := h
    rfl
  · obtain ⟨a, ns, rfl, hA, hlen, k⟩ := h
    have r1 := hr.mono (show 1 ≤ 7 by decide)
    have r2 := hr.mono (show 2 ≤ 7 by decide)
    have r3 := hr.mono (show 3 ≤ 7 by decide)
    refine ⟨_, pss_cons (ps_set (i := 1) sc_law.nd rfl (Or.inl rfl) (pe_op op_mod (pe_call GC r1 rfl DC.mg DC.fn.kp DC.bi .nil pass0 (pa_cons (pv 0) (pa_cons pe_int pa_nil))) pe_int))
      (pss_cons (ps_set (i := 2) sc_law.nd rfl (Or.inl rfl) (pe_lst pa_nil))
      (pss_cons (ps_for PassesOwn.never rfl (pi_list (pe_call GT r3 rfl DT.mg DT.fn.kp DT.bi .nil pass0 (pa_cons (pv 1) pa_nil))) (pg_name (i := 3) sc_law.nd rfl (Or.inl rfl))
        (pss_cons (ps_set (i := 4) sc_law.nd rfl (Or.inl rfl) (pe_ix ix_tup (pe_call GL r2 rfl DL.mg DL.fn.kp DL.bi .nil pass0 (pa_cons (pv 1) (pa_cons (pv 3) pa_nil))) pe_int (fun _ _ => rfl)))
        (pss_one (ps_expr (pe_bm PySem.F.plainAttrs_list PySem.F.slot_list_append PySem.F.type_list_append mt_append (pv 2) (pa_cons (pe_callB call_sortI rfl zs boot_sorted (pa_cons (pe_op op_cat (pv 3)
          (pe_slice sl_list (pv 4) po_none (po_some (pe_op op_sub (pe_op op_fdiv (pv 1) pe_int) (pe_callB call_len_seq rfl zn PySem.boot_len (pa_cons (pv 3) pa_nil)))))) pa_nil)) pa_nil))))))
      (pss_cons (ps_set (i := 5) sc_law.nd rfl (Or.inl rfl) (pe_call GM hr rfl DM.mg DM.fn.kp DM.bi .nil pass0 (pa_cons (pv 1) pa_nil)))
      (pss_cons (ps_if (pt_not (pt_val (pe_call GA r3 rfl DA.mg DA.fn.kp DA.bi .nil pass0 (pa_cons (pv 5) (pa_cons (pv 2) pa_nil))))) pss_never pss_nil)
      (pss_cons (ps_expr (pe_bm PySem.F.plainAttrs_list PySem.F.slot_list_append PySem.F.type_list_append mt_append (pe_ix ix_list (pv 5) pe_int (fun _ _ => rfl)) (pa_cons pe_int pa_nil)))
      (pss_cons (ps_expr (pe_bm PySem.F.plainAttrs_list PySem.F.slot_list_append PySem.F.type_list_append mt_append (pv 5) (pa_cons (pe_lst pa_nil) pa_nil)))
      (pss_one (ps_ret (pe_call GA r3 rfl DA.mg DA.fn.kp DA.bi .nil pass0 (pa_cons (pe_call GM hr rfl DM.mg DM.fn.kp DM.bi .nil pass0 (pa_cons (pv 1) pa_nil)) (pa_cons (pv 2) pa_nil))))))))))), ?_⟩
    -- size
    refine ⟨_, rfl, a, ns, 0, rfl, hA, _, _, rfl, rfl, (by show (0 : Int) < 9; decide), ?_⟩
    obtain ⟨n, e, hn⟩ := mod_nat (i := ns.getD 0 0) (m := 9) (by decide)
    show gName 1 (V.int (ns.getD 0 0 % ((9 : Nat) : Int))) _ _ _
    rw [e]
    have hb : M.bots n = (List.range (M.ch n (n / 2))).map fun (m : Nat) => M.bo n (m : Int) := by
      by_cases h8 : n = 8
      · subst h8; exact bots8
      · exact M.bots_are n (List.mem_range.mpr (by omega))
    have et : M.tot n = (M.ch n (n / 2) : Int) := M.pk_nat n (n / 2)
    have tp := M.tot_pos n
    have tl := tot_le (n := n) (by omega)
    have etn : (M.tot n).toNat = M.ch n (n / 2) := by omega
    have fB : ∀ i, i < M.ch n (n / 2) → M.IsBot n (M.bo n (i : Int)) := fun i hi => (M.bo_ok (n := n) (m := (i : Int)) (by omega) (by omega)).1
    -- due
    refine ⟨Nat.zero_le _, fun d nd => ?_⟩
    have s0 : Same H (upd H d (.lst [])) := Same.new nd
    have hd0 : (upd H d (.lst [])) d = some (.lst []) := upd_same
    generalize upd H d (.lst []) = H0 at s0 hd0
    refine ⟨_, rfl, n, rfl, by omega, fun l ys H1 nl s1 hl hp => ?_⟩
    rw [hb] at hp
    have yl := hp.length
    rw [List.length_map, List.length_range] at yl
    have nld : l ≠ d := fun z => by rw [z, hd0] at nl; cases nl
    have hd1 := s1 _ _ hd0
    refine ⟨l, rfl, ⟨_, SqL.of hl⟩, for_list (K := K) (a := l) (xs := ys) (fun i σ H' => ∃ (v3 v4 : Option V) (ds : List V), σ = [some (.ref a), some (.int n), some (.ref d), v3, v4, none] ∧ (∀ b o, b ≠ d → H1 b = some o → H' b = some o) ∧ H' d = some (.lst ds) ∧ Paired (rowD d H') ds ((List.range i).map (midAt n)))
      ⟨none, none, [], rfl, fun b o _ e => e, hd1, .nil⟩ (fun i σ H' _ ⟨_, _, _, _, e, _⟩ => SqL.of (e _ _ nld hl)) ?_ ?_⟩
    · rintro i y σ H2 hi ⟨v3, v4, ds, rfl, k2, hd2, hp2⟩
      have hi' : i < M.ch n (n / 2) := by have := (List.getElem?_eq_some_iff.mp hi).1; omega
      obtain ⟨r, hr0, c, rfl, hc1⟩ := paired_get? hp hi
      rw [List.getElem?_map, List.getElem?_range hi'] at hr0
      obtain rfl : M.bo n (i : Int) = r := Option.some.inj hr0
      have hB := fB i hi'
      have bl := hB.set.len
      have bp := M.bot_parts hB
      obtain ⟨ek, ec⟩ := bot_kep hB
      have dl := hp2.length
      rw [List.length_map, List.length_range] at dl
      have hc2 : H2 c = some (.lst ((M.bo n (i : Int)).map V.int)) := by
        by_cases hcd : c = d
        · subst hcd
          rw [hd1] at hc1
          have e1 : ([] : List V) = (M.bo n (i : Int)).map V.int := HO.lst.inj (Option.some.inj hc1)
          have e2 : M.bo n (i : Int) = [] := List.map_eq_nil_iff.mp e1.symm
          have i0 : i = 0 := by
            have a1 := (M.bo_ok (n := n) (m := (i : Int)) (by omega) (by omega)).2.2
            have a2 := (M.bo_ok (n := n) (m := 0) (by omega) (by omega)).2.2
            rw [e2] at a1
            rw [M.bo_zero n] at a2
            omega
          subst i0
          have e3 : ds = [] := List.length_eq_zero_iff.mp dl
          rw [hd2, e3, e2]
          rfl
        · exact k2 _ _ hcd hc1
      -- others
      refine ⟨_, rfl, _, rfl, n, c, _, rfl, by omega, hc2, hB.set, fun t h o H3 nt nh no hho s3 ht hh ho => ?_⟩
      refine ⟨t, _, 1, .ref o, rfl, rfl, SqT.of ht, rfl, ?_⟩
      have hd3 := s3 _ _ hd2
      have hc3 := s3 _ _ hc2
      -- due.append
      refine ⟨_, rfl, .inl ⟨rfl, _, SqL.of hd3⟩, _, rfl, _, rfl, _, rfl, _, _, rfl, rfl, ⟨by decide, by decide⟩, _, rfl, c, _, rfl, .inl (SqL.of hc3), _, _, rfl, rfl, _, rfl, o, _, rfl, SqL.of ho, fun p1 np1 => ?_⟩
      have ep : (n : Int) / 2 - (((M.bo n (i : Int)).map V.int).length : Int) = ((n / 2 - (M.bo n (i : Int)).length : Nat) : Int) := by
        rw [List.length_map]
        omega
      rw [ep, cut_take, ← List.map_take]
      have n1 : c ≠ p1 := ne_of_none hc3 np1
      refine ⟨c, p1, _, _, rfl, rfl, by rw [upd_ne n1]; exact hc3, upd_same, ?_, fun p2 np2 => ?_⟩
      · rw [List.length_map, List.length_map, List.length_take]
        exact Nat.le_of_lt (small1000 (by omega))
      rw [← List.map_append]
      have s4 : Same H3 (upd (upd H3 p1 (.lst (((M.los n (M.bo n (i : Int))).take (n / 2 - (M.bo n (i : Int)).length)).map V.int))) p2 (.lst ((M.bo n (i : Int) ++ (M.los n (M.bo n (i : Int))).take (n / 2 - (M.bo n (i : Int)).length)).map V.int))) := (Same.new np1).trans (Same.new np2)
      refine ⟨p2, _, rfl, SqL.of upd_same, ?_, fun p3 zs np3 hpm hup => ?_⟩
      · rw [List.length_append, List.length_take]
        omega
      generalize upd (upd H3 p1 (.lst (((M.los n (M.bo n (i : Int))).take (n / 2 - (M.bo n (i : Int)).length)).map V.int))) p2 (.lst ((M.bo n (i : Int) ++ (M.los n (M.bo n (i : Int))).take (n / 2 - (M.bo n (i : Int)).length)).map V.int)) = H4 at s4 np3 ⊢
      have ez : zs = midAt n i := by
        have hpm' : zs.Perm (M.kep n (M.bo n (i : Int)) ++ (M.clm n (M.bo n (i : Int))).take (n / 2 - (M.bo n (i : Int)).length)) := by rw [ek, ec]; exact hpm
        exact M.sorted_row hB.set hpm' hup
      subst ez
      have hd4 := s4 _ _ hd3
      have nd3 : d ≠ p3 := ne_of_none hd4 np3
      refine ⟨d, ds, _, rfl, rfl, by rw [upd_ne nd3]; exact hd4, small1000 (by omega), ?_⟩
      have s5 : Same H2 (upd H4 p3 (.lst ((midAt n i).map V.int))) := (s3.trans s4).trans (Same.new np3)
      refine ⟨_, _, _, rfl, fun b o hbd e => ?_, upd_same, ?_⟩
      · rw [upd_ne hbd]
        exact s5 _ _ (k2 b o hbd e)
      · rw [List.range_succ, List.map_append]
        refine paired_snoc (rowD_upd (rowD_same s5 hp2)) ⟨p3, rfl, Ne.symm nd3, ?_⟩
        rw [upd_ne (Ne.symm nd3), upd_same]
    rintro σ H2 ⟨v3, v4, ds, rfl, k2, hd2, hp2⟩
    rw [yl] at hp2
    have F63 : ∀ r ∈ (List.range (M.ch n (n / 2))).map (midAt n), r.length ≤ 63 := fun r hr => by
      obtain ⟨i, _, rfl⟩ := List.mem_map.mp hr
      have := mid_len n i
      omega
    have Fl : ((List.range (M.ch n (n / 2))).map (midAt n)).length ≤ 100 := by rw [List.length_map, List.length_range]; omega
    have due2 : famAt5 H2 d ((List.range (M.ch n (n / 2))).map (midAt n)) := ⟨ds, hd2, rowD_R hp2⟩
    -- found
    refine ⟨_, rfl, n, rfl, by omega, fun fl ys2 H3 nfl s3 hfl hp3 => ?_⟩
    rw [etn] at hp3
    refine ⟨_, rfl, _, rfl, fl, d, _, rfl, ⟨ys2, hfl, rowM_R hp3⟩, due2.same s3, Fl, F63, true, rfl, ?_⟩
    refine iteBF rfl ?_
    -- found[0].append(99)
    have h0 : 0 < M.ch n (n / 2) := by omega
    obtain ⟨y0, hy0⟩ : ∃ y0, ys2[0]? = some y0 := by
      have := hp3.length
      rw [List.length_map, List.length_range] at this
      exact ⟨_, List.getElem?_eq_getElem (show 0 < ys2.length by omega)⟩
    obtain ⟨r, hr0, r0, rfl, nr0, nrf, hr3⟩ := paired_get? hp3 hy0
    rw [List.getElem?_map, List.getElem?_range h0] at hr0
    obtain rfl : midAt n 0 = r := Option.some.inj hr0
    have ml := mid_len n 0
    refine ⟨_, rfl, fl, _, _, _, rfl, rfl, SqL.of hfl, atI_nat (j := 0) hy0, .inl ⟨rfl, _, SqL.of hr3⟩, r0, _, _, rfl, rfl, hr3, by rw [List.length_map]; exact small1000 (by omega), ?_⟩
    have s4 : Same H2 (upd H3 r0 (.lst ((midAt n 0).map V.int ++ [.int 99]))) := Same.upd s3 nr0
    have hfl4 : (upd H3 r0 (.lst ((midAt n 0).map V.int ++ [.int 99]))) fl = some (.lst ys2) := by rw [upd_ne (Ne.symm nrf)]; exact hfl
    generalize upd H3 r0 (.lst ((midAt n 0).map V.int ++ [.int 99])) = H4 at s4 hfl4
    -- found.append([])
    have yl2 := hp3.length
    rw [List.length_map, List.length_range] at yl2
    refine ⟨_, rfl, .inl ⟨rfl, _, SqL.of hfl4⟩, Nat.zero_le _, fun z nz => ?_⟩
    have nfz : fl ≠ z := ne_of_none hfl4 nz
    refine ⟨fl, ys2, _, rfl, rfl, by rw [upd_ne nfz]; exact hfl4, small1000 (by omega), ?_⟩
    have s5 : Same H2 (upd (upd H4 z (.lst [])) fl (.lst (ys2 ++ [.ref z]))) := Same.upd (s4.trans (Same.new nz)) nfl
    generalize upd (upd H4 z (.lst [])) fl (.lst (ys2 ++ [.ref z])) = H5 at s5
    -- asked again
    refine ⟨_, rfl, n, rfl, by omega, fun f2 ys3 H6 nf2 s6 hf2 hp6 => ?_⟩
    rw [etn] at hp6
    exact ⟨_, rfl, f2, d, _, rfl, ⟨ys3, hf2, rowM_R hp6⟩, (due2.same s5).same s6, Fl, F63, k _⟩


end
theorem all_mk {l : PySem.W.OpenLaw} {w : World} {K : PySem.W.Frag} {h : Heap} {mg : Str → Option Value} {fa : Addr} (X : K.In h) (G : h.Ns mainGlobals mg) (hfa : mg "law" = some (.ref fa))
    {fq0 : Addr} {odq0 anq0 : Option Addr} {slq0 : Array (Option Value)} {ocq0 kVq0 dcq0 pmq0 cdq0 ctq0 : Value}
    (aq0 : PySem.W.nsIn K mainGlobals "check_many" = some (some (.ref fq0))) (lq0 : K.lookup fq0 = some ⟨ocq0, odq0, .func (PySem.W.fnOf "check_many" "check_many" (defArgs s_check_many) (defBody s_check_many) (defScope s_check_many) .none kVq0 dcq0 pmq0 anq0 cdq0 ctq0), slq0⟩) (cq0 : PySem.W.codeIn K cdq0 "check_many" = true) (kq0 : PySem.W.keepIn K (.ref fq0) = true)
    {fq1 : Addr} {odq1 anq1 : Option Addr} {slq1 : Array (Option Value)} {ocq1 kVq1 dcq1 pmq1 cdq1 ctq1 : Value}
    (aq1 : PySem.W.nsIn K mainGlobals "check_set" = some (some (.ref fq1))) (lq1 : K.lookup fq1 = some ⟨ocq1, odq1, .func (PySem.W.fnOf "check_set" "check_set" (defArgs s_check_set) (defBody s_check_set) (defScope s_check_set) .none kVq1 dcq1 pmq1 anq1 cdq1 ctq1), slq1⟩) (cq1 : PySem.W.codeIn K cdq1 "check_set" = true) (kq1 : PySem.W.keepIn K (.ref fq1) = true)
    {fq2 : Addr} {odq2 anq2 : Option Addr} {slq2 : Array (Option Value)} {ocq2 kVq2 dcq2 pmq2 cdq2 ctq2 : Value}
    (aq2 : PySem.W.nsIn K mainGlobals "paired" = some (some (.ref fq2))) (lq2 : K.lookup fq2 = some ⟨ocq2, odq2, .func (PySem.W.fnOf "paired" "paired" (defArgs s_paired) (defBody s_paired) (defScope s_paired) .none kVq2 dcq2 pmq2 anq2 cdq2 ctq2), slq2⟩) (cq2 : PySem.W.codeIn K cdq2 "paired" = true) (kq2 : PySem.W.keepIn K (.ref fq2) = true)
    {fq3 : Addr} {odq3 anq3 : Option Addr} {slq3 : Array (Option Value)} {ocq3 kVq3 dcq3 pmq3 cdq3 ctq3 : Value}
    (aq3 : PySem.W.nsIn K mainGlobals "loose" = some (some (.ref fq3))) (lq3 : K.lookup fq3 = some ⟨ocq3, odq3, .func (PySem.W.fnOf "loose" "loose" (defArgs s_loose) (defBody s_loose) (defScope s_loose) .none kVq3 dcq3 pmq3 anq3 cdq3 ctq3), slq3⟩) (cq3 : PySem.W.codeIn K cdq3 "loose" = true) (kq3 : PySem.W.keepIn K (.ref fq3) = true)
    {fq4 : Addr} {odq4 anq4 : Option Addr} {slq4 : Array (Option Value)} {ocq4 kVq4 dcq4 pmq4 cdq4 ctq4 : Value}
    (aq4 : PySem.W.nsIn K mainGlobals "chain" = some (some (.ref fq4))) (lq4 : K.lookup fq4 = some ⟨ocq4, odq4, .func (PySem.W.fnOf "chain" "chain" (defArgs s_chain) (defBody s_chain) (defScope s_chain) .none kVq4 dcq4 pmq4 anq4 cdq4 ctq4), slq4⟩) (cq4 : PySem.W.codeIn K cdq4 "chain" = true) (kq4 : PySem.W.keepIn K (.ref fq4) = true)
    {fq5 : Addr} {odq5 anq5 : Option Addr} {slq5 : Array (Option Value)} {ocq5 kVq5 dcq5 pmq5 cdq5 ctq5 : Value}
    (aq5 : PySem.W.nsIn K mainGlobals "picks" = some (some (.ref fq5))) (lq5 : K.lookup fq5 = some ⟨ocq5, odq5, .func (PySem.W.fnOf "picks" "picks" (defArgs s_picks) (defBody s_picks) (defScope s_picks) .none kVq5 dcq5 pmq5 anq5 cdq5 ctq5), slq5⟩) (cq5 : PySem.W.codeIn K cdq5 "picks" = true) (kq5 : PySem.W.keepIn K (.ref fq5) = true)
    {fq6 : Addr} {odq6 anq6 : Option Addr} {slq6 : Array (Option Value)} {ocq6 kVq6 dcq6 pmq6 cdq6 ctq6 : Value}
    (aq6 : PySem.W.nsIn K mainGlobals "how_many" = some (some (.ref fq6))) (lq6 : K.lookup fq6 = some ⟨ocq6, odq6, .func (PySem.W.fnOf "how_many" "how_many" (defArgs s_how_many) (defBody s_how_many) (defScope s_how_many) .none kVq6 dcq6 pmq6 anq6 cdq6 ctq6), slq6⟩) (cq6 : PySem.W.codeIn K cdq6 "how_many" = true) (kq6 : PySem.W.keepIn K (.ref fq6) = true)
    {fq7 : Addr} {odq7 anq7 : Option Addr} {slq7 : Array (Option Value)} {ocq7 kVq7 dcq7 pmq7 cdq7 ctq7 : Value}
    (aq7 : PySem.W.nsIn K mainGlobals "endings" = some (some (.ref fq7))) (lq7 : K.lookup fq7 = some ⟨ocq7, odq7, .func (PySem.W.fnOf "endings" "endings" (defArgs s_endings) (defBody s_endings) (defScope s_endings) .none kVq7 dcq7 pmq7 anq7 cdq7 ctq7), slq7⟩) (cq7 : PySem.W.codeIn K cdq7 "endings" = true) (kq7 : PySem.W.keepIn K (.ref fq7) = true)
    {fq8 : Addr} {odq8 anq8 : Option Addr} {slq8 : Array (Option Value)} {ocq8 kVq8 dcq8 pmq8 cdq8 ctq8 : Value}
    (aq8 : PySem.W.nsIn K mainGlobals "of_lesser_size" = some (some (.ref fq8))) (lq8 : K.lookup fq8 = some ⟨ocq8, odq8, .func (PySem.W.fnOf "of_lesser_size" "of_lesser_size" (defArgs s_of_lesser_size) (defBody s_of_lesser_size) (defScope s_of_lesser_size) .none kVq8 dcq8 pmq8 anq8 cdq8 ctq8), slq8⟩) (cq8 : PySem.W.codeIn K cdq8 "of_lesser_size" = true) (kq8 : PySem.W.keepIn K (.ref fq8) = true)
    {fq9 : Addr} {odq9 anq9 : Option Addr} {slq9 : Array (Option Value)} {ocq9 kVq9 dcq9 pmq9 cdq9 ctq9 : Value}
    (aq9 : PySem.W.nsIn K mainGlobals "size_of_bottom" = some (some (.ref fq9))) (lq9 : K.lookup fq9 = some ⟨ocq9, odq9, .func (PySem.W.fnOf "size_of_bottom" "size_of_bottom" (defArgs s_size_of_bottom) (defBody s_size_of_bottom) (defScope s_size_of_bottom) .none kVq9 dcq9 pmq9 anq9 cdq9 ctq9), slq9⟩) (cq9 : PySem.W.codeIn K cdq9 "size_of_bottom" = true) (kq9 : PySem.W.keepIn K (.ref fq9) = true)
    {fq10 : Addr} {odq10 anq10 : Option Addr} {slq10 : Array (Option Value)} {ocq10 kVq10 dcq10 pmq10 cdq10 ctq10 : Value}
    (aq10 : PySem.W.nsIn K mainGlobals "bottom_of" = some (some (.ref fq10))) (lq10 : K.lookup fq10 = some ⟨ocq10, odq10, .func (PySem.W.fnOf "bottom_of" "bottom_of" (defArgs s_bottom_of) (defBody s_bottom_of) (defScope s_bottom_of) .none kVq10 dcq10 pmq10 anq10 cdq10 ctq10), slq10⟩) (cq10 : PySem.W.codeIn K cdq10 "bottom_of" = true) (kq10 : PySem.W.keepIn K (.ref fq10) = true)
    {fq11 : Addr} {odq11 anq11 : Option Addr} {slq11 : Array (Option Value)} {ocq11 kVq11 dcq11 pmq11 cdq11 ctq11 : Value}
    (aq11 : PySem.W.nsIn K mainGlobals "set_of" = some (some (.ref fq11))) (lq11 : K.lookup fq11 = some ⟨ocq11, odq11, .func (PySem.W.fnOf "set_of" "set_of" (defArgs s_set_of) (defBody s_set_of) (defScope s_set_of) .none kVq11 dcq11 pmq11 anq11 cdq11 ctq11), slq11⟩) (cq11 : PySem.W.codeIn K cdq11 "set_of" = true) (kq11 : PySem.W.keepIn K (.ref fq11) = true)
    {fq12 : Addr} {odq12 anq12 : Option Addr} {slq12 : Array (Option Value)} {ocq12 kVq12 dcq12 pmq12 cdq12 ctq12 : Value}
    (aq12 : PySem.W.nsIn K mainGlobals "middle" = some (some (.ref fq12))) (lq12 : K.lookup fq12 = some ⟨ocq12, odq12, .func (PySem.W.fnOf "middle" "middle" (defArgs s_middle) (defBody s_middle) (defScope s_middle) .none kVq12 dcq12 pmq12 anq12 cdq12 ctq12), slq12⟩) (cq12 : PySem.W.codeIn K cdq12 "middle" = true) (kq12 : PySem.W.keepIn K (.ref fq12) = true)
    {fq13 : Addr} {odq13 anq13 : Option Addr} {slq13 : Array (Option Value)} {ocq13 kVq13 dcq13 pmq13 cdq13 ctq13 : Value}
    (aq13 : PySem.W.nsIn K mainGlobals "_law_cell_at" = some (some (.ref fq13))) (lq13 : K.lookup fq13 = some ⟨ocq13, odq13, .func (PySem.W.fnOf "_law_cell_at" "_law_cell_at" (defArgs s__law_cell_at) (defBody s__law_cell_at) (defScope s__law_cell_at) .none kVq13 dcq13 pmq13 anq13 cdq13 ctq13), slq13⟩) (cq13 : PySem.W.codeIn K cdq13 "_law_cell_at" = true) (kq13 : PySem.W.keepIn K (.ref fq13) = true)
    {fq14 : Addr} {odq14 anq14 : Option Addr} {slq14 : Array (Option Value)} {ocq14 kVq14 dcq14 pmq14 cdq14 ctq14 : Value}
    (aq14 : PySem.W.nsIn K mainGlobals "_law_whole" = some (some (.ref fq14))) (lq14 : K.lookup fq14 = some ⟨ocq14, odq14, .func (PySem.W.fnOf "_law_whole" "_law_whole" (defArgs s__law_whole) (defBody s__law_whole) (defScope s__law_whole) .none kVq14 dcq14 pmq14 anq14 cdq14 ctq14), slq14⟩) (cq14 : PySem.W.codeIn K cdq14 "_law_whole" = true) (kq14 : PySem.W.keepIn K (.ref fq14) = true)
    {fq15 : Addr} {odq15 anq15 : Option Addr} {slq15 : Array (Option Value)} {ocq15 kVq15 dcq15 pmq15 cdq15 ctq15 : Value}
    (aq15 : PySem.W.nsIn K mainGlobals "_law_is_set" = some (some (.ref fq15))) (lq15 : K.lookup fq15 = some ⟨ocq15, odq15, .func (PySem.W.fnOf "_law_is_set" "_law_is_set" (defArgs s__law_is_set) (defBody s__law_is_set) (defScope s__law_is_set) .none kVq15 dcq15 pmq15 anq15 cdq15 ctq15), slq15⟩) (cq15 : PySem.W.codeIn K cdq15 "_law_is_set" = true) (kq15 : PySem.W.keepIn K (.ref fq15) = true)
    {fq16 : Addr} {odq16 anq16 : Option Addr} {slq16 : Array (Option Value)} {ocq16 kVq16 dcq16 pmq16 cdq16 ctq16 : Value}
    (aq16 : PySem.W.nsIn K mainGlobals "_law_pairs" = some (some (.ref fq16))) (lq16 : K.lookup fq16 = some ⟨ocq16, odq16, .func (PySem.W.fnOf "_law_pairs" "_law_pairs" (defArgs s__law_pairs) (defBody s__law_pairs) (defScope s__law_pairs) .none kVq16 dcq16 pmq16 anq16 cdq16 ctq16), slq16⟩) (cq16 : PySem.W.codeIn K cdq16 "_law_pairs" = true) (kq16 : PySem.W.keepIn K (.ref fq16) = true)
    {fq17 : Addr} {odq17 anq17 : Option Addr} {slq17 : Array (Option Value)} {ocq17 kVq17 dcq17 pmq17 cdq17 ctq17 : Value}
    (aq17 : PySem.W.nsIn K mainGlobals "_law_loose" = some (some (.ref fq17))) (lq17 : K.lookup fq17 = some ⟨ocq17, odq17, .func (PySem.W.fnOf "_law_loose" "_law_loose" (defArgs s__law_loose) (defBody s__law_loose) (defScope s__law_loose) .none kVq17 dcq17 pmq17 anq17 cdq17 ctq17), slq17⟩) (cq17 : PySem.W.codeIn K cdq17 "_law_loose" = true) (kq17 : PySem.W.keepIn K (.ref fq17) = true)
    {fq18 : Addr} {odq18 anq18 : Option Addr} {slq18 : Array (Option Value)} {ocq18 kVq18 dcq18 pmq18 cdq18 ctq18 : Value}
    (aq18 : PySem.W.nsIn K mainGlobals "_law_bottoms" = some (some (.ref fq18))) (lq18 : K.lookup fq18 = some ⟨ocq18, odq18, .func (PySem.W.fnOf "_law_bottoms" "_law_bottoms" (defArgs s__law_bottoms) (defBody s__law_bottoms) (defScope s__law_bottoms) .none kVq18 dcq18 pmq18 anq18 cdq18 ctq18), slq18⟩) (cq18 : PySem.W.codeIn K cdq18 "_law_bottoms" = true) (kq18 : PySem.W.keepIn K (.ref fq18) = true)
    {fq19 : Addr} {odq19 anq19 : Option Addr} {slq19 : Array (Option Value)} {ocq19 kVq19 dcq19 pmq19 cdq19 ctq19 : Value}
    (aq19 : PySem.W.nsIn K mainGlobals "_law_alike" = some (some (.ref fq19))) (lq19 : K.lookup fq19 = some ⟨ocq19, odq19, .func (PySem.W.fnOf "_law_alike" "_law_alike" (defArgs s__law_alike) (defBody s__law_alike) (defScope s__law_alike) .none kVq19 dcq19 pmq19 anq19 cdq19 ctq19), slq19⟩) (cq19 : PySem.W.codeIn K cdq19 "_law_alike" = true) (kq19 : PySem.W.keepIn K (.ref fq19) = true)
    {fq20 : Addr} {odq20 anq20 : Option Addr} {slq20 : Array (Option Value)} {ocq20 kVq20 dcq20 pmq20 cdq20 ctq20 : Value}
    (aq20 : PySem.W.nsIn K mainGlobals "law" = some (some (.ref fq20))) (lq20 : K.lookup fq20 = some ⟨ocq20, odq20, .func (PySem.W.fnOf "law" "law" (defArgs s_law) (defBody s_law) (defScope s_law) .none kVq20 dcq20 pmq20 anq20 cdq20 ctq20), slq20⟩) (cq20 : PySem.W.codeIn K cdq20 "law" = true) (kq20 : PySem.W.keepIn K (.ref fq20) = true)
    {tMOST_FOR_MIDDLE : Tok} (vMOST_FOR_MIDDLE : PySem.W.nsIn K mainGlobals "MOST_FOR_MIDDLE" = some (some (.int 8 tMOST_FOR_MIDDLE)))
    {tMOST_THINGS : Tok} (vMOST_THINGS : PySem.W.nsIn K mainGlobals "MOST_THINGS" = some (some (.int 40 tMOST_THINGS)))
    (ybool : PySem.W.nsIn K mainGlobals "bool" = some none)
    (yint : PySem.W.nsIn K mainGlobals "int" = some none)
    (yisinstance : PySem.W.nsIn K mainGlobals "isinstance" = some none)
    (ylen : PySem.W.nsIn K mainGlobals "len" = some none)
    (ylist : PySem.W.nsIn K mainGlobals "list" = some none)
    (yrange : PySem.W.nsIn K mainGlobals "range" = some none)
    (ysorted : PySem.W.nsIn K mainGlobals "sorted" = some none)
    : ∃ fd : FuncData, (∀ (s : Shared) (v : Value), BindsTo s fd ⟨[v], []⟩ [("script", v)]) ∧ ∀ base : Heap, K.In base → base.Ns mainGlobals mg → FnOk l.prog w K mg base CX0 8 fa fd ["script"] (spLaw K) := by
  have e := hfa.symm.trans (PySem.W.mg_of X G aq20)
  cases e
  have c_MOST_FOR_MIDDLE := PySem.W.mg_of X G vMOST_FOR_MIDDLE
  have c_MOST_THINGS := PySem.W.mg_of X G vMOST_THINGS
  have z_bool := PySem.W.mg_none_of X G ybool
  have z_int := PySem.W.mg_none_of X G yint
  have z_isinstance := PySem.W.mg_none_of X G yisinstance
  have z_len := PySem.W.mg_none_of X G ylen
  have z_list := PySem.W.mg_none_of X G ylist
  have z_range := PySem.W.mg_none_of X G yrange
  have z_sorted := PySem.W.mg_none_of X G ysorted
  have Fq0 := fun_mk (st := s_check_many) lq0 cq0 kq0
  have D_check_many : Dn K mg "check_many" s_check_many ["many"] fq0 _ := ⟨Fq0, PySem.W.mg_of X G aq0, Fq0.binds (ps := ["many"]) fun _ _ _ _ _ _ us hl => match us, hl with | [_], _ => rfl⟩
  have Fq1 := fun_mk (st := s_check_set) lq1 cq1 kq1
  have D_check_set : Dn K mg "check_set" s_check_set ["many", "members"] fq1 _ := ⟨Fq1, PySem.W.mg_of X G aq1, Fq1.binds (ps := ["many", "members"]) fun _ _ _ _ _ _ us hl => match us, hl with | [_, _], _ => rfl⟩
  have Fq2 := fun_mk (st := s_paired) lq2 cq2 kq2
  have D_paired : Dn K mg "paired" s_paired ["many", "members"] fq2 _ := ⟨Fq2, PySem.W.mg_of X G aq2, Fq2.binds (ps := ["many", "members"]) fun _ _ _ _ _ _ us hl => match us, hl with | [_, _], _ => rfl⟩
  have Fq3 := fun_mk (st := s_loose) lq3 cq3 kq3
  have D_loose : Dn K mg "loose" s_loose ["many", "members"] fq3 _ := ⟨Fq3, PySem.W.mg_of X G aq3, Fq3.binds (ps := ["many", "members"]) fun _ _ _ _ _ _ us hl => match us, hl with | [_, _], _ => rfl⟩
  have Fq4 := fun_mk (st := s_chain) lq4 cq4 kq4
  have D_chain : Dn K mg "chain" s_chain ["many", "members"] fq4 _ := ⟨Fq4, PySem.W.mg_of X G aq4, Fq4.binds (ps := ["many", "members"]) fun _ _ _ _ _ _ us hl => match us, hl with | [_, _], _ => rfl⟩
  have Fq5 := fun_mk (st := s_picks) lq5 cq5 kq5
  have D_picks : Dn K mg "picks" s_picks ["many", "size"] fq5 _ := ⟨Fq5, PySem.W.mg_of X G aq5, Fq5.binds (ps := ["many", "size"]) fun _ _ _ _ _ _ us hl => match us, hl with | [_, _], _ => rfl⟩
  have Fq6 := fun_mk (st := s_how_many) lq6 cq6 kq6
  have D_how_many : Dn K mg "how_many" s_how_many ["many"] fq6 _ := ⟨Fq6, PySem.W.mg_of X G aq6, Fq6.binds (ps := ["many"]) fun _ _ _ _ _ _ us hl => match us, hl with | [_], _ => rfl⟩
  have Fq7 := fun_mk (st := s_endings) lq7 cq7 kq7
  have D_endings : Dn K mg "endings" s_endings ["left", "lacking", "waiting"] fq7 _ := ⟨Fq7, PySem.W.mg_of X G aq7, Fq7.binds (ps := ["left", "lacking", "waiting"]) fun _ _ _ _ _ _ us hl => match us, hl with | [_, _, _], _ => rfl⟩
  have Fq8 := fun_mk (st := s_of_lesser_size) lq8 cq8 kq8
  have D_of_lesser_size : Dn K mg "of_lesser_size" s_of_lesser_size ["many", "size"] fq8 _ := ⟨Fq8, PySem.W.mg_of X G aq8, Fq8.binds (ps := ["many", "size"]) fun _ _ _ _ _ _ us hl => match us, hl with | [_, _], _ => rfl⟩
  have Fq9 := fun_mk (st := s_size_of_bottom) lq9 cq9 kq9
  have D_size_of_bottom : Dn K mg "size_of_bottom" s_size_of_bottom ["many", "number"] fq9 _ := ⟨Fq9, PySem.W.mg_of X G aq9, Fq9.binds (ps := ["many", "number"]) fun _ _ _ _ _ _ us hl => match us, hl with | [_, _], _ => rfl⟩
  have Fq10 := fun_mk (st := s_bottom_of) lq10 cq10 kq10
  have D_bottom_of : Dn K mg "bottom_of" s_bottom_of ["many", "number"] fq10 _ := ⟨Fq10, PySem.W.mg_of X G aq10, Fq10.binds (ps := ["many", "number"]) fun _ _ _ _ _ _ us hl => match us, hl with | [_, _], _ => rfl⟩
  have Fq11 := fun_mk (st := s_set_of) lq11 cq11 kq11
  have D_set_of : Dn K mg "set_of" s_set_of ["many", "number", "place"] fq11 _ := ⟨Fq11, PySem.W.mg_of X G aq11, Fq11.binds (ps := ["many", "number", "place"]) fun _ _ _ _ _ _ us hl => match us, hl with | [_, _, _], _ => rfl⟩
  have Fq12 := fun_mk (st := s_middle) lq12 cq12 kq12
  have D_middle : Dn K mg "middle" s_middle ["many"] fq12 _ := ⟨Fq12, PySem.W.mg_of X G aq12, Fq12.binds (ps := ["many"]) fun _ _ _ _ _ _ us hl => match us, hl with | [_], _ => rfl⟩
  have Fq13 := fun_mk (st := s__law_cell_at) lq13 cq13 kq13
  have D__law_cell_at : Dn K mg "_law_cell_at" s__law_cell_at ["script", "k"] fq13 _ := ⟨Fq13, PySem.W.mg_of X G aq13, Fq13.binds (ps := ["script", "k"]) fun _ _ _ _ _ _ us hl => match us, hl with | [_, _], _ => rfl⟩
  have Fq14 := fun_mk (st := s__law_whole) lq14 cq14 kq14
  have D__law_whole : Dn K mg "_law_whole" s__law_whole ["found"] fq14 _ := ⟨Fq14, PySem.W.mg_of X G aq14, Fq14.binds (ps := ["found"]) fun _ _ _ _ _ _ us hl => match us, hl with | [_], _ => rfl⟩
  have Fq15 := fun_mk (st := s__law_is_set) lq15 cq15 kq15
  have D__law_is_set : Dn K mg "_law_is_set" s__law_is_set ["found", "due"] fq15 _ := ⟨Fq15, PySem.W.mg_of X G aq15, Fq15.binds (ps := ["found", "due"]) fun _ _ _ _ _ _ us hl => match us, hl with | [_, _], _ => rfl⟩
  have Fq16 := fun_mk (st := s__law_pairs) lq16 cq16 kq16
  have D__law_pairs : Dn K mg "_law_pairs" s__law_pairs ["members"] fq16 _ := ⟨Fq16, PySem.W.mg_of X G aq16, Fq16.binds (ps := ["members"]) fun _ _ _ _ _ _ us hl => match us, hl with | [_], _ => rfl⟩
  have Fq17 := fun_mk (st := s__law_loose) lq17 cq17 kq17
  have D__law_loose : Dn K mg "_law_loose" s__law_loose ["size", "members"] fq17 _ := ⟨Fq17, PySem.W.mg_of X G aq17, Fq17.binds (ps := ["size", "members"]) fun _ _ _ _ _ _ us hl => match us, hl with | [_, _], _ => rfl⟩
  have Fq18 := fun_mk (st := s__law_bottoms) lq18 cq18 kq18
  have D__law_bottoms : Dn K mg "_law_bottoms" s__law_bottoms ["size"] fq18 _ := ⟨Fq18, PySem.W.mg_of X G aq18, Fq18.binds (ps := ["size"]) fun _ _ _ _ _ _ us hl => match us, hl with | [_], _ => rfl⟩
  have Fq19 := fun_mk (st := s__law_alike) lq19 cq19 kq19
  have D__law_alike : Dn K mg "_law_alike" s__law_alike ["found", "due"] fq19 _ := ⟨Fq19, PySem.W.mg_of X G aq19, Fq19.binds (ps := ["found", "due"]) fun _ _ _ _ _ _ us hl => match us, hl with | [_, _], _ => rfl⟩
  have Fq20 := fun_mk (st := s_law) lq20 cq20 kq20
  have D_law : Dn K mg "law" s_law ["script"] _ _ := ⟨Fq20, PySem.W.mg_of X G aq20, Fq20.binds (ps := ["script"]) fun _ _ _ _ _ _ us hl => match us, hl with | [_], _ => rfl⟩
  refine ⟨PySem.W.fnOf "law" "law" (defArgs s_law) (defBody s_law) (defScope s_law) .none kVq20 dcq20 pmq20 anq20 cdq20 ctq20, fun s v => .of_eq rfl, fun base _ _ => ?_⟩
  have G_cm := ok_cm (P := l.prog) (w := w) (base := base) D_check_many c_MOST_THINGS
  have G_cs := ok_cs (P := l.prog) (w := w) (base := base) D_check_set D_check_many G_cm
  have G_pr := ok_pr (P := l.prog) (w := w) (base := base) D_paired D_check_set G_cs z_range z_len z_sorted
  have G_lo := ok_lo (P := l.prog) (w := w) (base := base) D_loose D_paired G_pr z_range
  have G_ch := ok_ch (P := l.prog) (w := w) (base := base) D_chain D_loose G_lo z_range z_len z_sorted
  have G_pi := ok_pic (P := l.prog) (w := w) (base := base) D_picks z_range
  have G_hm := ok_hm (P := l.prog) (w := w) (base := base) D_how_many D_check_many G_cm D_picks G_pi
  have G_en := ok_en (P := l.prog) (w := w) (base := base) D_endings D_picks G_pi
  have G_ol := ok_ol (P := l.prog) (w := w) (base := base) D_of_lesser_size D_picks G_pi
  have G_sb := ok_sb (P := l.prog) (w := w) (base := base) D_size_of_bottom D_of_lesser_size G_ol z_range z_len
  have G_bo := ok_bo (P := l.prog) (w := w) (base := base) D_bottom_of D_check_many G_cm D_how_many G_hm D_size_of_bottom G_sb D_of_lesser_size G_ol D_endings G_en z_range
  have G_so := ok_so (P := l.prog) (w := w) (base := base) D_set_of D_chain G_ch D_bottom_of G_bo z_len
  have G_mi := ok_mi (P := l.prog) (w := w) (base := base) D_middle D_check_many G_cm D_how_many G_hm D_bottom_of G_bo D_set_of G_so c_MOST_FOR_MIDDLE z_len z_range
  have G_ce := ok_cell (P := l.prog) (w := w) (base := base) D__law_cell_at z_len
  have G_wh := ok_wh (P := l.prog) (w := w) (base := base) D__law_whole z_isinstance z_int z_bool
  have G_lp := ok_lp (P := l.prog) (w := w) (base := base) D__law_pairs z_range z_sorted
  have G_ll := ok_ll (P := l.prog) (w := w) (base := base) D__law_loose D__law_pairs G_lp z_range
  have G_bt := ok_bt (P := l.prog) (w := w) (base := base) D__law_bottoms D__law_loose G_ll z_range z_len z_sorted
  have G_is := ok_is (P := l.prog) (w := w) (base := base) D__law_is_set D__law_whole G_wh z_isinstance z_list z_len z_range
  have G_af := ok_af (P := l.prog) (w := w) (base := base) D__law_alike D__law_is_set G_is z_isinstance z_list z_len z_range
  exact ok_law D_law D__law_cell_at G_ce D__law_bottoms G_bt D__law_loose G_ll D_middle G_mi D__law_alike G_af z_len z_sorted
theorem walk {l : PySem.W.OpenLaw} {q : Program} {loose : List Str} {XP : (Str → Option Value) → Heap → Prop} {YP : World → Heap → Prop} {d : DefRec} {K : Params → PySem.W.Frag} (hn : l.most = some 63) (hdf : d.params.defaults = [])
    (hY : ∀ (w : World) (h : Heap), YP w h → (K w.params).In h)
    (F : ∀ (w : World) (mg : Str → Option Value) (fa : Addr) (h : Heap), (K w.params).In h → h.Ns mainGlobals mg → mg d.name = some (.ref fa) →
      ∃ fd : FuncData, (∀ (s : Shared) (u : Value), BindsTo s fd ⟨[u], []⟩ [("script", u)]) ∧ ∀ base : Heap, (K w.params).In base → base.Ns mainGlobals mg → FnOk l.prog w (K w.params) mg base CX0 8 fa fd ["script"] (spLaw (K w.params))) :
    PySem.W.WalkO q loose XP YP l.row.toRowW d [] (fun f vs => PySem.call f vs) :=
  L2.walk_of (n := 63) (k := 8) (x := "script") (CX := fun _ => CX0) (sp := fun w => spLaw (K w.params)) hn (by decide) hdf ⟨rfl, by decide, by decide⟩ hY F (fun _ _ a ns hl _ hS => ⟨a, ns, rfl, hS, hl, fun _ => rfl⟩) fun _ _ _ _ _ z => z
end Law
open PySem PySem.W PyProof.Rows
set_option maxRecDepth 100000 in
set_option maxHeartbeats 0 in
theorem PySem.Challenge.cw_setchains_k15_middle_holds : PySem.Challenge.rw_setchains_k15_middle.Holds := by
  w_on; o_law; k_head; (case hw => w_witness2)
  k_fill
  refine Law.walk (l := PySem.Challenge.rw_setchains_k15_middle) rfl rfl (fun w h Y => PySem.W.kIn_of Y) ?F
  case F =>
    intro w mg fa h KX G hmg
    refine' Law.all_mk KX G hmg ?aq0 ?lq0 ?cq0 ?kq0 ?aq1 ?lq1 ?cq1 ?kq1 ?aq2 ?lq2 ?cq2 ?kq2 ?aq3 ?lq3 ?cq3 ?kq3 ?aq4 ?lq4 ?cq4 ?kq4 ?aq5 ?lq5 ?cq5 ?kq5 ?aq6 ?lq6 ?cq6 ?kq6 ?aq7 ?lq7 ?cq7 ?kq7 ?aq8 ?lq8 ?cq8 ?kq8 ?aq9 ?lq9 ?cq9 ?kq9 ?aq10 ?lq10 ?cq10 ?kq10 ?aq11 ?lq11 ?cq11 ?kq11 ?aq12 ?lq12 ?cq12 ?kq12 ?aq13 ?lq13 ?cq13 ?kq13 ?aq14 ?lq14 ?cq14 ?kq14 ?aq15 ?lq15 ?cq15 ?kq15 ?aq16 ?lq16 ?cq16 ?kq16 ?aq17 ?lq17 ?cq17 ?kq17 ?aq18 ?lq18 ?cq18 ?kq18 ?aq19 ?lq19 ?cq19 ?kq19 ?aq20 ?lq20 ?cq20 ?kq20 ?vMOST_FOR_MIDDLE ?vMOST_THINGS ?ybool ?yint ?yisinstance ?ylen ?ylist ?yrange ?ysorted
    (case aq0 => k_is)
    (case lq0 => k_is)
    (case cq0 => k_is)
    (case kq0 => k_is)
    (case aq1 => k_is)
    (case lq1 => k_is)
    (case cq1 => k_is)
    (case kq1 => k_is)
    (case aq2 => k_is)
    (case lq2 => k_is)
    (case cq2 => k_is)
    (case kq2 => k_is)
    (case aq3 => k_is)
    (case lq3 => k_is)
    (case cq3 => k_is)
    (case kq3 => k_is)
    (case aq4 => k_is)
    (case lq4 => k_is)
    (case cq4 => k_is)
    (case kq4 => k_is)
    (case aq5 => k_is)
    (case lq5 => k_is)
    (case cq5 => k_is)
    (case kq5 => k_is)
    (case aq6 => k_is)
    (case lq6 => k_is)
    (case cq6 => k_is)
    (case kq6 => k_is)
    (case aq7 => k_is)
    (case lq7 => k_is)
    (case cq7 => k_is)
    (case kq7 => k_is)
    (case aq8 => k_is)
    (case lq8 => k_is)
    (case cq8 => k_is)
    (case kq8 => k_is)
    (case aq9 => k_is)
    (case lq9 => k_is)
    (case cq9 => k_is)
    (case kq9 => k_is)
    (case aq10 => k_is)
    (case lq10 => k_is)
    (case cq10 => k_is)
    (case kq10 => k_is)
    (case aq11 => k_is)
    (case lq11 => k_is)
    (case cq11 => k_is)
    (case kq11 => k_is)
    (case aq12 => k_is)
    (case lq12 => k_is)
    (case cq12 => k_is)
    (case kq12 => k_is)
    (case aq13 => k_is)
    (case lq13 => k_is)
    (case cq13 => k_is)
    (case kq13 => k_is)
    (case aq14 => k_is)
    (case lq14 => k_is)
    (case cq14 => k_is)
    (case kq14 => k_is)
    (case aq15 => k_is)
    (case lq15 => k_is)
    (case cq15 => k_is)
    (case kq15 => k_is)
    (case aq16 => k_is)
    (case lq16 => k_is)
    (case cq16 => k_is)
    (case kq16 => k_is)
    (case aq17 => k_is)
    (case lq17 => k_is)
    (case cq17 => k_is)
    (case kq17 => k_is)
    (case aq18 => k_is)
    (case lq18 => k_is)
    (case cq18 => k_is)
    (case kq18 => k_is)
    (case aq19 => k_is)
    (case lq19 => k_is)
    (case cq19 => k_is)
    (case kq19 => k_is)
    (case aq20 => k_is)
    (case lq20 => k_is)
    (case cq20 => k_is)
    (case kq20 => k_is)
    (case vMOST_FOR_MIDDLE => k_is)
    (case vMOST_THINGS => k_is)
    (case ybool => k_is)
    (case yint => k_is)
    (case yisinstance => k_is)
    (case ylen => k_is)
    (case ylist => k_is)
    (case yrange => k_is)
    (case ysorted => k_is)
#print axioms PySem.Challenge.cw_setchains_k15_middle_holds
