import PyProof.Rows.All
import Wide.All
import OpenK.AllK
import Wide.FinOn
import HandS.ForSpec
import HandS.ForMost
import HandS.IsInst
import HandS.Wide
import HandS.Flow
import HandS.ForExc
import HandS.Lambda
import HandS.StrMore
import HandS.WideBits
import HandS.CallSlots
import HandS.SetKeys
import KE.DataMinMax
import KE.SortData
import HandS.Defaults
import HandS.MakeKwOnly
import HandS.RaiseMore
import HandS.ExcIs
import HandS.Style
import HandS.TupMul
import KE.KExcIs
import HandS.ExcInit
import HandS.ExcField
import HandS.EndOwn
import KE.KxIndex
import PySem.Challenge.RW_barscribe_k03_points_judged
set_option Elab.async false
set_option linter.all false
set_option maxRecDepth 100000
namespace DV
open PySem L2

/-! ### data, the store, runs -/
inductive D where
  | non | bl (b : Bool) | int (i : Int) | str (x : Str) | tup (xs : List D) | obj (n : Nat) | adr (a : Addr) | ty (n : String) | fz (xs : List D) | exc (c : Addr) (ks : List Str) (ds : List D)
inductive DO where
  | lst (xs : List D) | ins (C : Addr) (fs : List (Str × D)) | dK (kvs : List (Key × D)) | dT (kvs : List (List Key × D)) | tab (P : Addr) (q : Str)
abbrev Sto := List DO
/-- an exception: its class, its fields -/
structure Xc where
  cls : Addr
  fs : List (Str × D)
abbrev Rs (α : Type) := Option (Except Xc α × Sto)
abbrev M (α : Type) := Sto → Rs α
abbrev Dn := List (Option D)
abbrev FnD := List D → M D

/-! ### how data lie in the heap -/
/-- a list that nobody changes: locked, or written -/
def FzL (K : PySem.W.Frag) (H : Hp) (a : Addr) (vs : List V) : Prop := (∃ o, H a = some (.frz o (.lst vs))) ∨ SqL K (fun _ => none) a vs
/-- an exception object of the class cls with the dict d, caught: it stays as it is -/
def ExK (cls : Value) (d : Option Addr) (a : Addr) : HO := .ext fun h => ∃ (oe : Obj) (vs : Array Value), h.get? a = some oe ∧ Zc cls d oe ∧ oe.data = .fields vs
/-- .. with these attributes -/
def ExV (H : Hp) (a c : Addr) (ks : List Str) (vs : List V) : Prop := ks.length = vs.length ∧ ((H a = some (ExK (.ref c) none a) ∧ ks = []) ∨ ∃ d, H a = some (ExK (.ref c) (some d) a) ∧ H d = some (.xd (ks.zip vs)))
mutual
inductive Dt (K : PySem.W.Frag) (φ : List Addr) (H : Hp) : V → D → Prop
  | non : Dt K φ H .non .non
  | bl (b : Bool) : Dt K φ H (.bl b) (.bl b)
  | int (i : Int) : Dt K φ H (.int i) (.int i)
  | str (x : Str) : Dt K φ H (.str x) (.str x)
  | tup {a : Addr} {vs : List V} {ds : List D} : SqT K H a vs → Dts K φ H vs ds → Dt K φ H (.ref a) (.tup ds)
  | obj {a : Addr} {n : Nat} : φ[n]? = some a → Dt K φ H (.ref a) (.obj n)
  | adr (a : Addr) : Dt K φ H (.ref a) (.adr a)
  | ty (n : String) : Dt K φ H (.ty n) (.ty n)
  | fz {a : Addr} {vs : List V} {ds : List D} : FzL K H a vs → Dts K φ H vs ds → Dt K φ H (.ref a) (.fz ds)
  | exc {a c : Addr} {ks : List Str} {vs : List V} {ds : List D} : ExV H a c ks vs → Dts K φ H vs ds → Dt K φ H (.ref a) (.exc c ks ds)
inductive Dts (K : PySem.W.Frag) (φ : List Addr) (H : Hp) : List V → List D → Prop
  | nil : Dts K φ H [] []
  | cons {v : V} {vs : List V} {d : D} {ds : List D} : Dt K φ H v d → Dts K φ H vs ds → Dts K φ H (v :: vs) (d :: ds)
end
/-- fields, entries -/
inductive Prs {κ : Type} (R : V → D → Prop) : List (κ × V) → List (κ × D) → Prop
  | nil : Prs R [] []
  | cons {k : κ} {v : V} {vs : List (κ × V)} {d : D} {ds : List (κ × D)} : R v d → Prs R vs ds → Prs R ((k, v) :: vs) ((k, d) :: ds)
def Ob (K : PySem.W.Frag) (φ : List Addr) (H : Hp) (a : Addr) : DO → Prop
  | .lst xs => ∃ vs, H a = some (.lst vs) ∧ Dts K φ H vs xs
  | .ins C fs => ∃ dx vs, H a = some (.ins C dx vs) ∧ Prs (Dt K φ H) vs fs
  | .dK kvs => ∃ vs, H a = some (.dK vs) ∧ Prs (Dt K φ H) vs kvs
  | .dT kvs => ∃ vs, H a = some (.dT vs) ∧ Prs (Dt K φ H) vs kvs
  | .tab P q => a = P ∧ LamX.TabS H P q
structure So (K : PySem.W.Frag) (φ : List Addr) (H : Hp) (s : Sto) : Prop where
  len : s.length = φ.length
  nd : φ.Nodup
  ob : ∀ (n : Nat) (o : DO), s[n]? = some o → ∃ a, φ[n]? = some a ∧ Ob K φ H a o
/-- what comes later: more objects, the tuples stand -/
structure Fu (K : PySem.W.Frag) (φ φ' : List Addr) (H H' : Hp) : Prop where
  pre : ∃ t, φ ++ t = φ'
  go : ∀ a xs, SqT K H a xs → SqT K H' a xs
  gf : ∀ a xs, FzL K H a xs → FzL K H' a xs
  ge : ∀ a f, H a = some (.ext f) → H' a = some (.ext f)
  gd : ∀ a f, H a = some (.xd f) → H' a = some (.xd f)
section
variable {K : PySem.W.Frag} {φ φ' φ'' : List Addr} {H H' H'' : Hp} {v : V} {vs : List V} {d : D} {ds : List D} {s s' : Sto}
theorem Fu.refl (φ : List Addr) (H : Hp) : Fu K φ φ H H := ⟨⟨[], List.append_nil _⟩, fun _ _ h => h, fun _ _ h => h, fun _ _ h => h, fun _ _ h => h⟩
theorem Fu.gx (f : Fu K φ φ' H H') {a c : Addr} {ks : List Str} {vs : List V} (h : ExV H a c ks vs) : ExV H' a c ks vs := by
  obtain ⟨q0, q⟩ := h
  refine ⟨q0, ?_⟩
  rcases q with ⟨q, e⟩ | ⟨d, q, e⟩
  · exact .inl ⟨f.ge _ _ q, e⟩
  · exact .inr ⟨d, f.ge _ _ q, f.gd _ _ e⟩
theorem Fu.trans (a : Fu K φ φ' H H') (b : Fu K φ' φ'' H' H'') : Fu K φ φ'' H H'' := by
  obtain ⟨⟨t, rfl⟩, g, k, x, y⟩ := a
  obtain ⟨⟨u, rfl⟩, g', k', x', y'⟩ := b
  exact ⟨⟨t ++ u, by rw [List.append_assoc]⟩, fun a xs h => g' a xs (g a xs h), fun a xs h => k' a xs (k a xs h), fun a c h => x' a c (x a c h), fun a c h => y' a c (y a c h)⟩
theorem Fu.get (f : Fu K φ φ' H H') {n : Nat} {a : Addr} (h : φ[n]? = some a) : φ'[n]? = some a := by
  obtain ⟨⟨t, rfl⟩, _, _, _, _⟩ := f
  rw [List.getElem?_append_left (List.getElem?_eq_some_iff.mp h).1]
  exact h
mutual
theorem Dt.fu (f : Fu K φ φ' H H') : ∀ {v : V} {d : D}, Dt K φ H v d → Dt K φ' H' v d
  | _, _, .non => .non
  | _, _, .bl b => .bl b
  | _, _, .int i => .int i
  | _, _, .str x => .str x
  | _, _, .tup h r => .tup (f.go _ _ h) (Dts.fu f r)
  | _, _, .obj h => .obj (f.get h)
  | _, _, .adr a => .adr a
  | _, _, .ty n => .ty n
  | _, _, .fz h r => .fz (f.gf _ _ h) (Dts.fu f r)
  | _, _, .exc h r => .exc (f.gx h) (Dts.fu f r)
theorem Dts.fu (f : Fu K φ φ' H H') : ∀ {vs : List V} {ds : List D}, Dts K φ H vs ds → Dts K φ' H' vs ds
  | _, _, .nil => .nil
  | _, _, .cons h r => .cons (Dt.fu f h) (Dts.fu f r)
end
theorem Prs.fu {κ : Type} (f : Fu K φ φ' H H') : ∀ {vs : List (κ × V)} {ds : List (κ × D)}, Prs (Dt K φ H) vs ds → Prs (Dt K φ' H') vs ds
  | _, _, .nil => .nil
  | _, _, .cons h r => .cons (h.fu f) (Prs.fu f r)
theorem Dts.length : ∀ {vs : List V} {ds : List D}, Dts K φ H vs ds → vs.length = ds.length
  | _, _, .nil => rfl
  | _, _, .cons _ r => congrArg (· + 1) (Dts.length r)
theorem Dts.get : ∀ {vs : List V} {ds : List D} {i : Nat} {d : D}, Dts K φ H vs ds → ds[i]? = some d → ∃ v, vs[i]? = some v ∧ Dt K φ H v d
  | _, _, 0, _, .cons h _, e => ⟨_, rfl, by cases e; exact h⟩
  | _, _, i + 1, _, .cons _ r, e => Dts.get (i := i) r e
theorem Dts.get' : ∀ {vs : List V} {ds : List D} {i : Nat} {v : V}, Dts K φ H vs ds → vs[i]? = some v → ∃ d, ds[i]? = some d ∧ Dt K φ H v d
  | _, _, 0, _, .cons h _, e => ⟨_, rfl, by cases e; exact h⟩
  | _, _, i + 1, _, .cons _ r, e => Dts.get' (i := i) r e
theorem Dts.append : ∀ {vs ws : List V} {ds es : List D}, Dts K φ H vs ds → Dts K φ H ws es → Dts K φ H (vs ++ ws) (ds ++ es)
  | _, _, _, _, .nil, r => r
  | _, _, _, _, .cons h r, q => .cons h (Dts.append r q)
theorem Dts.set {v : V} {d : D} (q : Dt K φ H v d) : ∀ {vs : List V} {ds : List D} (i : Nat), Dts K φ H vs ds → Dts K φ H (vs.set i v) (ds.set i d)
  | _, _, _, .nil => .nil
  | _, _, 0, .cons _ r => .cons q r
  | _, _, i + 1, .cons h r => .cons h (Dts.set q i r)
theorem Dts.take : ∀ {vs : List V} {ds : List D} (n : Nat), Dts K φ H vs ds → Dts K φ H (vs.take n) (ds.take n)
  | _, _, 0, _ => .nil
  | _, _, _ + 1, .nil => .nil
  | _, _, n + 1, .cons h r => .cons h (Dts.take n r)
theorem Dts.drop : ∀ {vs : List V} {ds : List D} (n : Nat), Dts K φ H vs ds → Dts K φ H (vs.drop n) (ds.drop n)
  | _, _, 0, r => r
  | _, _, _ + 1, .nil => .nil
  | _, _, n + 1, .cons _ r => Dts.drop n r
theorem Dts.ints : ∀ {vs : List V} {ns : List Int}, Dts K φ H vs (ns.map D.int) → vs = ns.map V.int
  | [], [], _ => rfl
  | _, _ :: _, .cons (.int _) r => congrArg (_ :: ·) (Dts.ints r)
theorem Dts.of_ints : ∀ ns : List Int, Dts K φ H (ns.map V.int) (ns.map D.int)
  | [] => .nil
  | i :: r => .cons (.int i) (Dts.of_ints r)
/-- an object of the store -/
theorem So.at (h : So K φ H s) {n : Nat} {o : DO} (e : s[n]? = some o) : ∃ a, φ[n]? = some a ∧ Ob K φ H a o := h.ob n o e
theorem So.lst (h : So K φ H s) {n : Nat} {xs : List D} (e : s[n]? = some (.lst xs)) {a : Addr} (ha : φ[n]? = some a) : ∃ vs, H a = some (.lst vs) ∧ Dts K φ H vs xs := by
  obtain ⟨b, hb, q⟩ := h.ob _ _ e
  rw [ha] at hb
  cases hb
  exact q
theorem Ob.some {a : Addr} {o : DO} (h : Ob K φ H a o) : ∃ u, H a = some u ∧ (∀ xs, u ≠ .tup xs) ∧ (∀ o w, u ≠ .frz o w) ∧ (∀ f, u ≠ .ext f) ∧ ∀ f, u ≠ .xd f := by
  cases o with
  | lst xs => obtain ⟨vs, e, _⟩ := h; exact ⟨_, e, fun _ => nofun, fun _ _ => nofun, fun _ => nofun, fun _ => nofun⟩
  | ins C fs => obtain ⟨dx, vs, e, _⟩ := h; exact ⟨_, e, fun _ => nofun, fun _ _ => nofun, fun _ => nofun, fun _ => nofun⟩
  | dK kvs => obtain ⟨vs, e, _⟩ := h; exact ⟨_, e, fun _ => nofun, fun _ _ => nofun, fun _ => nofun, fun _ => nofun⟩
  | dT kvs => obtain ⟨vs, e, _⟩ := h; exact ⟨_, e, fun _ => nofun, fun _ _ => nofun, fun _ => nofun, fun _ => nofun⟩
  | tab P q => obtain ⟨rfl, ps, e, _⟩ := h; exact ⟨_, e, fun _ => nofun, fun _ _ => nofun, fun _ => nofun, fun _ => nofun⟩
/-- at an address that holds no tuple and nothing locked a thing may be written -/
theorem go_upd {p : Addr} {o : HO} (h1 : ∀ xs, H p ≠ some (.tup xs)) (h2 : ∀ ob w, H p ≠ some (.frz ob w)) : ∀ a xs, SqT K H a xs → SqT K (upd H p o) a xs := fun a xs q => by
  rcases q with (q | ⟨ob, q⟩) | q
  · have ne : a ≠ p := fun z => by subst z; exact h1 _ q
    exact .inl (.inl (by rw [upd_ne ne]; exact q))
  · have ne : a ≠ p := fun z => by subst z; exact h2 _ _ q
    exact .inl (.inr ⟨ob, by rw [upd_ne ne]; exact q⟩)
  · exact .inr q
theorem gf_upd {p : Addr} {o : HO} (h2 : ∀ ob w, H p ≠ some (.frz ob w)) : ∀ a xs, FzL K H a xs → FzL K (upd H p o) a xs := fun a xs q => by
  rcases q with ⟨ob, q⟩ | q
  · have ne : a ≠ p := fun z => by subst z; exact h2 _ _ q
    exact .inl ⟨ob, by rw [upd_ne ne]; exact q⟩
  · exact .inr q
theorem ge_upd {p : Addr} {o : HO} (h1 : ∀ f, H p ≠ some (.ext f)) : ∀ a f, H a = some (.ext f) → upd H p o a = some (.ext f) := fun a f q => by
  have ne : a ≠ p := fun z => by subst z; exact h1 _ q
  rw [upd_ne ne]; exact q
theorem gd_upd {p : Addr} {o : HO} (h1 : ∀ f, H p ≠ some (.xd f)) : ∀ a f, H a = some (.xd f) → upd H p o a = some (.xd f) := fun a f q => by
  have ne : a ≠ p := fun z => by subst z; exact h1 _ q
  rw [upd_ne ne]; exact q
theorem none_updx {p : Addr} (h : H p = none) : (∀ f, H p ≠ some (.ext f)) ∧ ∀ f, H p ≠ some (.xd f) := ⟨fun xs e => (by rw [h] at e; cases e), fun w e => (by rw [h] at e; cases e)⟩
theorem FzL.sq {a : Addr} {vs : List V} (h : FzL K H a vs) : SqL K H a vs := by
  rcases h with ⟨o, e⟩ | (h | h)
  · exact .inl (.inr ⟨o, e⟩)
  · rcases h with h | ⟨o, h⟩ <;> cases h
  · exact .inr h
theorem none_upd {p : Addr} (h : H p = none) : (∀ xs, H p ≠ some (.tup xs)) ∧ ∀ ob w, H p ≠ some (.frz ob w) := ⟨fun xs e => (by rw [h] at e; cases e), fun ob w e => (by rw [h] at e; cases e)⟩
theorem fu_new {p : Addr} {o : HO} (h : H p = none) : Fu K φ φ H (upd H p o) := ⟨⟨[], List.append_nil _⟩, go_upd (none_upd h).1 (none_upd h).2, gf_upd (none_upd h).2, ge_upd (none_updx h).1, gd_upd (none_updx h).2⟩
theorem fu_newO {p : Addr} {o : HO} (h : H p = none) : Fu K φ (φ ++ [p]) H (upd H p o) := ⟨⟨[p], rfl⟩, go_upd (none_upd h).1 (none_upd h).2, gf_upd (none_upd h).2, ge_upd (none_updx h).1, gd_upd (none_updx h).2⟩
theorem Ob.keep {a p : Addr} {o : DO} {u : HO} (f : Fu K φ φ' H (upd H p u)) (h : Ob K φ H a o) (ne : a ≠ p) : Ob K φ' (upd H p u) a o := by
  cases o with
  | lst xs => obtain ⟨vs, e, r⟩ := h; exact ⟨vs, by rw [upd_ne ne]; exact e, r.fu f⟩
  | ins C fs => obtain ⟨dx, vs, e, r⟩ := h; exact ⟨dx, vs, by rw [upd_ne ne]; exact e, r.fu f⟩
  | dK kvs => obtain ⟨vs, e, r⟩ := h; exact ⟨vs, by rw [upd_ne ne]; exact e, r.fu f⟩
  | dT kvs => obtain ⟨vs, e, r⟩ := h; exact ⟨vs, by rw [upd_ne ne]; exact e, r.fu f⟩
  | tab P q =>
    obtain ⟨rfl, ps, e, ok, named⟩ := h
    exact ⟨rfl, ps, by rw [upd_ne ne]; exact e, ok, fun pos cv among => by
      obtain ⟨c, z1, z2⟩ := named pos cv among
      exact ⟨c, z1, f.ge _ _ z2⟩⟩
theorem So.addr (h : So K φ H s) {a : Addr} (ha : a ∈ φ) : ∃ (n : Nat) (o : DO), φ[n]? = some a ∧ s[n]? = some o ∧ Ob K φ H a o := by
  obtain ⟨n, hn⟩ := List.mem_iff_getElem?.mp ha
  have hl : n < s.length := by rw [h.len]; exact (List.getElem?_eq_some_iff.mp hn).1
  obtain ⟨b, hb, q⟩ := h.ob n s[n] (List.getElem?_eq_getElem hl)
  rw [hn] at hb
  cases hb
  exact ⟨n, s[n], hn, List.getElem?_eq_getElem hl, q⟩
theorem So.fresh (h : So K φ H s) {p : Addr} (hp : H p = none) : p ∉ φ := fun q => by
  obtain ⟨n, o, _, _, k⟩ := h.addr q
  obtain ⟨u, e, _⟩ := k.some
  rw [hp] at e
  cases e
/-- a new object that is no object of the store (a tuple) -/
theorem So.new (h : So K φ H s) {p : Addr} {u : HO} (hp : H p = none) : So K φ (upd H p u) s := ⟨h.len, h.nd, fun n o e => by
  obtain ⟨a, ha, q⟩ := h.ob n o e
  exact ⟨a, ha, q.keep (fu_new hp) (by
    obtain ⟨z, e, _⟩ := q.some
    exact ne_of_none e hp)⟩⟩
/-- a new object of the store -/
theorem So.newO (h : So K φ H s) {p : Addr} {u : HO} {o : DO} (hp : H p = none) (q : Ob K (φ ++ [p]) (upd H p u) p o) : So K (φ ++ [p]) (upd H p u) (s ++ [o]) := by
  refine ⟨by simp [h.len], ?_, fun n o' e => ?_⟩
  · rw [List.nodup_append]
    exact ⟨h.nd, by simp, fun a ha b hb z => by
      rw [List.mem_singleton] at hb
      subst hb z
      exact h.fresh hp ha⟩
  · by_cases hn : n < s.length
    · rw [List.getElem?_append_left hn] at e
      obtain ⟨a, ha, k⟩ := h.ob n o' e
      refine ⟨a, by rw [List.getElem?_append_left (by rw [← h.len]; exact hn)]; exact ha, k.keep (fu_newO hp) ?_⟩
      obtain ⟨z, e, _⟩ := k.some
      exact ne_of_none e hp
    · have hl := (List.getElem?_eq_some_iff.mp e).1
      rw [List.length_append, List.length_singleton] at hl
      obtain rfl : n = s.length := by omega
      rw [List.getElem?_append_right (Nat.le_refl _)] at e
      simp at e
      subst e
      exact ⟨p, by rw [h.len, List.getElem?_append_right (Nat.le_refl _)]; simp, q⟩
/-- an object of the store is changed -/
theorem fu_set (h : So K φ H s) {n : Nat} {a : Addr} {u : HO} (ha : φ[n]? = some a) : Fu K φ φ H (upd H a u) := by
  obtain ⟨m, o, _, _, q⟩ := h.addr (List.mem_of_getElem? ha)
  obtain ⟨z, e, k1, k2, k3, k4⟩ := q.some
  have q1 : ∀ xs, H a ≠ some (.tup xs) := fun xs e' => by rw [e] at e'; cases e'; exact k1 _ rfl
  have q2 : ∀ ob w, H a ≠ some (.frz ob w) := fun ob w e' => by rw [e] at e'; cases e'; exact k2 _ _ rfl
  have q3 : ∀ f, H a ≠ some (.ext f) := fun xs e' => by rw [e] at e'; cases e'; exact k3 _ rfl
  have q4 : ∀ f, H a ≠ some (.xd f) := fun xs e' => by rw [e] at e'; cases e'; exact k4 _ rfl
  exact ⟨⟨[], List.append_nil _⟩, go_upd q1 q2, gf_upd q2, ge_upd q3, gd_upd q4⟩
theorem So.set (h : So K φ H s) {n : Nat} {a : Addr} {u : HO} {o : DO} (ha : φ[n]? = some a) (q : Ob K φ (upd H a u) a o) : So K φ (upd H a u) (s.set n o) := by
  refine ⟨by rw [List.length_set, h.len], h.nd, fun m o' e => ?_⟩
  by_cases hm : m = n
  · subst hm
    have hl : m < s.length := by
      have := (List.getElem?_eq_some_iff.mp e).1
      rwa [List.length_set] at this
    rw [List.getElem?_set_self hl] at e
    cases e
    exact ⟨a, ha, q⟩
  · rw [List.getElem?_set_ne (fun z => hm z.symm)] at e
    obtain ⟨b, hb, k⟩ := h.ob m o' e
    refine ⟨b, hb, k.keep (fu_set h ha) fun z => hm ?_⟩
    subst z
    exact (List.getElem?_inj (List.getElem?_eq_some_iff.mp hb).1 h.nd).mp (hb.trans ha.symm)
end

/-! ### the names -/
structure Sg (K : PySem.W.Frag) (φ : List Addr) (H : Hp) (σ : L2.St) (Δ : Dn) : Prop where
  len : σ.length = Δ.length
  get : ∀ (i : Nat) (d : D), Δ[i]? = some (some d) → ∃ v, σ[i]? = some (some v) ∧ Dt K φ H v d
section
variable {K : PySem.W.Frag} {φ φ' : List Addr} {H H' : Hp} {σ : L2.St} {Δ : Dn}
theorem Sg.fu (f : Fu K φ φ' H H') (h : Sg K φ H σ Δ) : Sg K φ' H' σ Δ := ⟨h.len, fun i d e => by
  obtain ⟨v, h1, h2⟩ := h.get i d e
  exact ⟨v, h1, h2.fu f⟩⟩
theorem Sg.set (h : Sg K φ H σ Δ) {v : V} {d : D} (q : Dt K φ H v d) (i : Nat) : Sg K φ H (σ.set i (some v)) (Δ.set i (some d)) := by
  refine ⟨by rw [List.length_set, List.length_set, h.len], fun j e hj => ?_⟩
  by_cases z : j = i
  · subst z
    have hl : j < Δ.length := by
      have := (List.getElem?_eq_some_iff.mp hj).1
      rwa [List.length_set] at this
    rw [List.getElem?_set_self hl] at hj
    cases hj
    exact ⟨v, by rw [List.getElem?_set_self (by rw [h.len]; exact hl)], q⟩
  · rw [List.getElem?_set_ne (fun w => z w.symm)] at hj ⊢
    exact h.get j e hj
theorem Sg.forget (h : Sg K φ H σ Δ) (i : Nat) (o : Option V) : Sg K φ H (σ.set i o) (Δ.set i none) := by
  refine ⟨by rw [List.length_set, List.length_set, h.len], fun j e hj => ?_⟩
  by_cases z : j = i
  · subst z
    have hl : j < Δ.length := by
      have := (List.getElem?_eq_some_iff.mp hj).1
      rwa [List.length_set] at this
    rw [List.getElem?_set_self hl] at hj
    cases hj
  · rw [List.getElem?_set_ne (fun w => z w.symm)] at hj ⊢
    exact h.get j e hj
def startD (n : Nat) (ds : List D) : Dn := ds.map some ++ List.replicate (n - ds.length) none
theorem Sg.start {N : List Str} {vs : List V} {ds : List D} (r : Dts K φ H vs ds) : Sg K φ H (L2.start N vs) (startD N.length ds) := by
  have hl := r.length
  refine ⟨?_, fun i d e => ?_⟩
  · unfold L2.start startD
    rw [List.length_append, List.length_append, List.length_map, List.length_map, hl]
    simp
  · unfold startD at e
    have hi : i < ds.length := by
      by_cases hi : i < ds.length
      · exact hi
      · rw [List.getElem?_append_right (by simpa using hi), List.getElem?_replicate] at e
        split at e <;> cases e
    rw [List.getElem?_append_left (by simpa using hi), List.getElem?_map] at e
    have e' : ds[i]? = some d := by
      cases q : ds[i]? with
      | none => rw [q] at e; cases e
      | some x => rw [q] at e; cases e; rfl
    obtain ⟨v, hv, k⟩ := r.get e'
    refine ⟨v, ?_, k⟩
    unfold L2.start
    rw [List.getElem?_append_left (by simpa [hl] using hi), List.getElem?_map, hv]
    rfl
end
/-- an exception lies -/
def Xr (K : PySem.W.Frag) (φ : List Addr) (H : Hp) (cls : Value) (dd : Option Addr) (x : Xc) : Prop :=
  cls = .ref x.cls ∧ ((dd = none ∧ x.fs = []) ∨ ∃ a vs, dd = some a ∧ H a = some (.xd vs) ∧ Prs (Dt K φ H) vs x.fs)
end DV

namespace DV
open PySem L2 PyProof.Rows

/-! ### runs, and what they promise -/
def mret {α : Type} (a : α) : M α := fun s => some (.ok a, s)
def mbind {α β : Type} (m : M α) (k : α → M β) : M β := fun s => match m s with
  | some (.ok a, s') => k a s'
  | some (.error x, s') => some (.error x, s')
  | none => none
def mfail {α : Type} : M α := fun _ => none
abbrev WK := Value → Option Addr → Hp → Prop
/-- behind a run: C of what it gives, W of what it raises -/
def Ps (K : PySem.W.Frag) (W : WK) {α β : Type} (R : List Addr → Hp → β → α → Prop) (φ : List Addr) (H : Hp) (C : List Addr → β → Hp → α → Sto → Prop) : Rs α → Prop
  | some (.ok a, s') => ∀ φ' b H', Fu K φ φ' H H' → So K φ' H' s' → R φ' H' b a → C φ' b H' a s'
  | some (.error x, s') => ∀ φ' H' cls dd, Fu K φ φ' H H' → So K φ' H' s' → Xr K φ' H' cls dd x → W cls dd H'
  | none => False
section
variable {K : PySem.W.Frag} {W : WK} {α β γ δ : Type} {R : List Addr → Hp → β → α → Prop} {R' : List Addr → Hp → δ → γ → Prop} {φ φ' : List Addr} {H H' : Hp} {s : Sto}
theorem Ps.shift {C : List Addr → β → Hp → α → Sto → Prop} (f : Fu K φ φ' H H') : ∀ {r : Rs α}, Ps K W R φ H C r → Ps K W R φ' H' C r
  | some (.ok a, s'), h => fun ψ b G g so q => h ψ b G (f.trans g) so q
  | some (.error x, s'), h => fun ψ G cls dd g so q => h ψ G cls dd (f.trans g) so q
  | none, h => h
theorem Ps.bind {C : List Addr → δ → Hp → γ → Sto → Prop} {m : M α} {k : α → M γ} (h : Ps K W R' φ H C (mbind m k s)) :
    Ps K W R φ H (fun φ1 b H1 a s1 => Fu K φ φ1 H H1 ∧ So K φ1 H1 s1 ∧ R φ1 H1 b a ∧ Ps K W R' φ1 H1 C (k a s1)) (m s) := by
  unfold mbind at h
  cases e : m s with
  | none => rw [e] at h; exact h.elim
  | some p =>
    obtain ⟨r, s'⟩ := p
    cases r with
    | ok a => rw [e] at h; exact fun ψ b G g so q => ⟨g, so, q, h.shift g⟩
    | error x => rw [e] at h; exact h
theorem Ps.mono {C C' : List Addr → β → Hp → α → Sto → Prop} (f : ∀ φ' b H' a s', C φ' b H' a s' → C' φ' b H' a s') : ∀ {r : Rs α}, Ps K W R φ H C r → Ps K W R φ H C' r
  | some (.ok a, s'), h => fun ψ b G g so q => f _ _ _ _ _ (h ψ b G g so q)
  | some (.error x, s'), h => h
  | none, h => h
end

/-! ### readings from runs -/
abbrev DX := Dn → M D
abbrev DT := Dn → M Bool
abbrev DA := Dn → M (List D)
def wAt (W : WX) (σ : L2.St) : WK := fun c d H => W c d σ H
def upE (K : PySem.W.Frag) (W : WX) (de : DX) : TE := fun σ H Q => ∃ Δ φ s, Sg K φ H σ Δ ∧ So K φ H s ∧ Ps K (wAt W σ) (Dt K) φ H (fun _ v H' _ _ => Q v H') (de Δ s)
def upT (K : PySem.W.Frag) (W : WX) (dt : DT) : TT := fun σ H Q => ∃ Δ φ s, Sg K φ H σ Δ ∧ So K φ H s ∧ Ps K (wAt W σ) (fun _ _ (b b' : Bool) => b = b') φ H (fun _ v H' _ _ => Q v H') (dt Δ s)
def upA (K : PySem.W.Frag) (W : WX) (da : DA) : TA := fun σ H Q => ∃ Δ φ s, Sg K φ H σ Δ ∧ So K φ H s ∧ Ps K (wAt W σ) (Dts K) φ H (fun _ v H' _ _ => Q v H') (da Δ s)
def DE (X : Cx) (W : WX) (e : Expr) (de : DX) : Prop := PE X e (upE X.K W de)
def DTe (X : Cx) (W : WX) (e : Expr) (dt : DT) : Prop := PT X e (upT X.K W dt)
def DW (X : Cx) (W : WX) (e : Expr) (dt : DT) : Prop := PW X e (upT X.K W dt)
def DAs (X : Cx) (W : WX) (es : List Expr) (da : DA) : Prop := PA X es (upA X.K W da)
theorem pe_imp {X : Cx} {e : Expr} {t t' : TE} (h : PE X e t) (f : ∀ σ H Q, t' σ H Q → t σ H Q) : PE X e t' := ⟨fun pins s σ H Q I q => h.run pins s σ H Q I (f _ _ _ q)⟩
theorem pt_imp {X : Cx} {e : Expr} {t t' : TT} (h : PT X e t) (f : ∀ σ H Q, t' σ H Q → t σ H Q) : PT X e t' := ⟨fun pins s σ H Q I q => h.run pins s σ H Q I (f _ _ _ q)⟩
theorem pw_imp {X : Cx} {e : Expr} {t t' : TT} (h : PW X e t) (f : ∀ σ H Q, t' σ H Q → t σ H Q) : PW X e t' := ⟨fun whole pins s σ H Q I q => h.run whole pins s σ H Q I (f _ _ _ q)⟩
theorem pa_imp {X : Cx} {e : List Expr} {t t' : TA} (h : PA X e t) (f : ∀ σ H Q, t' σ H Q → t σ H Q) : PA X e t' := ⟨fun pos pins s σ H Q I q => h.run pos pins s σ H Q I (f _ _ _ q)⟩
/-- the first of two runs: what it wants of the reading of the rest -/
theorem upE_bind {K : PySem.W.Frag} {W : WX} {γ δ : Type} {R' : List Addr → Hp → δ → γ → Prop} {σ : L2.St} {Δ : Dn} {φ : List Addr} {H : Hp} {s : Sto} {C : List Addr → δ → Hp → γ → Sto → Prop} {de : DX} {k : D → M γ} {Q : VK} (hσ : Sg K φ H σ Δ) (hs : So K φ H s)
    (h : Ps K (wAt W σ) R' φ H C (mbind (de Δ) k s)) (q : ∀ φ1 v H1 d s1, Fu K φ φ1 H H1 → Sg K φ1 H1 σ Δ → So K φ1 H1 s1 → Dt K φ1 H1 v d → Ps K (wAt W σ) R' φ1 H1 C (k d s1) → Q v H1) : upE K W de σ H Q :=
  ⟨Δ, φ, s, hσ, hs, Ps.mono (fun φ1 v H1 d s1 z => q φ1 v H1 d s1 z.1 (hσ.fu z.1) z.2.1 z.2.2.1 z.2.2.2) (Ps.bind h)⟩
theorem upT_bind {K : PySem.W.Frag} {W : WX} {γ δ : Type} {R' : List Addr → Hp → δ → γ → Prop} {σ : L2.St} {Δ : Dn} {φ : List Addr} {H : Hp} {s : Sto} {C : List Addr → δ → Hp → γ → Sto → Prop} {de : DT} {k : Bool → M γ} {Q : Bool → Hp → Prop} (hσ : Sg K φ H σ Δ) (hs : So K φ H s)
    (h : Ps K (wAt W σ) R' φ H C (mbind (de Δ) k s)) (q : ∀ φ1 H1 d s1, Fu K φ φ1 H H1 → Sg K φ1 H1 σ Δ → So K φ1 H1 s1 → Ps K (wAt W σ) R' φ1 H1 C (k d s1) → Q d H1) : upT K W de σ H Q :=
  ⟨Δ, φ, s, hσ, hs, Ps.mono (fun φ1 v H1 d s1 z => by
    obtain ⟨z1, z2, z3, z4⟩ := z
    subst z3
    exact q φ1 H1 _ s1 z1 (hσ.fu z1) z2 z4) (Ps.bind h)⟩
theorem upA_bind {K : PySem.W.Frag} {W : WX} {γ δ : Type} {R' : List Addr → Hp → δ → γ → Prop} {σ : L2.St} {Δ : Dn} {φ : List Addr} {H : Hp} {s : Sto} {C : List Addr → δ → Hp → γ → Sto → Prop} {de : DA} {k : List D → M γ} {Q : List V → Hp → Prop} (hσ : Sg K φ H σ Δ) (hs : So K φ H s)
    (h : Ps K (wAt W σ) R' φ H C (mbind (de Δ) k s)) (q : ∀ φ1 v H1 d s1, Fu K φ φ1 H H1 → Sg K φ1 H1 σ Δ → So K φ1 H1 s1 → Dts K φ1 H1 v d → Ps K (wAt W σ) R' φ1 H1 C (k d s1) → Q v H1) : upA K W de σ H Q :=
  ⟨Δ, φ, s, hσ, hs, Ps.mono (fun φ1 v H1 d s1 z => q φ1 v H1 d s1 z.1 (hσ.fu z.1) z.2.1 z.2.2.1 z.2.2.2) (Ps.bind h)⟩
/-- the end of a run that gives d -/
theorem Ps.ok {K : PySem.W.Frag} {W : WK} {α β : Type} {R : List Addr → Hp → β → α → Prop} {φ : List Addr} {H : Hp} {C : List Addr → β → Hp → α → Sto → Prop} {a : α} {s : Sto} (h : Ps K W R φ H C (some (.ok a, s))) {b : β} (so : So K φ H s) (r : R φ H b a) : C φ b H a s :=
  h φ b H (Fu.refl _ _) so r

/-! ### names and constants -/
def dVar (i : Nat) : DX := fun Δ s => match Δ[i]? with
  | some (some d) => some (.ok d, s)
  | _ => none
def dC (d : D) : DX := fun _ => mret d
section
variable {X : Cx} {W : WX}
theorem de_var (i : Nat) {x : Str} {pos : Pos} (hN : X.N[i]? = some x := by rfl) (hv : Vis X.env.scope x := by first | exact Or.inl rfl | exact Or.inr (Or.inl rfl) | exact Or.inr (Or.inr rfl)) (hd : (x == ("__debug__" : Str)) = false := by decide)
    (hcd : (x == ("__classdict__" : Str)) = false := by decide) : DE X W (.Name x pos) (dVar i) := pe_imp (pe_var hN hv hd hcd) fun σ H Q ⟨Δ, φ, s, hσ, hs, h⟩ => by
  unfold dVar at h
  split at h
  · rename_i d e
    obtain ⟨v, h1, h2⟩ := hσ.get i d e
    exact ⟨v, h1, h.ok hs h2⟩
  · exact h.elim
theorem de_c {e : Expr} {v : V} {d : D} (h : PE X e (tC v)) (r : ∀ φ H, Dt X.K φ H v d) : DE X W e (dC d) := pe_imp h fun σ H Q ⟨Δ, φ, s, hσ, hs, h⟩ => h.ok hs (r φ H)
theorem de_int {i j pos} : DE X W (.Constant (.int i) j pos) (dC (.int i)) := de_c pe_int fun _ _ => .int i
theorem de_bl {b j pos} : DE X W (.Constant (.bool b) j pos) (dC (.bl b)) := de_c pe_bl fun _ _ => .bl b
theorem de_non {j pos} : DE X W (.Constant .none j pos) (dC .non) := de_c pe_non fun _ _ => .non
theorem de_str {x j pos} : DE X W (.Constant (.str x) j pos) (dC (.str x)) := de_c pe_str fun _ _ => .str x
/-- a module's constant -/
theorem de_globI {x : Str} {i : Int} {t : Tok} {pos : Pos} (hg : Gl X x) (hm : X.mg x = some (.int i t)) (hd : (x == ("__debug__" : Str)) = false := by decide) : DE X W (.Name x pos) (dC (.int i)) := de_c (pe_glob (v := .int i) hg hm ⟨t, rfl⟩ hd) fun _ _ => .int i
theorem de_ty {x : Str} {n : String} {pos : Pos} (hg : Gl X x) (hm : X.mg x = none) (hv : bootBuiltins x = some (.type n)) (hn : x ≠ "__name__" := by decide) (hd : (x == ("__debug__" : Str)) = false := by decide) : DE X W (.Name x pos) (dC (.ty n)) := de_c (pe_bltn (v := .ty n) hg hm hv rfl hn hd) fun _ _ => .ty n
/-- a def, a class as a value -/
theorem de_globA {x : Str} {a : Addr} {pos : Pos} (hg : Gl X x) (hm : X.mg x = some (.ref a)) (hd : (x == ("__debug__" : Str)) = false := by decide) : DE X W (.Name x pos) (dC (.adr a)) := de_c (pe_glob (v := .ref a) hg hm rfl hd) fun _ _ => .adr a

/-! ### operators -/
abbrev Op2 := D → D → Sto → Option (D × Sto)
def lift2 (f : Op2) (x y : D) : M D := fun s => match f x y s with
  | some (d, s') => some (.ok d, s')
  | none => none
def dOp (f : Op2) (da db : DX) : DX := fun Δ => mbind (da Δ) fun x => mbind (db Δ) fun y => lift2 f x y
/-- what an operation promises -/
def PsO (K : PySem.W.Frag) (φ : List Addr) (H : Hp) (Q : VK) : Option (D × Sto) → Prop
  | some (d, s') => ∀ φ' v H', Fu K φ φ' H H' → So K φ' H' s' → Dt K φ' H' v d → Q v H'
  | none => False
theorem PsO.of {K : PySem.W.Frag} {W : WK} {φ : List Addr} {H : Hp} {Q : VK} {f : Op2} {x y : D} {s : Sto} (h : Ps K W (Dt K) φ H (fun _ v H' _ _ => Q v H') (lift2 f x y s)) : PsO K φ H Q (f x y s) := by
  unfold lift2 at h
  split at h
  · rename_i e
    rw [e]
    exact h
  · exact h.elim
/-- the operation fn on values does f on data -/
def DOp (X : Cx) (fn : Value → Value → Sem Value) (f : Op2) : Prop := ∃ r : R2, OpR X fn r ∧ ∀ φ H s x y v u Q, So X.K φ H s → Dt X.K φ H v x → Dt X.K φ H u y → PsO X.K φ H Q (f x y s) → r v u H Q
def orOp (f g : Op2) : Op2 := fun x y s => match f x y s with
  | some r => some r
  | none => g x y s
theorem DOp.or {fn : Value → Value → Sem Value} {f g : Op2} (hf : DOp X fn f) (hg : DOp X fn g) : DOp X fn (orOp f g) := by
  obtain ⟨r, h, q⟩ := hf
  obtain ⟨r', h', q'⟩ := hg
  refine ⟨_, h.or h', fun φ H s x y v u Q so rx ry p => ?_⟩
  unfold orOp at p
  split at p
  · rename_i e
    exact .inl (q φ H s x y v u Q so rx ry (by rw [e]; exact p))
  · exact .inr (q' φ H s x y v u Q so rx ry p)
theorem dop_read {f : Op2} {r : R2} (hr : ∀ φ H s x y v u Q, So X.K φ H s → Dt X.K φ H v x → Dt X.K φ H u y → PsO X.K φ H Q (f x y s) → r v u H Q) {da db : DX} {σ : L2.St} {H : Hp} {Q : VK}
    (h : upE X.K W (dOp f da db) σ H Q) : tOp r (upE X.K W da) (upE X.K W db) σ H Q := by
  obtain ⟨Δ, φ, s, hσ, hs, h⟩ := h
  exact upE_bind hσ hs h fun φ1 v H1 x s1 f1 hσ1 hs1 rx h1 => upE_bind hσ1 hs1 h1 fun φ2 u H2 y s2 f2 hσ2 hs2 ry h2 => hr φ2 H2 s2 x y v u Q hs2 (rx.fu f2) ry (PsO.of h2)
theorem de_op {op : Operator} {f : Op2} {a b : Expr} {da db : DX} {pos : Pos} (ho : DOp X (binaryOp op) f) (ha : DE X W a da) (hb : DE X W b db) : DE X W (.BinOp a op b pos) (dOp f da db) := by
  obtain ⟨r, h, hr⟩ := ho
  exact pe_imp (pe_op h ha hb) fun σ H Q q => dop_read hr q
theorem de_cmp {op : CmpOp} {f : Op2} {a b : Expr} {da db : DX} {pos : Pos} (ho : DOp X (compareOp op) f) (ha : DE X W a da) (hb : DE X W b db) (hm : behindInMarks op b = false := by first | exact nomark _ | rfl) : DE X W (.Compare a [op] [b] pos) (dOp f da db) := by
  obtain ⟨r, h, hr⟩ := ho
  exact pe_imp (pe_cmpR h ha hb hm) fun σ H Q q => dop_read hr q
/-! ### tests -/
def dBl (d : D) : M Bool := match d with
  | .bl b => mret b
  | _ => mfail
def dTest (de : DX) : DT := fun Δ => mbind (de Δ) dBl
theorem bl_read {de : DX} {σ : L2.St} {H : Hp} {Q : Bool → Hp → Prop} (h : upT X.K W (dTest de) σ H Q) : upE X.K W de σ H fun x H1 => ∃ k, x = .bl k ∧ Q k H1 := by
  obtain ⟨Δ, φ, s, hσ, hs, h⟩ := h
  refine upE_bind hσ hs h fun φ1 v H1 x s1 f1 hσ1 hs1 rx h1 => ?_
  unfold dBl at h1
  split at h1
  · cases rx
    exact ⟨_, rfl, h1.ok hs1 rfl⟩
  · exact h1.elim
theorem dt_cmp {op : CmpOp} {f : Op2} {a b : Expr} {da db : DX} {pos : Pos} (ho : DOp X (compareOp op) f) (ha : DE X W a da) (hb : DE X W b db) (hm : behindInMarks op b = false := by first | exact nomark _ | rfl) : DTe X W (.Compare a [op] [b] pos) (dTest (dOp f da db)) := by
  obtain ⟨r, h, hr⟩ := ho
  refine pt_imp (pt_cmpR h ha hb hm) fun σ H Q q => ?_
  obtain ⟨Δ, φ, s, hσ, hs, q⟩ := q
  exact dop_read hr (bl_read ⟨Δ, φ, s, hσ, hs, q⟩)
theorem dt_val {e : Expr} {de : DX} (h : DE X W e de) (he : ∀ whole, isTrue e X.env whole = (do let v ← whole; standAt e.pos; holding [v] (truthy v)) := by intro _; rfl) : DTe X W e (dTest de) :=
  pt_imp (pt_val h he) fun σ H Q q => bl_read q
/-- the truth of any value -/
def truD (d : D) (s : Sto) : Option Bool := match d with
  | .non => some false
  | .bl b => some b
  | .int i => some (i != 0)
  | .str x => if x.length ≤ sizeLine then some ((x.length : Int) != 0) else none
  | .tup xs => some (!xs.isEmpty)
  | .obj n => match s[n]? with
    | some (.lst xs) => some (!xs.isEmpty)
    | _ => none
  | .adr _ => none
  | .ty _ => none
  | .fz xs => some (!xs.isEmpty)
  | .exc _ _ _ => none
def dTru (d : D) : M Bool := fun s => match truD d s with
  | some b => some (.ok b, s)
  | none => none
def dAnd (t u : DT) : DT := fun Δ => mbind (t Δ) fun c => if c = true then u Δ else mret false
def dOr (t u : DT) : DT := fun Δ => mbind (t Δ) fun c => if c = true then mret true else u Δ
def dNot (t : DT) : DT := fun Δ => mbind (t Δ) fun c => mret !c
theorem dw_and1 {a : Expr} {t : DT} {pos : Pos} (h : DTe X W a t) : DW X W (.BoolOp .And [a] pos) t := pw_and1 h
theorem dw_or1 {a : Expr} {t : DT} {pos : Pos} (h : DTe X W a t) : DW X W (.BoolOp .Or [a] pos) t := pw_or1 h
theorem dw_and {a b : Expr} {rest : List Expr} {t u : DT} {pos : Pos} (ha : DTe X W a t) (hb : DW X W (.BoolOp .And (b :: rest) pos) u) : DW X W (.BoolOp .And (a :: b :: rest) pos) (dAnd t u) :=
  pw_imp (pw_and ha hb) fun σ H Q ⟨Δ, φ, s, hσ, hs, h⟩ => upT_bind hσ hs h fun φ1 H1 c s1 f1 hσ1 hs1 h1 => by
    cases c with
    | true => exact iteT ⟨Δ, φ1, s1, hσ1, hs1, h1⟩
    | false => exact iteF (h1.ok hs1 rfl)
theorem dw_or {a b : Expr} {rest : List Expr} {t u : DT} {pos : Pos} (ha : DTe X W a t) (hb : DW X W (.BoolOp .Or (b :: rest) pos) u) : DW X W (.BoolOp .Or (a :: b :: rest) pos) (dOr t u) :=
  pw_imp (pw_or ha hb) fun σ H Q ⟨Δ, φ, s, hσ, hs, h⟩ => upT_bind hσ hs h fun φ1 H1 c s1 f1 hσ1 hs1 h1 => by
    cases c with
    | true => exact iteT (h1.ok hs1 rfl)
    | false => exact iteF ⟨Δ, φ1, s1, hσ1, hs1, h1⟩
theorem DW.pt {e : Expr} {t : DT} (h : DW X W e t) : DTe X W e t := PW.pt h
theorem dt_not {a : Expr} {t : DT} {pos : Pos} (h : DTe X W a t) : DTe X W (.UnaryOp .Not a pos) (dNot t) :=
  pt_imp (pt_not h) fun σ H Q ⟨Δ, φ, s, hσ, hs, h⟩ => upT_bind hσ hs h fun φ1 H1 c s1 f1 hσ1 hs1 h1 => h1.ok hs1 rfl
def dTruth (de : DX) : DT := fun Δ => mbind (de Δ) dTru
theorem tru_of {φ : List Addr} {H : Hp} {s : Sto} {v : V} {x : D} {b : Bool} (hs : So X.K φ H s) (rx : Dt X.K φ H v x) (e : truD x s = some b) : TruV X.K v H b := by
  cases rx with
  | non => cases e; rfl
  | bl b => cases e; rfl
  | int i => cases e; rfl
  | str x =>
    simp only [truD] at e
    split at e
    · cases e; rename_i z; exact ⟨z, rfl⟩
    · cases e
  | tup h r =>
    cases e
    refine .inr (.inl ⟨_, h, ?_⟩)
    cases r <;> rfl
  | obj hn =>
    simp only [truD] at e
    split at e
    · rename_i xs es
      cases e
      obtain ⟨vs, k, r⟩ := hs.lst es hn
      refine .inl ⟨_, SqL.of k, ?_⟩
      cases r <;> rfl
    · cases e
  | adr a => cases e
  | ty n => cases e
  | exc _ _ => cases e
  | fz h r =>
    cases e
    refine .inl ⟨_, h.sq, ?_⟩
    cases r <;> rfl
theorem dt_truth {e : Expr} {de : DX} (ha : DE X W e de) (he : ∀ whole, isTrue e X.env whole = (do let v ← whole; standAt e.pos; holding [v] (truthy v)) := by intro _; rfl) : DTe X W e (dTruth de) := by
  refine pt_imp (pt_truth ha he) fun σ H Q ⟨Δ, φ, s, hσ, hs, h⟩ => ?_
  refine upE_bind hσ hs h fun φ1 v H1 x s1 f1 hσ1 hs1 rx h1 => ?_
  unfold dTru at h1
  cases e : truD x s1 with
  | none => rw [e] at h1; exact h1.elim
  | some b =>
    rw [e] at h1
    exact ⟨b, tru_of hs1 rx e, h1.ok hs1 rfl⟩
/-- x or y, x and y, not x by truth -/
def dOrT (da db : DX) : DX := fun Δ => mbind (da Δ) fun x => mbind (dTru x) fun b => if b = true then mret x else db Δ
def dAndT (da db : DX) : DX := fun Δ => mbind (da Δ) fun x => mbind (dTru x) fun b => if b = true then db Δ else mret x
def dNotT (da : DX) : DX := fun Δ => mbind (da Δ) fun x => mbind (dTru x) fun b => mret (.bl !b)
theorem tru_bind {φ : List Addr} {H : Hp} {s : Sto} {v : V} {x : D} {σ : L2.St} {γ δ : Type} {R' : List Addr → Hp → δ → γ → Prop} {C : List Addr → δ → Hp → γ → Sto → Prop} {k : Bool → M γ} (hs : So X.K φ H s) (rx : Dt X.K φ H v x)
    (h : Ps X.K (wAt W σ) R' φ H C (mbind (dTru x) k s)) : ∃ b, TruV X.K v H b ∧ Ps X.K (wAt W σ) R' φ H C (k b s) := by
  unfold mbind dTru at h
  cases e : truD x s with
  | none => rw [e] at h; exact h.elim
  | some b => rw [e] at h; exact ⟨b, tru_of hs rx e, h⟩
theorem de_orT {a b : Expr} {rest : List Expr} {pos : Pos} {da db : DX} (ha : DE X W a da) (hb : DE X W (.BoolOp .Or (b :: rest) pos) db) : DE X W (.BoolOp .Or (a :: b :: rest) pos) (dOrT da db) :=
  pe_imp (pe_orT ha hb) fun σ H Q ⟨Δ, φ, s, hσ, hs, h⟩ => upE_bind hσ hs h fun φ1 v H1 x s1 f1 hσ1 hs1 rx h1 => by
    obtain ⟨k, t, h2⟩ := tru_bind hs1 rx h1
    refine ⟨k, t, ?_⟩
    cases k with
    | true => exact iteT (h2.ok hs1 rx)
    | false => exact iteF ⟨Δ, φ1, s1, hσ1, hs1, h2⟩
theorem de_andT {a b : Expr} {rest : List Expr} {pos : Pos} {da db : DX} (ha : DE X W a da) (hb : DE X W (.BoolOp .And (b :: rest) pos) db) : DE X W (.BoolOp .And (a :: b :: rest) pos) (dAndT da db) :=
  pe_imp (pe_andT ha hb) fun σ H Q ⟨Δ, φ, s, hσ, hs, h⟩ => upE_bind hσ hs h fun φ1 v H1 x s1 f1 hσ1 hs1 rx h1 => by
    obtain ⟨k, t, h2⟩ := tru_bind hs1 rx h1
    refine ⟨k, t, ?_⟩
    cases k with
    | true => exact iteT ⟨Δ, φ1, s1, hσ1, hs1, h2⟩
    | false => exact iteF (h2.ok hs1 rx)
theorem de_notT {a : Expr} {pos : Pos} {da : DX} (ha : DE X W a da) : DE X W (.UnaryOp .Not a pos) (dNotT da) :=
  pe_imp (pe_notT ha) fun σ H Q ⟨Δ, φ, s, hσ, hs, h⟩ => upE_bind hσ hs h fun φ1 v H1 x s1 f1 hσ1 hs1 rx h1 => by
    obtain ⟨k, t, h2⟩ := tru_bind hs1 rx h1
    exact ⟨k, t, h2.ok hs1 (.bl _)⟩
theorem de_one {op : BoolOp} {a : Expr} {da : DX} {pos : Pos} (h : DE X W a da) : DE X W (.BoolOp op [a] pos) da := pe_one h
def dIf (t : DT) (da db : DX) : DX := fun Δ => mbind (t Δ) fun c => if c = true then da Δ else db Δ
theorem de_if {c a b : Expr} {t : DT} {da db : DX} {pos : Pos} (hc : DTe X W c t) (ha : DE X W a da) (hb : DE X W b db) : DE X W (.IfExp c a b pos) (dIf t da db) :=
  pe_imp (pe_ifExp hc ha hb) fun σ H Q ⟨Δ, φ, s, hσ, hs, h⟩ => upT_bind hσ hs h fun φ1 H1 k s1 f1 hσ1 hs1 h1 => by
    cases k with
    | true => exact iteT ⟨Δ, φ1, s1, hσ1, hs1, h1⟩
    | false => exact iteF ⟨Δ, φ1, s1, hσ1, hs1, h1⟩
/-! ### arguments, displays -/
def dNil : DA := fun _ => mret []
def dCons (da : DX) (dr : DA) : DA := fun Δ => mbind (da Δ) fun x => mbind (dr Δ) fun r => mret (x :: r)
theorem da_nil : DAs X W [] dNil := pa_imp pa_nil fun σ H Q ⟨Δ, φ, s, hσ, hs, h⟩ => h.ok hs .nil
theorem da_cons {e : Expr} {es : List Expr} {da : DX} {dr : DA} (ha : DE X W e da) (hr : DAs X W es dr) (hs : starEach (e :: es) X.env = (false, eval e X.env) :: starEach es X.env := by rfl) : DAs X W (e :: es) (dCons da dr) :=
  pa_imp (pa_cons ha hr hs) fun σ H Q ⟨Δ, φ, s, hσ, hs, h⟩ => upE_bind hσ hs h fun φ1 v H1 x s1 f1 hσ1 hs1 rx h1 => upA_bind hσ1 hs1 h1 fun φ2 vs H2 xs s2 f2 hσ2 hs2 rs h2 => h2.ok hs2 (.cons (rx.fu f2) rs)
def dTup (da : DA) : DX := fun Δ => mbind (da Δ) fun xs => if xs.length ≤ sizeLine then mret (.tup xs) else mfail
/-- a new object of the store -/
def mnew (o : DO) : M D := fun s => some (.ok (.obj s.length), s ++ [o])
def dLst (da : DA) : DX := fun Δ => mbind (da Δ) fun xs => if xs.length ≤ sizeLine then mnew (.lst xs) else mfail
theorem Dts.newO {K : PySem.W.Frag} {φ : List Addr} {H : Hp} {s : Sto} {p : Addr} {vs : List V} {xs : List D} (hs : So K φ H s) (hp : H p = none) (r : Dts K φ H vs xs) : So K (φ ++ [p]) (upd H p (.lst vs)) (s ++ [.lst xs]) :=
  hs.newO hp ⟨vs, upd_same, r.fu (fu_newO hp)⟩
theorem obj_new {K : PySem.W.Frag} {φ : List Addr} {H : Hp} {s : Sto} {p : Addr} (hs : So K φ H s) {H' : Hp} : Dt K (φ ++ [p]) H' (.ref p) (.obj s.length) := .obj (by rw [hs.len, List.getElem?_append_right (Nat.le_refl _)]; simp)
theorem Ps.new {K : PySem.W.Frag} {W : WK} {φ : List Addr} {H : Hp} {s : Sto} {p : Addr} {vs : List V} {xs : List D} {Q : VK} (h : Ps K W (Dt K) φ H (fun _ v H' _ _ => Q v H') (mnew (.lst xs) s)) (hs : So K φ H s) (hp : H p = none) (r : Dts K φ H vs xs) : Q (.ref p) (upd H p (.lst vs)) :=
  h _ _ _ (fu_newO hp) (Dts.newO hs hp r) (obj_new hs)
theorem de_tup {es : List Expr} {da : DA} {x1} {pos : Pos} (h : DAs X W es da) : DE X W (.Tuple es x1 pos) (dTup da) :=
  pe_imp (pe_tup h) fun σ H Q ⟨Δ, φ, s, hσ, hs, h⟩ => upA_bind hσ hs h fun φ1 vs H1 xs s1 f1 hσ1 hs1 rx h1 => by
    split at h1
    · rename_i z
      refine ⟨by rw [rx.length]; exact z, fun p hp => ?_⟩
      exact h1 φ1 _ _ (fu_new hp) (hs1.new hp) (.tup (SqT.of upd_same) (rx.fu (fu_new hp)))
    · exact h1.elim
theorem de_lst {es : List Expr} {da : DA} {pos : Pos} (h : DAs X W es da) : DE X W (.List es pos) (dLst da) :=
  pe_imp (pe_lst h) fun σ H Q ⟨Δ, φ, s, hσ, hs, h⟩ => upA_bind hσ hs h fun φ1 vs H1 xs s1 f1 hσ1 hs1 rx h1 => by
    split at h1
    · rename_i z
      exact ⟨by rw [rx.length]; exact z, fun p hp => h1.new hs1 hp rx⟩
    · exact h1.elim
end
end DV

namespace DV
open PySem L2 PyProof.Rows
theorem PsO.ok {K : PySem.W.Frag} {φ : List Addr} {H : Hp} {Q : VK} {d : D} {s : Sto} {v : V} (h : PsO K φ H Q (some (d, s))) (so : So K φ H s) (r : Dt K φ H v d) : Q v H := h φ v H (Fu.refl _ _) so r
theorem PsO.newL {K : PySem.W.Frag} {φ : List Addr} {H : Hp} {Q : VK} {xs : List D} {s : Sto} {vs : List V} {p : Addr} (h : PsO K φ H Q (some (.obj s.length, s ++ [.lst xs]))) (so : So K φ H s) (hp : H p = none) (r : Dts K φ H vs xs) : Q (.ref p) (upd H p (.lst vs)) :=
  h _ _ _ (fu_newO hp) (Dts.newO so hp r) (obj_new so)
theorem PsO.newT {K : PySem.W.Frag} {φ : List Addr} {H : Hp} {Q : VK} {xs : List D} {s : Sto} {vs : List V} {p : Addr} (h : PsO K φ H Q (some (.tup xs, s))) (so : So K φ H s) (hp : H p = none) (r : Dts K φ H vs xs) : Q (.ref p) (upd H p (.tup vs)) :=
  h φ _ _ (fu_new hp) (so.new hp) (.tup (SqT.of upd_same) (r.fu (fu_new hp)))
section
variable {X : Cx}
/-! ### ints -/
def fI (c : Int → Int → Bool) (g : Int → Int → D) : Op2 := fun x y s => match x, y with
  | .int i, .int j => if c i j = true then some (g i j, s) else none
  | _, _ => none
theorem dop_I {fn : Value → Value → Sem Value} {C : Int → Int → Prop} {gV : Int → Int → V} {c : Int → Int → Bool} {g : Int → Int → D} (ho : OpR X fn (rI C gV)) (hc : ∀ i j, c i j = true → C i j) (hg : ∀ i j φ H, Dt X.K φ H (gV i j) (g i j)) : DOp X fn (fI c g) :=
  ⟨_, ho, fun φ H s x y v u Q so rx ry p => by
    cases rx <;> cases ry <;> first | exact p.elim | skip
    rename_i i j
    simp only [fI] at p
    split at p
    · rename_i z
      exact ⟨i, j, rfl, rfl, hc i j z, p.ok so (hg i j φ H)⟩
    · exact p.elim⟩
theorem dop_I0 {fn : Value → Value → Sem Value} {gV : Int → Int → V} {g : Int → Int → D} (ho : OpR X fn (rI0 gV)) (hg : ∀ i j φ H, Dt X.K φ H (gV i j) (g i j)) : DOp X fn (fI (fun _ _ => true) g) :=
  ⟨_, ho, fun φ H s x y v u Q so rx ry p => by
    cases rx <;> cases ry <;> first | exact p.elim | skip
    rename_i i j
    exact ⟨i, j, rfl, rfl, p.ok so (hg i j φ H)⟩⟩
abbrev tt2 : Int → Int → Bool := fun _ _ => true
def fAddI : Op2 := fI tt2 fun i j => .int (i + j)
def fSub : Op2 := fI tt2 fun i j => .int (i - j)
def mulOk (i j : Int) : Bool := decide (i.natAbs < 2 ^ 64) || decide (j.natAbs < 2 ^ 64) || decide (i.natAbs.log2 + j.natAbs.log2 < 1000000)
def fMulI : Op2 := fI mulOk fun i j => .int (i * j)
def divOk (_ j : Int) : Bool := decide (j ≠ 0) && decide (j.natAbs < 1073741824)
def fDiv : Op2 := fI divOk fun i j => .int (i.fdiv j)
def modOk (_ j : Int) : Bool := decide (j ≠ 0)
def fMod : Op2 := fI modOk fun i j => .int (i.fmod j)
def powOk (i j : Int) : Bool := decide (0 ≤ j) && decide (Builtin.Int.intBits i * j.toNat ≤ 2 ^ 27)
def fPow : Op2 := fI powOk fun i j => .int (i ^ j.toNat)
def shlOk (i j : Int) : Bool := decide (0 ≤ j) && decide (Builtin.Int.intBits i + j.toNat ≤ 2 ^ 27)
def fShl : Op2 := fI shlOk fun i j => .int (i * 2 ^ j.toNat)
def shrOk (_ j : Int) : Bool := decide (0 ≤ j)
def fShr : Op2 := fI shrOk fun i j => .int (i / 2 ^ j.toNat)
def fAnd : Op2 := fI tt2 fun i j => .int (Builtin.bitAnd i j)
def fXor : Op2 := fI tt2 fun i j => .int (Builtin.bitXor i j)
theorem dop_addI : DOp X (binaryOp .Add) fAddI := dop_I0 op_add fun _ _ _ _ => .int _
theorem dop_sub : DOp X (binaryOp .Sub) fSub := dop_I0 op_sub fun _ _ _ _ => .int _
theorem dop_and : DOp X (binaryOp .BitAnd) fAnd := dop_I0 op_and fun _ _ _ _ => .int _
theorem dop_xor : DOp X (binaryOp .BitXor) fXor := dop_I0 op_xor fun _ _ _ _ => .int _
theorem op_mulG : OpR X (binaryOp .Mult) (rI (fun i j => mulOk i j = true) fun i j => .int (i * j)) := opI fun i j _ _ _ _ _ hc q => mul_int q (by
  unfold mulOk at hc
  simp only [Bool.or_eq_true, decide_eq_true_eq] at hc
  rcases hc with (h | h) | h
  · exact CMul.ok (.inl ⟨by omega, by omega⟩)
  · exact CMul.ok (.inr ⟨by omega, by omega⟩)
  · exact CMulW.ok h)
theorem dop_mulI : DOp X (binaryOp .Mult) fMulI := dop_I op_mulG (fun _ _ h => h) fun _ _ _ _ => .int _
theorem dop_div : DOp X (binaryOp .FloorDiv) fDiv := dop_I op_fdivN (fun i j h => by
  unfold divOk at h
  simp only [Bool.and_eq_true, decide_eq_true_eq] at h
  exact h) fun _ _ _ _ => .int _
theorem dop_mod : DOp X (binaryOp .Mod) fMod := dop_I op_modN (fun i j h => of_decide_eq_true h) fun _ _ _ _ => .int _
theorem op_powG : OpR X (binaryOp .Pow) (rI (fun i j => powOk i j = true) fun i j => .int (i ^ j.toNat)) := opI fun i j _ _ _ _ _ hc q => by
  unfold powOk at hc
  simp only [Bool.and_eq_true, decide_eq_true_eq] at hc
  obtain ⟨h0, h1⟩ := hc
  refine pow_int h0 ?_ q
  have h2 : ((Builtin.Int.intBits i * j.toNat : Nat) : Int) ≤ ((2 ^ 27 : Nat) : Int) := Int.ofNat_le.mpr h1
  rw [Int.natCast_mul, Int.toNat_of_nonneg h0] at h2
  exact h2
theorem dop_pow : DOp X (binaryOp .Pow) fPow := dop_I op_powG (fun _ _ h => h) fun _ _ _ _ => .int _
theorem op_shlG : OpR X (binaryOp .LShift) (rI (fun i j => shlOk i j = true) fun i j => .int (i * 2 ^ j.toNat)) := opI fun i j _ _ _ _ _ hc q => by
  unfold shlOk at hc
  simp only [Bool.and_eq_true, decide_eq_true_eq] at hc
  obtain ⟨h0, h1⟩ := hc
  refine lshift_int h0 ?_ q
  have h2 : ((Builtin.Int.intBits i + j.toNat : Nat) : Int) ≤ ((2 ^ 27 : Nat) : Int) := Int.ofNat_le.mpr h1
  rw [Int.natCast_add, Int.toNat_of_nonneg h0] at h2
  exact h2
theorem dop_shl : DOp X (binaryOp .LShift) fShl := dop_I op_shlG (fun _ _ h => h) fun _ _ _ _ => .int _
theorem dop_shr : DOp X (binaryOp .RShift) fShr := dop_I op_shr (fun _ _ h => of_decide_eq_true h) fun _ _ _ _ => .int _
def fLt : Op2 := fI tt2 fun i j => .bl (decide (i < j))
def fLe : Op2 := fI tt2 fun i j => .bl (decide (i ≤ j))
def fGt : Op2 := fI tt2 fun i j => .bl (decide (j < i))
def fGe : Op2 := fI tt2 fun i j => .bl (decide (j ≤ i))
theorem dop_lt : DOp X (compareOp .Lt) fLt := dop_I0 op_lt fun _ _ _ _ => .bl _
theorem dop_le : DOp X (compareOp .LtE) fLe := dop_I0 op_le fun _ _ _ _ => .bl _
theorem dop_gt : DOp X (compareOp .Gt) fGt := dop_I0 op_gt fun _ _ _ _ => .bl _
theorem dop_ge : DOp X (compareOp .GtE) fGe := dop_I0 op_ge fun _ _ _ _ => .bl _
/-! ### texts, lists, tuples -/
def fAddS : Op2 := fun x y s => match x, y with
  | .str i, .str j => if i.length + j.length ≤ sizeLine then some (.str (i ++ j), s) else none
  | _, _ => none
theorem dop_addS : DOp X (binaryOp .Add) fAddS := ⟨_, op_add_str, fun φ H s x y v u Q so rx ry p => by
  cases rx <;> cases ry <;> first | exact p.elim | skip
  rename_i i j
  simp only [fAddS] at p
  split at p
  · rename_i z
    exact ⟨i, j, rfl, rfl, z, p.ok so (.str _)⟩
  · exact p.elim⟩
def lstAt (s : Sto) (n : Nat) : Option (List D) := match s[n]? with
  | some (.lst xs) => some xs
  | _ => none
theorem lstAt_eq {s : Sto} {n : Nat} {xs : List D} (h : lstAt s n = some xs) : s[n]? = some (.lst xs) := by
  unfold lstAt at h
  split at h
  · cases h; assumption
  · cases h
def fAddL : Op2 := fun x y s => match x, y with
  | .obj m, .obj n => match lstAt s m, lstAt s n with
    | some xs, some ys => if xs.length + ys.length ≤ sizeLine then some (.obj s.length, s ++ [.lst (xs ++ ys)]) else none
    | _, _ => none
  | _, _ => none
theorem dop_addL : DOp X (binaryOp .Add) fAddL := ⟨_, op_cat, fun φ H s x y v u Q so rx ry p => by
  cases rx <;> cases ry <;> first | exact p.elim | skip
  rename_i a m ha b n hb
  simp only [fAddL] at p
  split at p
  · rename_i xs ys e1 e2
    split at p
    · rename_i z
      obtain ⟨vs, h1, r1⟩ := so.lst (lstAt_eq e1) ha
      obtain ⟨ws, h2, r2⟩ := so.lst (lstAt_eq e2) hb
      exact ⟨a, b, vs, ws, rfl, rfl, h1, h2, by rw [r1.length, r2.length]; exact z, fun q hq => p.newL so hq (r1.append r2)⟩
    · exact p.elim
  · exact p.elim⟩
def fAddT : Op2 := fun x y s => match x, y with
  | .tup xs, .tup ys => if xs.isEmpty = false ∧ ys.isEmpty = false ∧ xs.length + ys.length ≤ sizeLine then some (.tup (xs ++ ys), s) else none
  | _, _ => none
theorem Dts.ne_nil {K : PySem.W.Frag} {φ : List Addr} {H : Hp} {vs : List V} {ds : List D} (r : Dts K φ H vs ds) (h : ds.isEmpty = false) : vs ≠ [] := fun e => by
  subst e
  cases r
  cases h
theorem dop_addT : DOp X (binaryOp .Add) fAddT := ⟨_, op_catT, fun φ H s x y v u Q so rx ry p => by
  cases rx <;> cases ry <;> first | exact p.elim | skip
  rename_i a vs ds h1 r1 b ws es h2 r2
  simp only [fAddT] at p
  split at p
  · rename_i z
    refine ⟨_, _, _, _, rfl, rfl, h1, h2, r1.ne_nil z.1, by rw [r1.length, r2.length]; exact z.2.2, fun e => absurd e (r2.ne_nil z.2.1), fun _ q hq => p.newT so hq (r1.append r2)⟩
  · exact p.elim⟩
def fAdd : Op2 := orOp fAddI (orOp fAddS (orOp fAddL fAddT))
theorem dop_add : DOp X (binaryOp .Add) fAdd := dop_addI.or (dop_addS.or (dop_addL.or dop_addT))
def repOk (n : Nat) (k : Int) : Bool := decide (-(2 ^ 63) ≤ k) && decide (k < 2 ^ 63) && decide (n * k.toNat ≤ sizeLine)
def fRepL : Op2 := fun x y s => match x, y with
  | .obj m, .int k => match lstAt s m with
    | some xs => if repOk xs.length k = true then some (.obj s.length, s ++ [.lst (List.replicate k.toNat xs).flatten]) else none
    | none => none
  | _, _ => none
theorem Dts.flat {K : PySem.W.Frag} {φ : List Addr} {H : Hp} {vs : List V} {ds : List D} (r : Dts K φ H vs ds) : ∀ n : Nat, Dts K φ H (List.replicate n vs).flatten (List.replicate n ds).flatten
  | 0 => .nil
  | n + 1 => by
    rw [List.replicate_succ, List.replicate_succ, List.flatten_cons, List.flatten_cons]
    exact r.append (Dts.flat r n)
theorem dop_repL : DOp X (binaryOp .Mult) fRepL := ⟨_, op_rep, fun φ H s x y v u Q so rx ry p => by
  cases rx <;> cases ry <;> first | exact p.elim | skip
  rename_i a m ha k
  simp only [fRepL] at p
  split at p
  · rename_i xs e1
    split at p
    · rename_i z
      unfold repOk at z
      simp only [Bool.and_eq_true, decide_eq_true_eq] at z
      obtain ⟨vs, h1, r1⟩ := so.lst (lstAt_eq e1) ha
      exact ⟨a, k, vs, rfl, rfl, h1, z.1.1, z.1.2, by rw [r1.length]; exact z.2, fun q hq => p.newL so hq (r1.flat _)⟩
    · exact p.elim
  · exact p.elim⟩
def fMul : Op2 := orOp fMulI fRepL
theorem dop_mul : DOp X (binaryOp .Mult) fMul := dop_mulI.or dop_repL

/-! ### plain data -/
def omap {α β : Type} (f : α → Option β) : List α → Option (List β)
  | [] => some []
  | a :: r => match f a, omap f r with
    | some b, some bs => some (b :: bs)
    | _, _ => none
def toPy (s : Sto) : Nat → D → Option PyData
  | 0, _ => none
  | _ + 1, .non => some .none
  | _ + 1, .bl b => some (.bool b)
  | _ + 1, .int i => some (.int i)
  | _ + 1, .str x => some (.str x)
  | n + 1, .tup xs => (omap (toPy s n) xs).map .tuple
  | n + 1, .obj k => match lstAt s k with
    | some xs => (omap (toPy s n) xs).map .list
    | none => none
  | _ + 1, .adr _ => none
  | _ + 1, .ty _ => none
  | n + 1, .fz xs => (omap (toPy s n) xs).map .list
  | _ + 1, .exc _ _ _ => none
theorem omap_dp {K : PySem.W.Frag} {φ : List Addr} {H : Hp} {f : D → Option PyData} (hf : ∀ v d p, Dt K φ H v d → f d = some p → Dp K H v p) : ∀ {vs : List V} {ds : List D} {ps : List PyData}, Dts K φ H vs ds → omap f ds = some ps → DpAll K H vs ps
  | _, _, _, .nil, e => by cases e; exact .nil
  | _, _, _, .cons h r, e => by
    simp only [omap] at e
    split at e
    · rename_i b bs e1 e2
      cases e
      exact .cons (hf _ _ _ h e1) (omap_dp hf r e2)
    · cases e
theorem toPy_dp {K : PySem.W.Frag} {φ : List Addr} {H : Hp} {s : Sto} (so : So K φ H s) : ∀ (n : Nat) (v : V) (d : D) (p : PyData), Dt K φ H v d → toPy s n d = some p → Dp K H v p
  | 0, _, _, _, _, e => by cases e
  | n + 1, _, _, _, .non, e => by cases e; exact .non
  | n + 1, _, _, _, .bl b, e => by cases e; exact .bl b
  | n + 1, _, _, _, .int i, e => by cases e; exact .int i
  | n + 1, _, _, _, .str x, e => by cases e; exact .str x
  | n + 1, _, _, _, .tup h r, e => by
    simp only [toPy, Option.map_eq_some_iff] at e
    obtain ⟨ps, e, rfl⟩ := e
    exact .tup h (omap_dp (fun v d p => toPy_dp so n v d p) r e)
  | n + 1, _, _, _, .obj ha, e => by
    simp only [toPy] at e
    split at e
    · rename_i xs ex
      simp only [Option.map_eq_some_iff] at e
      obtain ⟨ps, e, rfl⟩ := e
      obtain ⟨vs, h1, r1⟩ := so.lst (lstAt_eq ex) ha
      exact .lst (SqL.of h1) (omap_dp (fun v d p => toPy_dp so n v d p) r1 e)
    · cases e
  | n + 1, _, _, _, .adr _, e => by cases e
  | n + 1, _, _, _, .ty _, e => by cases e
  | n + 1, _, _, _, .fz h r, e => by
    simp only [toPy, Option.map_eq_some_iff] at e
    obtain ⟨ps, e, rfl⟩ := e
    exact .lst h.sq (omap_dp (fun v d p => toPy_dp so n v d p) r e)
  | n + 1, _, _, _, .exc _ _, e => by cases e
/-- two data as plain ones -/
def py2 (s : Sto) (x y : D) : Option (PyData × PyData) := match toPy s 64 x, toPy s 64 y with
  | some p, some q => if (SeqAt.shaped p && SeqAt.shaped q) = true then some (p, q) else none
  | _, _ => none
theorem py2_dp {K : PySem.W.Frag} {φ : List Addr} {H : Hp} {s : Sto} (so : So K φ H s) {x y : D} {v u : V} {p q : PyData} (rx : Dt K φ H v x) (ry : Dt K φ H u y) (e : py2 s x y = some (p, q)) :
    Dp K H v p ∧ Dp K H u q ∧ SeqAt.shaped p = true ∧ SeqAt.shaped q = true := by
  unfold py2 at e
  split at e
  · rename_i a b e1 e2
    split at e
    · rename_i z
      cases e
      rw [Bool.and_eq_true] at z
      exact ⟨toPy_dp so _ _ _ _ rx e1, toPy_dp so _ _ _ _ ry e2, z.1, z.2⟩
    · cases e
  · cases e
def fEq : Op2 := fun x y s => match py2 s x y with
  | some (p, q) => some (.bl (PyData.eqv p q), s)
  | none => none
def fNe : Op2 := fun x y s => match py2 s x y with
  | some (p, q) => some (.bl (!PyData.eqv p q), s)
  | none => none
theorem dop_eq (hu : X.A.units + 64 < cLine) : DOp X (compareOp .Eq) fEq := ⟨_, op_eqD hu, fun φ H s x y v u Q so rx ry p => by
  simp only [fEq] at p
  split at p
  · rename_i a b e
    obtain ⟨h1, h2, h3, h4⟩ := py2_dp so rx ry e
    exact ⟨a, b, h1, h2, h3, h4, p.ok so (.bl _)⟩
  · exact p.elim⟩
theorem dop_ne (hu : X.A.units + 64 < cLine) : DOp X (compareOp .NotEq) fNe := ⟨_, op_neD hu, fun φ H s x y v u Q so rx ry p => by
  simp only [fNe] at p
  split at p
  · rename_i a b e
    obtain ⟨h1, h2, h3, h4⟩ := py2_dp so rx ry e
    exact ⟨a, b, h1, h2, h3, h4, p.ok so (.bl _)⟩
  · exact p.elim⟩
/-- x in a list or a tuple of plain data -/
def pyItems : PyData → Option (List PyData)
  | .list xs => some xs
  | .tuple xs => some xs
  | _ => none
def rInP (K : PySem.W.Frag) (neg : Bool) : R2 := fun x y H Q => ∃ d e ds, Dp K H x d ∧ Dp K H y e ∧ pyItems e = some ds ∧ SeqAt.shaped d = true ∧ SeqAt.shaped e = true ∧ Q (.bl (if neg then !(ds.any fun z => PyData.eqv z d) else ds.any fun z => PyData.eqv z d)) H
theorem in_room {A : Around} {d : PyData} (sd : SeqAt.shaped d = true) (n : Nat) (hu : A.units + 66 < cLine) : A.units + 1 + min n d.depth < cLine := by
  have h := SeqAt.depth_of_shaped sd
  have := Nat.min_le_right n d.depth
  omega
theorem op_inP (hu : X.A.units + 66 < cLine) : OpR X (compareOp .In) (rInP X.K false) := by
  intro pins s σ H x y v u Q I rx ry h
  obtain ⟨d, e, ds, hd, he, hi, sd, se, q⟩ := h
  obtain ⟨as, r1⟩ := Dp.reads I d x v hd rx
  obtain ⟨bs, r2⟩ := Dp.reads I e y u he ry
  cases e <;> first | cases hi | skip
  · exact SeqAt.in_list_reads r2 r1 (SeqAt.canLay_of_shaped se) (SeqAt.canLay_of_shaped sd) (in_room sd _ hu) ⟨.bl _, H, I, rfl, q⟩
  · exact SeqAt.in_tuple_reads r2 r1 (SeqAt.canLay_of_shaped se) (SeqAt.canLay_of_shaped sd) (in_room sd _ hu) ⟨.bl _, H, I, rfl, q⟩
theorem op_notInP (hu : X.A.units + 66 < cLine) : OpR X (compareOp .NotIn) (rInP X.K true) := by
  intro pins s σ H x y v u Q I rx ry h
  obtain ⟨d, e, ds, hd, he, hi, sd, se, q⟩ := h
  obtain ⟨as, r1⟩ := Dp.reads I d x v hd rx
  obtain ⟨bs, r2⟩ := Dp.reads I e y u he ry
  cases e <;> first | cases hi | skip
  · exact SeqAt.notIn_list_reads r2 r1 (SeqAt.canLay_of_shaped se) (SeqAt.canLay_of_shaped sd) (in_room sd _ hu) ⟨.bl _, H, I, rfl, q⟩
  · exact SeqAt.notIn_tuple_reads r2 r1 (SeqAt.canLay_of_shaped se) (SeqAt.canLay_of_shaped sd) (in_room sd _ hu) ⟨.bl _, H, I, rfl, q⟩
def fInP (neg : Bool) : Op2 := fun x y s => match py2 s x y with
  | some (p, q) => match pyItems q with
    | some ds => some (.bl (if neg then !(ds.any fun z => PyData.eqv z p) else ds.any fun z => PyData.eqv z p), s)
    | none => none
  | none => none
theorem dop_inP0 {fn : Value → Value → Sem Value} {neg : Bool} (ho : OpR X fn (rInP X.K neg)) : DOp X fn (fInP neg) := ⟨_, ho, fun φ H s x y v u Q so rx ry p => by
  simp only [fInP] at p
  split at p
  · rename_i a b e
    obtain ⟨h1, h2, h3, h4⟩ := py2_dp so rx ry e
    split at p
    · rename_i ds e2
      exact ⟨a, b, ds, h1, h2, e2, h3, h4, p.ok so (.bl _)⟩
    · exact p.elim
  · exact p.elim⟩
/-- a sign in a text -/
def fInS (neg : Bool) : Op2 := fun x y s => match x, y with
  | .str c, .str z => if c.cps.size = 1 then some (.bl (if neg then !(decide (c.cps.getD 0 0 ∈ z.cps.toList)) else decide (c.cps.getD 0 0 ∈ z.cps.toList)), s) else none
  | _, _ => none
theorem str_one {c : Str} (h : c.cps.size = 1) : c = ⟨#[c.cps.getD 0 0]⟩ := by
  obtain ⟨⟨l⟩⟩ := c
  match l, h with
  | [a], _ => rfl
theorem dop_inS : DOp X (compareOp .In) (fInS false) := ⟨_, op_in_sign, fun φ H s x y v u Q so rx ry p => by
  cases rx <;> cases ry <;> first | exact p.elim | skip
  rename_i c z
  simp only [fInS] at p
  split at p
  · rename_i e
    refine ⟨c.cps.getD 0 0, z, by rw [← str_one e], rfl, p.ok so (.bl _)⟩
  · exact p.elim⟩
theorem dop_notInS : DOp X (compareOp .NotIn) (fInS true) := ⟨_, op_notIn_sign, fun φ H s x y v u Q so rx ry p => by
  cases rx <;> cases ry <;> first | exact p.elim | skip
  rename_i c z
  simp only [fInS] at p
  split at p
  · rename_i e
    refine ⟨c.cps.getD 0 0, z, by rw [← str_one e], rfl, p.ok so (.bl _)⟩
  · exact p.elim⟩
def fIn : Op2 := orOp (fInS false) (fInP false)
def fNotIn : Op2 := orOp (fInS true) (fInP true)
theorem dop_in (hu : X.A.units + 66 < cLine) : DOp X (compareOp .In) fIn := dop_inS.or (dop_inP0 (op_inP hu))
theorem dop_notIn (hu : X.A.units + 66 < cLine) : DOp X (compareOp .NotIn) fNotIn := dop_notInS.or (dop_inP0 (op_notInP hu))
/-- is None -/
def isNon : D → Bool
  | .non => true
  | _ => false
def fIsN : Op2 := fun x y s => match y with
  | .non => some (.bl (isNon x), s)
  | _ => none
def fNotN : Op2 := fun x y s => match y with
  | .non => some (.bl (!isNon x), s)
  | _ => none
theorem isNon_eq {K : PySem.W.Frag} {φ : List Addr} {H : Hp} {v : V} {x : D} (r : Dt K φ H v x) : decide (v = V.non) = isNon x := by
  cases r <;> rfl
theorem dop_isN : DOp X (compareOp .Is) fIsN := ⟨_, op_isN, fun φ H s x y v u Q so rx ry p => by
  cases ry <;> first | exact p.elim | skip
  refine ⟨rfl, ?_⟩
  rw [isNon_eq rx]
  exact p.ok so (.bl _)⟩
theorem dop_notN : DOp X (compareOp .IsNot) fNotN := ⟨_, op_notN, fun φ H s x y v u Q so rx ry p => by
  cases ry <;> first | exact p.elim | skip
  refine ⟨rfl, ?_⟩
  rw [isNon_eq rx]
  exact p.ok so (.bl _)⟩
/-! ### one-place operators -/
abbrev Op1 := D → Sto → Option (D × Sto)
def lift1 (f : Op1) (x : D) : M D := fun s => match f x s with
  | some (d, s') => some (.ok d, s')
  | none => none
theorem PsO.of1 {K : PySem.W.Frag} {W : WK} {φ : List Addr} {H : Hp} {Q : VK} {f : Op1} {x : D} {s : Sto} (h : Ps K W (Dt K) φ H (fun _ v H' _ _ => Q v H') (lift1 f x s)) : PsO K φ H Q (f x s) := by
  unfold lift1 at h
  split at h
  · rename_i e
    rw [e]
    exact h
  · exact h.elim
def dOp1 (f : Op1) (da : DX) : DX := fun Δ => mbind (da Δ) (lift1 f)
def fNeg : Op1 := fun x s => match x with
  | .int i => some (.int (-i), s)
  | _ => none
theorem de_neg {W : WX} {a : Expr} {da : DX} {pos : Pos} (ha : DE X W a da) : DE X W (.UnaryOp .USub a pos) (dOp1 fNeg da) :=
  pe_imp (pe_un un_neg ha) fun σ H Q ⟨Δ, φ, s, hσ, hs, h⟩ => upE_bind hσ hs h fun φ1 v H1 x s1 f1 hσ1 hs1 rx h1 => by
    have p := PsO.of1 h1
    cases rx <;> first | exact p.elim | skip
    exact ⟨_, rfl, p.ok hs1 (.int _)⟩
/-! ### chains -/
def dChain (f g : Op2) (da db dc : DX) : DX := fun Δ => mbind (da Δ) fun x => mbind (db Δ) fun y => mbind (lift2 f x y) fun z => mbind (dBl z) fun b => if b = true then mbind (dc Δ) fun w => lift2 g y w else mret (.bl false)
/-! ### calls of built-ins -/
abbrev OpN := List D → Sto → Option (D × Sto)
def liftN (f : OpN) (x : List D) : M D := fun s => match f x s with
  | some (d, s') => some (.ok d, s')
  | none => none
theorem PsO.ofN {K : PySem.W.Frag} {W : WK} {φ : List Addr} {H : Hp} {Q : VK} {f : OpN} {x : List D} {s : Sto} (h : Ps K W (Dt K) φ H (fun _ v H' _ _ => Q v H') (liftN f x s)) : PsO K φ H Q (f x s) := by
  unfold liftN at h
  split at h
  · rename_i e
    rw [e]
    exact h
  · exact h.elim
def DCall (X : Cx) (fv : Value) (f : OpN) : Prop := ∃ r, CallR X fv r ∧ ∀ φ H s vs ds Q, So X.K φ H s → Dts X.K φ H vs ds → PsO X.K φ H Q (f ds s) → r vs H Q
def orN (f g : OpN) : OpN := fun x s => match f x s with
  | some r => some r
  | none => g x s
theorem DCall.or {fv : Value} {f g : OpN} (hf : DCall X fv f) (hg : DCall X fv g) : DCall X fv (orN f g) := by
  obtain ⟨r, h, q⟩ := hf
  obtain ⟨r', h', q'⟩ := hg
  refine ⟨fun vs H Q => r vs H Q ∨ r' vs H Q, fun pins s σ H vs us Q I rv hq => ?_, fun φ H s vs ds Q so rx p => ?_⟩
  · rcases hq with hq | hq
    · exact h pins s σ H vs us Q I rv hq
    · exact h' pins s σ H vs us Q I rv hq
  · unfold orN at p
    split at p
    · rename_i e
      exact .inl (q φ H s vs ds Q so rx (by rw [e]; exact p))
    · exact .inr (q' φ H s vs ds Q so rx p)
def dCB (f : OpN) (da : DA) : DX := fun Δ => mbind (da Δ) (liftN f)
theorem dcb_read {W : WX} {f : OpN} {r : List V → Hp → VK → Prop} (hr : ∀ φ H s vs ds Q, So X.K φ H s → Dts X.K φ H vs ds → PsO X.K φ H Q (f ds s) → r vs H Q) {da : DA} {σ : L2.St} {H : Hp} {Q : VK}
    (h : upE X.K W (dCB f da) σ H Q) : tCB r (upA X.K W da) σ H Q := by
  obtain ⟨Δ, φ, s, hσ, hs, h⟩ := h
  exact upA_bind hσ hs h fun φ1 vs H1 xs s1 f1 hσ1 hs1 rx h1 => hr φ1 H1 s1 vs xs Q hs1 rx (PsO.ofN h1)
theorem de_callB {W : WX} {x : Str} {id : String} {f : OpN} {e : Expr} {es : List Expr} {da : DA} {p pos : Pos} (hc : DCall X (.builtin id) f) (hg : Gl X x) (hm : X.mg x = none) (hv : bootBuiltins x = some (.builtin id)) (ha : DAs X W (e :: es) da)
    (hn : x ≠ "__name__" := by decide) (hdb : (x == ("__debug__" : Str)) = false := by decide) (he : starEach (e :: es) X.env = (false, eval e X.env) :: starEach es X.env := by rfl) (hpl : (backTo pos (starEach es X.env)).any (·.1) = false := by rfl) : DE X W (.Call (.Name x p) (e :: es) [] pos) (dCB f da) := by
  obtain ⟨r, h, hr⟩ := hc
  exact pe_imp (pe_callB h hg hm hv ha hn hdb he hpl) fun σ H Q q => dcb_read hr q
theorem de_callTy {W : WX} {x : Str} {T : String} {f : OpN} {e : Expr} {es : List Expr} {da : DA} {p pos : Pos} (hc : DCall X (.type T) f) (hg : Gl X x) (hm : X.mg x = none) (hv : bootBuiltins x = some (.type T)) (ha : DAs X W (e :: es) da)
    (hn : x ≠ "__name__" := by decide) (hdb : (x == ("__debug__" : Str)) = false := by decide) (he : starEach (e :: es) X.env = (false, eval e X.env) :: starEach es X.env := by rfl) (hpl : (backTo pos (starEach es X.env)).any (·.1) = false := by rfl) : DE X W (.Call (.Name x p) (e :: es) [] pos) (dCB f da) := by
  obtain ⟨r, h, hr⟩ := hc
  exact pe_imp (pe_callTy h hg hm hv ha hn hdb he hpl) fun σ H Q q => dcb_read hr q
end
end DV

namespace DV
open PySem L2 PyProof.Rows
theorem PsO.set {K : PySem.W.Frag} {φ : List Addr} {H : Hp} {Q : VK} {d : D} {s : Sto} {n : Nat} {a : Addr} {v : V} {xs : List D} {vs : List V} (h : PsO K φ H Q (some (d, s.set n (.lst xs)))) (so : So K φ H s) (ha : φ[n]? = some a) (r : Dts K φ H vs xs)
    (rv : Dt K φ (upd H a (.lst vs)) v d) : Q v (upd H a (.lst vs)) :=
  h φ _ _ (fu_set so ha) (so.set ha ⟨vs, upd_same, r.fu (fu_set so ha)⟩) rv
section
variable {X : Cx} {W : WX}
/-! ### items -/
def fIx : Op2 := fun x y s => match x, y with
  | .obj n, .int i => match lstAt s n with
    | some xs => match atI xs i with
      | some d => some (d, s)
      | none => none
    | none => none
  | .tup xs, .int i => match atI xs i with
    | some d => some (d, s)
    | none => none
  | .str z, .int i => if z.length ≤ sizeLine then match atI z.cps.toList i with
    | some c => some (.str ⟨#[c]⟩, s)
    | none => none else none
  | _, _ => none
theorem atI_dts {K : PySem.W.Frag} {φ : List Addr} {H : Hp} {vs : List V} {ds : List D} (r : Dts K φ H vs ds) {i : Int} {d : D} (h : atI ds i = some d) : ∃ v, atI vs i = some v ∧ Dt K φ H v d := by
  unfold atI at h ⊢
  rw [r.length]
  cases e : ixN ds.length i with
  | none => rw [e] at h; cases h
  | some j =>
    rw [e] at h
    exact r.get h
theorem dx_read {φ : List Addr} {H : Hp} {s : Sto} {x y : D} {v u : V} {Q : VK} (so : So X.K φ H s) (rx : Dt X.K φ H v x) (ry : Dt X.K φ H u y) (p : PsO X.K φ H Q (fIx x y s)) : rIx X.K v u H Q := by
  cases rx <;> cases ry <;> first | exact p.elim | skip
  · rename_i z i
    simp only [fIx] at p
    split at p
    · rename_i hz
      split at p
      · rename_i c e
        exact .inr (.inr ⟨z, i, c, rfl, rfl, hz, e, p.ok so (.str _)⟩)
      · exact p.elim
    · exact p.elim
  · rename_i a vs ds h r i
    simp only [fIx] at p
    split at p
    · rename_i d e
      obtain ⟨w, h1, h2⟩ := atI_dts r e
      exact .inr (.inl ⟨a, vs, i, w, rfl, rfl, h, h1, p.ok so h2⟩)
    · exact p.elim
  · rename_i a n ha i
    simp only [fIx] at p
    split at p
    · rename_i xs e
      split at p
      · rename_i d e2
        obtain ⟨vs, h1, r1⟩ := so.lst (lstAt_eq e) ha
        obtain ⟨w, h3, h4⟩ := atI_dts r1 e2
        exact .inl ⟨a, vs, i, w, rfl, rfl, SqL.of h1, h3, p.ok so h4⟩
      · exact p.elim
    · exact p.elim
theorem de_ix {a b : Expr} {da db : DX} {pos : Pos} (ha : DE X W a da) (hb : DE X W b db) (hs : PlainIx b := by exact fun _ _ => rfl) : DE X W (.Subscript a b pos) (dOp fIx da db) :=
  pe_imp (pe_ix ix_seq ha hb hs) fun σ H Q q => dop_read (r := rIx X.K) (fun φ H s x y v u Q so rx ry p => dx_read so rx ry p) q
/-! ### slices -/
abbrev DPt := Dn → M (Option Int)
def dNoPt : DPt := fun _ => mret none
def dPt (da : DX) : DPt := fun Δ => mbind (da Δ) fun x => match x with
  | .int i => mret (some i)
  | _ => mfail
def upO (K : PySem.W.Frag) (W : WX) (dp : DPt) : TO := fun σ H Q => ∃ Δ φ s, Sg K φ H σ Δ ∧ So K φ H s ∧ Ps K (wAt W σ) (fun _ _ (b b' : Option Int) => b = b') φ H (fun _ v H' _ _ => Q v H') (dp Δ s)
def DPO (X : Cx) (W : WX) (e : Option Expr) (dp : DPt) : Prop := PO X e (upO X.K W dp)
theorem po_imp {e : Option Expr} {t t' : TO} (h : PO X e t) (f : ∀ σ H Q, t' σ H Q → t σ H Q) : PO X e t' := ⟨fun pins s σ H Q I q => h.run pins s σ H Q I (f _ _ _ q)⟩
theorem dp_none : DPO X W none dNoPt := po_imp po_none fun σ H Q ⟨Δ, φ, s, hσ, hs, h⟩ => h.ok hs rfl
theorem dp_some {e : Expr} {da : DX} (h : DE X W e da) : DPO X W (some e) (dPt da) := po_imp (po_some h) fun σ H Q ⟨Δ, φ, s, hσ, hs, h⟩ => upE_bind hσ hs h fun φ1 v H1 x s1 f1 hσ1 hs1 rx h1 => by
  cases rx <;> first | exact h1.elim | skip
  exact ⟨_, rfl, h1.ok hs1 rfl⟩
def cutD (xs : List D) (lo hi : Option Int) : List D := (xs.drop (HT.sIx xs.length 0 lo)).take (HT.sIx xs.length xs.length hi - HT.sIx xs.length 0 lo)
theorem cut_dts {K : PySem.W.Frag} {φ : List Addr} {H : Hp} {vs : List V} {ds : List D} (r : Dts K φ H vs ds) (lo hi : Option Int) : Dts K φ H (cutV vs lo hi) (cutD ds lo hi) := by
  unfold cutV cutD
  rw [r.length]
  exact (r.drop _).take _
abbrev OpS := D → Option Int → Option Int → Sto → Option (D × Sto)
def liftS (f : OpS) (x : D) (lo hi : Option Int) : M D := fun s => match f x lo hi s with
  | some (d, s') => some (.ok d, s')
  | none => none
theorem PsO.ofS {K : PySem.W.Frag} {W : WK} {φ : List Addr} {H : Hp} {Q : VK} {f : OpS} {x : D} {lo hi : Option Int} {s : Sto} (h : Ps K W (Dt K) φ H (fun _ v H' _ _ => Q v H') (liftS f x lo hi s)) : PsO K φ H Q (f x lo hi s) := by
  unfold liftS at h
  split at h
  · rename_i e
    rw [e]
    exact h
  · exact h.elim
/-- list or text -/
def fSl : OpS := fun x lo hi s => match x with
  | .obj n => match lstAt s n with
    | some xs => some (.obj s.length, s ++ [.lst (cutD xs lo hi)])
    | none => none
  | .str z => if z.length ≤ sizeLine then some (.str (cutS z lo hi), s) else none
  | .fz xs => some (.obj s.length, s ++ [.lst (cutD xs lo hi)])
  | _ => none
def dSl (f : OpS) (da : DX) (dl dh : DPt) : DX := fun Δ => mbind (da Δ) fun x => mbind (dl Δ) fun lo => mbind (dh Δ) fun hi => liftS f x lo hi
theorem upO_bind {K : PySem.W.Frag} {W : WX} {γ δ : Type} {R' : List Addr → Hp → δ → γ → Prop} {σ : L2.St} {Δ : Dn} {φ : List Addr} {H : Hp} {s : Sto} {C : List Addr → δ → Hp → γ → Sto → Prop} {de : DPt} {k : Option Int → M γ} {Q : Option Int → Hp → Prop} (hσ : Sg K φ H σ Δ) (hs : So K φ H s)
    (h : Ps K (wAt W σ) R' φ H C (mbind (de Δ) k s)) (q : ∀ φ1 H1 d s1, Fu K φ φ1 H H1 → Sg K φ1 H1 σ Δ → So K φ1 H1 s1 → Ps K (wAt W σ) R' φ1 H1 C (k d s1) → Q d H1) : upO K W de σ H Q :=
  ⟨Δ, φ, s, hσ, hs, Ps.mono (fun φ1 v H1 d s1 z => by
    obtain ⟨z1, z2, z3, z4⟩ := z
    subst z3
    exact q φ1 H1 _ s1 z1 (hσ.fu z1) z2 z4) (Ps.bind h)⟩
theorem de_sl {e : Expr} {lo hi : Option Expr} {da : DX} {dl dh : DPt} {pos p2 : Pos} (he : DE X W e da) (hl : DPO X W lo dl) (hh : DPO X W hi dh) : DE X W (.Subscript e (.Slice lo hi none p2) pos) (dSl fSl da dl dh) :=
  pe_imp (pe_slice (sl_list.or sl_str) he hl hh) fun σ H Q ⟨Δ, φ, s, hσ, hs, h⟩ => upE_bind hσ hs h fun φ1 v H1 x s1 f1 hσ1 hs1 rx h1 =>
    upO_bind hσ1 hs1 h1 fun φ2 H2 l s2 f2 hσ2 hs2 h2 => upO_bind hσ2 hs2 h2 fun φ3 H3 u s3 f3 hσ3 hs3 h3 => by
      have p := PsO.ofS h3
      have rx3 := (rx.fu f2).fu f3
      cases rx3 <;> first | exact p.elim | skip
      · rename_i z
        simp only [fSl] at p
        split at p
        · rename_i hz
          exact .inr ⟨z, rfl, hz, p.ok hs3 (.str _)⟩
        · exact p.elim
      · rename_i a n ha
        simp only [fSl] at p
        split at p
        · rename_i xs e
          obtain ⟨vs, k, r⟩ := hs3.lst (lstAt_eq e) ha
          exact .inl ⟨a, vs, rfl, SqL.of k, fun q hq => p.newL hs3 hq (cut_dts r _ _)⟩
        · exact p.elim
      · rename_i a vs ds h r
        exact .inl ⟨a, vs, rfl, h.sq, fun q hq => p.newL hs3 hq (cut_dts r _ _)⟩
/-! ### built-in calls -/
def fLen : OpN := fun xs s => match xs with
  | [.obj n] => match lstAt s n with
    | some xs => some (.int xs.length, s)
    | none => none
  | [.tup xs] => some (.int xs.length, s)
  | [.str z] => if z.length ≤ sizeLine then some (.int z.length, s) else none
  | _ => none
theorem dc_len : DCall X (.builtin "len") fLen := by
  refine ⟨fun vs H Q => (∃ p ys, vs = [.ref p] ∧ (SqL X.K H p ys ∨ SqT X.K H p ys) ∧ Q (.int ys.length) H) ∨ (∃ z, vs = [.str z] ∧ z.length ≤ sizeLine ∧ Q (.int z.length) H), fun pins s σ H vs us Q I rv hq => ?_, fun φ H s vs ds Q so rx p => ?_⟩
  · rcases hq with hq | hq
    · exact call_len_seq pins s σ H vs us Q I rv hq
    · exact call_len_str pins s σ H vs us Q I rv hq
  · cases rx with
    | nil => exact p.elim
    | cons r1 r2 =>
      cases r2 with
      | cons _ _ => cases r1 <;> exact p.elim
      | nil =>
        cases r1 <;> first | exact p.elim | skip
        · rename_i z
          simp only [fLen] at p
          split at p
          · rename_i hz
            exact .inr ⟨z, rfl, hz, p.ok so (.int _)⟩
          · exact p.elim
        · rename_i a vs ds h r
          exact .inl ⟨a, vs, rfl, .inr h, by rw [r.length]; exact p.ok so (.int _)⟩
        · rename_i a n ha
          simp only [fLen] at p
          split at p
          · rename_i xs e
            obtain ⟨vs, k, r⟩ := so.lst (lstAt_eq e) ha
            exact .inl ⟨a, vs, rfl, .inl (SqL.of k), by rw [r.length]; exact p.ok so (.int _)⟩
          · exact p.elim
def fInt : OpN := fun xs s => match xs with
  | [.int i] => some (.int i, s)
  | [.bl k] => some (.int (if k then 1 else 0), s)
  | _ => none
theorem dts1 {K : PySem.W.Frag} {φ : List Addr} {H : Hp} {vs : List V} {x : D} (r : Dts K φ H vs [x]) : ∃ v, vs = [v] ∧ Dt K φ H v x := by
  cases r with
  | cons r1 r2 => cases r2; exact ⟨_, rfl, r1⟩
theorem dts2 {K : PySem.W.Frag} {φ : List Addr} {H : Hp} {vs : List V} {x y : D} (r : Dts K φ H vs [x, y]) : ∃ v u, vs = [v, u] ∧ Dt K φ H v x ∧ Dt K φ H u y := by
  cases r with
  | cons r1 r2 => cases r2 with
    | cons r2 r3 => cases r3; exact ⟨_, _, rfl, r1, r2⟩
theorem dc_int : DCall X (.type "int") fInt := ⟨_, call_int1, fun φ H s vs ds Q so rx p => by
  unfold fInt at p
  split at p
  · obtain ⟨v, rfl, r⟩ := dts1 rx
    cases r
    exact .inl ⟨_, rfl, p.ok so (.int _)⟩
  · obtain ⟨v, rfl, r⟩ := dts1 rx
    cases r
    exact .inr ⟨_, rfl, p.ok so (.int _)⟩
  · exact p.elim⟩
def fBool : OpN := fun xs s => match xs with
  | [.int i] => some (.bl (i != 0), s)
  | [.bl k] => some (.bl k, s)
  | _ => none
theorem dc_bool : DCall X (.type "bool") fBool := ⟨_, call_bool1, fun φ H s vs ds Q so rx p => by
  unfold fBool at p
  split at p
  · obtain ⟨v, rfl, r⟩ := dts1 rx
    cases r
    exact .inl ⟨_, rfl, p.ok so (.bl _)⟩
  · obtain ⟨v, rfl, r⟩ := dts1 rx
    cases r
    exact .inr ⟨_, rfl, p.ok so (.bl _)⟩
  · exact p.elim⟩
def maxI (i j : Int) : Int := if j > i then j else i
def minI (i j : Int) : Int := if j < i then j else i
def intsOf : List D → Option (List Int)
  | [] => some []
  | .int i :: r => (intsOf r).map (i :: ·)
  | _ :: _ => none
theorem intsOf_eq : ∀ {xs : List D} {ns : List Int}, intsOf xs = some ns → xs = ns.map D.int
  | [], _, e => by cases e; rfl
  | .int i :: r, _, e => by
    simp only [intsOf, Option.map_eq_some_iff] at e
    obtain ⟨ms, e, rfl⟩ := e
    rw [intsOf_eq e]
    rfl
  | .non :: _, _, e => by cases e
  | .bl _ :: _, _, e => by cases e
  | .str _ :: _, _, e => by cases e
  | .tup _ :: _, _, e => by cases e
  | .obj _ :: _, _, e => by cases e
  | .adr _ :: _, _, e => by cases e
  | .ty _ :: _, _, e => by cases e
  | .fz _ :: _, _, e => by cases e
def maxL : List Int → Int
  | [] => 0
  | a :: r => r.foldl maxI a
def minL : List Int → Int
  | [] => 0
  | a :: r => r.foldl minI a
theorem fold_max : ∀ (r : List Int) (a : Int), (r.foldl maxI a ∈ a :: r) ∧ ∀ y ∈ a :: r, y ≤ r.foldl maxI a
  | [], a => ⟨by simp, fun y hy => by simp at hy; subst hy; exact Int.le_refl _⟩
  | b :: r, a => by
    obtain ⟨h1, h2⟩ := fold_max r (maxI a b)
    have hm : maxI a b = a ∨ maxI a b = b := by unfold maxI; split <;> simp
    have h0 : a ≤ maxI a b ∧ b ≤ maxI a b := by unfold maxI; split <;> omega
    refine ⟨?_, fun y hy => ?_⟩
    · rw [List.foldl_cons]
      rcases List.mem_cons.mp h1 with h1 | h1
      · rw [h1]; rcases hm with h | h <;> rw [h] <;> simp
      · simp [h1]
    · rw [List.foldl_cons]
      have h3 := h2 (maxI a b) (by simp)
      rcases List.mem_cons.mp hy with rfl | hy
      · exact Int.le_trans h0.1 h3
      · rcases List.mem_cons.mp hy with rfl | hy
        · exact Int.le_trans h0.2 h3
        · exact h2 y (List.mem_cons_of_mem _ hy)
theorem fold_min : ∀ (r : List Int) (a : Int), (r.foldl minI a ∈ a :: r) ∧ ∀ y ∈ a :: r, r.foldl minI a ≤ y
  | [], a => ⟨by simp, fun y hy => by simp at hy; subst hy; exact Int.le_refl _⟩
  | b :: r, a => by
    obtain ⟨h1, h2⟩ := fold_min r (minI a b)
    have hm : minI a b = a ∨ minI a b = b := by unfold minI; split <;> simp
    have h0 : minI a b ≤ a ∧ minI a b ≤ b := by unfold minI; split <;> omega
    refine ⟨?_, fun y hy => ?_⟩
    · rw [List.foldl_cons]
      rcases List.mem_cons.mp h1 with h1 | h1
      · rw [h1]; rcases hm with h | h <;> rw [h] <;> simp
      · simp [h1]
    · rw [List.foldl_cons]
      have h3 := h2 (minI a b) (by simp)
      rcases List.mem_cons.mp hy with rfl | hy
      · exact Int.le_trans h3 h0.1
      · rcases List.mem_cons.mp hy with rfl | hy
        · exact Int.le_trans h3 h0.2
        · exact h2 y (List.mem_cons_of_mem _ hy)
theorem maxL_of {ns : List Int} {m : Int} (h0 : 0 < ns.length) (h1 : m ∈ ns) (h2 : ∀ y ∈ ns, y ≤ m) : m = maxL ns := by
  cases ns with
  | nil => cases h0
  | cons a r =>
    obtain ⟨h3, h4⟩ := fold_max r a
    exact Int.le_antisymm (h4 m h1) (h2 _ h3)
theorem minL_of {ns : List Int} {m : Int} (h0 : 0 < ns.length) (h1 : m ∈ ns) (h2 : ∀ y ∈ ns, m ≤ y) : m = minL ns := by
  cases ns with
  | nil => cases h0
  | cons a r =>
    obtain ⟨h3, h4⟩ := fold_min r a
    exact Int.le_antisymm (h2 _ h3) (h4 m h1)
theorem lst_ints {K : PySem.W.Frag} {φ : List Addr} {H : Hp} {s : Sto} {n : Nat} {a : Addr} {xs : List D} {ns : List Int} (so : So K φ H s) (e : lstAt s n = some xs) (e2 : intsOf xs = some ns) (ha : φ[n]? = some a) : SqL K H a (ns.map V.int) := by
  obtain ⟨vs, k, r⟩ := so.lst (lstAt_eq e) ha
  rw [intsOf_eq e2] at r
  rw [r.ints] at k
  exact SqL.of k
/-- of a list of ints -/
def fLs (g : List Int → Int) (c : List Int → Bool) : OpN := fun xs s => match xs with
  | [.obj n] => match lstAt s n with
    | some ys => match intsOf ys with
      | some ns => if c ns = true then some (.int (g ns), s) else none
      | none => none
    | none => none
  | _ => none
theorem fls_read {g : List Int → Int} {c : List Int → Bool} {φ : List Addr} {H : Hp} {s : Sto} {vs : List V} {ds : List D} {Q : VK} (so : So X.K φ H s) (rx : Dts X.K φ H vs ds) (p : PsO X.K φ H Q (fLs g c ds s)) :
    ∃ (a : Addr) (ns : List Int), vs = [V.ref a] ∧ SqL X.K H a (ns.map V.int) ∧ c ns = true ∧ Q (.int (g ns)) H := by
  unfold fLs at p
  split at p
  · obtain ⟨v, rfl, r⟩ := dts1 rx
    cases r
    rename_i n a ha
    split at p
    · rename_i ys e
      split at p
      · rename_i ns e2
        split at p
        · rename_i hc
          exact ⟨a, ns, rfl, lst_ints so e e2 ha, hc, p.ok so (.int _)⟩
        · exact p.elim
      · exact p.elim
    · exact p.elim
  · exact p.elim
def fSum : OpN := fLs List.sum fun _ => true
theorem dc_sum (hc : X.calm = true) : DCall X (.builtin "sum") fSum := ⟨_, cr_sum hc, fun φ H s vs ds Q so rx p => by
  obtain ⟨a, ns, h1, h2, _, h3⟩ := fls_read so rx p
  exact ⟨a, ns, h1, h2, h3⟩⟩
def fMaxL : OpN := fLs maxL fun ns => decide (0 < ns.length)
def fMinL : OpN := fLs minL fun ns => decide (0 < ns.length)
theorem dc_maxL (hc : X.calm = true) : DCall X (.builtin "max") fMaxL := ⟨_, cr_max hc, fun φ H s vs ds Q so rx p => by
  obtain ⟨a, ns, h1, h2, h0, h3⟩ := fls_read so rx p
  exact ⟨a, ns, h1, h2, of_decide_eq_true h0, fun m hm hy => by rw [maxL_of (of_decide_eq_true h0) hm hy]; exact h3⟩⟩
theorem dc_minL (hc : X.calm = true) : DCall X (.builtin "min") fMinL := ⟨_, cr_min hc, fun φ H s vs ds Q so rx p => by
  obtain ⟨a, ns, h1, h2, h0, h3⟩ := fls_read so rx p
  exact ⟨a, ns, h1, h2, of_decide_eq_true h0, fun m hm hy => by rw [minL_of (of_decide_eq_true h0) hm hy]; exact h3⟩⟩
def f2I (g : Int → Int → Int) : OpN := fun xs s => match xs with
  | [.int i, .int j] => some (.int (g i j), s)
  | _ => none
theorem dc_max2 (hc : X.calm = true) : DCall X (.builtin "max") (f2I maxI) := ⟨_, call_max2 hc, fun φ H s vs ds Q so rx p => by
  unfold f2I at p
  split at p
  · obtain ⟨v, u, rfl, r1, r2⟩ := dts2 rx
    cases r1
    cases r2
    exact ⟨_, _, rfl, p.ok so (.int _)⟩
  · exact p.elim⟩
theorem dc_min2 (hc : X.calm = true) : DCall X (.builtin "min") (f2I minI) := ⟨_, call_min2 hc, fun φ H s vs ds Q so rx p => by
  unfold f2I at p
  split at p
  · obtain ⟨v, u, rfl, r1, r2⟩ := dts2 rx
    cases r1
    cases r2
    exact ⟨_, _, rfl, p.ok so (.int _)⟩
  · exact p.elim⟩
def fMax : OpN := orN (f2I maxI) fMaxL
def fMin : OpN := orN (f2I minI) fMinL
theorem dc_max (hc : X.calm = true) : DCall X (.builtin "max") fMax := (dc_max2 hc).or (dc_maxL hc)
theorem dc_min (hc : X.calm = true) : DCall X (.builtin "min") fMin := (dc_min2 hc).or (dc_minL hc)
/-- list(x), tuple(x) -/
def fTuple : OpN := fun xs s => match xs with
  | [.obj n] => match lstAt s n with
    | some ys => some (.tup ys, s)
    | none => none
  | [.tup ys] => some (.tup ys, s)
  | _ => none
theorem dc_tuple : DCall X (.type "tuple") fTuple := ⟨_, call_tuple_of, fun φ H s vs ds Q so rx p => by
  unfold fTuple at p
  split at p
  · obtain ⟨v, rfl, r⟩ := dts1 rx
    cases r
    rename_i n a ha
    split at p
    · rename_i ys e
      obtain ⟨ws, k, r⟩ := so.lst (lstAt_eq e) ha
      exact ⟨a, ws, rfl, .inl ⟨SqL.of k, fun l hl => p.newT so hl r⟩⟩
    · exact p.elim
  · obtain ⟨v, rfl, r⟩ := dts1 rx
    cases r
    rename_i h r
    exact ⟨_, _, rfl, .inr ⟨h, p.ok so (.tup h r)⟩⟩
  · exact p.elim⟩
def fList : OpN := fun xs s => match xs with
  | [.obj n] => match lstAt s n with
    | some ys => some (.obj s.length, s ++ [.lst ys])
    | none => none
  | [.tup ys] => some (.obj s.length, s ++ [.lst ys])
  | _ => none
theorem dc_list : DCall X (.type "list") fList := ⟨_, call_list_of, fun φ H s vs ds Q so rx p => by
  unfold fList at p
  split at p
  · obtain ⟨v, rfl, r⟩ := dts1 rx
    cases r
    rename_i n a ha
    split at p
    · rename_i ys e
      obtain ⟨ws, k, r⟩ := so.lst (lstAt_eq e) ha
      exact ⟨a, ws, rfl, .inl (SqL.of k), fun l hl => p.newL so hl r⟩
    · exact p.elim
  · obtain ⟨v, rfl, r⟩ := dts1 rx
    cases r
    rename_i h r
    exact ⟨_, _, rfl, .inr h, fun l hl => p.newL so hl r⟩
  · exact p.elim⟩
/-- isinstance of a built-in type -/
inductive Kd where
  | non | bl | int | str | tup | lst | dct
def Kd.name : Kd → String
  | .non => "NoneType" | .bl => "bool" | .int => "int" | .str => "str" | .tup => "tuple" | .lst => "list" | .dct => "dict"
def kdOf (x : D) (s : Sto) : Option Kd := match x with
  | .non => some .non
  | .bl _ => some .bl
  | .int _ => some .int
  | .str _ => some .str
  | .tup _ => some .tup
  | .obj n => match s[n]? with
    | some (.lst _) => some .lst
    | some (.dK _) => some .dct
    | some (.dT _) => some .dct
    | _ => none
  | _ => none
def Kd.is (k : Kd) (n : String) : Bool := match k with
  | .bl => n == "bool" || n == "int"
  | k => k.name == n
def tyNames : List String := ["bool", "int", "str", "tuple", "list", "dict"]
theorem kd_ok : ∀ n ∈ tyNames, ∀ k : Kd, kitB k.name n = some (k.is n) := by
  intro n hn k
  simp only [tyNames, List.mem_cons, List.not_mem_nil, or_false] at hn
  rcases hn with rfl | rfl | rfl | rfl | rfl | rfl <;> cases k <;> decide +kernel
def fIsi : OpN := fun xs s => match xs with
  | [x, .ty n] => if n ∈ tyNames then match kdOf x s with
    | some k => some (.bl (k.is n), s)
    | none => none else none
  | _ => none
theorem kd_ty {φ : List Addr} {H : Hp} {s : Sto} {v : V} {x : D} {k : Kd} (so : So X.K φ H s) (r : Dt X.K φ H v x) (e : kdOf x s = some k) : TyX X.K H v (.type k.name) := by
  cases r <;> first | (cases e; done) | skip
  · cases e; exact .base (.non)
  · cases e; exact .base (.bl _)
  · cases e; exact .base (.int _)
  · cases e; exact .base (.str _)
  · cases e
    rename_i h r
    rcases h with (h | ⟨o, h⟩) | ⟨o, its, n, h, hc, _⟩
    · exact .base (.tup h)
    · exact .fTuple h
    · exact .kTuple h hc
  · rename_i a n ha
    simp only [kdOf] at e
    split at e
    · cases e
      rename_i q
      obtain ⟨b, hb, vs, k, _⟩ := so.at q
      rw [ha] at hb
      cases hb
      exact .base (.lst k)
    · cases e
      rename_i q
      obtain ⟨b, hb, vs, k, _⟩ := so.at q
      rw [ha] at hb
      cases hb
      exact .base (.dK k)
    · cases e
      rename_i q
      obtain ⟨b, hb, vs, k, _⟩ := so.at q
      rw [ha] at hb
      cases hb
      exact .base (.dT k)
    · cases e
theorem dc_isi : DCall X (.builtin "isinstance") fIsi := ⟨_, call_isi, fun φ H s vs ds Q so rx p => by
  unfold fIsi at p
  split at p
  · rename_i x n
    obtain ⟨v, u, rfl, r1, r2⟩ := dts2 rx
    cases r2
    split at p
    · rename_i hn
      split at p
      · rename_i k e
        exact ⟨v, .ty n, .type k.name, .type n, k.is n, rfl, .ty n, kd_ty so r1 e, kit_ty (kd_ok n hn k), p.ok so (.bl _)⟩
      · exact p.elim
    · exact p.elim
  · exact p.elim⟩
end
end DV

namespace DV
open PySem L2 PyProof.Rows
/-! ### methods of built-in types -/
abbrev OpM := D → List D → Sto → Option (D × Sto)
def liftM (f : OpM) (x : D) (xs : List D) : M D := fun s => match f x xs s with
  | some (d, s') => some (.ok d, s')
  | none => none
theorem PsO.ofM {K : PySem.W.Frag} {W : WK} {φ : List Addr} {H : Hp} {Q : VK} {f : OpM} {x : D} {xs : List D} {s : Sto} (h : Ps K W (Dt K) φ H (fun _ v H' _ _ => Q v H') (liftM f x xs s)) : PsO K φ H Q (f x xs s) := by
  unfold liftM at h
  split at h
  · rename_i e
    rw [e]
    exact h
  · exact h.elim
/-- the receiver has the type T -/
def tyD (T : String) (x : D) (s : Sto) : Bool := match x with
  | .str _ => T == "str"
  | .int _ => T == "int"
  | .obj n => match s[n]? with
    | some (.lst _) => T == "list"
    | some (.dK _) => T == "dict"
    | some (.dT _) => T == "dict"
    | _ => false
  | _ => false
theorem tyD_ok {K : PySem.W.Frag} {φ : List Addr} {H : Hp} {s : Sto} {T : String} {v : V} {x : D} (so : So K φ H s) (r : Dt K φ H v x) (e : tyD T x s = true) : tyV K T v H := by
  cases r <;> first | (cases e; done) | skip
  · exact eq_of_beq e
  · exact eq_of_beq e
  · rename_i a n ha
    simp only [tyD] at e
    split at e
    · rename_i q
      obtain ⟨b, hb, vs, k, _⟩ := so.at q
      rw [ha] at hb
      cases hb
      exact .inl ⟨eq_of_beq e, vs, SqL.of k⟩
    · rename_i q
      obtain ⟨b, hb, vs, k, _⟩ := so.at q
      rw [ha] at hb
      cases hb
      exact .inr (.inr (.inl ⟨eq_of_beq e, .inl ⟨vs, k⟩⟩))
    · rename_i q
      obtain ⟨b, hb, vs, k, _⟩ := so.at q
      rw [ha] at hb
      cases hb
      exact .inr (.inr (.inl ⟨eq_of_beq e, .inr ⟨vs, k⟩⟩))
    · cases e
def DMt (X : Cx) (id : String) (f : OpM) : Prop := ∃ r, MtR X id r ∧ ∀ φ H s v x vs xs Q, So X.K φ H s → Dt X.K φ H v x → Dts X.K φ H vs xs → PsO X.K φ H Q (f x xs s) → r v vs H Q
def orM (f g : OpM) : OpM := fun x xs s => match f x xs s with
  | some r => some r
  | none => g x xs s
def mTy (T : String) (x : D) : M Unit := fun s => if tyD T x s = true then some (.ok (), s) else none
def dBM (T : String) (f : OpM) (dx : DX) (da : DA) : DX := fun Δ => mbind (dx Δ) fun x => mbind (mTy T x) fun _ => mbind (da Δ) fun xs => liftM f x xs
section
variable {X : Cx} {W : WX}
theorem mTy_bind {K : PySem.W.Frag} {φ : List Addr} {H : Hp} {s : Sto} {T : String} {x : D} {γ δ : Type} {R' : List Addr → Hp → δ → γ → Prop} {W : WK} {C : List Addr → δ → Hp → γ → Sto → Prop} {k : Unit → M γ}
    (h : Ps K W R' φ H C (mbind (mTy T x) k s)) : tyD T x s = true ∧ Ps K W R' φ H C (k () s) := by
  unfold mbind mTy at h
  by_cases e : tyD T x s = true
  · rw [if_pos e] at h
    exact ⟨e, h⟩
  · rw [if_neg e] at h
    exact h.elim
theorem de_bm {T id : String} {name : Str} {f : OpM} {o e : Expr} {es : List Expr} {dx : DX} {da : DA} {apos cpos : Pos} (pa : PlainAttrs T) (slot : Slot T name id) (hty : typeOf (.builtin id) = pure (.type "method_descriptor")) (hm : DMt X id f) (ho : DE X W o dx) (ha : DAs X W (e :: es) da)
    (hbase : attributeBase o name X.env (eval o X.env) = eval o X.env := by rfl)
    (hfew : ((backTo cpos (starEach (e :: es) X.env)).all (fun x => !x.1) && (backToKw cpos (keywordEach [] X.env)).all (fun x => x.1.isSome) && decide ((e :: es).length + ([] : List Keyword).length + (if ([] : List Keyword).isEmpty then 0 else 1) < 30)) = true := by rfl)
    (hline : (apos.endLine == cpos.line) = true := by rfl) (hs : starEach (e :: es) X.env = (false, eval e X.env) :: starEach es X.env := by rfl) (hplain : (backTo cpos (starEach es X.env)).any (·.1) = false := by rfl) :
    DE X W (.Call (.Attribute o name apos) (e :: es) [] cpos) (dBM T f dx da) := by
  obtain ⟨r, h, hr⟩ := hm
  exact pe_imp (pe_bm pa slot hty h ho ha hbase hfew hline hs hplain) fun σ H Q ⟨Δ, φ, s, hσ, hs, h⟩ => upE_bind hσ hs h fun φ1 v H1 x s1 f1 hσ1 hs1 rx h1 => by
    obtain ⟨ty, h1⟩ := mTy_bind h1
    exact ⟨tyD_ok hs1 rx ty, upA_bind hσ1 hs1 h1 fun φ2 vs H2 xs s2 f2 hσ2 hs2 rs h2 => hr φ2 H2 s2 v x vs xs Q hs2 (rx.fu f2) rs (PsO.ofM h2)⟩
theorem de_bm0 {T id : String} {name : Str} {f : OpM} {o : Expr} {dx : DX} {apos cpos : Pos} (pa : PlainAttrs T) (slot : Slot T name id) (hty : typeOf (.builtin id) = pure (.type "method_descriptor")) (hm : DMt X id f) (ho : DE X W o dx)
    (hbase : attributeBase o name X.env (eval o X.env) = eval o X.env := by rfl) (hline : (apos.endLine == cpos.line) = true := by rfl) : DE X W (.Call (.Attribute o name apos) [] [] cpos) (dBM T f dx dNil) := by
  obtain ⟨r, h, hr⟩ := hm
  exact pe_imp (pe_bm0 pa slot hty h ho hbase hline) fun σ H Q ⟨Δ, φ, s, hσ, hs, h⟩ => upE_bind hσ hs h fun φ1 v H1 x s1 f1 hσ1 hs1 rx h1 => by
    obtain ⟨ty, h1⟩ := mTy_bind h1
    exact ⟨tyD_ok hs1 rx ty, hr φ1 H1 s1 v x [] [] Q hs1 rx .nil (PsO.ofM h1)⟩
def fAppend : OpM := fun x xs s => match x, xs with
  | .obj n, [y] => match lstAt s n with
    | some ys => if ys.length < sizeLine then some (.non, s.set n (.lst (ys ++ [y]))) else none
    | none => none
  | _, _ => none
theorem dm_append : DMt X "list.append" fAppend := ⟨_, mt_append, fun φ H s v x vs xs Q so rx rs p => by
  unfold fAppend at p
  split at p
  · rename_i n y
    obtain ⟨u, rfl, r⟩ := dts1 rs
    cases rx
    rename_i a ha
    split at p
    · rename_i ys e
      split at p
      · rename_i hz
        obtain ⟨ws, k, rw⟩ := so.lst (lstAt_eq e) ha
        exact ⟨a, ws, u, rfl, rfl, k, by rw [rw.length]; exact hz, p.set so ha (rw.append (.cons r .nil)) .non⟩
      · exact p.elim
    · exact p.elim
  · exact p.elim⟩
def fExtend : OpM := fun x xs s => match x, xs with
  | .obj n, [.obj m] => match lstAt s n, lstAt s m with
    | some ys, some zs => if ys.length + zs.length ≤ sizeLine then some (.non, s.set n (.lst (ys ++ zs))) else none
    | _, _ => none
  | _, _ => none
theorem dm_extend : DMt X "list.extend" fExtend := ⟨_, mt_extend, fun φ H s v x vs xs Q so rx rs p => by
  unfold fExtend at p
  split at p
  · rename_i n m
    obtain ⟨u, rfl, r⟩ := dts1 rs
    cases rx
    cases r
    rename_i a ha b hb
    split at p
    · rename_i ys zs e e'
      split at p
      · rename_i hz
        obtain ⟨ws, k, rw⟩ := so.lst (lstAt_eq e) ha
        obtain ⟨ws', k', rw'⟩ := so.lst (lstAt_eq e') hb
        exact ⟨a, b, ws, ws', rfl, rfl, k, k', by rw [rw.length, rw'.length]; exact hz, p.set so ha (rw.append rw') .non⟩
      · exact p.elim
    · exact p.elim
  · exact p.elim⟩
def fClear : OpM := fun x xs s => match x, xs with
  | .obj n, [] => match lstAt s n with
    | some _ => some (.non, s.set n (.lst []))
    | none => none
  | _, _ => none
theorem dm_clear : DMt X "list.clear" fClear := ⟨_, mt_clear, fun φ H s v x vs xs Q so rx rs p => by
  unfold fClear at p
  split at p
  · rename_i n
    cases rs
    cases rx
    rename_i a ha
    split at p
    · rename_i ys e
      obtain ⟨ws, k, rw⟩ := so.lst (lstAt_eq e) ha
      exact ⟨a, ws, rfl, rfl, k, p.set so ha .nil .non⟩
    · exact p.elim
  · exact p.elim⟩
/-- texts: of one text -/
def fS1 (g : Str → Str → D) (c : Str → Bool) : OpM := fun x xs s => match x, xs with
  | .str a, [.str b] => if c a = true then some (g a b, s) else none
  | _, _ => none
theorem dm_S1 {id : String} {g : Str → Str → D} {gV : Str → Str → V} {c : Str → Bool} {C : Str → Prop} (hr : MtR X id (fun x xs H Q => ∃ a b, x = .str a ∧ xs = [.str b] ∧ C a ∧ Q (gV a b) H)) (hc : ∀ a, c a = true → C a) (hg : ∀ a b φ H, Dt X.K φ H (gV a b) (g a b)) : DMt X id (fS1 g c) :=
  ⟨_, hr, fun φ H s v x vs xs Q so rx rs p => by
  unfold fS1 at p
  split at p
  · obtain ⟨u, rfl, r⟩ := dts1 rs
    cases rx
    cases r
    split at p
    · rename_i hz
      exact ⟨_, _, rfl, rfl, hc _ hz, p.ok so (hg _ _ _ _)⟩
    · exact p.elim
  · exact p.elim⟩
def lenOk (a : Str) : Bool := decide (a.length ≤ sizeLine)
def fStrip : OpM := fS1 (fun a b => .str (Txt.stripChars a b)) lenOk
theorem dm_strip : DMt X "str.strip" fStrip := dm_S1 mt_stripChars (fun _ h => of_decide_eq_true h) fun _ _ _ _ => .str _
def fRstrip : OpM := fS1 (fun a b => .str (Txt.rstripChars a b)) lenOk
theorem dm_rstrip : DMt X "str.rstrip" fRstrip := dm_S1 mt_rstripChars (fun _ h => of_decide_eq_true h) fun _ _ _ _ => .str _
def fEndswith : OpM := fS1 (fun a b => .bl (Txt.endswith a b)) fun _ => true
theorem dm_endswith : DMt X "str.endswith" fEndswith := ⟨_, mt_endswith, fun φ H s v x vs xs Q so rx rs p => by
  unfold fEndswith fS1 at p
  split at p
  · obtain ⟨u, rfl, r⟩ := dts1 rs
    cases rx
    cases r
    rw [if_pos rfl] at p
    exact ⟨_, _, rfl, rfl, p.ok so (.bl _)⟩
  · exact p.elim⟩
def strsOf : List D → Option (List Str)
  | [] => some []
  | .str i :: r => (strsOf r).map (i :: ·)
  | _ :: _ => none
theorem strsOf_dts {K : PySem.W.Frag} {φ : List Addr} {H : Hp} : ∀ {vs : List V} {xs : List D} {ys : List Str}, Dts K φ H vs xs → strsOf xs = some ys → vs = ys.map V.str
  | _, _, _, .nil, e => by cases e; rfl
  | _, _, _, .cons (.str i) r, e => by
    simp only [strsOf, Option.map_eq_some_iff] at e
    obtain ⟨ms, e, rfl⟩ := e
    rw [strsOf_dts r e]
    rfl
  | _, _, _, .cons .non _, e => by cases e
  | _, _, _, .cons (.bl _) _, e => by cases e
  | _, _, _, .cons (.int _) _, e => by cases e
  | _, _, _, .cons (.tup _ _) _, e => by cases e
  | _, _, _, .cons (.obj _) _, e => by cases e
  | _, _, _, .cons (.adr _) _, e => by cases e
  | _, _, _, .cons (.ty _) _, e => by cases e
  | _, _, _, .cons (.fz _ _) _, e => by cases e
def joinOk (a : Str) (ys : List Str) : Bool := decide ((ys.map (·.length)).sum + ys.length * a.length ≤ 16777216)
def fJoin : OpM := fun x xs s => match x, xs with
  | .str a, [.obj n] => match lstAt s n with
    | some zs => match strsOf zs with
      | some ys => if joinOk a ys = true then some (.str (Txt.join a ys), s) else none
      | none => none
    | none => none
  | _, _ => none
theorem dm_join : DMt X "str.join" fJoin := ⟨_, mt_join, fun φ H s v x vs xs Q so rx rs p => by
  unfold fJoin at p
  split at p
  · rename_i a n
    obtain ⟨u, rfl, r⟩ := dts1 rs
    cases rx
    cases r
    rename_i b hb
    split at p
    · rename_i zs e
      split at p
      · rename_i ys e2
        split at p
        · rename_i hz
          obtain ⟨ws, k, rw⟩ := so.lst (lstAt_eq e) hb
          rw [strsOf_dts rw e2] at k
          exact ⟨a, b, ys, rfl, rfl, .inl (SqL.of k), of_decide_eq_true hz, p.ok so (.str _)⟩
        · exact p.elim
      · exact p.elim
    · exact p.elim
  · exact p.elim⟩
/-- n.bit_length() -/
def fBits : Op1 := fun x s => match x with
  | .int i => some (.int (Builtin.Int.intBits i : Nat), s)
  | _ => none
theorem de_bits {o : Expr} {da : DX} {apos pos : Pos} (ho : DE X W o da) (hbase : attributeBase o "bit_length" X.env (eval o X.env) = eval o X.env := by rfl) (hline : (apos.endLine == pos.line) = true := by rfl) : DE X W (.Call (.Attribute o "bit_length" apos) [] [] pos) (dOp1 fBits da) :=
  pe_imp (pe_bits ho hbase hline) fun σ H Q ⟨Δ, φ, s, hσ, hs, h⟩ => upE_bind hσ hs h fun φ1 v H1 x s1 f1 hσ1 hs1 rx h1 => by
    have p := PsO.of1 h1
    cases rx <;> first | exact p.elim | skip
    exact ⟨_, rfl, p.ok hs1 (.int _)⟩
/-! ### fields of instances -/
theorem Prs.lookup {R : V → D → Prop} : ∀ {vs : List (Str × V)} {ds : List (Str × D)} {f : Str} {d : D}, Prs R vs ds → ds.lookup f = some d → ∃ v, vs.lookup f = some v ∧ R v d
  | _, _, f, _, .cons (k := k) h r, e => by
    rw [List.lookup_cons] at e ⊢
    split at e
    · cases e
      exact ⟨_, rfl, h⟩
    · exact Prs.lookup r e
theorem Prs.lookup_none {R : V → D → Prop} : ∀ {vs : List (Str × V)} {ds : List (Str × D)} {f : Str}, Prs R vs ds → ds.lookup f = none → vs.lookup f = none
  | _, _, _, .nil, _ => rfl
  | _, _, f, .cons (k := k) h r, e => by
    rw [List.lookup_cons] at e ⊢
    split at e
    · cases e
    · exact Prs.lookup_none r e
def insAt (s : Sto) (n : Nat) : Option (Addr × List (Str × D)) := match s[n]? with
  | some (.ins C fs) => some (C, fs)
  | _ => none
theorem insAt_eq {s : Sto} {n : Nat} {C : Addr} {fs : List (Str × D)} (h : insAt s n = some (C, fs)) : s[n]? = some (.ins C fs) := by
  unfold insAt at h
  split at h
  · cases h; assumption
  · cases h
/-- e.f of an instance of the class C -/
def fFld (C : Addr) (f : Str) : Op1 := fun x s => match x with
  | .obj n => match insAt s n with
    | some (C', fs) => if C' = C then match fs.lookup f with
      | some d => some (d, s)
      | none => none else none
    | none => none
  | _ => none
theorem de_fld {C : Addr} {f : Str} {e : Expr} {da : DX} {pos : Pos} (c : Cls X.K C) (nf : NoAttr X.K C f) (he : DE X W e da) (hb : attributeBase e f X.env (eval e X.env) = eval e X.env := by rfl) : DE X W (.Attribute e f pos) (dOp1 (fFld C f) da) :=
  pe_imp (pe_fld he hb) fun σ H Q ⟨Δ, φ, s, hσ, hs, h⟩ => upE_bind hσ hs h fun φ1 v H1 x s1 f1 hσ1 hs1 rx h1 => by
    have p := PsO.of1 h1
    unfold fFld at p
    split at p
    · rename_i n
      cases rx
      rename_i a ha
      split at p
      · rename_i C' fs e
        split at p
        · rename_i hC
          subst hC
          split at p
          · rename_i d e2
            obtain ⟨b, hb, dx, vs, k, r⟩ := hs1.at (insAt_eq e)
            rw [ha] at hb
            cases hb
            obtain ⟨w, h3, h4⟩ := r.lookup e2
            exact ⟨a, _, dx, vs, w, rfl, k, c, nf, h3, p.ok hs1 h4⟩
          · exact p.elim
        · exact p.elim
      · exact p.elim
    · exact p.elim
end
end DV

namespace DV
open PySem L2 PyProof.Rows
/-! ### statements -/
inductive SR where
  | nx (Δ : Dn) | rt (d : D) | bk (Δ : Dn) | ct (Δ : Dn) | ex (x : Xc) (Δ : Dn)
abbrev RS := Option (SR × Sto)
abbrev DS := Dn → Sto → RS
def PsS (K : PySem.W.Frag) (W : WX) (D : Ends) (φ : List Addr) (H : Hp) : RS → Prop
  | some (.nx Δ, s') => ∀ φ' σ' H', Fu K φ φ' H H' → So K φ' H' s' → Sg K φ' H' σ' Δ → D.nx σ' H'
  | some (.rt d, s') => ∀ φ' v H', Fu K φ φ' H H' → So K φ' H' s' → Dt K φ' H' v d → D.rt v H'
  | some (.bk Δ, s') => ∀ φ' σ' H', Fu K φ φ' H H' → So K φ' H' s' → Sg K φ' H' σ' Δ → D.bk σ' H'
  | some (.ct Δ, s') => ∀ φ' σ' H', Fu K φ φ' H H' → So K φ' H' s' → Sg K φ' H' σ' Δ → D.ct σ' H'
  | some (.ex x Δ, s') => ∀ φ' σ' H' c dd, Fu K φ φ' H H' → So K φ' H' s' → Sg K φ' H' σ' Δ → Xr K φ' H' c dd x → W c dd σ' H'
  | none => False
def upS (K : PySem.W.Frag) (W : WX) (ds : DS) : TS := fun D σ H => ∃ Δ φ s, Sg K φ H σ Δ ∧ So K φ H s ∧ PsS K W D φ H (ds Δ s)
def DSt (X : Cx) (W : WX) (st : Stmt) (ds : DS) : Prop := PS X st (upS X.K W ds)
def DSs (X : Cx) (W : WX) (sts : List Stmt) (ds : DS) : Prop := PSs X sts (upS X.K W ds)
theorem ps_imp {X : Cx} {st : Stmt} {t t' : TS} (h : PS X st t) (f : ∀ D σ H, t' D σ H → t D σ H) : PS X st t' := ⟨fun pins s σ H D I q => h.run pins s σ H D I (f _ _ _ q)⟩
theorem pss_imp {X : Cx} {st : List Stmt} {t t' : TS} (h : PSs X st t) (f : ∀ D σ H, t' D σ H → t D σ H) : PSs X st t' := ⟨fun pins s σ H D I q => h.run pins s σ H D I (f _ _ _ q)⟩
section
variable {K : PySem.W.Frag} {W : WX} {D : Ends} {φ φ' : List Addr} {H H' : Hp} {s s' : Sto} {σ : L2.St} {Δ : Dn}
theorem PsS.shift (f : Fu K φ φ' H H') : ∀ {r : RS}, PsS K W D φ H r → PsS K W D φ' H' r
  | some (.nx Δ, s'), h => fun ψ b G g so q => h ψ b G (f.trans g) so q
  | some (.rt Δ, s'), h => fun ψ b G g so q => h ψ b G (f.trans g) so q
  | some (.bk Δ, s'), h => fun ψ b G g so q => h ψ b G (f.trans g) so q
  | some (.ct Δ, s'), h => fun ψ b G g so q => h ψ b G (f.trans g) so q
  | some (.ex x Δ, s'), h => fun ψ b G c dd g so q x => h ψ b G c dd (f.trans g) so q x
  | none, h => h
/-- an expression, then -/
def sbind {α : Type} (m : M α) (Δ : Dn) (k : α → Sto → RS) : Sto → RS := fun s => match m s with
  | some (.ok a, s') => k a s'
  | some (.error x, s') => some (.ex x Δ, s')
  | none => none
theorem sb {α β : Type} {R : List Addr → Hp → β → α → Prop} {m : M α} {k : α → Sto → RS} (hσ : Sg K φ H σ Δ) (h : PsS K W D φ H (sbind m Δ k s)) :
    Ps K (wAt W σ) R φ H (fun φ1 b H1 a s1 => Fu K φ φ1 H H1 ∧ So K φ1 H1 s1 ∧ R φ1 H1 b a ∧ PsS K W D φ1 H1 (k a s1)) (m s) := by
  unfold sbind at h
  cases e : m s with
  | none => rw [e] at h; exact h.elim
  | some p =>
    obtain ⟨r, s'⟩ := p
    cases r with
    | ok a => rw [e] at h; exact fun ψ b G g so q => ⟨g, so, q, h.shift g⟩
    | error x => rw [e] at h; exact fun ψ G c dd g so q => h ψ σ G c dd g so (hσ.fu g) q
theorem sbE {de : DX} {k : DV.D → Sto → RS} {Q : VK} (hσ : Sg K φ H σ Δ) (hs : So K φ H s) (h : PsS K W D φ H (sbind (de Δ) Δ k s))
    (q : ∀ φ1 v H1 d s1, Fu K φ φ1 H H1 → Sg K φ1 H1 σ Δ → So K φ1 H1 s1 → Dt K φ1 H1 v d → PsS K W D φ1 H1 (k d s1) → Q v H1) : upE K W de σ H Q :=
  ⟨Δ, φ, s, hσ, hs, Ps.mono (fun φ1 v H1 d s1 z => q φ1 v H1 d s1 z.1 (hσ.fu z.1) z.2.1 z.2.2.1 z.2.2.2) (sb hσ h)⟩
theorem sbT {dt : DT} {k : Bool → Sto → RS} {Q : Bool → Hp → Prop} (hσ : Sg K φ H σ Δ) (hs : So K φ H s) (h : PsS K W D φ H (sbind (dt Δ) Δ k s))
    (q : ∀ φ1 b H1 s1, Fu K φ φ1 H H1 → Sg K φ1 H1 σ Δ → So K φ1 H1 s1 → PsS K W D φ1 H1 (k b s1) → Q b H1) : upT K W dt σ H Q :=
  ⟨Δ, φ, s, hσ, hs, Ps.mono (fun φ1 v H1 d s1 z => by
    obtain ⟨z1, z2, z3, z4⟩ := z
    subst z3
    exact q φ1 _ H1 s1 z1 (hσ.fu z1) z2 z4) (sb hσ h)⟩
end
/-! ### targets -/
theorem Dt.tupI {K : PySem.W.Frag} {φ : List Addr} {H : Hp} {v : V} {xs : List D} (h : Dt K φ H v (.tup xs)) : ∃ a vs, v = .ref a ∧ SqT K H a vs ∧ Dts K φ H vs xs := by
  cases h with
  | tup h r => exact ⟨_, _, rfl, h, r⟩
abbrev DGf := D → Dn → Sto → Option (Dn × Sto)
def PsG (K : PySem.W.Frag) (φ : List Addr) (H : Hp) (Q : L2.St → Hp → Prop) : Option (Dn × Sto) → Prop
  | some (Δ, s') => ∀ φ' σ' H', Fu K φ φ' H H' → So K φ' H' s' → Sg K φ' H' σ' Δ → Q σ' H'
  | none => False
def upG (K : PySem.W.Frag) (g : DGf) : TG := fun v σ H Q => ∃ d Δ φ s, Dt K φ H v d ∧ Sg K φ H σ Δ ∧ So K φ H s ∧ PsG K φ H Q (g d Δ s)
def upGs (K : PySem.W.Frag) (g : List D → Dn → Sto → Option (Dn × Sto)) : TGs := fun v σ H Q => ∃ d Δ φ s, Dts K φ H v d ∧ Sg K φ H σ Δ ∧ So K φ H s ∧ PsG K φ H Q (g d Δ s)
def DGt (X : Cx) (e : Expr) (g : DGf) : Prop := PG X e (upG X.K g)
def DGs (X : Cx) (es : List Expr) (g : List D → Dn → Sto → Option (Dn × Sto)) : Prop := PGs X es (upGs X.K g)
theorem pg_imp {X : Cx} {e : Expr} {t t' : TG} (h : PG X e t) (f : ∀ v σ H Q, t' v σ H Q → t v σ H Q) : PG X e t' := ⟨fun pins s σ H v u Q I r q => h.run pins s σ H v u Q I r (f _ _ _ _ q)⟩
theorem pgs_imp {X : Cx} {e : List Expr} {t t' : TGs} (h : PGs X e t) (f : ∀ v σ H Q, t' v σ H Q → t v σ H Q) : PGs X e t' := ⟨fun pins s σ H v u Q I r q => h.run pins s σ H v u Q I r (f _ _ _ _ q)⟩
theorem PsG.shift {K : PySem.W.Frag} {φ φ' : List Addr} {H H' : Hp} {Q : L2.St → Hp → Prop} (f : Fu K φ φ' H H') : ∀ {r : Option (Dn × Sto)}, PsG K φ H Q r → PsG K φ' H' Q r
  | some (Δ, s'), h => fun ψ b G g so q => h ψ b G (f.trans g) so q
  | none, h => h
def gN (i : Nat) : DGf := fun d Δ s => some (Δ.set i (some d), s)
def gsNil : List D → Dn → Sto → Option (Dn × Sto) := fun ds Δ s => match ds with
  | [] => some (Δ, s)
  | _ => none
def gsCons (g : DGf) (r : List D → Dn → Sto → Option (Dn × Sto)) : List D → Dn → Sto → Option (Dn × Sto) := fun ds Δ s => match ds with
  | d :: ds => match g d Δ s with
    | some (Δ1, s1) => r ds Δ1 s1
    | none => none
  | _ => none
def gTp (n : Nat) (g : List D → Dn → Sto → Option (Dn × Sto)) : DGf := fun d Δ s => match d with
  | .tup xs => if xs.length = n then g xs Δ s else none
  | _ => none
section
variable {X : Cx} {W : WX}
theorem dg_name {i : Nat} {x : Str} {pos : Pos} (hN : X.N.Nodup) (hi : X.N[i]? = some x := by rfl) (hx : Loc X.env.scope x := by first | exact Or.inl rfl | exact Or.inr rfl) (hf : X.fn x = true ∨ X.env.scope.names.lookup x = some .local := by first | exact .inl rfl | exact .inr rfl) : DGt X (.Name x pos) (gN i) :=
  pg_imp (pg_name hN hi hx hf) fun v σ H Q ⟨d, Δ, φ, s, rd, hσ, hs, h⟩ => h φ _ H (Fu.refl _ _) hs (hσ.set rd i)
theorem dgs_nil : DGs X [] gsNil := pgs_imp pgs_nil fun v σ H Q ⟨d, Δ, φ, s, rd, hσ, hs, h⟩ => by
  cases rd with
  | nil => exact ⟨rfl, h φ _ H (Fu.refl _ _) hs hσ⟩
  | cons _ _ => exact h.elim
theorem dgs_cons {e : Expr} {es : List Expr} {g : DGf} {r : List D → Dn → Sto → Option (Dn × Sto)} (h1 : DGt X e g) (h2 : DGs X es r) (hs : (assignEach (e :: es) X.env).map (·.2) = assign e X.env :: (assignEach es X.env).map (·.2) := by rfl) : DGs X (e :: es) (gsCons g r) := pgs_imp (pgs_cons h1 h2 hs) fun v σ H Q ⟨d, Δ, φ, s, rd, hσ, hs, h⟩ => by
  cases rd with
  | nil => exact h.elim
  | cons q rq =>
    rename_i v vs d ds
    refine ⟨_, _, rfl, _, Δ, φ, s, q, hσ, hs, ?_⟩
    simp only [gsCons] at h
    split at h
    · rename_i Δ1 s1 e
      rw [e]
      exact fun ψ σ' G f so hg => ⟨_, Δ1, ψ, s1, rq.fu f, hg, so, h.shift f⟩
    · exact h.elim
theorem dg_tup {es : List Expr} {k : Nat} {g : List D → Dn → Sto → Option (Dn × Sto)} {n : Nat} (hc : X.calm = true) (h : DGs X es g) (hn : (assignEach es X.env).length = n := by rfl) (hst : (assignEach es X.env).findIdx? (·.1) = none := by rfl) {pos : Pos} :
    DGt X (.Tuple es k pos) (gTp n g) := pg_imp (pg_tup hc h hn hst) fun v σ H Q ⟨d, Δ, φ, s, rd, hσ, hs, h⟩ => by
  unfold gTp at h
  split at h
  · rename_i xs
    obtain ⟨a, vs, rfl, hq, r⟩ := rd.tupI
    split at h
    · rename_i hn
      exact ⟨_, _, rfl, hq, by rw [r.length]; exact hn, _, Δ, φ, s, r, hσ, hs, h⟩
    · exact h.elim
  · exact h.elim
/-- o[i] = ., a list -/
def fSet : D → D → D → Sto → Option Sto := fun o i d s => match o, i with
  | .obj n, .int k => match lstAt s n with
    | some xs => match ixN xs.length k with
      | some j => some (s.set n (.lst (xs.set j d)))
      | none => none
    | none => none
  | _, _ => none
def gSb (f : D → D → D → Sto → Option Sto) (do_ di : DX) : DGf := fun d Δ s => match do_ Δ s with
  | some (.ok o, s1) => match di Δ s1 with
    | some (.ok i, s2) => match f o i d s2 with
      | some s3 => some (Δ, s3)
      | none => none
    | _ => none
  | _ => none
theorem upE_at {K : PySem.W.Frag} {de : DX} {σ : L2.St} {Δ : Dn} {φ : List Addr} {H : Hp} {s s1 : Sto} {d : D} {Q : VK} (hσ : Sg K φ H σ Δ) (hs : So K φ H s) (e : de Δ s = some (.ok d, s1)) (q : ∀ φ1 v H1, Fu K φ φ1 H H1 → Sg K φ1 H1 σ Δ → So K φ1 H1 s1 → Dt K φ1 H1 v d → Q v H1) : upE K W de σ H Q :=
  ⟨Δ, φ, s, hσ, hs, by rw [e]; exact fun φ1 v H1 f so r => q φ1 v H1 f (hσ.fu f) so r⟩
theorem dg_sub {o i : Expr} {eo ei : DX} {pos : Pos} (ho : DE X W o eo) (hi : DE X W i ei)
    (ha : ∀ v, assign (.Subscript o i pos) X.env v = (do let ov ← holding [v] (eval o X.env); let iv ← holding [v, ov] (eval i X.env); standAt pos; holding [v, ov, iv] (setItem ov iv v); release [v, ov, iv] []) := by intro _; rfl) : DGt X (.Subscript o i pos) (gSb fSet eo ei) := pg_imp (pg_sub ho hi set_list ha) fun v σ H Q ⟨d, Δ, φ, s, rd, hσ, hs, h⟩ => by
  unfold gSb at h
  split at h
  · rename_i od s1 e1
    refine upE_at hσ hs e1 fun φ1 vo H1 f1 hσ1 hs1 ro => ?_
    split at h
    · rename_i idd s2 e2
      refine upE_at hσ1 hs1 e2 fun φ2 vi H2 f2 hσ2 hs2 ri => ?_
      have ro2 := ro.fu f2
      have rd2 := (rd.fu f1).fu f2
      split at h
      · rename_i s3 e3
        unfold fSet at e3
        split at e3
        · cases ro2
          cases ri
          rename_i a ha
          split at e3
          · rename_i xs e4
            split at e3
            · rename_i j e5
              cases e3
              obtain ⟨vs, k, r⟩ := hs2.lst (lstAt_eq e4) ha
              refine ⟨a, vs, _, j, rfl, rfl, k, by rw [r.length]; exact e5, ?_⟩
              have fu2 : Fu X.K φ2 φ2 H2 (upd H2 a (.lst (vs.set j v))) := fu_set hs2 ha
              exact h φ2 _ _ ((f1.trans f2).trans fu2) (hs2.set ha ⟨_, upd_same, (r.set rd2 j).fu fu2⟩) (hσ2.fu fu2)
            · cases e3
          · cases e3
        · cases e3
      · exact h.elim
    · exact h.elim
  · exact h.elim
/-! ### the statements -/
def dAsg (de : DX) (g : DGf) : DS := fun Δ => sbind (de Δ) Δ fun d s => match g d Δ s with
  | some (Δ', s') => some (.nx Δ', s')
  | none => none
theorem ds_asg {tg e : Expr} {de : DX} {g : DGf} {pos : Pos} (he : DE X W e de) (hg : DGt X tg g) (hs : swapsWithSole [tg] e pos.line X.env = pure false := by rfl) (hw : swappedStores [tg] e X.env = pure none := by rfl) (h1 : (assignEach [tg] X.env).map (·.2) = [assign tg X.env] := by rfl) : DSt X W (.Assign [tg] e pos) (dAsg de g) :=
  ps_imp (ps_asg he hg hs hw h1) fun D σ H ⟨Δ, φ, s, hσ, hs, h⟩ => sbE hσ hs h fun φ1 v H1 d s1 f1 hσ1 hs1 rd h1 => by
    refine ⟨d, Δ, φ1, s1, rd, hσ1, hs1, ?_⟩
    split at h1
    · rename_i Δ' s' e
      rw [e]
      exact h1
    · exact h1.elim
theorem ds_set {i : Nat} {x : Str} {e : Expr} {de : DX} {pos pos' : Pos} (hN : X.N.Nodup) (he : DE X W e de) (hi : X.N[i]? = some x := by rfl) (hx : Loc X.env.scope x := by first | exact Or.inl rfl | exact Or.inr rfl) (hs : swapsWith e (some (.Name x pos')) pos.line X.env = pure false := by rfl)
    (hf : X.fn x = true ∨ X.env.scope.names.lookup x = some .local := by first | exact .inl rfl | exact .inr rfl) : DSt X W (.Assign [.Name x pos'] e pos) (dAsg de (gN i)) :=
  ps_imp (ps_set hN hi hx he hs hf) fun D σ H ⟨Δ, φ, s, hσ, hs, h⟩ => sbE hσ hs h fun φ1 v H1 d s1 f1 hσ1 hs1 rd h1 => h1 φ1 _ H1 (Fu.refl _ _) hs1 (hσ1.set rd i)
def dDrop (de : DX) : DS := fun Δ => sbind (de Δ) Δ fun _ s => some (.nx Δ, s)
theorem ds_expr {e : Expr} {de : DX} {pos : Pos} (he : DE X W e de) (hs : swapsWith e none pos.line X.env = pure false := by rfl) : DSt X W (.Expr e pos) (dDrop de) :=
  ps_imp (ps_expr he hs) fun D σ H ⟨Δ, φ, s, hσ, hs, h⟩ => sbE hσ hs h fun φ1 v H1 d s1 f1 hσ1 hs1 rd h1 => h1 φ1 _ H1 (Fu.refl _ _) hs1 hσ1
def dRet (de : DX) : DS := fun Δ => sbind (de Δ) Δ fun d s => some (.rt d, s)
theorem ds_ret {e : Expr} {de : DX} {pos : Pos} (he : DE X W e de) : DSt X W (.Return (some e) pos) (dRet de) :=
  ps_imp (ps_ret he) fun D σ H ⟨Δ, φ, s, hσ, hs, h⟩ => sbE hσ hs h fun φ1 v H1 d s1 f1 hσ1 hs1 rd h1 => h1 φ1 _ H1 (Fu.refl _ _) hs1 rd
def dRetN : DS := fun _ s => some (.rt .non, s)
theorem ds_retN {pos : Pos} : DSt X W (.Return none pos) dRetN := ps_imp ps_retN fun D σ H ⟨Δ, φ, s, hσ, hs, h⟩ => h φ _ H (Fu.refl _ _) hs .non
def dNx : DS := fun Δ s => some (.nx Δ, s)
def dBk : DS := fun Δ s => some (.bk Δ, s)
def dCt : DS := fun Δ s => some (.ct Δ, s)
theorem ds_pass {pos : Pos} : DSt X W (.Pass pos) dNx := ps_imp ps_pass fun D σ H ⟨Δ, φ, s, hσ, hs, h⟩ => h φ _ H (Fu.refl _ _) hs hσ
theorem ds_break {pos : Pos} : DSt X W (.Break pos) dBk := ps_imp ps_break fun D σ H ⟨Δ, φ, s, hσ, hs, h⟩ => h φ _ H (Fu.refl _ _) hs hσ
theorem ds_continue {pos : Pos} : DSt X W (.Continue pos) dCt := ps_imp ps_continue fun D σ H ⟨Δ, φ, s, hσ, hs, h⟩ => h φ _ H (Fu.refl _ _) hs hσ
/-- what is never reached -/
def dStop : DS := fun _ _ => none
theorem ds_never {st : Stmt} : DSt X W st dStop := ps_imp ps_never fun D σ H ⟨Δ, φ, s, hσ, hs, h⟩ => h.elim
theorem dss_never {st : List Stmt} : DSs X W st dStop := pss_imp pss_never fun D σ H ⟨Δ, φ, s, hσ, hs, h⟩ => h.elim
def dSeq (a b : DS) : DS := fun Δ s => match a Δ s with
  | some (.nx Δ', s') => b Δ' s'
  | r => r
theorem seq_read {K : PySem.W.Frag} {D : Ends} {a b : DS} {Δ : Dn} {φ : List Addr} {H : Hp} {s : Sto} (h : PsS K W D φ H (dSeq a b Δ s)) : PsS K W { D with nx := upS K W b D } φ H (a Δ s) := by
  unfold dSeq at h
  split at h
  · rename_i Δ' s' e
    rw [e]
    exact fun ψ σ' G f so hg => ⟨Δ', ψ, s', hg, so, h.shift f⟩
  · rename_i r
    cases e : a Δ s with
    | none => rw [e] at h; exact h.elim
    | some p =>
      obtain ⟨q, s'⟩ := p
      rw [e] at h
      cases q with
      | nx Δ' => exact absurd e (r _ _)
      | rt d => exact h
      | bk d => exact h
      | ct d => exact h
      | ex x d => exact h
theorem dss_nil : DSs X W [] dNx := pss_imp pss_nil fun D σ H ⟨Δ, φ, s, hσ, hs, h⟩ => h φ _ H (Fu.refl _ _) hs hσ
theorem dss_cons {st : Stmt} {rest : List Stmt} {a b : DS} (h1 : DSt X W st a) (h2 : DSs X W rest b) : DSs X W (st :: rest) (dSeq a b) :=
  pss_imp (pss_cons h1 h2) fun D σ H ⟨Δ, φ, s, hσ, hs, h⟩ => ⟨Δ, φ, s, hσ, hs, seq_read h⟩
theorem dss_one {st : Stmt} {a : DS} (h1 : DSt X W st a) : DSs X W [st] a := pss_one h1
def dIfS (t : DT) (a b : DS) : DS := fun Δ => sbind (t Δ) Δ fun c s => if c = true then a Δ s else b Δ s
theorem ds_if {c : Expr} {p q : List Stmt} {t : DT} {a b : DS} {pos : Pos} (hc : DTe X W c t) (ha : DSs X W p a) (hb : DSs X W q b) : DSt X W (.If c p q pos) (dIfS t a b) :=
  ps_imp (ps_if hc ha hb) fun D σ H ⟨Δ, φ, s, hσ, hs, h⟩ => sbT hσ hs h fun φ1 c H1 s1 f1 hσ1 hs1 h1 => by
    cases c with
    | true => exact iteT ⟨Δ, φ1, s1, hσ1, hs1, h1⟩
    | false => exact iteF ⟨Δ, φ1, s1, hσ1, hs1, h1⟩
/-! ### while -/
def whRun (t : DT) (b : DS) : Nat → DS
  | 0 => fun _ _ => none
  | n + 1 => fun Δ => sbind (t Δ) Δ fun c s => if c = true then (match b Δ s with
    | some (.nx Δ', s') => whRun t b n Δ' s'
    | some (.ct Δ', s') => whRun t b n Δ' s'
    | some (.bk Δ', s') => some (.nx Δ', s')
    | r => r) else some (.nx Δ, s)
theorem ds_while (n : Nat) {c : Expr} {body : List Stmt} {t : DT} {b : DS} {pos : Pos} (hp : PassesOwn (model X.prog X.w) X.A X.env X.xe) (hc : DTe X W c t) (hb : DSs X W body b) : DSt X W (.While c body [] pos) (whRun t b n) :=
  ps_imp (ps_while hp hc hb) fun D σ H ⟨Δ, φ, s, hσ, hs, h⟩ => by
    refine ⟨fun m σ H => ∃ Δ φ s, Sg X.K φ H σ Δ ∧ So X.K φ H s ∧ PsS X.K W D φ H (whRun t b m Δ s), ⟨n, Δ, φ, s, hσ, hs, h⟩, ?_⟩
    rintro m σ H ⟨Δ, φ, s, hσ, hs, h⟩
    cases m with
    | zero => exact h.elim
    | succ m =>
      refine sbT hσ hs h fun φ1 c H1 s1 f1 hσ1 hs1 h1 => ?_
      cases c with
      | false => exact iteF (h1 φ1 _ H1 (Fu.refl _ _) hs1 hσ1)
      | true =>
        refine iteT ⟨fun σ' H' => ∃ Δ φ s, Sg X.K φ H' σ' Δ ∧ So X.K φ H' s ∧ PsS X.K W D φ H' (whRun t b m Δ s), fun σ' H' w => ⟨m, Nat.lt_succ_self m, w⟩, Δ, φ1, s1, hσ1, hs1, ?_⟩
        rw [if_pos rfl] at h1
        cases e : b Δ s1 with
        | none => rw [e] at h1; exact h1.elim
        | some p =>
          obtain ⟨q, s'⟩ := p
          rw [e] at h1
          cases q with
          | nx Δ' => exact fun ψ σ' G f so hg => ⟨Δ', ψ, s', hg, so, h1.shift f⟩
          | ct Δ' => exact fun ψ σ' G f so hg => ⟨Δ', ψ, s', hg, so, h1.shift f⟩
          | rt d => exact h1
          | bk d => exact h1
          | ex x d => exact h1
end
end DV

namespace DV
open PySem L2 PyProof.Rows
/-! ### what a loop walks -/
mutual
def D.beq : D → D → Bool
  | .non, .non => true
  | .bl a, .bl b => a == b
  | .int a, .int b => a == b
  | .str a, .str b => decide (a = b)
  | .tup xs, .tup ys => D.beqs xs ys
  | .obj a, .obj b => a == b
  | .adr a, .adr b => a == b
  | .ty a, .ty b => a == b
  | .fz xs, .fz ys => D.beqs xs ys
  | .exc c ks xs, .exc d ls ys => c == d && decide (ks = ls) && D.beqs xs ys
  | _, _ => false
def D.beqs : List D → List D → Bool
  | [], [] => true
  | x :: xs, y :: ys => D.beq x y && D.beqs xs ys
  | _, _ => false
end
mutual
theorem D.beq_eq : ∀ {x y : D}, D.beq x y = true → x = y
  | .non, .non, _ => rfl
  | .bl a, .bl b, h => by rw [eq_of_beq (show (a == b) = true from h)]
  | .int a, .int b, h => by rw [eq_of_beq (show (a == b) = true from h)]
  | .str a, .str b, h => by rw [of_decide_eq_true (show decide (a = b) = true from h)]
  | .tup xs, .tup ys, h => by rw [D.beqs_eq (show D.beqs xs ys = true from h)]
  | .obj a, .obj b, h => by rw [eq_of_beq (show (a == b) = true from h)]
  | .adr a, .adr b, h => by rw [eq_of_beq (show (a == b) = true from h)]
  | .ty a, .ty b, h => by rw [eq_of_beq (show (a == b) = true from h)]
  | .fz xs, .fz ys, h => by rw [D.beqs_eq (show D.beqs xs ys = true from h)]
  | .exc c ks xs, .exc d ls ys, h => by
    have h : (c == d && decide (ks = ls) && D.beqs xs ys) = true := h
    rw [Bool.and_eq_true, Bool.and_eq_true] at h
    rw [eq_of_beq h.1.1, of_decide_eq_true h.1.2, D.beqs_eq h.2]
theorem D.beqs_eq : ∀ {xs ys : List D}, D.beqs xs ys = true → xs = ys
  | [], [], _ => rfl
  | x :: xs, y :: ys, h => by
    have h : (D.beq x y && D.beqs xs ys) = true := h
    rw [Bool.and_eq_true] at h
    rw [D.beq_eq h.1, D.beqs_eq h.2]
end
mutual
theorem D.beq_self : ∀ x : D, D.beq x x = true
  | .non => rfl
  | .bl a => beq_self_eq_true a
  | .int a => beq_self_eq_true a
  | .str a => decide_eq_true rfl
  | .tup xs => D.beqs_self xs
  | .obj a => beq_self_eq_true a
  | .adr a => beq_self_eq_true a
  | .ty a => beq_self_eq_true a
  | .fz xs => D.beqs_self xs
  | .exc c ks xs => by
    show (c == c && decide (ks = ks) && D.beqs xs xs) = true
    rw [D.beqs_self xs]
    simp
theorem D.beqs_self : ∀ xs : List D, D.beqs xs xs = true
  | [] => rfl
  | x :: xs => by
    show (D.beq x x && D.beqs xs xs) = true
    rw [D.beq_self x, D.beqs_self xs]
    rfl
end
/-- the items; the list of the store that must stand as it is -/
structure Itd where
  its : List D
  src : Option (Nat × List D)
def Itd.still (I : Itd) (s : Sto) : Bool := match I.src with
  | none => true
  | some (n, xs) => match lstAt s n with
    | some ys => D.beqs ys xs
    | none => false
theorem Itd.still_at {I : Itd} {s : Sto} (h : I.still s = true) : ∀ n xs, I.src = some (n, xs) → lstAt s n = some xs := fun n xs e => by
  unfold Itd.still at h
  rw [e] at h
  simp only at h
  split at h
  · rename_i ys e2
    rw [e2, D.beqs_eq h]
  · cases h
/-- from now on, while it stands, J yields the items -/
def Yl (K : PySem.W.Frag) (φ : List Addr) (H : Hp) (J : It) (I : Itd) : Prop := ∀ φ' H' s', Fu K φ φ' H H' → So K φ' H' s' → (∀ n xs, I.src = some (n, xs) → lstAt s' n = some xs) →
  ∀ i, (∀ d, I.its[i]? = some d → J.go i H' ∧ ∀ x H'', J.yld i H' x H'' → Fu K φ' φ' H' H'' ∧ So K φ' H'' s' ∧ Dt K φ' H'' x d) ∧ (I.its.length ≤ i → J.stop i H')
abbrev DI := Dn → M Itd
def upI (K : PySem.W.Frag) (W : WX) (di : DI) : TI := fun σ H R => ∃ Δ φ s, Sg K φ H σ Δ ∧ So K φ H s ∧ Ps K (wAt W σ) (Yl K) φ H (fun _ J H' _ _ => R J H') (di Δ s)
def DIt (X : Cx) (W : WX) (tg e : Expr) (di : DI) : Prop := PI X tg e (upI X.K W di)
theorem pi_imp {X : Cx} {tg e : Expr} {t t' : TI} (h : PI X tg e t) (f : ∀ σ H R, t' σ H R → t σ H R) : PI X tg e t' := ⟨fun pins s σ H R I q => h.run pins s σ H R I (f _ _ _ q)⟩
section
variable {K : PySem.W.Frag} {φ : List Addr} {H : Hp} {s : Sto}
theorem yl_range (lo : Int) (n : Nat) : Yl K φ H (Itr lo n) ⟨(List.range n).map fun i => .int (lo + (i : Nat)), none⟩ := fun φ' H' s' f so _ i => by
  refine ⟨fun d e => ?_, fun h => by have h2 : n ≤ i := by simpa using h
                                     exact h2⟩
  rw [List.getElem?_map] at e
  cases q : (List.range n)[i]? with
  | none => rw [q] at e; cases e
  | some j =>
    rw [q] at e
    cases e
    obtain ⟨hl, hj⟩ := List.getElem?_eq_some_iff.mp q
    rw [List.getElem_range] at hj
    subst hj
    have hl2 : i < n := by simpa using hl
    refine ⟨hl2, fun x H'' y => ?_⟩
    obtain ⟨rfl, rfl⟩ := y
    exact ⟨Fu.refl _ _, so, .int _⟩
theorem yl_list {n : Nat} {a : Addr} {xs : List D} (ha : φ[n]? = some a) : Yl K φ H (Itl K a) ⟨xs, some (n, xs)⟩ := fun φ' H' s' f so st i => by
  obtain ⟨vs, k, r⟩ := so.lst (lstAt_eq (st n xs rfl)) (f.get ha)
  refine ⟨fun d e => ?_, fun h => ⟨vs, SqL.of k, by rw [r.length]; exact h⟩⟩
  obtain ⟨v, hv, rv⟩ := r.get e
  refine ⟨⟨vs, v, SqL.of k, hv⟩, fun x H'' y => ?_⟩
  obtain ⟨rfl, y⟩ := y
  have e2 := y vs (SqL.of k)
  rw [hv] at e2
  cases e2
  exact ⟨Fu.refl _ _, so, rv⟩
theorem yl_tup {a : Addr} {vs : List V} {xs : List D} (h : SqT K H a vs) (r : Dts K φ H vs xs) : Yl K φ H (Itt K a) ⟨xs, none⟩ := fun φ' H' s' f so st i => by
  have k := f.go _ _ h
  refine ⟨fun d e => ?_, fun h => ⟨vs, k, by rw [r.length]; exact h⟩⟩
  obtain ⟨v, hv, rv⟩ := r.get e
  refine ⟨⟨vs, v, k, hv⟩, fun x H'' y => ?_⟩
  obtain ⟨rfl, y⟩ := y
  have e2 := y vs k
  rw [hv] at e2
  cases e2
  exact ⟨Fu.refl _ _, so, rv.fu f⟩
def enumD : Nat → List D → List D
  | _, [] => []
  | k, d :: r => .tup [.int (k : Nat), d] :: enumD (k + 1) r
theorem enumD_len : ∀ (xs : List D) (k : Nat), (enumD k xs).length = xs.length
  | [], _ => rfl
  | _ :: r, k => by simp only [enumD, List.length_cons]; rw [enumD_len r (k + 1)]
theorem enumD_get : ∀ (xs : List D) (k i : Nat) (d : D), (enumD k xs)[i]? = some d → ∃ x, xs[i]? = some x ∧ d = .tup [.int ((k + i : Nat) : Int), x]
  | [], _, _, _, e => by cases e
  | x :: r, k, 0, d, e => by cases e; exact ⟨x, rfl, rfl⟩
  | x :: r, k, i + 1, d, e => by
    obtain ⟨y, h1, h2⟩ := enumD_get r (k + 1) i d e
    exact ⟨y, h1, by rw [h2]; congr 3; omega⟩
theorem yl_enum {n : Nat} {a : Addr} {xs : List D} (ha : φ[n]? = some a) : Yl K φ H (Ite K a) ⟨enumD 0 xs, some (n, xs)⟩ := fun φ' H' s' f so st i => by
  obtain ⟨vs, k, r⟩ := so.lst (lstAt_eq (st n xs rfl)) (f.get ha)
  refine ⟨fun d e => ?_, fun h => ⟨vs, SqL.of k, by rw [r.length]; rw [enumD_len] at h; exact h⟩⟩
  obtain ⟨x, hx, rfl⟩ := enumD_get xs 0 i d e
  obtain ⟨v, hv, rv⟩ := r.get hx
  refine ⟨⟨vs, v, SqL.of k, hv⟩, fun w H'' y => ?_⟩
  obtain ⟨T, z, rfl, hT, rfl, y⟩ := y
  have e2 := y vs (SqL.of k)
  rw [hv] at e2
  cases e2
  have fT : Fu K φ' φ' H' (upd H' T (.tup [.int (i : Nat), v])) := fu_new hT
  exact ⟨fT, so.new hT, .tup (SqT.of upd_same) (.cons (by rw [Nat.zero_add]; exact .int _) (.cons (rv.fu fT) .nil))⟩
end
/-- a text's signs -/
theorem yl_str {K : PySem.W.Frag} {φ : List Addr} {H : Hp} (z : Str) : Yl K φ H (Its z) ⟨z.cps.toList.map fun c => .str ⟨#[c]⟩, none⟩ := fun φ' H' s' f so _ i => by
  refine ⟨fun d e => ?_, fun h => by have h2 : z.cps.size ≤ i := by simpa using h
                                     exact h2⟩
  rw [List.getElem?_map] at e
  cases q : z.cps.toList[i]? with
  | none => rw [q] at e; cases e
  | some c =>
    rw [q] at e
    cases e
    have hl := (List.getElem?_eq_some_iff.mp q).1
    have hl2 : i < z.cps.size := by simpa using hl
    refine ⟨hl2, fun x H'' y => ?_⟩
    obtain ⟨rfl, c', hc, rfl⟩ := y
    rw [Array.getElem?_toList] at q
    rw [q] at hc
    cases hc
    exact ⟨Fu.refl _ _, so, .str _⟩
section
variable {X : Cx} {W : WX}
def iSeqL (da : DX) : DI := fun Δ => mbind (da Δ) fun x s => match x with
  | .obj n => match lstAt s n with
    | some xs => some (.ok ⟨xs, some (n, xs)⟩, s)
    | none => none
  | _ => none
theorem di_list {tg e : Expr} {da : DX} (h : DE X W e da) : DIt X W tg e (iSeqL da) := pi_imp (pi_list h) fun σ H R ⟨Δ, φ, s, hσ, hs, h⟩ => upE_bind hσ hs h fun φ1 v H1 x s1 f1 hσ1 hs1 rx h1 => by
  split at h1
  · rename_i n
    cases rx
    rename_i a ha
    split at h1
    · rename_i xs e
      obtain ⟨vs, k, r⟩ := hs1.lst (lstAt_eq e) ha
      exact ⟨a, rfl, ⟨vs, SqL.of k⟩, h1.ok hs1 (yl_list ha)⟩
    · exact h1.elim
  · exact h1.elim
def iSeqT (da : DX) : DI := fun Δ => mbind (da Δ) fun x s => match x with
  | .tup xs => some (.ok ⟨xs, none⟩, s)
  | _ => none
theorem di_tup {tg e : Expr} {da : DX} (h : DE X W e da) : DIt X W tg e (iSeqT da) := pi_imp (pi_tup h) fun σ H R ⟨Δ, φ, s, hσ, hs, h⟩ => upE_bind hσ hs h fun φ1 v H1 x s1 f1 hσ1 hs1 rx h1 => by
  split at h1
  · obtain ⟨a, vs, rfl, hq, r⟩ := rx.tupI
    exact ⟨a, rfl, ⟨vs, hq⟩, h1.ok hs1 (yl_tup hq r)⟩
  · exact h1.elim
def iSeqS (da : DX) : DI := fun Δ => mbind (da Δ) fun x s => match x with
  | .str z => some (.ok ⟨z.cps.toList.map fun c => .str ⟨#[c]⟩, none⟩, s)
  | _ => none
theorem di_str {tg e : Expr} {da : DX} (h : DE X W e da) : DIt X W tg e (iSeqS da) := pi_imp (pi_str h) fun σ H R ⟨Δ, φ, s, hσ, hs, h⟩ => upE_bind hσ hs h fun φ1 v H1 x s1 f1 hσ1 hs1 rx h1 => by
  split at h1
  · rename_i z
    cases rx
    exact ⟨z, rfl, h1.ok hs1 (yl_str z)⟩
  · exact h1.elim
def rngOk (i : Int) : Bool := decide (-(2 ^ 62) ≤ i) && decide (i < 2 ^ 62)
def rngI (lo : Int) (n : Nat) : Itd := ⟨(List.range n).map fun i => .int (lo + (i : Nat)), none⟩
def iRange1 (da : DA) : DI := fun Δ => mbind (da Δ) fun xs s => match xs with
  | [.int j] => if rngOk j = true then some (.ok (rngI 0 j.toNat), s) else none
  | _ => none
def iRange2 (da : DA) : DI := fun Δ => mbind (da Δ) fun xs s => match xs with
  | [.int i, .int j] => if (rngOk i && rngOk j) = true then some (.ok (rngI i (j - i).toNat), s) else none
  | _ => none
theorem rngOk_iff {i : Int} (h : rngOk i = true) : -(2 ^ 62) ≤ i ∧ i < 2 ^ 62 := by
  unfold rngOk at h
  simpa only [Bool.and_eq_true, decide_eq_true_eq] using h
theorem di_range1 {tg a : Expr} {da : DA} {p pos : Pos} (hg : Gl X "range") (hm : X.mg "range" = none) (ha : DAs X W [a] da) (hs : starEach [a] X.env = [(false, eval a X.env)] := by rfl) : DIt X W tg (.Call (.Name "range" p) [a] [] pos) (iRange1 da) :=
  pi_imp (pi_range1 hg hm ha hs) fun σ H R ⟨Δ, φ, s, hσ, hs, h⟩ => upA_bind hσ hs h fun φ1 v H1 x s1 f1 hσ1 hs1 rx h1 => by
    split at h1
    · rename_i j
      obtain ⟨u, rfl, r⟩ := dts1 rx
      cases r
      split at h1
      · rename_i hz
        obtain ⟨z1, z2⟩ := rngOk_iff hz
        exact ⟨j, rfl, z1, z2, h1.ok hs1 (yl_range 0 _)⟩
      · exact h1.elim
    · exact h1.elim
theorem di_range2 {tg a b : Expr} {da : DA} {p pos : Pos} (hg : Gl X "range") (hm : X.mg "range" = none) (ha : DAs X W [a, b] da) (hs : starEach [a, b] X.env = [(false, eval a X.env), (false, eval b X.env)] := by rfl)
    (hs2 : starEach [b] X.env = [(false, eval b X.env)] := by rfl) : DIt X W tg (.Call (.Name "range" p) [a, b] [] pos) (iRange2 da) :=
  pi_imp (pi_range2 hg hm ha hs hs2) fun σ H R ⟨Δ, φ, s, hσ, hs, h⟩ => upA_bind hσ hs h fun φ1 v H1 x s1 f1 hσ1 hs1 rx h1 => by
    split at h1
    · rename_i i j
      obtain ⟨u, w, rfl, r, r'⟩ := dts2 rx
      cases r
      cases r'
      split at h1
      · rename_i hz
        rw [Bool.and_eq_true] at hz
        obtain ⟨z1, z2⟩ := rngOk_iff hz.1
        obtain ⟨z3, z4⟩ := rngOk_iff hz.2
        exact ⟨i, j, rfl, ⟨z1, z2, z3, z4⟩, h1.ok hs1 (yl_range i _)⟩
      · exact h1.elim
    · exact h1.elim
/-- enumerate(list): the list stands -/
def iEnum (da : DA) : DI := fun Δ => mbind (da Δ) fun xs s => match xs with
  | [.obj n] => match lstAt s n with
    | some ys => some (.ok ⟨enumD 0 ys, some (n, ys)⟩, s)
    | none => none
  | _ => none
theorem di_enum {elts : List Expr} {kk : Nat} {tpos : Pos} {e : Expr} {da : DA} {p pos : Pos} (hg : Gl X "enumerate") (hm : X.mg "enumerate" = none) (ha : DAs X W [e] da) (hs : starEach [e] X.env = [(false, eval e X.env)] := by rfl) : DIt X W (.Tuple elts kk tpos) (.Call (.Name "enumerate" p) [e] [] pos) (iEnum da) :=
  pi_imp (pi_enum hg hm ha hs) fun σ H R ⟨Δ, φ, s, hσ, hs, h⟩ => upA_bind hσ hs h fun φ1 v H1 x s1 f1 hσ1 hs1 rx h1 => by
    split at h1
    · rename_i n
      obtain ⟨u, rfl, r⟩ := dts1 rx
      cases r
      rename_i a ha
      split at h1
      · rename_i xs e
        obtain ⟨vs, k, r⟩ := hs1.lst (lstAt_eq e) ha
        exact ⟨a, vs, rfl, SqL.of k, h1.ok hs1 (yl_enum ha)⟩
      · exact h1.elim
    · exact h1.elim
/-! ### for -/
def forRun (I : Itd) (g : DGf) (b : DS) : List D → DS
  | [], Δ, s => if I.still s = true then some (.nx Δ, s) else none
  | d :: r, Δ, s => if I.still s = true then (match g d Δ s with
    | some (Δ1, s1) => match b Δ1 s1 with
      | some (.nx Δ2, s2) => forRun I g b r Δ2 s2
      | some (.ct Δ2, s2) => forRun I g b r Δ2 s2
      | some (.bk Δ2, s2) => some (.nx Δ2, s2)
      | q => q
    | none => none) else none
def dFor (di : DI) (g : DGf) (b : DS) : DS := fun Δ => sbind (di Δ) Δ fun I s => forRun I g b I.its Δ s
theorem ds_for {tg iter : Expr} {body : List Stmt} {di : DI} {g : DGf} {b : DS} {pos : Pos} (hp : PassesOwn (model X.prog X.w) X.A X.env X.xe) (hc : X.calm = true) (hi : DIt X W tg iter di) (hg : DGt X tg g) (hb : DSs X W body b)
    (hs : ∀ x, foldedSetIterable iter X.env x = pure x := by intro _; rfl) : DSt X W (.For tg iter body [] pos) (dFor di g b) :=
  ps_imp (ps_for hp hc hi hg hb hs) fun D σ H ⟨Δ, φ, s, hσ, hs, h⟩ => by
    refine ⟨Δ, φ, s, hσ, hs, Ps.mono (fun φ1 J H1 I s1 z => ?_) (sb (R := Yl X.K) hσ h)⟩
    obtain ⟨f1, so1, yl, h1⟩ := z
    have hσ1 := hσ.fu f1
    refine ⟨fun i m σ' H' => m = I.its.length - i ∧ i ≤ I.its.length ∧ ∃ Δ' ψ s', Fu X.K φ1 ψ H1 H' ∧ So X.K ψ H' s' ∧ Sg X.K ψ H' σ' Δ' ∧ PsS X.K W D ψ H' (forRun I g b (I.its.drop i) Δ' s'),
      ⟨_, rfl, Nat.zero_le _, Δ, φ1, s1, Fu.refl _ _, so1, hσ1, h1⟩, ?_⟩
    rintro i m σ' H' ⟨rfl, hi, Δ', ψ, s', f, so, hg', h'⟩
    by_cases hl : i < I.its.length
    · rw [List.drop_eq_getElem_cons hl] at h'
      unfold forRun at h'
      by_cases st : I.still s' = true
      · rw [if_pos st] at h'
        obtain ⟨y1, _⟩ := yl ψ H' s' f so (Itd.still_at st) i
        obtain ⟨go, yld⟩ := y1 _ (List.getElem?_eq_getElem hl)
        refine .inr ⟨go, fun σ2 H2 => i + 1 ≤ I.its.length ∧ ∃ Δ' ψ s', Fu X.K φ1 ψ H1 H2 ∧ So X.K ψ H2 s' ∧ Sg X.K ψ H2 σ2 Δ' ∧ PsS X.K W D ψ H2 (forRun I g b (I.its.drop (i + 1)) Δ' s'), fun σ2 H2 z => ⟨_, by omega, rfl, z.1, z.2⟩, fun x H2 y => ?_⟩
        obtain ⟨f2, so2, rx⟩ := yld x H2 y
        refine ⟨_, Δ', ψ, s', rx, hg'.fu f2, so2, ?_⟩
        cases e : g I.its[i] Δ' s' with
        | none => rw [e] at h'; exact h'.elim
        | some p =>
          obtain ⟨Δ1, s1'⟩ := p
          rw [e] at h'
          refine fun ψ3 σ3 H3 f3 so3 hg3 => ⟨Δ1, ψ3, s1', hg3, so3, ?_⟩
          have h3 := h'.shift (f2.trans f3)
          have ff := (f.trans f2).trans f3
          cases e2 : b Δ1 s1' with
          | none => simp only [e2] at h3; exact h3.elim
          | some p =>
            obtain ⟨q, s2⟩ := p
            simp only [e2] at h3
            cases q with
            | nx Δ2 => exact fun ψ4 σ4 H4 f4 so4 hg4 => ⟨hl, Δ2, ψ4, s2, ff.trans f4, so4, hg4, h3.shift f4⟩
            | ct Δ2 => exact fun ψ4 σ4 H4 f4 so4 hg4 => ⟨hl, Δ2, ψ4, s2, ff.trans f4, so4, hg4, h3.shift f4⟩
            | bk Δ2 => exact h3
            | rt d => exact h3
            | ex x d => exact h3
      · rw [if_neg st] at h'
        exact h'.elim
    · have e : i = I.its.length := by omega
      subst e
      rw [List.drop_length] at h'
      unfold forRun at h'
      by_cases st : I.still s' = true
      · rw [if_pos st] at h'
        obtain ⟨_, y2⟩ := yl ψ H' s' f so (Itd.still_at st) I.its.length
        exact .inl ⟨y2 (Nat.le_refl _), h' ψ σ' H' (Fu.refl _ _) so hg'⟩
      · rw [if_neg st] at h'
        exact h'.elim
/-! ### list comprehensions -/
def wipeD (Δ : Dn) : List Nat → Dn
  | [] => Δ
  | v :: vs => (wipeD Δ vs).set v none
theorem wipe_sg {K : PySem.W.Frag} {φ : List Addr} {H : Hp} {σ : L2.St} {Δ : Dn} (h : Sg K φ H σ Δ) : ∀ vs : List Nat, Sg K φ H (wipe σ vs) (wipeD Δ vs)
  | [] => h
  | v :: vs => (wipe_sg h vs).forget v none
/-- the turns of a comprehension: the new list stands at n -/
def lcRun (I : Itd) (g : DGf) (tt : DT) (de : DX) (n : Nat) : List D → Dn → Sto → Option Sto
  | [], _, s => if I.still s = true then some s else none
  | d :: r, Δ, s => if I.still s = true then (match g d Δ s with
    | some (Δ1, s1) => match tt Δ1 s1 with
      | some (.ok true, s2) => match de Δ1 s2 with
        | some (.ok y, s3) => match lstAt s3 n with
          | some acc => if acc.length < sizeLine then lcRun I g tt de n r Δ (s3.set n (.lst (acc ++ [y]))) else none
          | none => none
        | _ => none
      | some (.ok false, s2) => lcRun I g tt de n r Δ s2
      | _ => none
    | none => none) else none
def dYes : DT := fun _ => mret true
def dLc (vs : List Nat) (di : DI) (g : DGf) (tt : DT) (de : DX) : DX := fun Δ => mbind (di Δ) fun I s => match lcRun I g tt de s.length I.its (wipeD Δ vs) (s ++ [.lst []]) with
  | some s' => some (.ok (.obj s.length), s')
  | none => none
abbrev W0 : WX := fun _ _ _ _ => False
def DTs (X : Cx) (W : WX) (ifs : List Expr) (dt : DT) : Prop := PTs X ifs (upT X.K W dt)
theorem dts_nil : DTs X W [] dYes := ⟨fun pins s σ H Q I ⟨Δ, φ, st, hσ, hs, h⟩ => pts_nil.run pins s σ H Q I (h.ok hs rfl)⟩
theorem dts_one {c : Expr} {dt : DT} (h : DTe X W c dt) : DTs X W [c] dt := pts_one h
end
end DV

namespace DV
open PySem L2 PyProof.Rows
theorem wipe_get (σ : L2.St) (j : Nat) : ∀ vs : List Nat, (wipe σ vs)[j]? = if j ∈ vs then (σ[j]?).map (fun _ => none) else σ[j]?
  | [] => by simp [wipe]
  | v :: vs => by
    have ih := wipe_get σ j vs
    unfold wipe
    by_cases e : v = j
    · subst e
      by_cases hl : v < σ.length
      · rw [List.getElem?_set_self (by rw [wipe_length]; exact hl)]
        simp [hl]
      · rw [List.getElem?_eq_none (by rw [List.length_set, wipe_length]; omega)]
        simp [List.getElem?_eq_none (Nat.le_of_not_lt hl)]
    · rw [List.getElem?_set_ne e, ih]
      by_cases h : j ∈ vs
      · simp [h]
      · have : j ∉ v :: vs := by simp only [List.mem_cons, not_or]; exact ⟨fun z => e z.symm, h⟩
        simp [h, this]
theorem wipe_set {σ : L2.St} {vs : List Nat} {i : Nat} {o : Option V} (h : i ∈ vs) : wipe (σ.set i o) vs = wipe σ vs := by
  apply List.ext_getElem?
  intro j
  rw [wipe_get, wipe_get]
  by_cases hj : j ∈ vs
  · rw [if_pos hj, if_pos hj]
    by_cases e : i = j
    · subst e
      by_cases hl : i < σ.length
      · rw [List.getElem?_set_self hl, List.getElem?_eq_getElem hl]; rfl
      · rw [List.getElem?_eq_none (by rw [List.length_set]; omega), List.getElem?_eq_none (by omega)]
    · rw [List.getElem?_set_ne e]
  · rw [if_neg hj, if_neg hj, List.getElem?_set_ne (fun e => hj (by rw [← e]; exact h))]
theorem wipe_wipe {σ : L2.St} {vs : List Nat} : wipe (wipe σ vs) vs = wipe σ vs := by
  apply List.ext_getElem?
  intro j
  rw [wipe_get, wipe_get]
  by_cases hj : j ∈ vs
  · rw [if_pos hj, if_pos hj]; cases σ[j]? <;> rfl
  · rw [if_neg hj, if_neg hj]
/-- a target of a comprehension: names of its own -/
def NgOk (K : PySem.W.Frag) (vs : List Nat) (t : TG) (g : DGf) : Prop := ∀ v d σ Δ φ H s Δ' s' Q, Dt K φ H v d → Sg K φ H σ Δ → g d Δ s = some (Δ', s') → (s' = s → ∀ σ', wipe σ' vs = wipe σ vs → Sg K φ H σ' Δ' → Q σ' H) → t v σ H Q
def NgsOk (K : PySem.W.Frag) (vs : List Nat) (t : TGs) (g : List D → Dn → Sto → Option (Dn × Sto)) : Prop := ∀ v d σ Δ φ H s Δ' s' Q, Dts K φ H v d → Sg K φ H σ Δ → g d Δ s = some (Δ', s') → (s' = s → ∀ σ', wipe σ' vs = wipe σ vs → Sg K φ H σ' Δ' → Q σ' H) → t v σ H Q
theorem ng_name {K : PySem.W.Frag} {vs : List Nat} {i : Nat} (h : i ∈ vs) : NgOk K vs (gName i) (gN i) := fun v d σ Δ φ H s Δ' s' Q rd hσ e q => by
  cases e
  exact q rfl _ (wipe_set h) (hσ.set rd i)
theorem ngs_nil {K : PySem.W.Frag} {vs : List Nat} : NgsOk K vs gNil gsNil := fun v d σ Δ φ H s Δ' s' Q rd hσ e q => by
  unfold gsNil at e
  split at e
  · cases e
    cases rd
    exact ⟨rfl, q rfl σ rfl hσ⟩
  · cases e
theorem ngs_cons {K : PySem.W.Frag} {vs : List Nat} {t : TG} {u : TGs} {g : DGf} {r : List D → Dn → Sto → Option (Dn × Sto)} (h1 : NgOk K vs t g) (h2 : NgsOk K vs u r) : NgsOk K vs (gCons t u) (gsCons g r) := fun v d σ Δ φ H s Δ' s' Q rd hσ e q => by
  unfold gsCons at e
  split at e
  · cases rd
    rename_i q1 q2
    split at e
    · rename_i Δ1 s1 e1
      refine ⟨_, _, rfl, h1 _ _ σ Δ φ H s Δ1 s1 _ q1 hσ e1 fun es σ1 w1 hσ1 => ?_⟩
      subst es
      exact h2 _ _ σ1 Δ1 φ H _ Δ' s' _ q2 hσ1 e fun es2 σ2 w2 hσ2 => q es2 σ2 (w2.trans w1) hσ2
    · cases e
  · cases e
theorem ng_tup {K : PySem.W.Frag} {vs : List Nat} {n : Nat} {u : TGs} {r : List D → Dn → Sto → Option (Dn × Sto)} (h : NgsOk K vs u r) : NgOk K vs (gTup K n u) (gTp n r) := fun v d σ Δ φ H s Δ' s' Q rd hσ e q => by
  unfold gTp at e
  split at e
  · obtain ⟨a, ws, rfl, hq, rr⟩ := rd.tupI
    split at e
    · rename_i hn
      exact ⟨a, ws, rfl, hq, by rw [rr.length]; exact hn, h _ _ σ Δ φ H s Δ' s' _ rr hσ e q⟩
    · cases e
  · cases e
section
variable {X : Cx} {W : WX}
theorem lc_read {K : PySem.W.Frag} {vs : List Nat} {t : TG} {g : DGf} {di : DI} {tt : DT} {de : DX} {σ : L2.St} {H : Hp} {Q : VK} (ng : NgOk K vs t g) (h : upE K W (dLc vs di g tt de) σ H Q) :
    tLc (upI K W di) t (upT K W0 tt) (upE K W0 de) vs σ H Q := by
  obtain ⟨Δ, φ, s, hσ, hs, h⟩ := h
  refine ⟨Δ, φ, s, hσ, hs, Ps.mono (fun φ1 J H1 I s1 z => ?_) (Ps.bind (R := Yl K) h)⟩
  obtain ⟨f1, so1, yl, h1⟩ := z
  have hσ1 := hσ.fu f1
  intro Dd hD
  split at h1
  case h_2 => exact h1.elim
  rename_i sf ef
  have fD : Fu K φ1 (φ1 ++ [Dd]) H1 (upd H1 Dd (.lst [])) := fu_newO hD
  have soD : So K (φ1 ++ [Dd]) (upd H1 Dd (.lst [])) (s1 ++ [.lst []]) := Dts.newO so1 hD .nil
  have gD : (φ1 ++ [Dd])[s1.length]? = some Dd := by rw [so1.len, List.getElem?_append_right (Nat.le_refl _)]; simp
  refine ⟨fun i m H' => m = I.its.length - i ∧ i ≤ I.its.length ∧ ∃ ψ s', Fu K φ1 ψ H1 H' ∧ So K ψ H' s' ∧ ψ[s1.length]? = some Dd ∧ lcRun I g tt de s1.length (I.its.drop i) (wipeD Δ vs) s' = some sf,
    ⟨_, rfl, Nat.zero_le _, _, _, fD, soD, gD, ef⟩, ?_⟩
  rintro i m H' ⟨rfl, hi, ψ, s', f, so, gd, e⟩
  by_cases hl : i < I.its.length
  · rw [List.drop_eq_getElem_cons hl] at e
    unfold lcRun at e
    by_cases st : I.still s' = true
    · rw [if_pos st] at e
      obtain ⟨y1, _⟩ := yl ψ H' s' f so (Itd.still_at st) i
      obtain ⟨go, yld⟩ := y1 _ (List.getElem?_eq_getElem hl)
      refine .inr ⟨go, fun H2 => i + 1 ≤ I.its.length ∧ ∃ ψ s', Fu K φ1 ψ H1 H2 ∧ So K ψ H2 s' ∧ ψ[s1.length]? = some Dd ∧ lcRun I g tt de s1.length (I.its.drop (i + 1)) (wipeD Δ vs) s' = some sf, fun H2 z => ⟨_, by omega, rfl, z.1, z.2⟩, fun x H2 y => ?_⟩
      obtain ⟨f2, so2, rx⟩ := yld x H2 y
      have ff := f.trans f2
      cases eg : g I.its[i] (wipeD Δ vs) s' with
      | none => rw [eg] at e; cases e
      | some p =>
        obtain ⟨Δ1, s2⟩ := p
        simp only [eg] at e
        refine ng x _ (wipe σ vs) (wipeD Δ vs) ψ H2 s' Δ1 s2 _ rx (wipe_sg (hσ1.fu ff) vs) eg fun es σ2 w2 hσ2 => ⟨w2.trans wipe_wipe, ?_⟩
        subst es
        cases et : tt Δ1 s2 with
        | none => rw [et] at e; cases e
        | some p =>
          obtain ⟨r, s3⟩ := p
          cases r with
          | error _ => simp only [et] at e; cases e
          | ok b =>
            refine ⟨Δ1, ψ, s2, hσ2, so2, ?_⟩
            rw [et]
            intro ψ3 b' H3 f3 so3 eb
            subst eb
            have ff3 := ff.trans f3
            cases b' with
            | false =>
              simp only [et] at e
              exact iteF ⟨hl, ψ3, s3, ff3, so3, f3.get (f2.get gd), e⟩
            | true =>
              simp only [et] at e
              refine iteT ?_
              cases ee : de Δ1 s3 with
              | none => rw [ee] at e; cases e
              | some p =>
                obtain ⟨r, s4⟩ := p
                cases r with
                | error _ => simp only [ee] at e; cases e
                | ok yd =>
                  refine ⟨Δ1, ψ3, s3, hσ2.fu f3, so3, ?_⟩
                  rw [ee]
                  intro ψ4 yv H4 f4 so4 ry
                  simp only [ee] at e
                  have gd4 : ψ4[s1.length]? = some Dd := f4.get (f3.get (f2.get gd))
                  split at e
                  · rename_i acc ea
                    split at e
                    · rename_i hz
                      obtain ⟨ws, k, r⟩ := so4.lst (lstAt_eq ea) gd4
                      have fs : Fu K ψ4 ψ4 H4 (upd H4 Dd (.lst (ws ++ [yv]))) := fu_set so4 gd4
                      refine ⟨ws, k, by rw [r.length]; exact hz, hl, ψ4, _, (ff3.trans f4).trans fs, so4.set (o := .lst (acc ++ [yd])) gd4 ⟨_, upd_same, (r.append (.cons ry .nil)).fu fs⟩, gd4, e⟩
                    · cases e
                  · cases e
    · rw [if_neg st] at e
      cases e
  · have e2 : i = I.its.length := by omega
    subst e2
    rw [List.drop_length] at e
    unfold lcRun at e
    by_cases st : I.still s' = true
    · rw [if_pos st] at e
      cases e
      obtain ⟨_, y2⟩ := yl ψ H' _ f so (Itd.still_at st) I.its.length
      exact .inl ⟨y2 (Nat.le_refl _), h1 ψ _ H' f so (.obj gd)⟩
    · rw [if_neg st] at e
      cases e
/-- the comprehension's context -/
abbrev Bk (X : Cx) (scope : Scope) (s : Shared) (H : Hp) (C : Addr) (cl : List (Str × Addr)) (fp : List Addr) : Cx := X.blk s H scope (compEnvC scope cl C X.env) fp
theorem de_lc {elt tg iter : Expr} {ifs : List Expr} {scope : Scope} {own : List (Str × Nat)} {pos : Pos} {di : DI} {t : TG} {g : DGf} {tt : DT} {de : DX} (hc : X.calm = true) (hN : X.N.Nodup) (hi : DIt X W tg iter di) (ok : BlkOk X.N X.env.scope scope own)
    (ng : NgOk X.K (own.map (·.2)) t g) (hg : ∀ s H C cl fp, PG (Bk X scope s H C cl fp) tg t) (ht : ∀ s H C cl fp, DTs (Bk X scope s H C cl fp) W0 ifs tt) (he : ∀ s H C cl fp, DE (Bk X scope s H C cl fp) W0 elt de)
    (hs : ∀ x, foldedSetIterable iter X.env x = pure x := by intro _; rfl) : DE X W (.ListComp elt [⟨tg, iter, ifs, 0⟩] scope pos) (dLc (own.map (·.2)) di g tt de) :=
  pe_imp (pe_lc (tt := upT X.K W0 tt) (te := upE X.K W0 de) hc hN hi ok hg ht he hs) fun σ H Q h => lc_read ng h
theorem ds_setLc {i : Nat} {y : Str} {py : Pos} {elt tg iter : Expr} {ifs : List Expr} {scope : Scope} {own : List (Str × Nat)} {pos spos : Pos} {di : DI} {t : TG} {g : DGf} {tt : DT} {de : DX} (hc : X.calm = true) (hN : X.N.Nodup) (hi : DIt X W tg iter di) (ok : BlkOk X.N X.env.scope scope own)
    (ng : NgOk X.K (own.map (·.2)) t g) (hg : ∀ s H C cl fp, PG (Bk X scope s H C cl fp) tg t) (ht : ∀ s H C cl fp, DTs (Bk X scope s H C cl fp) W0 ifs tt) (he : ∀ s H C cl fp, DE (Bk X scope s H C cl fp) W0 elt de)
    (hsw : swapsWith (.ListComp elt [⟨tg, iter, ifs, 0⟩] scope pos) (some (.Name y py)) spos.line X.env = pure true) (hy : X.N[i]? = some y := by rfl) (hyl : X.env.scope.names.lookup y = some .local := by rfl)
    (hs : ∀ x, foldedSetIterable iter X.env x = pure x := by intro _; rfl) : DSt X W (.Assign [.Name y py] (.ListComp elt [⟨tg, iter, ifs, 0⟩] scope pos) spos) (dAsg (dLc (own.map (·.2)) di g tt de) (gN i)) :=
  ps_imp (ps_setLc (tt := upT X.K W0 tt) (te := upE X.K W0 de) hc hN hy hyl hsw hi ok hg ht he hs) fun D σ H ⟨Δ, φ, s, hσ, hs, h⟩ => lc_read (W := W) ng (sbE hσ hs h fun φ1 v H1 d s1 f1 hσ1 hs1 rd h1 => h1 φ1 _ H1 (Fu.refl _ _) hs1 (hσ1.set rd i))
end
end DV

namespace DV
open PySem L2 PyProof.Rows
/-! ### defs: what they promise, their bodies, their calls -/
def spD (K : PySem.W.Frag) (n : Nat) (f : FnD) : Sp := fun vs H Q E => vs.length = n ∧ ∃ ds φ s, Dts K φ H vs ds ∧ So K φ H s ∧ Ps K E (Dt K) φ H (fun _ v H' _ _ => Q v H') (f ds s)
def runFn (n : Nat) (b : DS) : FnD := fun args s => match b (startD n args) s with
  | some (.rt d, s') => some (.ok d, s')
  | some (.nx _, s') => some (.ok .non, s')
  | some (.ex x _, s') => some (.error x, s')
  | _ => none
/-- the context of a def's body -/
abbrev Bx (P : Program) (w : World) (K : PySem.W.Frag) (mg : Str → Option Value) (base : Heap) (N : List Str) (qual : Str) (sc : Scope) (f : Addr) (cdv : Value) (A : Around) (outer : List Env) (s : Shared) (H : Hp) (E : XK) : Cx :=
  cxOf (L2.CX P w) P w K mg base N qual sc f cdv A outer s H E
abbrev EW (E : XK) : WX := fun c d _ H => E c d H
section
variable {P : Program} {w : World} {K : PySem.W.Frag} {mg : Str → Option Value} {base : Heap}
/-- room, and no object is being shown -/
structure RoomG (k : Nat) (A : Around) : Prop where
  rm : Room k A
  gd : A.guards = some []
theorem RoomG.mono {j k : Nat} {A : Around} (r : RoomG k A) (h : j ≤ k) : RoomG j A := ⟨r.rm.mono h, r.gd⟩
theorem gd_deeper {A : Around} {env : Env} (h : A.guards = some []) : (A.deeper env).guards = some [] := h
theorem gd_make {A : Around} {C : Addr} {us : List Value} {kw : List (Str × Value)} (h : A.guards = some []) : (A.under (.builtin "type.__call__" ⟨.ref C :: us, kw⟩)).guards = some [] := by
  first
    | exact h
    | (simp [Around.under, pushGuards, Code.guards, Code.isGuard, guardIds, h])
theorem RoomG.deeper {k : Nat} {A : Around} (r : RoomG (k + 1) A) (env : Env) : RoomG k (A.deeper env) := ⟨r.rm.deeper env, gd_deeper r.gd⟩
theorem RoomG.make {k : Nat} {A : Around} (r : RoomG (k + 1) A) (C : Addr) (us : List Value) (kw : List (Str × Value)) : RoomG k (A.under (.builtin "type.__call__" ⟨.ref C :: us, kw⟩)) := ⟨r.rm.make C us kw, gd_make r.gd⟩
/-- the def at f does the run fM, wherever it is called with room and nothing being shown -/
structure FnG (P : Program) (w : World) (K : PySem.W.Frag) (mg : Str → Option Value) (base : Heap) (k : Nat) (f : Addr) (fd : FuncData) (ps : List Str) (fM : FnD) : Prop where
  run : ∀ (A : Around) (outer : List Env) (s : Shared) (H : Hp) (args : Args) (us : List Value) (vs : List V) (Q : VK) (E : XK), RoomG k A → Env0 P w K mg base A outer s H → BindsTo s fd args (ps.zip us) → Vals vs us → spD K ps.length fM vs H Q E →
    codeAny (model P w) A (.call (.ref f) args) (CR (L2.CX P w) outer P w H s Q E) s
theorem fn_mkD {x qual : Str} {st : Stmt} {f : Addr} {fd : FuncData} {N ps : List Str} {k n : Nat} {b : DS} {M : FnD} (hM : M = runFn n b) (hn : N.length = n) (F : Fun K x qual st f fd) (S : FnScope N ps (defScope st))
    (hb : ∀ (cdv : Value) (A : Around) (outer : List Env) (s : Shared) (H : Hp) (E : XK), RoomG k (Bx P w K mg base N qual (defScope st) f cdv A outer s H E).A → Takes (Bx P w K mg base N qual (defScope st) f cdv A outer s H E) (EW E) →
      PassesOwn (model P w) (Bx P w K mg base N qual (defScope st) f cdv A outer s H E).A (Bx P w K mg base N qual (defScope st) f cdv A outer s H E).env (Bx P w K mg base N qual (defScope st) f cdv A outer s H E).xe →
      DSs (Bx P w K mg base N qual (defScope st) f cdv A outer s H E) (EW E) (defBody st) b) : FnG P w K mg base (k + 1) f fd ps M := by
  subst hM hn
  refine ⟨fun A outer s H args us vs Q E hr env0 bind rel hsp => ?_⟩
  obtain ⟨hl, ds, φ, st', rd, so, h⟩ := hsp
  obtain ⟨oc, od, kV, doc, pm, an, cdv, ct, osl, rfl, lk, hcd⟩ := F.ex
  have old : ∀ (a : Addr) (u : Obj), base.get? a = some u → s.heap.get? a = some u := fun a u e => (env0.bs a u e).1
  have kin := env0.mod.kin.keeps old
  have par : ∀ y ∈ ps.zip us, (defScope st).names.lookup y.1 = some .local ∨ ((defScope st).names.lookup y.1 = some .cell ∧ ((cellsFrom (s.heap.objs.size + 1) (defScope st).names []).lookup y.1).isSome = true) := fun y hy => by
    rcases S.par y.1 (List.of_mem_zip (a := y.1) (b := y.2) hy).1 with q | q
    · exact Or.inl q
    · exact Or.inr (And.intro q (PySem.W.cellsFrom_some _ _ _ (Or.inl q)))
  refine codeAny_call_function hr.rm.depth (kin _ _ lk) rfl S.co S.gen rfl (PySem.W.codeRec_of kin hcd) (bind _ _ _ _ ?_)
  refine wpAny_newFunctionEnv_cells S.kind par fun env henv t1 inc => ?_
  subst henv
  have body := hb cdv A outer s H E (hr.deeper _) (takes_of rfl rfl rfl rfl) (passes_of rfl)
  have J0 : Inv (Bx P w K mg base N qual (defScope st) f cdv A outer s H E) [] (L2.start N vs) H t1 := inv_start S hr.rm.hd env0 hl rel inc
  have start : upS K (EW E) b { nx := fun _ H' => Q .non H', rt := Q } (L2.start N vs) H := by
    refine ⟨startD N.length ds, φ, st', Sg.start rd, so, ?_⟩
    unfold runFn at h
    cases e : b (startD N.length ds) st' with
    | none => rw [e] at h; exact h.elim
    | some p =>
      obtain ⟨q, s'⟩ := p
      rw [e] at h
      cases q with
      | rt d => exact h
      | nx Δ => exact fun ψ σ' H' g so' _ => h ψ .non H' g so' .non
      | ex x Δ => exact fun ψ σ' H' c dd g so' _ xr => h ψ H' c dd g so' xr
      | bk Δ => exact h.elim
      | ct Δ => exact h.elim
  have ends : ∀ {σ' : L2.St} {H' : Hp} {v : V} {u : Value} {t2 : Shared}, Inv (Bx P w K mg base N qual (defScope st) f cdv A outer s H E) [] σ' H' t2 → RelV v u → Q v H' → CE outer P w H s Q u t2 := fun {σ' H' v u t2} J rv q => ⟨v, H', J.os, J.bare, J.base, J.hok, rv, q⟩
  refine ⟨env0.mod.nolimit.keeps fun a u e => inc.toInCall.keep a u (old a u e), codeAny_func (wpAny_mono (body.run [] t1 (L2.start N vs) H _ J0 start) (fun fl t2 hs => ?_) fun _ _ hs => hs)⟩
  cases fl with
  | ret u => obtain ⟨v, σ', H', J, rv, q⟩ := hs; exact ends J rv q
  | next => obtain ⟨σ', H', J, q⟩ := hs; exact ends (v := V.non) (u := Value.none) J rfl q
  | brk => obtain ⟨_, _, _, q⟩ := hs; exact q.elim
  | cont => obtain ⟨_, _, _, q⟩ := hs; exact q.elim
end
section
variable {X : Cx} {W : WX} {k : Nat} {f C : Addr} {fd : FuncData} {ps : List Str} {fM : FnD} {dvs : List V} {dds : List D} {ds : List Value} {x m : Str} {p pos apos : Pos} {e o : Expr} {es : List Expr} {da : DA}
abbrev FnX (X : Cx) (k : Nat) (f : Addr) (fd : FuncData) (ps : List Str) (fM : FnD) : Prop := FnG X.prog X.w X.K X.mg X.base k f fd ps fM
/-- the run of a callee over the data -/
def dCl (fM : FnD) (da : DA) : DX := fun Δ => mbind (da Δ) fM
theorem call_sp {φ : List Addr} {H : Hp} {s : Sto} {vs : List V} {xs : List D} {Q : VK} {σ : L2.St} (F : FnX X k f fd ps fM) (hb : Binds X.K fd ps []) (hl : vs.length = ps.length) (so : So X.K φ H s) (rx : Dts X.K φ H vs xs) (h : Ps X.K (wAt W σ) (Dt X.K) φ H (fun _ v H' _ _ => Q v H') (fM xs s)) :
    spD X.K ps.length fM (vs ++ []) H Q (WE W σ) := by
  rw [List.append_nil]
  exact ⟨hl, xs, φ, s, rx, so, h⟩
/-- how many arguments -/
def argN (n : Nat) (fM : FnD) : FnD := fun xs s => if xs.length = n then fM xs s else none
theorem argN_len {K : PySem.W.Frag} {E : WK} {φ : List Addr} {H : Hp} {s : Sto} {n : Nat} {xs : List D} {C : List Addr → V → Hp → D → Sto → Prop} (h : Ps K E (Dt K) φ H C (argN n fM xs s)) : xs.length = n ∧ Ps K E (Dt K) φ H C (fM xs s) := by
  unfold argN at h
  split at h
  · rename_i z; exact ⟨z, h⟩
  · exact h.elim
theorem run_fnG {pins : List (Addr × Obj)} {σ : L2.St} {H : Hp} {s : Shared} {Q : VK} {us : List Value} {vs : List V} (F : FnX X k f fd ps fM) (hr : RoomG k X.A) (hb : Binds X.K fd ps []) (tk : Takes X W) (I : Inv X pins σ H s) (r : Vals vs us) (h : spD X.K ps.length fM (vs ++ []) H Q (WE W σ)) :
    wpAny (model X.prog X.w) X.A (call (.ref f) us) (EP X pins σ Q) X.xe s := by
  rw [List.append_nil] at h
  have hl : us.length = ps.length := r.length.symm.trans h.1
  have bb := hb s us I.kIn (by rw [List.append_nil]; exact hl)
  rw [List.append_nil] at bb
  refine wpAny_call (codeAny_mono (F.run X.A X.stack s H ⟨us, []⟩ us vs Q (WE W σ) hr I.env0 bb r h) fun q s' hq => ?_)
  cases q with
  | error e => exact passAt tk σ pins H s e s' I hq
  | ok fl => cases fl with
    | ret u => exact I.after hq
    | next => exact hq.elim
    | brk => exact hq.elim
    | cont => exact hq.elim
theorem de_call_l (F : FnX X k f fd ps fM) (hr : RoomG k X.A) (hm : X.mg x = some (.ref f)) (hk : PySem.W.keepIn X.K (.ref f) = true) (hb : Binds X.K fd ps []) (tk : Takes X W) (ha : DAs X W (e :: es) da) (hg : Gl X x := by rfl)
    (hdb : (x == ("__debug__" : Str)) = false := by decide) (he : starEach (e :: es) X.env = (false, eval e X.env) :: starEach es X.env := by rfl) (hpl : (backTo pos (starEach es X.env)).any (·.1) = false := by rfl) :
    DE X W (.Call (.Name x p) (e :: es) [] pos) (dCl (argN ps.length fM) da) := by
  refine ⟨fun pins s σ H Q I ⟨Δ, φ, st, hσ, hs, h⟩ => wpAny_Call_Name_kw (ld_glob I hg hm ?_ hdb)⟩
  have hA : upA X.K W da σ H fun vs H2 => ∃ φ2 xs s2, So X.K φ2 H2 s2 ∧ Dts X.K φ2 H2 vs xs ∧ Ps X.K (wAt W σ) (Dt X.K) φ2 H2 (fun _ v H' _ _ => Q v H') (argN ps.length fM xs s2) :=
    upA_bind hσ hs h fun φ2 vs H2 xs s2 f2 hσ2 hs2 rs h3 => ⟨φ2, xs, s2, hs2, rs, h3⟩
  refine PySem.W.callWith_K (h₀ := X.base) I.ok.mod.kin hk (thn (ha.run pos pins s σ H _ I hA) fun us t1 ⟨vs, H1, I1, r, φ2, xs, s2, hs2, rs, h3⟩ => ⟨I1.kIn, ?_⟩) he hpl
  obtain ⟨hl, h4⟩ := argN_len h3
  exact run_fnG F hr hb tk I1 r (call_sp F hb (by rw [rs.length]; exact hl) hs2 rs h4)
theorem de_call0 (F : FnX X k f fd [] fM) (hr : RoomG k X.A) (hm : X.mg x = some (.ref f)) (hk : PySem.W.keepIn X.K (.ref f) = true) (hb : Binds X.K fd [] []) (tk : Takes X W) (hg : Gl X x := by rfl) (hdb : (x == ("__debug__" : Str)) = false := by decide) :
    DE X W (.Call (.Name x p) [] [] pos) (dCl fM dNil) :=
  ⟨fun pins s σ H Q I ⟨Δ, φ, st, hσ, hs, h⟩ => wpAny_Call_Name_kw (ld_glob I hg hm (PySem.W.callWith_K0 I.kIn hk (run_fnG (us := []) (vs := []) F hr hb tk I .nil (call_sp F hb rfl hs .nil h))) hdb)⟩
/-! ### methods of own classes -/
/-- o is an instance of C without an attribute m of its own -/
def mIns (C : Addr) (m : Str) (x : D) : M Unit := fun s => match x with
  | .obj n => match insAt s n with
    | some (C', fs) => if C' = C ∧ fs.lookup m = none then some (.ok (), s) else none
    | none => none
  | _ => none
theorem mIns_bind {K : PySem.W.Frag} {φ : List Addr} {H : Hp} {s : Sto} {x : D} {v : V} {γ δ : Type} {R' : List Addr → Hp → δ → γ → Prop} {W : WK} {Cc : List Addr → δ → Hp → γ → Sto → Prop} {k : Unit → M γ} (so : So K φ H s) (rx : Dt K φ H v x)
    (h : Ps K W R' φ H Cc (mbind (mIns C m x) k s)) : (∃ a dx fs, v = .ref a ∧ H a = some (.ins C dx fs) ∧ fs.lookup m = none) ∧ Ps K W R' φ H Cc (k () s) := by
  unfold mbind at h
  cases e : mIns C m x s with
  | none => rw [e] at h; exact h.elim
  | some p =>
    unfold mIns at e
    split at e
    · split at e
      · rename_i n C' fs e1
        split at e
        · rename_i z
          cases e
          obtain ⟨z1, z2⟩ := z
          subst z1
          cases rx
          rename_i a ha
          obtain ⟨b, hb, dx, vs, k, r⟩ := so.at (insAt_eq e1)
          rw [ha] at hb
          cases hb
          refine ⟨⟨a, dx, vs, rfl, k, r.lookup_none z2⟩, ?_⟩
          simp only [mIns, e1, z2, and_self, if_true] at h
          exact h
        · cases e
      · cases e
    · cases e
def dMe (C : Addr) (m : Str) (fM : FnD) (dx : DX) (da : DA) : DX := fun Δ => mbind (dx Δ) fun x => mbind (mIns C m x) fun _ => mbind (da Δ) fun xs => fM (x :: xs)
theorem de_meth_l {dx : DX} {pl : Sem Bool} (he : DE X W o dx) (c : Cls X.K C) (hm : Meth X.K C m f) (F : FnX X k f fd ps fM) (hr : RoomG k X.A) (hb : Binds X.K fd ps []) (tk : Takes X W) (ha : DAs X W (e :: es) da)
    (hst : starEach (e :: es) X.env = (false, eval e X.env) :: starEach es X.env := by rfl) (hpl : (backTo pos (starEach es X.env)).any (·.1) = false := by rfl)
    (ht : eval (.Call (.Attribute o m apos) (e :: es) [] pos) X.env = (do let ov ← eval o X.env; standAt apos.atName; let (f, first) ← holding [ov] (getMethod ov m pl); callWith pos f first (backTo pos (starEach (e :: es) X.env)) (backToKw pos (keywordEach [] X.env))) := by rfl) :
    DE X W (.Call (.Attribute o m apos) (e :: es) [] pos) (dMe C m (argN ps.length fM) dx da) := by
  refine ⟨fun pins s σ H Q I ⟨Δ, φ, st, hσ, hs, h⟩ => ?_⟩
  have hE : upE X.K W dx σ H fun v H1 => ∃ φ1 x s1, Sg X.K φ1 H1 σ Δ ∧ So X.K φ1 H1 s1 ∧ Dt X.K φ1 H1 v x ∧ Ps X.K (wAt W σ) (Dt X.K) φ1 H1 (fun _ v H' _ _ => Q v H') (mbind (mIns C m x) (fun _ => mbind (da Δ) fun xs => argN ps.length fM (x :: xs)) s1) :=
    upE_bind hσ hs h fun φ1 v H1 x s1 f1 hσ1 hs1 rx h1 => ⟨φ1, x, s1, hσ1, hs1, rx, h1⟩
  refine PySem.W.methodCall_KW (pl := pl) (thn (he.run pins s σ H _ I hE) fun u t1 ⟨v, H1, I1, rv, φ1, x, s1, hσ1, hs1, rx, h1⟩ => ?_) ht
  obtain ⟨⟨a, dxx, fs, rfl, ea, lk⟩, h2⟩ := mIns_bind hs1 rx h1
  obtain rfl : u = Value.ref a := rv
  refine getmeth_ok I1 ea c hm lk ?_
  have hA : upA X.K W da σ H1 fun vs H2 => ∃ φ2 xs s2, So X.K φ2 H2 s2 ∧ Dt X.K φ2 H2 (.ref a) x ∧ Dts X.K φ2 H2 vs xs ∧ Ps X.K (wAt W σ) (Dt X.K) φ2 H2 (fun _ v H' _ _ => Q v H') (argN ps.length fM (x :: xs) s2) :=
    upA_bind hσ1 hs1 h2 fun φ2 vs H2 xs s2 f2 hσ2 hs2 rs h3 => ⟨φ2, xs, s2, hs2, rx.fu f2, rs, h3⟩
  refine PySem.W.callWith_K (first := [Value.ref a]) (h₀ := X.base) I.ok.mod.kin hm.kp (thn (ha.run pos pins t1 σ H1 _ I1 hA) fun us t2 ⟨vs, H2, I2, r, φ2, xs, s2, hs2, rx2, rs, h3⟩ => ⟨I2.kIn, ?_⟩) hst hpl
  obtain ⟨hl, h4⟩ := argN_len h3
  exact run_fnG (us := Value.ref a :: us) (vs := V.ref a :: vs) F hr hb tk I2 (.cons rfl r) (call_sp F hb (by rw [List.length_cons, rs.length]; exact hl) hs2 (.cons rx2 rs) h4)
theorem de_meth0_l {dx : DX} {pl : Sem Bool} (he : DE X W o dx) (c : Cls X.K C) (hm : Meth X.K C m f) (F : FnX X k f fd ps fM) (hr : RoomG k X.A) (hb : Binds X.K fd ps []) (tk : Takes X W)
    (ht : eval (.Call (.Attribute o m apos) [] [] pos) X.env = (do let ov ← eval o X.env; standAt apos.atName; let (f, first) ← holding [ov] (getMethod ov m pl); callWith pos f first (backTo pos (starEach [] X.env)) (backToKw pos (keywordEach [] X.env))) := by rfl) :
    DE X W (.Call (.Attribute o m apos) [] [] pos) (dMe C m (argN ps.length fM) dx dNil) := by
  refine ⟨fun pins s σ H Q I ⟨Δ, φ, st, hσ, hs, h⟩ => ?_⟩
  have hE : upE X.K W dx σ H fun v H1 => ∃ φ1 x s1, Sg X.K φ1 H1 σ Δ ∧ So X.K φ1 H1 s1 ∧ Dt X.K φ1 H1 v x ∧ Ps X.K (wAt W σ) (Dt X.K) φ1 H1 (fun _ v H' _ _ => Q v H') (mbind (mIns C m x) (fun _ => mbind (dNil Δ) fun xs => argN ps.length fM (x :: xs)) s1) :=
    upE_bind hσ hs h fun φ1 v H1 x s1 f1 hσ1 hs1 rx h1 => ⟨φ1, x, s1, hσ1, hs1, rx, h1⟩
  refine PySem.W.methodCall_KW (pl := pl) (thn (he.run pins s σ H _ I hE) fun u t1 ⟨v, H1, I1, rv, φ1, x, s1, hσ1, hs1, rx, h1⟩ => ?_) ht
  obtain ⟨⟨a, dxx, fs, rfl, ea, lk⟩, h2⟩ := mIns_bind hs1 rx h1
  obtain rfl : u = Value.ref a := rv
  refine getmeth_ok I1 ea c hm lk ?_
  obtain ⟨hl, h4⟩ := argN_len (xs := [x]) h2
  exact PySem.W.callWith_K0 (first := [Value.ref a]) I1.kIn hm.kp (run_fnG (us := [Value.ref a]) (vs := [V.ref a]) F hr hb tk I1 (.cons rfl .nil) (call_sp F hb (by simpa using hl) hs1 (.cons rx .nil) h4))
/-! ### new instances -/
def mMk (C : Addr) (fM : FnD) (xs : List D) : M D := fun s => match fM (.obj s.length :: xs) (s ++ [.ins C []]) with
  | some (.ok .non, s') => some (.ok (.obj s.length), s')
  | some (.error x, s') => some (.error x, s')
  | _ => none
def dMk (C : Addr) (fM : FnD) (da : DA) : DX := fun Δ => mbind (da Δ) (mMk C fM)
theorem run_mk {pins : List (Addr × Obj)} {σ : L2.St} {H : Hp} {t : Shared} {Q : VK} {us : List Value} {vs : List V} {xs : List D} {φ : List Addr} {s : Sto} (Mc : Mk X.K C f) (F : FnX X k f fd ps fM) (hr : RoomG (k + 1) X.A) (hb : Binds X.K fd ps []) (tk : Takes X W)
    (I : Inv X pins σ H t) (r : Vals vs us) (so : So X.K φ H s) (rx : Dts X.K φ H vs xs) (h : Ps X.K (wAt W σ) (Dt X.K) φ H (fun _ v H' _ _ => Q v H') (mMk C (argN ps.length fM) xs s)) : wpAny (model X.prog X.w) X.A (call (.ref C) us) (EP X pins σ Q) X.xe t := by
  have I2 := Inv.made (C := C) I
  generalize ex : t.heap.objs.size + 1 = a at I2
  generalize ed : t.heap.objs.size = dx at I2 ex
  have hdx : H dx = none := I.hok.fresh (Nat.le_of_eq ed)
  have ha : H a = none := I.hok.fresh (by omega)
  have hne : a ≠ dx := by omega
  have so1 : So X.K φ (upd H dx (.own a)) s := so.new hdx
  have ha1 : upd H dx (.own a) a = none := by rw [upd_ne hne]; exact ha
  have f1 : Fu X.K φ φ H (upd H dx (.own a)) := fu_new hdx
  have f2 : Fu X.K φ (φ ++ [a]) (upd H dx (.own a)) (upd (upd H dx (.own a)) a (.ins C dx [])) := fu_newO ha1
  have so2 : So X.K (φ ++ [a]) (upd (upd H dx (.own a)) a (.ins C dx [])) (s ++ [.ins C []]) := so1.newO ha1 ⟨dx, [], upd_same, .nil⟩
  have ra : Dt X.K (φ ++ [a]) (upd (upd H dx (.own a)) a (.ins C dx [])) (.ref a) (.obj s.length) := obj_new so1
  have rs : Dts X.K (φ ++ [a]) (upd (upd H dx (.own a)) a (.ins C dx [])) (.ref a :: vs) (.obj s.length :: xs) := .cons ra ((rx.fu f1).fu f2)
  have hq : xs.length + 1 = ps.length ∧ Ps X.K (wAt W σ) (Dt X.K) (φ ++ [a]) (upd (upd H dx (.own a)) a (.ins C dx [])) (fun ψ v H' d s' => v = .non ∧ Q (.ref a) H') (fM (.obj s.length :: xs) (s ++ [.ins C []])) := by
    unfold mMk argN at h
    by_cases z : (D.obj s.length :: xs).length = ps.length
    · rw [if_pos z] at h
      refine ⟨by simpa using z, ?_⟩
      cases e : fM (.obj s.length :: xs) (s ++ [.ins C []]) with
      | none => rw [e] at h; exact h.elim
      | some p =>
        obtain ⟨q, s'⟩ := p
        rw [e] at h
        cases q with
        | error x => exact h.shift (f1.trans f2)
        | ok d =>
          cases d <;> first | exact h.elim | skip
          intro ψ v H' f3 so3 rv
          cases rv
          exact ⟨rfl, h ψ (.ref a) H' ((f1.trans f2).trans f3) so3 (ra.fu f3)⟩
    · rw [if_neg z] at h
      exact h.elim
  obtain ⟨hl, hq⟩ := hq
  have hv : (V.ref a :: vs).length = ps.length := by rw [List.length_cons, rx.length]; exact hl
  have r2 : Vals (V.ref a :: vs) (Value.ref a :: us) := .cons rfl r
  have hu : (Value.ref a :: us).length = ps.length := by rw [← r2.length]; exact hv
  have bb := hb _ (Value.ref a :: us) I2.kIn (by rw [List.append_nil]; exact hu)
  rw [List.append_nil] at bb
  refine wpAny_call (make_map (f := f) I.kIn Mc.makes Mc.init (beq_iff_eq.mp Mc.fn) ?_)
  rw [ed, ex]
  refine codeAny_mono (F.run _ X.stack _ _ ⟨Value.ref a :: us, []⟩ (Value.ref a :: us) (V.ref a :: vs) (fun v H2 => v = .non ∧ Q (.ref a) H2) (WE W σ) (hr.make C us []) (I2.env0.make C us []) bb r2 ⟨hv, _, _, _, rs, so2, hq⟩) fun q s' hq' => ?_
  cases q with
  | error e => exact passAt tk σ pins _ _ e s' I2 hq'
  | ok fl =>
    cases fl with
    | ret u =>
      obtain ⟨v, H', I3, rv, ev, q3⟩ := I2.after hq'
      cases ev
      exact ⟨rv, V.ref a, H', I3, rfl, q3⟩
    | next => exact hq'.elim
    | brk => exact hq'.elim
    | cont => exact hq'.elim
theorem de_make_l (Mc : Mk X.K C f) (F : FnX X k f fd ps fM) (hr : RoomG (k + 1) X.A) (hm : X.mg x = some (.ref C)) (hb : Binds X.K fd ps []) (tk : Takes X W) (ha : DAs X W (e :: es) da) (hg : Gl X x := by rfl)
    (hdb : (x == ("__debug__" : Str)) = false := by decide) (he : starEach (e :: es) X.env = (false, eval e X.env) :: starEach es X.env := by rfl) (hpl : (backTo pos (starEach es X.env)).any (·.1) = false := by rfl) :
    DE X W (.Call (.Name x p) (e :: es) [] pos) (dMk C (argN ps.length fM) da) := by
  refine ⟨fun pins s σ H Q I ⟨Δ, φ, st, hσ, hs, h⟩ => wpAny_Call_Name_kw (ld_glob I hg hm ?_ hdb)⟩
  have hA : upA X.K W da σ H fun vs H2 => ∃ φ2 xs s2, So X.K φ2 H2 s2 ∧ Dts X.K φ2 H2 vs xs ∧ Ps X.K (wAt W σ) (Dt X.K) φ2 H2 (fun _ v H' _ _ => Q v H') (mMk C (argN ps.length fM) xs s2) :=
    upA_bind hσ hs h fun φ2 vs H2 xs s2 f2 hσ2 hs2 rs h3 => ⟨φ2, xs, s2, hs2, rs, h3⟩
  refine PySem.W.callWith_K (h₀ := X.base) I.ok.mod.kin Mc.kp (thn (ha.run pos pins s σ H _ I hA) fun us t1 ⟨vs, H1, I1, r, φ2, xs, s2, hs2, rs, h3⟩ => ⟨I1.kIn, ?_⟩) he hpl
  exact run_mk Mc F hr hb tk I1 r hs2 rs h3
theorem de_call {n : Nat} (F : FnX X k f fd ps fM) (hr : RoomG k X.A) (hm : X.mg x = some (.ref f)) (hk : PySem.W.keepIn X.K (.ref f) = true) (hb : Binds X.K fd ps []) (tk : Takes X W) (ha : DAs X W (e :: es) da) (hn : ps.length = n := by rfl) (hg : Gl X x := by rfl)
    (hdb : (x == ("__debug__" : Str)) = false := by decide) (he : starEach (e :: es) X.env = (false, eval e X.env) :: starEach es X.env := by rfl) (hpl : (backTo pos (starEach es X.env)).any (·.1) = false := by rfl) :
    DE X W (.Call (.Name x p) (e :: es) [] pos) (dCl (argN n fM) da) := by
  subst hn
  exact de_call_l F hr hm hk hb tk ha hg hdb he hpl
theorem de_meth {n : Nat} {dx : DX} {pl : Sem Bool} (he : DE X W o dx) (c : Cls X.K C) (hm : Meth X.K C m f) (F : FnX X k f fd ps fM) (hr : RoomG k X.A) (hb : Binds X.K fd ps []) (tk : Takes X W) (ha : DAs X W (e :: es) da) (hn : ps.length = n := by rfl)
    (hst : starEach (e :: es) X.env = (false, eval e X.env) :: starEach es X.env := by rfl) (hpl : (backTo pos (starEach es X.env)).any (·.1) = false := by rfl)
    (ht : eval (.Call (.Attribute o m apos) (e :: es) [] pos) X.env = (do let ov ← eval o X.env; standAt apos.atName; let (f, first) ← holding [ov] (getMethod ov m pl); callWith pos f first (backTo pos (starEach (e :: es) X.env)) (backToKw pos (keywordEach [] X.env))) := by rfl) :
    DE X W (.Call (.Attribute o m apos) (e :: es) [] pos) (dMe C m (argN n fM) dx da) := by
  subst hn
  exact de_meth_l he c hm F hr hb tk ha hst hpl ht
theorem de_meth0 {n : Nat} {dx : DX} {pl : Sem Bool} (he : DE X W o dx) (c : Cls X.K C) (hm : Meth X.K C m f) (F : FnX X k f fd ps fM) (hr : RoomG k X.A) (hb : Binds X.K fd ps []) (tk : Takes X W) (hn : ps.length = n := by rfl)
    (ht : eval (.Call (.Attribute o m apos) [] [] pos) X.env = (do let ov ← eval o X.env; standAt apos.atName; let (f, first) ← holding [ov] (getMethod ov m pl); callWith pos f first (backTo pos (starEach [] X.env)) (backToKw pos (keywordEach [] X.env))) := by rfl) :
    DE X W (.Call (.Attribute o m apos) [] [] pos) (dMe C m (argN n fM) dx dNil) := by
  subst hn
  exact de_meth0_l he c hm F hr hb tk ht
theorem de_make {n : Nat} (Mc : Mk X.K C f) (F : FnX X k f fd ps fM) (hr : RoomG (k + 1) X.A) (hm : X.mg x = some (.ref C)) (hb : Binds X.K fd ps []) (tk : Takes X W) (ha : DAs X W (e :: es) da) (hn : ps.length = n := by rfl) (hg : Gl X x := by rfl)
    (hdb : (x == ("__debug__" : Str)) = false := by decide) (he : starEach (e :: es) X.env = (false, eval e X.env) :: starEach es X.env := by rfl) (hpl : (backTo pos (starEach es X.env)).any (·.1) = false := by rfl) :
    DE X W (.Call (.Name x p) (e :: es) [] pos) (dMk C (argN n fM) da) := by
  subst hn
  exact de_make_l Mc F hr hm hb tk ha hg hdb he hpl
/-! ### self.f = e -/
def putD (f : Str) (d : D) : List (Str × D) → List (Str × D)
  | [] => [(f, d)]
  | (g, y) :: r => if g = f then (g, d) :: r else (g, y) :: putD f d r
theorem put_prs {R : V → D → Prop} {f : Str} {v : V} {d : D} (q : R v d) : ∀ {vs : List (Str × V)} {ds : List (Str × D)}, Prs R vs ds → Prs R (putF f v vs) (putD f d ds)
  | _, _, .nil => .cons q .nil
  | _, _, .cons (k := k) h r => by
    by_cases e : k = f
    · simp only [putF, putD, if_pos e]
      first | exact .cons q r | (subst e; exact .cons q r)
    · simp only [putF, putD, if_neg e]
      exact .cons h (put_prs q r)
theorem Prs.length {κ : Type} {R : V → D → Prop} : ∀ {vs : List (κ × V)} {ds : List (κ × D)}, Prs R vs ds → vs.length = ds.length
  | _, _, .nil => rfl
  | _, _, .cons _ r => congrArg (· + 1) (Prs.length r)
def fStF (C : Addr) (f : Str) (o d : D) (s : Sto) : Option Sto := match o with
  | .obj n => match insAt s n with
    | some (C', fs) => if C' = C ∧ fs.length < 1000 then some (s.set n (.ins C (putD f d fs))) else none
    | none => none
  | _ => none
def dStF (C : Addr) (f : Str) (do_ dv : DX) : DS := fun Δ => sbind (dv Δ) Δ fun d => sbind (do_ Δ) Δ fun o s => match fStF C f o d s with
  | some s' => some (.nx Δ, s')
  | none => none
theorem ds_fld {fn : Str} {v : Expr} {eo ev : DX} {pos' : Pos} (c : Cls X.K C) (nf : NoAttr X.K C fn) (ho : DE X W o eo) (hv : DE X W v ev) (hs : swapsWith v (some (.Attribute o fn pos')) pos.line X.env = pure false := by rfl) : DSt X W (.Assign [.Attribute o fn pos'] v pos) (dStF C fn eo ev) :=
  ps_imp (ps_fld ho hv hs) fun D σ H ⟨Δ, φ, s, hσ, hs, h⟩ => sbE hσ hs h fun φ1 u H1 d s1 f1 hσ1 hs1 rd h1 => sbE hσ1 hs1 h1 fun φ2 uo H2 od s2 f2 hσ2 hs2 ro h2 => by
    unfold fStF at h2
    split at h2
    · rename_i s' e
      split at e
      · split at e
        · rename_i n C' fs e1
          split at e
          · rename_i z
            cases e
            obtain ⟨z1, z2⟩ := z
            subst z1
            cases ro
            rename_i a ha
            obtain ⟨b, hb, dx, vs, kk, r⟩ := hs2.at (insAt_eq e1)
            rw [ha] at hb
            cases hb
            have fu2 : Fu X.K φ2 φ2 H2 (upd H2 a (.ins C' dx (putF fn u vs))) := fu_set hs2 ha
            exact ⟨a, _, dx, vs, rfl, kk, c, nf, by rw [r.length]; exact z2, h2 φ2 _ _ fu2 (hs2.set ha ⟨dx, _, upd_same, (put_prs (rd.fu f2) r).fu fu2⟩) (hσ2.fu fu2)⟩
          · cases e
        · cases e
      · cases e
    · exact h2.elim
end
end DV

namespace DV
open PySem L2 PyProof.Rows
section
variable {X : Cx} {W : WX}
/-! ### chains -/
theorem chain_read {f g : Op2} {r r' : R2} (hr : ∀ φ H s x y v u Q, So X.K φ H s → Dt X.K φ H v x → Dt X.K φ H u y → PsO X.K φ H Q (f x y s) → r v u H Q)
    (hr' : ∀ φ H s x y v u Q, So X.K φ H s → Dt X.K φ H v x → Dt X.K φ H u y → PsO X.K φ H Q (g x y s) → r' v u H Q) (hf : ∀ x y s z s', f x y s = some (z, s') → s' = s) {da db dc : DX} {σ : L2.St} {H : Hp} {Q : VK}
    (h : upE X.K W (dChain f g da db dc) σ H Q) : tChain r r' (upE X.K W da) (upE X.K W db) (upE X.K W dc) σ H Q := by
  obtain ⟨Δ, φ, s, hσ, hs, h⟩ := h
  refine upE_bind hσ hs h fun φ1 v H1 x s1 f1 hσ1 hs1 rx h1 => upE_bind hσ1 hs1 h1 fun φ2 u H2 y s2 f2 hσ2 hs2 ry h2 => ?_
  refine hr φ2 H2 s2 x y v u _ hs2 (rx.fu f2) ry ?_
  unfold mbind lift2 at h2
  cases e : f x y s2 with
  | none => rw [e] at h2; exact h2.elim
  | some p =>
    obtain ⟨z, s3⟩ := p
    have es := hf _ _ _ _ _ e
    subst es
    rw [e] at h2
    intro φ3 w H3 f3 so3 rz
    have h3 := h2.shift f3
    cases z <;> first | exact h3.elim | skip
    rename_i b
    cases rz
    refine ⟨b, rfl, ?_⟩
    cases b with
    | false => exact iteF (h3.ok so3 (.bl _))
    | true =>
      refine iteT ?_
      exact upE_bind (hσ2.fu f3) so3 h3 fun φ4 w' H4 d s4 f4 hσ4 hs4 rd h4 => hr' φ4 H4 s4 y d u w' Q hs4 ((ry.fu f3).fu f4) rd (PsO.of h4)
/-- the two run on values and leave the store -/
def Pure2 (f : Op2) : Prop := ∀ x y s z s', f x y s = some (z, s') → s' = s
theorem pure_fI {c : Int → Int → Bool} {g : Int → Int → D} : Pure2 (fI c g) := fun x y s z s' e => by
  unfold fI at e
  split at e
  · split at e
    · cases e; rfl
    · cases e
  · cases e
theorem de_chain {op op' : CmpOp} {f g : Op2} {a b c : Expr} {da db dc : DX} {pos : Pos} (ho : DOp X (compareOp op) f) (ho' : DOp X (compareOp op') g) (pf : Pure2 f) (ha : DE X W a da) (hb : DE X W b db) (hc : DE X W c dc) (hm : lastMarks [op, op'] [b, c] = false := by with_unfolding_all rfl) :
    DE X W (.Compare a [op, op'] [b, c] pos) (dChain f g da db dc) := by
  obtain ⟨r, h, hr⟩ := ho
  obtain ⟨r', h', hr'⟩ := ho'
  exact pe_imp (pe_chain h h' ha hb hc hm) fun σ H Q q => chain_read hr hr' pf q
theorem dt_chain {op op' : CmpOp} {f g : Op2} {a b c : Expr} {da db dc : DX} {pos : Pos} (ho : DOp X (compareOp op) f) (ho' : DOp X (compareOp op') g) (pf : Pure2 f) (ha : DE X W a da) (hb : DE X W b db) (hc : DE X W c dc) (hm : lastMarks [op, op'] [b, c] = false := by with_unfolding_all rfl) :
    DTe X W (.Compare a [op, op'] [b, c] pos) (dTest (dChain f g da db dc)) := by
  obtain ⟨r, h, hr⟩ := ho
  obtain ⟨r', h', hr'⟩ := ho'
  exact pt_imp (pt_chain h h' ha hb hc hm) fun σ H Q q => chain_read hr hr' pf (bl_read q)
/-! ### dicts -/
def keyD : D → Option Key
  | .int i => some (.inl i)
  | .str x => some (.inr x)
  | _ => none
def valD {κ : Type} [DecidableEq κ] (kvs : List (κ × D)) (k : κ) : Option D := (kvs.find? fun kv => decide (kv.1 = k)).map (·.2)
def putKD {κ : Type} [DecidableEq κ] (kvs : List (κ × D)) (k : κ) (v : D) : List (κ × D) := if (kvs.any fun kv => decide (kv.1 = k)) = true then kvs.map (fun kv => if kv.1 = k then (kv.1, v) else kv) else kvs ++ [(k, v)]
theorem Prs.val {κ : Type} [DecidableEq κ] {R : V → D → Prop} (k : κ) : ∀ {vs : List (κ × V)} {ds : List (κ × D)}, Prs R vs ds → (∀ d, valD ds k = some d → ∃ v, valV vs k = some v ∧ R v d) ∧ (valD ds k = none → valV vs k = none)
  | _, _, .nil => ⟨fun d e => (by cases e), fun _ => rfl⟩
  | _, _, .cons (k := k') (v := v) (vs := vs) (d := d) (ds := ds) h r => by
    unfold valD valV
    rw [List.find?_cons, List.find?_cons]
    by_cases e : k' = k
    · simp only [e, decide_true]
      exact ⟨fun d e => (by cases e; exact ⟨v, rfl, h⟩), fun e => (by cases e)⟩
    · simp only [e, decide_false]
      exact Prs.val k r
theorem Prs.any {κ : Type} [DecidableEq κ] {R : V → D → Prop} (k : κ) : ∀ {vs : List (κ × V)} {ds : List (κ × D)}, Prs R vs ds → (vs.any fun kv => decide (kv.1 = k)) = ds.any fun kv => decide (kv.1 = k)
  | _, _, .nil => rfl
  | _, _, .cons h r => by rw [List.any_cons, List.any_cons, Prs.any k r]
theorem Prs.append {κ : Type} {R : V → D → Prop} : ∀ {vs ws : List (κ × V)} {ds es : List (κ × D)}, Prs R vs ds → Prs R ws es → Prs R (vs ++ ws) (ds ++ es)
  | _, _, _, _, .nil, q => q
  | _, _, _, _, .cons h r, q => .cons h (Prs.append r q)
theorem Prs.upd {κ : Type} [DecidableEq κ] {R : V → D → Prop} {k : κ} {v : V} {d : D} (q : R v d) : ∀ {vs : List (κ × V)} {ds : List (κ × D)}, Prs R vs ds → Prs R (vs.map (fun kv => if kv.1 = k then (kv.1, v) else kv)) (ds.map (fun kv => if kv.1 = k then (kv.1, d) else kv))
  | _, _, .nil => .nil
  | _, _, .cons (k := k') h r => by
    rw [List.map_cons, List.map_cons]
    by_cases e : k' = k
    · simp only [if_pos e]
      exact .cons q (Prs.upd q r)
    · simp only [if_neg e]
      exact .cons h (Prs.upd q r)
theorem Prs.put {κ : Type} [DecidableEq κ] {R : V → D → Prop} {k : κ} {v : V} {d : D} (q : R v d) {vs : List (κ × V)} {ds : List (κ × D)} (r : Prs R vs ds) : Prs R (putK vs k v) (putKD ds k d) := by
  unfold putK putKD
  rw [r.any k]
  split
  · exact r.upd q
  · exact r.append (.cons q .nil)
def dctAt (s : Sto) (n : Nat) : Option (List (Key × D)) := match s[n]? with
  | some (.dK xs) => some xs
  | _ => none
theorem dctAt_eq {s : Sto} {n : Nat} {xs : List (Key × D)} (h : dctAt s n = some xs) : s[n]? = some (.dK xs) := by
  unfold dctAt at h
  split at h
  · cases h; assumption
  · cases h
theorem So.dct {K : PySem.W.Frag} {φ : List Addr} {H : Hp} {s : Sto} (h : So K φ H s) {n : Nat} {xs : List (Key × D)} (e : dctAt s n = some xs) {a : Addr} (ha : φ[n]? = some a) : ∃ vs, H a = some (.dK vs) ∧ Prs (Dt K φ H) vs xs := by
  obtain ⟨b, hb, q⟩ := h.ob _ _ (dctAt_eq e)
  rw [ha] at hb
  cases hb
  exact q
theorem keyD_kV {K : PySem.W.Frag} {φ : List Addr} {H : Hp} {v : V} {x : D} {k : Key} (r : Dt K φ H v x) (e : keyD x = some k) : v = kV k := by
  cases r <;> first | (cases e; rfl) | cases e
def mDct (x : D) : M Unit := fun s => match x with
  | .obj n => match dctAt s n with
    | some _ => some (.ok (), s)
    | none => none
  | _ => none
/-- the entry at a key, of a dict -/
def dGetK (x y : D) (s : Sto) : Option (Option D) := match x with
  | .obj n => match dctAt s n with
    | some kvs => match keyD y with
      | some k => some (valD kvs k)
      | none => none
    | none => none
  | _ => none
theorem dGetK_ok {K : PySem.W.Frag} {φ : List Addr} {H : Hp} {s : Sto} {v u : V} {x y : D} {o : Option D} (so : So K φ H s) (rx : Dt K φ H v x) (ry : Dt K φ H u y) (e : dGetK x y s = some o) : ∃ a ov, v = .ref a ∧ DGet H a u ov ∧ (∀ d, o = some d → ∃ w, ov = some w ∧ Dt K φ H w d) ∧ (o = none → ov = none) := by
  unfold dGetK at e
  split at e
  · cases rx
    rename_i n a ha
    split at e
    · rename_i kvs e1
      split at e
      · rename_i k e2
        cases e
        obtain ⟨vs, h1, r⟩ := so.dct e1 ha
        obtain ⟨q1, q2⟩ := r.val k
        rw [keyD_kV ry e2]
        exact ⟨a, _, rfl, DGet.k h1, q1, q2⟩
      · cases e
    · cases e
  · cases e
theorem mDct_bind {K : PySem.W.Frag} {φ : List Addr} {H : Hp} {s : Sto} {x : D} {v : V} {γ δ : Type} {R' : List Addr → Hp → δ → γ → Prop} {W : WK} {Cc : List Addr → δ → Hp → γ → Sto → Prop} {k : Unit → M γ} (so : So K φ H s) (rx : Dt K φ H v x)
    (h : Ps K W R' φ H Cc (mbind (mDct x) k s)) : (∃ a, v = .ref a ∧ IsD H a) ∧ Ps K W R' φ H Cc (k () s) := by
  unfold mbind at h
  cases e : mDct x s with
  | none => rw [e] at h; exact h.elim
  | some p =>
    rw [e] at h
    unfold mDct at e
    split at e
    · cases rx
      rename_i n a ha
      split at e
      · rename_i kvs e1
        cases e
        obtain ⟨vs, h1, r⟩ := so.dct e1 ha
        exact ⟨⟨a, rfl, .inl ⟨vs, .inl h1⟩⟩, h⟩
      · cases e
    · cases e
def dDGet1 (dx dy : DX) : DX := fun Δ => mbind (dx Δ) fun x => mbind (mDct x) fun _ => mbind (dy Δ) fun y s => match dGetK x y s with
  | some o => some (.ok (o.getD .non), s)
  | none => none
def dDGet2 (dx dy dz : DX) : DX := fun Δ => mbind (dx Δ) fun x => mbind (mDct x) fun _ => mbind (dy Δ) fun y => mbind (dz Δ) fun z s => match dGetK x y s with
  | some o => some (.ok (o.getD z), s)
  | none => none
theorem getD_dt {K : PySem.W.Frag} {φ : List Addr} {H : Hp} {o : Option D} {ov : Option V} {d : D} {w : V} (h1 : ∀ d, o = some d → ∃ w, ov = some w ∧ Dt K φ H w d) (h2 : o = none → ov = none) (r : Dt K φ H w d) : Dt K φ H (ov.getD w) (o.getD d) := by
  cases o with
  | none => rw [h2 rfl]; exact r
  | some x =>
    obtain ⟨w', e, r'⟩ := h1 x rfl
    rw [e]
    exact r'
theorem de_dget1 {o e : Expr} {dx dy : DX} {apos cpos : Pos} (hu : X.A.units + 1 < cLine) (ho : DE X W o dx) (he : DE X W e dy) (m : M1 X o "get" apos e cpos := by exact ⟨rfl, rfl, rfl, rfl⟩) : DE X W (.Call (.Attribute o "get" apos) [e] [] cpos) (dDGet1 dx dy) :=
  pe_imp (pe_dget1 hu ho he m) fun σ H Q ⟨Δ, φ, s, hσ, hs, h⟩ => upE_bind hσ hs h fun φ1 v H1 x s1 f1 hσ1 hs1 rx h1 => by
    obtain ⟨⟨a, rfl, d⟩, h2⟩ := mDct_bind hs1 rx h1
    refine ⟨a, rfl, d, upE_bind hσ1 hs1 h2 fun φ2 u H2 y s2 f2 hσ2 hs2 ry h3 => ?_⟩
    split at h3
    · rename_i o e
      obtain ⟨b, ov, eb, g, q1, q2⟩ := dGetK_ok hs2 (rx.fu f2) ry e
      cases eb
      exact ⟨ov, g, h3.ok hs2 (getD_dt q1 q2 .non)⟩
    · exact h3.elim
theorem de_dget2 {o e f : Expr} {dx dy dz : DX} {apos cpos : Pos} (hu : X.A.units + 1 < cLine) (ho : DE X W o dx) (he : DE X W e dy) (hf : DE X W f dz) (m : M2 X o "get" apos e f cpos := by exact ⟨rfl, rfl, rfl, rfl⟩) : DE X W (.Call (.Attribute o "get" apos) [e, f] [] cpos) (dDGet2 dx dy dz) :=
  pe_imp (pe_dget2 hu ho he hf m) fun σ H Q ⟨Δ, φ, s, hσ, hs, h⟩ => upE_bind hσ hs h fun φ1 v H1 x s1 f1 hσ1 hs1 rx h1 => by
    obtain ⟨⟨a, rfl, d⟩, h2⟩ := mDct_bind hs1 rx h1
    refine ⟨a, rfl, d, upE_bind hσ1 hs1 h2 fun φ2 u H2 y s2 f2 hσ2 hs2 ry h3 => upE_bind hσ2 hs2 h3 fun φ3 w H3 z s3 f3 hσ3 hs3 rz h4 => ?_⟩
    split at h4
    · rename_i o e
      obtain ⟨b, ov, eb, g, q1, q2⟩ := dGetK_ok hs3 ((rx.fu f2).fu f3) (ry.fu f3) e
      cases eb
      exact ⟨ov, g, h4.ok hs3 (getD_dt q1 q2 rz)⟩
    · exact h4.elim
/-- d[k] -/
def dDIx (dx dy : DX) : DX := fun Δ => mbind (dx Δ) fun x => mbind (dy Δ) fun y s => match dGetK x y s with
  | some (some d) => some (.ok d, s)
  | _ => none
theorem de_dix {o i : Expr} {dx dy : DX} {pos : Pos} (hu : X.A.units + 1 < cLine) (ho : DE X W o dx) (hi : DE X W i dy) (hs : NoSl i := by exact fun _ _ => rfl) : DE X W (.Subscript o i pos) (dDIx dx dy) :=
  pe_imp (pe_dget hu ho hi hs) fun σ H Q ⟨Δ, φ, s, hσ, hs, h⟩ => upE_bind hσ hs h fun φ1 v H1 x s1 f1 hσ1 hs1 rx h1 => upE_bind hσ1 hs1 h1 fun φ2 u H2 y s2 f2 hσ2 hs2 ry h2 => by
    split at h2
    · rename_i d e
      obtain ⟨a, ov, rfl, g, q1, q2⟩ := dGetK_ok hs2 (rx.fu f2) ry e
      obtain ⟨w, rfl, rw⟩ := q1 d rfl
      exact ⟨a, w, rfl, g, h2.ok hs2 rw⟩
    · exact h2.elim
/-- {} with keys that are ints or texts -/
def dDNew : DX := fun _ => mnew (.dK [])
theorem de_dnew {pos : Pos} : DE X W (.Dict [] [] pos) dDNew := pe_imp pe_dnewK fun σ H Q ⟨Δ, φ, s, hσ, hs, h⟩ p hp => h _ _ _ (fu_newO hp) (hs.newO (o := .dK []) hp ⟨[], upd_same, .nil⟩) (obj_new hs)
/-- d[k] = v -/
def dDPut (dx dy dv : DX) : DS := fun Δ => sbind (dv Δ) Δ fun v => sbind (dx Δ) Δ fun x => sbind (dy Δ) Δ fun y s => match x with
  | .obj n => match dctAt s n with
    | some kvs => match keyD y with
      | some k => if kvs.length < sizeLine then some (.nx Δ, s.set n (.dK (putKD kvs k v))) else none
      | none => none
    | none => none
  | _ => none
theorem ds_dput {o i value : Expr} {dx dy dv : DX} {pos pos' : Pos} (hu : X.A.units + 1 < cLine) (ho : DE X W o dx) (hi : DE X W i dy) (hv : DE X W value dv) (hs : swapsWith value (some (.Subscript o i pos')) pos.line X.env = pure false := by rfl) :
    DSt X W (.Assign [.Subscript o i pos'] value pos) (dDPut dx dy dv) :=
  ps_imp (ps_dput hu ho hi hv hs) fun D σ H ⟨Δ, φ, s, hσ, hs, h⟩ => sbE hσ hs h fun φ1 w H1 d s1 f1 hσ1 hs1 rd h1 => sbE hσ1 hs1 h1 fun φ2 v H2 x s2 f2 hσ2 hs2 rx h2 => sbE hσ2 hs2 h2 fun φ3 u H3 y s3 f3 hσ3 hs3 ry h3 => by
    split at h3
    · rename_i n
      have rx3 := rx.fu f3
      have rd3 := (rd.fu f2).fu f3
      cases rx3
      rename_i a ha
      split at h3
      · rename_i kvs e1
        split at h3
        · rename_i k e2
          split at h3
          · rename_i hz
            obtain ⟨vs, k1, r⟩ := hs3.dct e1 ha
            rw [keyD_kV ry e2]
            have ff : Fu X.K φ3 φ3 H3 (upd H3 a (.dK (putK vs k w))) := fu_set hs3 ha
            exact ⟨a, _, rfl, DPut.k k1 (by rw [r.length]; exact hz), h3 φ3 _ _ ff (hs3.set (o := .dK (putKD kvs k d)) ha ⟨_, upd_same, (r.put rd3).fu ff⟩) (hσ3.fu ff)⟩
          · exact h3.elim
        · exact h3.elim
      · exact h3.elim
    · exact h3.elim
/-- d.setdefault(k, v) -/
def dDSetd (dx dy dz : DX) : DX := fun Δ => mbind (dx Δ) fun x => mbind (mDct x) fun _ => mbind (dy Δ) fun y => mbind (dz Δ) fun z s => match x with
  | .obj n => match dctAt s n with
    | some kvs => match keyD y with
      | some k => if kvs.length < sizeLine then (match valD kvs k with
        | some d => some (.ok d, s)
        | none => some (.ok z, s.set n (.dK (putKD kvs k z)))) else none
      | none => none
    | none => none
  | _ => none
theorem de_dsetd {o e f : Expr} {dx dy dz : DX} {apos cpos : Pos} (ho : DE X W o dx) (he : DE X W e dy) (hf : DE X W f dz) (m : M2 X o "setdefault" apos e f cpos := by exact ⟨rfl, rfl, rfl, rfl⟩) : DE X W (.Call (.Attribute o "setdefault" apos) [e, f] [] cpos) (dDSetd dx dy dz) :=
  pe_imp (pe_dsetd ho he hf m) fun σ H Q ⟨Δ, φ, s, hσ, hs, h⟩ => upE_bind hσ hs h fun φ1 v H1 x s1 f1 hσ1 hs1 rx h1 => by
    obtain ⟨⟨a, rfl, d⟩, h2⟩ := mDct_bind hs1 rx h1
    refine ⟨a, rfl, d, upE_bind hσ1 hs1 h2 fun φ2 u H2 y s2 f2 hσ2 hs2 ry h3 => upE_bind hσ2 hs2 h3 fun φ3 w H3 z s3 f3 hσ3 hs3 rz h4 => ?_⟩
    split at h4
    · rename_i n
      have rx3 := (rx.fu f2).fu f3
      cases rx3
      rename_i ha
      split at h4
      · rename_i kvs e1
        split at h4
        · rename_i k e2
          split at h4
          · rename_i hz
            obtain ⟨vs, k1, r⟩ := hs3.dct e1 ha
            obtain ⟨q1, q2⟩ := r.val k
            refine ⟨vs, k, k1, keyD_kV ry e2, by rw [r.length]; exact hz, fun v0 ev => ?_, fun ev => ?_⟩
            · split at h4
              · rename_i d0 e3
                obtain ⟨v1, ev1, rv1⟩ := q1 d0 e3
                rw [ev1] at ev
                cases ev
                exact h4.ok hs3 rv1
              · rename_i e3
                rw [q2 e3] at ev
                cases ev
            · split at h4
              · rename_i d0 e3
                obtain ⟨v1, ev1, rv1⟩ := q1 d0 e3
                rw [ev1] at ev
                cases ev
              · rename_i e3
                have ff : Fu X.K φ3 φ3 H3 (upd H3 a (.dK (putK vs k w))) := fu_set hs3 ha
                exact h4 φ3 _ _ ff (hs3.set (o := .dK (putKD kvs k z)) ha ⟨_, upd_same, (r.put rz).fu ff⟩) (rz.fu ff)
          · exact h4.elim
        · exact h4.elim
      · exact h4.elim
    · exact h4.elim
/-! ### raise C('..'), an own class without an __init__ of its own -/
def dRaiseC (C : Addr) : DS := fun Δ s => some (.ex ⟨C, []⟩ Δ, s)
structure ExcF (K : PySem.W.Frag) (mg : Str → Option Value) (x : Str) (C : Addr) : Prop where
  q : PySem.W.excIn K C [.type "ValueError", .type "Exception", .type "BaseException", .type "object"] "ValueError.__new__" = true
  gC : mg x = some (.ref C)
  kC : PySem.W.keepIn K (.ref C) = true
  b : PySem.W.subIn K (.ref C) (.type "BaseException") = some true
  t : PySem.W.typeIn K (.ref C) = some (.type "type")
theorem ds_raiseC {x m : Str} {C : Addr} {j : Nat} {p p2 pos pos2 : Pos} (T : ExcF X.K X.mg x C) (hc : X.calm = true) (tk : Takes X W) (hg : Gl X x := by rfl) (hdb : (x == ("__debug__" : Str)) = false := by decide) :
    DSt X W (.Raise (some (.Call (.Name x p) [.Constant (.str m) j p2] [] pos)) none pos2) (dRaiseC C) :=
  ps_imp (ps_raise hc tk (pmk_own PySem.F.excBase_ValueError T.q T.gC T.kC (raises_own T.b T.t) hg hdb)) fun D σ H ⟨Δ, φ, s, hσ, hs, h⟩ => h φ σ H (.ref C) none (Fu.refl _ _) hs hσ ⟨rfl, .inl ⟨rfl, rfl⟩⟩
end
end DV

namespace DV
open PySem L2 PyProof.Rows
theorem hu64 {k : Nat} {A : Around} (hr : RoomG k A) : A.units + 64 < cLine := by have := hr.rm.un; omega
theorem hu66 {k : Nat} {A : Around} (hr : RoomG k A) : A.units + 66 < cLine := by have := hr.rm.un; omega
theorem hu1 {k : Nat} {A : Around} (hr : RoomG k A) : A.units + 1 < cLine := by have := hr.rm.un; omega
theorem hu0 {k : Nat} {A : Around} (hr : RoomG k A) : A.units < cLine := by have := hr.rm.un; omega
/-- no turn of a recursion is left -/
theorem fn_none {P : Program} {w : World} {K : PySem.W.Frag} {mg : Str → Option Value} {base : Heap} {k : Nat} {f : Addr} {fd : FuncData} {ps : List Str} : FnG P w K mg base k f fd ps (fun _ _ => none) :=
  ⟨fun A outer s H args us vs Q E _ _ _ _ h => by
    obtain ⟨_, ds, φ, s, _, _, h⟩ := h
    exact h.elim⟩
section
variable {X : Cx} {W : WX}
/-! ### a written dict of ints -/
def kdB : List DictEntry → List (Int × Int) → Bool
  | [], [] => true
  | e :: es, (k, v) :: r => (match e.key, e.val with
    | .int k' _, .int v' _ => k' == k && v' == v && e.hash == hashInt k
    | _, _ => false) && kdB es r
  | _, _ => false
def lookI : List (Int × Int) → Int → Option Int
  | [], _ => none
  | (k, v) :: r, i => if k = i then some v else lookI r i
theorem kdB_keys : ∀ {es : List DictEntry} {kvs : List (Int × Int)}, kdB es kvs = true → ∀ e ∈ es, ∃ k : Key, keyIs k e.key = true ∧ ∀ w, e.hash = keyH w k
  | [], [], _, _, h => by cases h
  | e :: es, (k, v) :: r, h, e', h' => by
    unfold kdB at h
    rw [Bool.and_eq_true] at h
    rcases List.mem_cons.mp h' with rfl | h'
    · obtain ⟨h1, _⟩ := h
      split at h1
      · rename_i k' t v' t' ek ev
        simp only [Bool.and_eq_true, beq_iff_eq] at h1
        obtain ⟨⟨rfl, rfl⟩, eh⟩ := h1
        exact ⟨.inl k', by rw [ek]; exact keyIs_int _ _, fun w => eh⟩
      · cases h1
    · exact kdB_keys h.2 e' h'
theorem kdB_find : ∀ {es : List DictEntry} {kvs : List (Int × Int)} (i : Int), kdB es kvs = true → match lookI kvs i with
    | some v => ∃ t, (es.find? fun e => keyIs (.inl i) e.key).map (·.val) = some (.int v t)
    | none => (es.find? fun e => keyIs (.inl i) e.key).map (·.val) = none
  | [], [], _, _ => rfl
  | e :: es, (k, v) :: r, i, h => by
    unfold kdB at h
    rw [Bool.and_eq_true] at h
    obtain ⟨h1, h2⟩ := h
    split at h1
    · rename_i k' t v' t' ek ev
      simp only [Bool.and_eq_true, beq_iff_eq] at h1
      obtain ⟨⟨rfl, rfl⟩, eh⟩ := h1
      rw [List.find?_cons]
      by_cases hk : k' = i
      · subst hk
        have q : keyIs (.inl k') e.key = true := by rw [ek]; exact keyIs_int _ _
        simp only [lookI, if_true, q, Option.map_some, ev]
        exact ⟨t', rfl⟩
      · have q : keyIs (.inl i) e.key = false := by
          rw [ek]
          show Value.isInt i (.int k' t) = false
          simp only [Value.isInt]
          exact beq_eq_false_iff_ne.mpr (fun z => hk (by first | exact z | exact z.symm))
        simp only [lookI, if_neg hk, q]
        exact kdB_find i h2
    · cases h1
structure KdI (K : PySem.W.Frag) (a : Addr) (kvs : List (Int × Int)) : Prop where
  ex : ∃ es n, K.lookup a = some ⟨.type "dict", none, .dict es n, #[]⟩ ∧ kdB es.toList kvs = true
  ns : (a == sysModules) = false
def dKGet (kvs : List (Int × Int)) (dy : DX) : DX := fun Δ => mbind (dy Δ) fun y s => match y with
  | .int i => match lookI kvs i with
    | some v => some (.ok (.int v), s)
    | none => some (.ok .non, s)
  | _ => none
theorem de_kget {o e : Expr} {a : Addr} {kvs : List (Int × Int)} {dy : DX} {apos cpos : Pos} (T : KdI X.K a kvs) (ho : PE X o (tC (.ref a))) (he : DE X W e dy) (m : M1 X o "get" apos e cpos := by exact ⟨rfl, rfl, rfl, rfl⟩) : DE X W (.Call (.Attribute o "get" apos) [e] [] cpos) (dKGet kvs dy) := by
  refine ⟨fun pins s σ H Q I ⟨Δ, φ, st, hσ, hs, h⟩ => ?_⟩
  obtain ⟨⟨es, n, hk, hd⟩, hns⟩ := T
  refine wpAny_Call_method m.base m.few m.line PySem.F.plainAttrs_dict PySem.F.slot_dict_get PySem.F.type_dict_get (thn (ho.run pins s σ H (fun v H1 => v = .ref a ∧ H1 = H) I ⟨rfl, rfl⟩) fun u s1 ⟨x, H1, I1, rx, ex, eH⟩ => ?_)
  subst ex eH
  obtain rfl : u = Value.ref a := rx
  have ob := I1.kIn a _ hk
  refine ⟨⟨_, ob, rfl⟩, fun b q => by cases q; exact ⟨_, ob, rfl⟩, ?_⟩
  rw [m.trees]
  have hE : upE X.K W dy σ H1 fun y H2 => ∃ i, y = .int i ∧ Q (match lookI kvs i with | some v => .int v | none => .non) H2 :=
    upE_bind hσ hs h fun φ1 v H2 y s2 f1 hσ1 hs1 ry h1 => by
      split at h1
      · cases ry
        rename_i i
        refine ⟨i, rfl, ?_⟩
        split at h1
        · exact h1.ok hs1 (.int _)
        · exact h1.ok hs1 .non
      · exact h1.elim
  refine Calls.callWith_builtin rfl (Calls.evalArgs_plain (Calls.spliced_cons (thn (he.run pins s1 σ H1 _ I1 hE) fun iv s2 ⟨y, H2, I2, ry, i, ey, q2⟩ => Calls.spliced_nil ?_)))
  subst ey
  obtain ⟨t, rfl⟩ := ry
  have ob2 := I2.kIn a _ hk
  have mo : s2.heap.MapOf (mixKind X.prog X.w) a (fun k => findBy (mixKind X.prog X.w).is es k) := ⟨_, es, n, ob2, ⟨rfl, rfl, rfl⟩, rfl, fun e he => by
    obtain ⟨k, k1, k2⟩ := kdB_keys hd e (by simpa using he)
    exact ⟨k, k1, k2 _⟩, fun _ => rfl⟩
  refine call_meetsIn PySem.F.slot_dict_get mo.typeIs PySem.F.entry_dict_get (PySem.F.args_dict_get_2 _ _) (meets_dict_get (mixKind X.prog X.w) a (k := .inl i) (kV_is (k := .inl i) (show ∃ t', Value.int i t = Value.int i t' from ⟨t, rfl⟩)) hns) ⟨_, mo, ?_⟩
  have hf := kdB_find i hd
  have e1 : findBy (mixKind X.prog X.w).is es (.inl i) = (es.toList.find? fun e => keyIs (.inl i) e.key).map (·.val) := by
    unfold findBy
    obtain ⟨l⟩ := es
    rw [List.find?_toArray]
    rfl
  rw [e1]
  cases eL : lookI kvs i with
  | none =>
    rw [eL] at hf q2
    simp only at hf q2
    rw [hf]
    exact ⟨.non, H2, I2.tok _, rfl, q2⟩
  | some v =>
    rw [eL] at hf q2
    simp only at hf q2
    obtain ⟨t', hf⟩ := hf
    rw [hf]
    exact ⟨.int v, H2, I2.tok _, ⟨t', rfl⟩, q2⟩
/-! ### max of a tuple of ints -/
theorem dpAll_ints {K : PySem.W.Frag} {H : Hp} : ∀ ns : List Int, DpAll K H (ns.map V.int) (ns.map PyData.int)
  | [] => .nil
  | i :: r => .cons (.int i) (dpAll_ints r)
theorem foldl_max (a : Int) : ∀ r : List Int, r.foldl max a = r.foldl maxI a := fun r => by
  have e : (fun a b : Int => max a b) = maxI := by
    funext a b
    unfold maxI
    by_cases h : b > a
    · rw [if_pos h]; omega
    · rw [if_neg h]; omega
  show r.foldl (fun a b : Int => max a b) a = _
  rw [e]
def fMaxT : OpN := fun xs s => match xs with
  | [.tup ys] => match intsOf ys with
    | some ns => if 0 < ns.length then some (.int (maxL ns), s) else none
    | none => none
  | _ => none
def rMaxT (K : PySem.W.Frag) : List V → Hp → VK → Prop := fun vs H Q => ∃ (a : Addr) (ns : List Int), vs = [V.ref a] ∧ SqT K H a (ns.map V.int) ∧ 0 < ns.length ∧ Q (.int (maxL ns)) H
theorem cr_maxT (hc : X.calm = true) (hu : X.A.units + 66 < cLine) : CallR X (.builtin "max") (rMaxT X.K) := by
  intro pins s σ H vs us Q I r h
  obtain ⟨a, ns, rfl, hs, hne, q⟩ := h
  obtain ⟨its, rv, hl, _⟩ := I.tuple hs
  rw [Vals.ref1 r]
  cases ns with
  | nil => exact absurd hne (Nat.lt_irrefl 0)
  | cons n r =>
    obtain ⟨as, hr⟩ := Dp.readsAll I _ _ its (dpAll_ints (n :: r)) rv
    have al : PySem.W.AlikeAll ((n :: r).map PyData.int) := ⟨fun x hx y hy => by
      obtain ⟨i, _, rfl⟩ := List.mem_map.mp hx
      obtain ⟨j, _, rfl⟩ := List.mem_map.mp hy
      rfl, fun x hx => by
      obtain ⟨i, _, rfl⟩ := List.mem_map.mp hx
      exact fun z => nomatch z⟩
    have dp : PyData.depthAll ((n :: r).map PyData.int) = 0 := PySem.W.depth_ints (n :: r)
    obtain ⟨o, ho, hcl, m, hd⟩ := hl
    refine PySem.W.max_tuple_data (x := .int n) (xs := r.map .int) (I.ok.hd hc) ⟨o, ho, hcl, m, hd⟩ hr al (by rw [List.map_cons] at dp; rw [dp]; omega) fun i v h' tk bs hv rd hk => ?_
    rw [PySem.W.maxD_ints, foldl_max] at rd
    cases rd
    exact ⟨.int (maxL (n :: r)), H, I.kept hk, ⟨_, rfl⟩, q⟩
theorem dc_maxT (hc : X.calm = true) (hu : X.A.units + 66 < cLine) : DCall X (.builtin "max") fMaxT := ⟨_, cr_maxT hc hu, fun φ H s vs ds Q so rx p => by
  unfold fMaxT at p
  split at p
  · obtain ⟨v, rfl, r⟩ := dts1 rx
    obtain ⟨a, ws, rfl, hq, r⟩ := r.tupI
    split at p
    · rename_i ns e
      split at p
      · rename_i hz
        rw [intsOf_eq e] at r
        rw [r.ints] at hq
        exact ⟨a, ns, rfl, hq, hz, p.ok so (.int _)⟩
      · exact p.elim
    · exact p.elim
  · exact p.elim⟩
def fMaxA : OpN := orN fMax fMaxT
theorem dc_maxA (hc : X.calm = true) (hu : X.A.units + 66 < cLine) : DCall X (.builtin "max") fMaxA := (dc_max hc).or (dc_maxT hc hu)
end
end DV

namespace DV
open PySem L2 PyProof.Rows
section
variable {X : Cx} {W : WX}
/-! ### a, b = x, y -/
def dPar (i j : Nat) (da : DA) : DS := fun Δ => sbind (da Δ) Δ fun xs s => match xs with
  | [x, y] => some (.nx ((Δ.set i (some x)).set j (some y)), s)
  | _ => none
theorem sbA {K : PySem.W.Frag} {D : Ends} {φ : List Addr} {H : Hp} {s : Sto} {σ : L2.St} {Δ : Dn} {da : DA} {k : List DV.D → Sto → RS} {Q : List V → Hp → Prop} (hσ : Sg K φ H σ Δ) (hs : So K φ H s) (h : PsS K W D φ H (sbind (da Δ) Δ k s))
    (q : ∀ φ1 vs H1 ds s1, Fu K φ φ1 H H1 → Sg K φ1 H1 σ Δ → So K φ1 H1 s1 → Dts K φ1 H1 vs ds → PsS K W D φ1 H1 (k ds s1) → Q vs H1) : upA K W da σ H Q :=
  ⟨Δ, φ, s, hσ, hs, Ps.mono (fun φ1 v H1 d s1 z => q φ1 v H1 d s1 z.1 (hσ.fu z.1) z.2.1 z.2.2.1 z.2.2.2) (sb hσ h)⟩
theorem ds_par {i j : Nat} {x y : Str} {a b : Expr} {da : DA} {px py pt pos : Pos} {kt k2 pt2} (hc : X.calm = true) (hN : X.N.Nodup) (ha : DAs X W [a, b] da) (hi : X.N[i]? = some x := by rfl) (hj : X.N[j]? = some y := by rfl) (hij : i ≠ j := by decide)
    (hx : X.env.scope.names.lookup x = some .local := by rfl) (hy : X.env.scope.names.lookup y = some .local := by rfl)
    (hw : swappedStores [.Tuple [.Name x px, .Name y py] kt pt] (.Tuple [a, b] k2 pt2) X.env = pure (some [x, y]) := by rfl)
    (hs : swapsWithSole [.Tuple [.Name x px, .Name y py] kt pt] (.Tuple [a, b] k2 pt2) pos.line X.env = pure false := by rfl) :
    DSt X W (.Assign [.Tuple [.Name x px, .Name y py] kt pt] (.Tuple [a, b] k2 pt2) pos) (dPar i j da) :=
  ps_imp (ps_par hc hN hi hj hij hx hy ha hw hs) fun D σ H ⟨Δ, φ, s, hσ, hs, h⟩ => sbA hσ hs h fun φ1 vs H1 ds s1 f1 hσ1 hs1 rs h1 => by
    split at h1
    · obtain ⟨v, w, rfl, r1, r2⟩ := dts2 rs
      exact ⟨v, w, rfl, h1 φ1 _ _ (Fu.refl _ _) hs1 ((hσ1.set r1 i).set r2 j)⟩
    · exact h1.elim
end
/-! ### the law -/
/-- what law(script) promises: for a list of at most 63 ints the answer is True -/
def spLaw (K : PySem.W.Frag) : Sp := fun vs H Q _ => ∃ (a : Addr) (ns : List Int), vs = [.ref a] ∧ FzL K H a (ns.map V.int) ∧ ns.length ≤ 63 ∧ ∀ H', Q (.bl true) H'
theorem So.none {K : PySem.W.Frag} {H : Hp} : So K [] H [] := ⟨rfl, .nil, fun n o e => by simp at e⟩
theorem FzL.only {K : PySem.W.Frag} {H : Hp} {a : Addr} {vs : List V} (o : Only H) (h : SqL K H a vs) : FzL K H a vs := by
  rcases h with (h | ⟨ob, h⟩) | h
  · rcases o a with z | ⟨ob, xs, z⟩ <;> (rw [z] at h; cases h)
  · exact .inl ⟨ob, h⟩
  · exact .inr (.inr h)
/-- the run over the data says True for every script -/
def AllTrue (fM : FnD) : Prop := ∀ ns : List Int, ns.length ≤ 63 → ∃ s, fM [.fz (ns.map .int)] [] = some (.ok (.bl true), s)
theorem no_exc {P : Program} {w : World} {H : Hp} {s : Shared} {e : Value} {s' : Shared} (h : L2.CX P w [] H s (fun _ _ _ => False) e s') : False := by
  obtain ⟨_, _, _, _, _, _, _, _, _, _, _, _, z⟩ := h
  exact z
/-- the law's call at the top, from its run over the data -/
theorem law_top {P : Program} {w : World} {K : PySem.W.Frag} {mg mb : Str → Option Value} {k : Nat} {fa a : Addr} {fd : FuncData} {x : Str} {fM : FnD} {t : Shared} {vs : List Value} {ns : List Int} (inK : K.In t.heap) (nsM : t.heap.Ns mainGlobals mg) (nsB : t.heap.Ns builtinsNs mb)
    (boot : ∀ y : Str, y ≠ "__name__" → mb y = bootBuiltins y) (lim : t.heap.NoLimit) (noG : t.gens = #[]) (script : t.heap.get? a = some { cls := .type "list", data := .seq vs.toArray }) (hints : IntsAre vs ns) (h63 : ns.length ≤ 63) (hr : RoomG k callerA)
    (F : ∀ base : Heap, K.In base → base.Ns mainGlobals mg → FnG P w K mg base k fa fd [x] fM) (bind : ∀ (s : Shared) (u : Value), BindsTo s fd ⟨[u], []⟩ [(x, u)]) (hT : AllTrue fM) :
    codeAny (model P w) callerA (.call (.ref fa) ⟨[.ref a], []⟩) (fun r t2 => r = .ok (.ret (.bool true)) ∧ OldK t.heap t2.heap ∧ t2.os = t.os ∧ AllBare t2.gens) t := by
  have vals := vals_ints hints
  have small : ns.length ≤ sizeLine := Nat.le_of_lt (small1000 (by omega))
  -- H tracks the script at most
  have run : ∀ H : Hp, (∀ b, H b = none ∨ ∃ ob xs, H b = some (.frz ob (.lst xs))) → FzL K H a (ns.map V.int) → HOk P w H t.heap → (∀ b, H b ≠ none → b = a) → (H a ≠ none → K.lookup a = none) →
      codeAny (model P w) callerA (.call (.ref fa) ⟨[.ref a], []⟩) (fun r t2 => r = .ok (.ret (.bool true)) ∧ OldK t.heap t2.heap ∧ t2.os = t.os ∧ AllBare t2.gens) t := fun H only fz hok alone free => by
    have untracked : ∀ {b : Addr} {o : Obj}, t.heap.get? b = some o → (b = a → H a = none) → (hidT t.heap H).get? b = some o := fun {b o} e n => hidT_get e (by
      cases q : H b with
      | none => rfl
      | some u =>
        have z := alone b (by rw [q]; simp)
        rw [z] at q
        rw [n z] at q
        cases q)
    have dicts : ∀ {b : Addr} {m : Str → Option Value}, t.heap.Ns b m → (hidT t.heap H).Ns b m := fun {b m} ⟨o, es, ep, e, d, r⟩ => ⟨o, es, ep, untracked e (fun z => by
      subst z
      rw [script] at e
      cases e
      cases (show Data.seq vs.toArray _ = Data.dict es ep from d)), d, r⟩
    have inB : K.In (hidT t.heap H) := fun b o e => untracked (inK b o e) (fun z => by
      subst z
      cases q : H b with
      | none => rfl
      | some u => rw [free (by rw [q]; simp)] at e; cases e)
    obtain ⟨ml, l1, l2⟩ := lim
    have md : Mod K mg (hidT t.heap H) := ⟨inB, dicts nsM, ⟨mb, dicts nsB, boot⟩, ⟨ml, dicts l1, l2⟩⟩
    have env0 : Env0 P w K mg (hidT t.heap H) callerA [] t H := ⟨rfl, md, fun b o e => of_hidT e, Nat.le_of_eq (hidT_size _ _), trivial, fun b hb => absurd hb (by simp [frs]), hok, .of_eq noG⟩
    obtain ⟨s', hs⟩ := hT ns h63
    have sp : spD K 1 fM [.ref a] H (fun v _ => v = .bl true) fun _ _ _ => False := by
      refine ⟨rfl, [.fz (ns.map .int)], [], [], .cons (.fz fz (Dts.of_ints ns)) .nil, So.none, ?_⟩
      rw [hs]
      intro φ v H' _ _ rv
      cases rv
      rfl
    refine codeAny_mono ((F _ inB (dicts nsM)).run callerA [] t H ⟨[.ref a], []⟩ [.ref a] [.ref a] (fun v _ => v = .bl true) (fun _ _ _ => False) hr env0 (bind t (.ref a)) (.cons rfl .nil) sp) fun r t2 h => ?_
    cases r with
    | error e => exact (no_exc h).elim
    | ok fl => cases fl with
      | next => exact h.elim
      | brk => exact h.elim
      | cont => exact h.elim
      | ret u =>
        obtain ⟨v, H', os, bare, un, hok', rv, ev⟩ := h
        have ev' : v = .bl true := ev
        subst ev'
        obtain rfl : u = Value.bool true := rv
        refine ⟨rfl, OldK.of_keep fun b o e => ?_, os, bare⟩
        rcases only b with z | ⟨ob, xs, z⟩
        · exact un.keep b o e z (fun y => absurd y (by simp [frs])) (by simp)
        · obtain ⟨e1, _⟩ := hok b _ z
          obtain ⟨e2, _⟩ := hok' b _ (un.frzs b ob _ z)
          rw [e] at e1
          cases e1
          exact e2
  cases lk : K.lookup a with
  | some o =>
    have e := inK a o lk
    rw [script] at e
    cases e
    exact run (fun _ => none) (fun _ => .inl rfl) (.inr (.inr ⟨_, vs.toArray, _, lk, rfl, rfl, rfl, by rw [List.size_toArray, hints.length]; exact small, by simpa using vals⟩)) (fun b u z => by cases (show (none : Option HO) = some u from z)) (fun b z => absurd rfl z) fun z => absurd rfl z
  | none =>
    refine run (fun b => if b = a then some (.frz { cls := .type "list", data := .seq vs.toArray } (.lst (ns.map V.int))) else none) (fun b => ?_) (.inl ⟨_, if_pos rfl⟩) (fun b u z => ?_) (fun b z => ?_) fun _ => lk
    · by_cases hb : b = a
      · exact .inr ⟨_, _, if_pos hb⟩
      · exact .inl (if_neg hb)
    · by_cases hb : b = a
      · subst hb
        cases (if_pos rfl).symm.trans z
        exact ⟨script, by rw [List.length_map]; exact small, vs, _, vals, script⟩
      · cases (if_neg hb).symm.trans z
    · by_cases hb : b = a
      · exact hb
      · exact absurd (if_neg hb) z
/-- the goal at the law's head, from its run over the data -/
theorem walk_top {l : PySem.W.OpenLaw} {k : Nat} {q : Program} {loose : List Str} {XP : (Str → Option Value) → Heap → Prop} {YP : World → Heap → Prop} {d : DefRec} {K : Params → PySem.W.Frag} {x : Str} (hn : l.most = some 63) (hdf : d.params.defaults = []) (hr : RoomG k callerA)
    (hY : ∀ (w : World) (h : Heap), YP w h → (K w.params).In h)
    (F : ∀ (w : World) (mg : Str → Option Value) (fa : Addr) (h : Heap), (K w.params).In h → h.Ns mainGlobals mg → mg d.name = some (.ref fa) →
      ∃ (fd : FuncData) (fM : FnD), AllTrue fM ∧ (∀ (s : Shared) (u : Value), BindsTo s fd ⟨[u], []⟩ [(x, u)]) ∧ ∀ base : Heap, (K w.params).In base → base.Ns mainGlobals mg → FnG l.prog w (K w.params) mg base k fa fd [x] fM) :
    PySem.W.WalkO q loose XP YP l.row.toRowW d [] (fun f vs => PySem.call f vs) := by
  refine Att.attach_call hn hdf fun w s₀ t mg mb fa o pm cd doc a vs ns G Y _ _ _ hmg hobj hints hlen noG => ?_
  have inK := hY w _ Y
  obtain ⟨fd, fM, hT, hbd, hF⟩ := F w mg fa _ inK G.T.g hmg
  exact law_top inK G.T.g G.T.b G.T.builtins G.T.nolimit noG hobj hints hlen hr hF hbd hT
end DV

namespace DV
open PySem L2 PyProof.Rows
/-! ### keywords: which of the given values stands at which parameter -/
def pickL {α : Type} (ix : List Nat) (l : List α) : List α := ix.filterMap fun i => l[i]?
theorem pick_len {α : Type} {l : List α} : ∀ {ix : List Nat}, (∀ i ∈ ix, i < l.length) → (pickL ix l).length = ix.length
  | [], _ => rfl
  | i :: r, h => by
    have hi := h i (by simp)
    have ih := pick_len (ix := r) fun j hj => h j (by simp [hj])
    unfold pickL at ih ⊢
    rw [List.filterMap_cons, List.getElem?_eq_getElem hi]
    simp [ih]
theorem pick_vals {vs : List V} {us : List Value} (r : Vals vs us) : ∀ ix : List Nat, (∀ i ∈ ix, i < vs.length) → Vals (pickL ix vs) (pickL ix us)
  | [], _ => .nil
  | i :: q, h => by
    have hi := h i (by simp)
    obtain ⟨u, hu, rv⟩ := r.get (List.getElem?_eq_getElem hi)
    have ih := pick_vals r q fun j hj => h j (by simp [hj])
    unfold pickL at ih ⊢
    rw [List.filterMap_cons, List.filterMap_cons, List.getElem?_eq_getElem hi, hu]
    exact .cons rv ih
theorem pick_dts {K : PySem.W.Frag} {φ : List Addr} {H : Hp} {vs : List V} {ds : List D} (r : Dts K φ H vs ds) : ∀ ix : List Nat, (∀ i ∈ ix, i < vs.length) → Dts K φ H (pickL ix vs) (pickL ix ds)
  | [], _ => .nil
  | i :: q, h => by
    have hi := h i (by simp)
    obtain ⟨d, hd, rd⟩ := r.get' (List.getElem?_eq_getElem hi)
    have ih := pick_dts r q fun j hj => h j (by simp [hj])
    unfold pickL at ih ⊢
    rw [List.filterMap_cons, List.filterMap_cons, List.getElem?_eq_getElem hi, hd]
    exact .cons rd ih
/-- the def takes n values and then the keywords ks: ix tells the place of each parameter's value among them -/
structure KB (K : PySem.W.Frag) (fd : FuncData) (ps : List Str) (n : Nat) (ks : List Str) (ix : List Nat) : Prop where
  to : ∀ (s : Shared) (us ws : List Value), K.In s.heap → us.length = n → ws.length = ks.length → BindsTo s fd ⟨us, ks.zip ws⟩ (ps.zip (pickL ix (us ++ ws)))
  lt : ∀ i ∈ ix, i < n + ks.length
  ln : ix.length = ps.length
section
variable {X : Cx} {W : WX} {k n m : Nat} {f C : Addr} {fd : FuncData} {ps ks : List Str} {ix : List Nat} {fM : FnD} {x : Str} {p pos apos : Pos} {e o : Expr} {es : List Expr} {kws : List Keyword} {da dk : DA}
def DKs (X : Cx) (W : WX) (kws : List Keyword) (da : DA) : Prop := PK X kws (upA X.K W da)
theorem pk_imp {t t' : TA} (h : PK X kws t) (f : ∀ σ H Q, t' σ H Q → t σ H Q) : PK X kws t' := ⟨fun pos pins s σ H Q I q => h.run pos pins s σ H Q I (f _ _ _ q)⟩
theorem dk_nil : DKs X W [] dNil := pk_imp pk_nil fun σ H Q ⟨Δ, φ, s, hσ, hs, h⟩ => h.ok hs .nil
theorem dk_cons {nm : Option Str} {kpos : Pos} {de : DX} {dr : DA} (ha : DE X W e de) (hr : DKs X W kws dr) : DKs X W (⟨nm, e, kpos⟩ :: kws) (dCons de dr) :=
  pk_imp (pk_cons ha hr) fun σ H Q ⟨Δ, φ, s, hσ, hs, h⟩ => upE_bind hσ hs h fun φ1 v H1 x s1 f1 hσ1 hs1 rx h1 => upA_bind hσ1 hs1 h1 fun φ2 vs H2 xs s2 f2 hσ2 hs2 rs h2 => h2.ok hs2 (.cons (rx.fu f2) rs)
/-- the callee's run behind the choice -/
def kwN (n m : Nat) (ix : List Nat) (fM : FnD) (xs zs : List D) : M D := fun s => if xs.length = n ∧ zs.length = m then fM (pickL ix (xs ++ zs)) s else none
theorem kwN_len {K : PySem.W.Frag} {E : WK} {φ : List Addr} {H : Hp} {s : Sto} {xs zs : List D} {Cc : List Addr → V → Hp → D → Sto → Prop} (h : Ps K E (Dt K) φ H Cc (kwN n m ix fM xs zs s)) : xs.length = n ∧ zs.length = m ∧ Ps K E (Dt K) φ H Cc (fM (pickL ix (xs ++ zs)) s) := by
  unfold kwN at h
  split at h
  · rename_i z; exact ⟨z.1, z.2, h⟩
  · exact h.elim
theorem run_fnKw {pins : List (Addr × Obj)} {σ : L2.St} {H : Hp} {s : Shared} {Q : VK} {us ws : List Value} {vs zs : List V} {φ : List Addr} {st : Sto} {xs ys : List D} (F : FnX X k f fd ps fM) (hr : RoomG k X.A) (hb : KB X.K fd ps n ks ix) (tk : Takes X W)
    (I : Inv X pins σ H s) (r : Vals vs us) (rz : Vals zs ws) (so : So X.K φ H st) (rx : Dts X.K φ H vs xs) (ry : Dts X.K φ H zs ys) (l1 : xs.length = n) (l2 : ys.length = ks.length) (h : Ps X.K (wAt W σ) (Dt X.K) φ H (fun _ v H' _ _ => Q v H') (fM (pickL ix (xs ++ ys)) st)) :
    wpAny (model X.prog X.w) X.A (call (.ref f) us (ks.zip ws)) (EP X pins σ Q) X.xe s := by
  have hlt : ∀ i ∈ ix, i < (vs ++ zs).length := fun i hi => by
    have := hb.lt i hi
    rw [List.length_append, rx.length, ry.length, l1, l2]
    exact this
  have r2 := pick_vals (r.append rz) ix hlt
  have rd := pick_dts (rx.append ry) ix hlt
  have hl : (pickL ix (vs ++ zs)).length = ps.length := (pick_len hlt).trans hb.ln
  refine wpAny_call (codeAny_mono (F.run X.A X.stack s H ⟨us, ks.zip ws⟩ (pickL ix (us ++ ws)) (pickL ix (vs ++ zs)) Q (WE W σ) hr I.env0 (hb.to s us ws I.kIn (by rw [← r.length, rx.length, l1]) (by rw [← rz.length, ry.length, l2])) r2 ⟨hl, _, φ, st, rd, so, h⟩) fun r s' hq => ?_)
  cases r with
  | error e => exact passAt tk σ pins H s e s' I hq
  | ok fl =>
    cases fl with
    | ret u => exact I.after hq
    | next => exact False.elim hq
    | brk => exact False.elim hq
    | cont => exact False.elim hq
def dClK (n m : Nat) (ix : List Nat) (fM : FnD) (da dk : DA) : DX := fun Δ => mbind (da Δ) fun xs => mbind (dk Δ) fun zs => kwN n m ix fM xs zs
/-- f(k = v, ..) -/
theorem de_callK0 (F : FnX X k f fd ps fM) (hr : RoomG k X.A) (hm : X.mg x = some (.ref f)) (hk : PySem.W.keepIn X.K (.ref f) = true) (hb : KB X.K fd ps 0 ks ix) (tk : Takes X W) (hkw : DKs X W kws dk) (hg : Gl X x := by rfl) (hl : ks.length = m := by rfl)
    (hall : (backToKw pos (keywordEach kws X.env)).all (·.1.isSome) = true := by rfl) (hks : (backToKw pos (keywordEach kws X.env)).filterMap (·.1) = ks := by rfl) (hdb : (x == ("__debug__" : Str)) = false := by decide)
    (hpl : ((backTo pos (starEach [] X.env)).any (·.1) || (backToKw pos (keywordEach kws X.env)).any (·.1.isNone)) = false := by rfl) :
    DE X W (.Call (.Name x p) [] kws pos) (dClK 0 m ix fM dNil dk) := by
  subst hl
  refine ⟨fun pins s σ H Q I ⟨Δ, φ, st, hσ, hs, h⟩ => wpAny_Call_Name_kw (ld_glob I hg hm ?_ hdb)⟩
  have hA : upA X.K W dk σ H fun zs H2 => ∃ φ2 ys s2, So X.K φ2 H2 s2 ∧ Dts X.K φ2 H2 zs ys ∧ Ps X.K (wAt W σ) (Dt X.K) φ2 H2 (fun _ v H' _ _ => Q v H') (kwN 0 ks.length ix fM [] ys s2) :=
    upA_bind hσ hs h fun φ1 zs H1 ys s1 f1 hσ1 hs1 rs h1 => ⟨φ1, ys, s1, hs1, rs, h1⟩
  refine PySem.W.callWith_KW0 (h₀ := X.base) I.ok.mod.kin hk hall ?_ hpl
  refine thn (hkw.run pos pins s σ H _ I hA) fun ws t2 ⟨zs, H2, I2, rz, φ2, ys, s2, so2, ry, h2⟩ => ⟨I2.kIn, ?_⟩
  rw [hks]
  obtain ⟨l1, l2, h3⟩ := kwN_len h2
  exact run_fnKw (us := []) (vs := []) F hr hb tk I2 .nil rz so2 .nil ry l1 l2 h3
/-- f(e, .., k = v, ..) -/
theorem de_callK (F : FnX X k f fd ps fM) (hr : RoomG k X.A) (hm : X.mg x = some (.ref f)) (hk : PySem.W.keepIn X.K (.ref f) = true) (hb : KB X.K fd ps n ks ix) (tk : Takes X W) (ha : DAs X W (e :: es) da) (hkw : DKs X W kws dk) (hg : Gl X x := by rfl) (hl : ks.length = m := by rfl)
    (hall : (backToKw pos (keywordEach kws X.env)).all (·.1.isSome) = true := by rfl) (hks : (backToKw pos (keywordEach kws X.env)).filterMap (·.1) = ks := by rfl) (hdb : (x == ("__debug__" : Str)) = false := by decide)
    (he : starEach (e :: es) X.env = (false, eval e X.env) :: starEach es X.env := by rfl) (hpl : ((backTo pos (starEach (e :: es) X.env)).any (·.1) || (backToKw pos (keywordEach kws X.env)).any (·.1.isNone)) = false := by rfl) :
    DE X W (.Call (.Name x p) (e :: es) kws pos) (dClK n m ix fM da dk) := by
  subst hl
  refine ⟨fun pins s σ H Q I ⟨Δ, φ, st, hσ, hs, h⟩ => wpAny_Call_Name_kw (ld_glob I hg hm ?_ hdb)⟩
  have hA : upA X.K W da σ H fun vs H1 => ∃ φ1 xs s1, Sg X.K φ1 H1 σ Δ ∧ So X.K φ1 H1 s1 ∧ Dts X.K φ1 H1 vs xs ∧ Ps X.K (wAt W σ) (Dt X.K) φ1 H1 (fun _ v H' _ _ => Q v H') (mbind (dk Δ) (fun zs => kwN n ks.length ix fM xs zs) s1) :=
    upA_bind hσ hs h fun φ1 vs H1 xs s1 f1 hσ1 hs1 rs h1 => ⟨φ1, xs, s1, hσ1, hs1, rs, h1⟩
  refine PySem.W.callWith_KW (h₀ := X.base) I.ok.mod.kin hk hall (thn (ha.run pos pins s σ H _ I hA) fun us t1 ⟨vs, H1, I1, r, φ1, xs, s1, hσ1, hs1, rs, h1⟩ => ?_) hpl he
  have hB : upA X.K W dk σ H1 fun zs H2 => ∃ φ2 ys s2, So X.K φ2 H2 s2 ∧ Dts X.K φ2 H2 vs xs ∧ Dts X.K φ2 H2 zs ys ∧ Ps X.K (wAt W σ) (Dt X.K) φ2 H2 (fun _ v H' _ _ => Q v H') (kwN n ks.length ix fM xs ys s2) :=
    upA_bind hσ1 hs1 h1 fun φ2 zs H2 ys s2 f2 hσ2 hs2 rz h2 => ⟨φ2, ys, s2, hs2, rs.fu f2, rz, h2⟩
  refine thn (hkw.run pos pins t1 σ H1 _ I1 hB) fun ws t2 ⟨zs, H2, I2, rz, φ2, ys, s2, so2, rx, ry, h2⟩ => ⟨I2.kIn, ?_⟩
  rw [hks]
  obtain ⟨l1, l2, h3⟩ := kwN_len h2
  exact run_fnKw F hr hb tk I2 r rz so2 rx ry l1 l2 h3
/-- o.m(k = v, ..) -/
def dMeK (C : Addr) (mn : Str) (m : Nat) (ix : List Nat) (fM : FnD) (dx : DX) (dk : DA) : DX := fun Δ => mbind (dx Δ) fun x => mbind (mIns C mn x) fun _ => mbind (dk Δ) fun zs => kwN 1 m ix fM [x] zs
theorem de_methK0 {mn : Str} {dx : DX} {pl : Sem Bool} (he : DE X W o dx) (c : Cls X.K C) (hm : Meth X.K C mn f) (F : FnX X k f fd ps fM) (hr : RoomG k X.A) (hb : KB X.K fd ps 1 ks ix) (tk : Takes X W) (hkw : DKs X W kws dk) (hl : ks.length = m := by rfl)
    (hall : (backToKw pos (keywordEach kws X.env)).all (·.1.isSome) = true := by rfl) (hks : (backToKw pos (keywordEach kws X.env)).filterMap (·.1) = ks := by rfl)
    (hpl : ((backTo pos (starEach [] X.env)).any (·.1) || (backToKw pos (keywordEach kws X.env)).any (·.1.isNone)) = false := by rfl)
    (ht : eval (.Call (.Attribute o mn apos) [] kws pos) X.env = (do let ov ← eval o X.env; standAt apos.atName; let (f, first) ← holding [ov] (getMethod ov mn pl); callWith pos f first (backTo pos (starEach [] X.env)) (backToKw pos (keywordEach kws X.env))) := by rfl) :
    DE X W (.Call (.Attribute o mn apos) [] kws pos) (dMeK C mn m ix fM dx dk) := by
  subst hl
  refine ⟨fun pins s σ H Q I ⟨Δ, φ, st, hσ, hs, h⟩ => ?_⟩
  have hE : upE X.K W dx σ H fun v H1 => ∃ φ1 x s1, Sg X.K φ1 H1 σ Δ ∧ So X.K φ1 H1 s1 ∧ Dt X.K φ1 H1 v x ∧ Ps X.K (wAt W σ) (Dt X.K) φ1 H1 (fun _ v H' _ _ => Q v H') (mbind (mIns C mn x) (fun _ => mbind (dk Δ) fun zs => kwN 1 ks.length ix fM [x] zs) s1) :=
    upE_bind hσ hs h fun φ1 v H1 x s1 f1 hσ1 hs1 rx h1 => ⟨φ1, x, s1, hσ1, hs1, rx, h1⟩
  refine PySem.W.methodCall_KW (pl := pl) (thn (he.run pins s σ H _ I hE) fun u t1 ⟨v, H1, I1, rv, φ1, x, s1, hσ1, hs1, rx, h1⟩ => ?_) ht
  obtain ⟨⟨a, dxx, fs, rfl, ea, lk⟩, h2⟩ := mIns_bind hs1 rx h1
  obtain rfl : u = Value.ref a := rv
  refine getmeth_ok I1 ea c hm lk ?_
  have hA : upA X.K W dk σ H1 fun zs H2 => ∃ φ2 ys s2, So X.K φ2 H2 s2 ∧ Dt X.K φ2 H2 (.ref a) x ∧ Dts X.K φ2 H2 zs ys ∧ Ps X.K (wAt W σ) (Dt X.K) φ2 H2 (fun _ v H' _ _ => Q v H') (kwN 1 ks.length ix fM [x] ys s2) :=
    upA_bind hσ1 hs1 h2 fun φ2 zs H2 ys s2 f2 hσ2 hs2 rs h3 => ⟨φ2, ys, s2, hs2, rx.fu f2, rs, h3⟩
  refine PySem.W.callWith_KW0 (first := [Value.ref a]) (h₀ := X.base) I1.ok.mod.kin hm.kp hall ?_ hpl
  refine thn (hkw.run pos pins t1 σ H1 _ I1 hA) fun ws t2 ⟨zs, H2, I2, rz, φ2, ys, s2, so2, rx2, ry, h3⟩ => ⟨I2.kIn, ?_⟩
  rw [hks]
  obtain ⟨l1, l2, h4⟩ := kwN_len h3
  exact run_fnKw (us := [Value.ref a]) (vs := [V.ref a]) F hr hb tk I2 (.cons rfl .nil) rz so2 (.cons rx2 .nil) ry l1 l2 h4
/-- the keywords' places, shown by the def's own binding -/
theorem kb_of {K : PySem.W.Frag} {fd : FuncData} {ps : List Str} {n : Nat} {ks : List Str} {ix : List Nat} (h : ∀ (s : Shared) (us ws : List Value), us.length = n → ws.length = ks.length → BindsTo s fd ⟨us, ks.zip ws⟩ (ps.zip (pickL ix (us ++ ws)))) (lt : ∀ i ∈ ix, i < n + ks.length) (ln : ix.length = ps.length) : KB K fd ps n ks ix :=
  ⟨fun s us ws _ l1 l2 => h s us ws l1 l2, lt, ln⟩
end
end DV

namespace DV
open PySem L2 PyProof.Rows
section
variable {X : Cx} {W : WX} {k m : Nat} {f C : Addr} {fd : FuncData} {ps ks : List Str} {ix : List Nat} {fM : FnD} {x : Str} {p pos : Pos} {kws : List Keyword} {dk : DA}
/-- __init__'s run behind the choice of the keywords -/
def ixN1 (n m : Nat) (ix : List Nat) (fM : FnD) : FnD := fun xs s => if xs.length = n + m then fM (pickL ix xs) s else none
theorem run_mkK {pins : List (Addr × Obj)} {σ : L2.St} {H : Hp} {t : Shared} {Q : VK} {ws : List Value} {zs : List V} {ys : List D} {φ : List Addr} {s : Sto} (Mc : Mk X.K C f) (F : FnX X k f fd ps fM) (hr : RoomG (k + 1) X.A) (hb : KB X.K fd ps 1 ks ix) (tk : Takes X W)
    (I : Inv X pins σ H t) (rz : Vals zs ws) (so : So X.K φ H s) (ry : Dts X.K φ H zs ys) (h : Ps X.K (wAt W σ) (Dt X.K) φ H (fun _ v H' _ _ => Q v H') (mMk C (ixN1 1 ks.length ix fM) ys s)) : wpAny (model X.prog X.w) X.A (call (.ref C) [] (ks.zip ws)) (EP X pins σ Q) X.xe t := by
  have I2 := Inv.made (C := C) I
  generalize ex : t.heap.objs.size + 1 = a at I2
  generalize ed : t.heap.objs.size = dx at I2 ex
  have hdx : H dx = none := I.hok.fresh (Nat.le_of_eq ed)
  have ha : H a = none := I.hok.fresh (by omega)
  have hne : a ≠ dx := by omega
  have so1 : So X.K φ (upd H dx (.own a)) s := so.new hdx
  have ha1 : upd H dx (.own a) a = none := by rw [upd_ne hne]; exact ha
  have f1 : Fu X.K φ φ H (upd H dx (.own a)) := fu_new hdx
  have f2 : Fu X.K φ (φ ++ [a]) (upd H dx (.own a)) (upd (upd H dx (.own a)) a (.ins C dx [])) := fu_newO ha1
  have so2 : So X.K (φ ++ [a]) (upd (upd H dx (.own a)) a (.ins C dx [])) (s ++ [.ins C []]) := so1.newO ha1 ⟨dx, [], upd_same, .nil⟩
  have ra : Dt X.K (φ ++ [a]) (upd (upd H dx (.own a)) a (.ins C dx [])) (.ref a) (.obj s.length) := obj_new so1
  have rs : Dts X.K (φ ++ [a]) (upd (upd H dx (.own a)) a (.ins C dx [])) (.ref a :: zs) (.obj s.length :: ys) := .cons ra ((ry.fu f1).fu f2)
  have hq : ys.length + 1 = 1 + ks.length ∧ Ps X.K (wAt W σ) (Dt X.K) (φ ++ [a]) (upd (upd H dx (.own a)) a (.ins C dx [])) (fun ψ v H' d s' => v = .non ∧ Q (.ref a) H') (fM (pickL ix (.obj s.length :: ys)) (s ++ [.ins C []])) := by
    unfold mMk ixN1 at h
    by_cases z : (D.obj s.length :: ys).length = 1 + ks.length
    · rw [if_pos z] at h
      refine ⟨by simpa using z, ?_⟩
      cases e : fM (pickL ix (.obj s.length :: ys)) (s ++ [.ins C []]) with
      | none => rw [e] at h; exact h.elim
      | some p =>
        obtain ⟨q, s'⟩ := p
        rw [e] at h
        cases q with
        | error x => exact h.shift (f1.trans f2)
        | ok d =>
          cases d <;> first | exact h.elim | skip
          intro ψ v H' f3 so3 rv
          cases rv
          exact ⟨rfl, h ψ (.ref a) H' ((f1.trans f2).trans f3) so3 (ra.fu f3)⟩
    · rw [if_neg z] at h
      exact h.elim
  obtain ⟨hl, hq⟩ := hq
  have l2 : ys.length = ks.length := by omega
  have hlt : ∀ i ∈ ix, i < (V.ref a :: zs).length := fun i hi => by
    have := hb.lt i hi
    rw [List.length_cons, ry.length]
    omega
  have r2 := pick_vals (vs := V.ref a :: zs) (us := Value.ref a :: ws) (.cons rfl rz) ix hlt
  have rd := pick_dts rs ix hlt
  have hv : (pickL ix (V.ref a :: zs)).length = ps.length := (pick_len hlt).trans hb.ln
  have bb := hb.to _ [Value.ref a] ws I2.kIn rfl (by rw [← rz.length, ry.length, l2])
  refine wpAny_call (make_map (f := f) I.kIn Mc.makes Mc.init (beq_iff_eq.mp Mc.fn) ?_)
  rw [ed, ex]
  refine codeAny_mono (F.run _ X.stack _ _ ⟨[Value.ref a], ks.zip ws⟩ (pickL ix (Value.ref a :: ws)) (pickL ix (V.ref a :: zs)) (fun v H2 => v = .non ∧ Q (.ref a) H2) (WE W σ) (hr.make C [] (ks.zip ws)) (I2.env0.make C [] (ks.zip ws)) bb r2 ⟨hv, _, _, _, rd, so2, hq⟩) fun q s' hq' => ?_
  cases q with
  | error e => exact passAt tk σ pins _ _ e s' I2 hq'
  | ok fl =>
    cases fl with
    | ret u =>
      obtain ⟨v, H', I3, rv, ev, q3⟩ := I2.after hq'
      cases ev
      exact ⟨rv, V.ref a, H', I3, rfl, q3⟩
    | next => exact hq'.elim
    | brk => exact hq'.elim
    | cont => exact hq'.elim
/-- C(k = v, ..) -/
theorem de_makeK0 (Mc : Mk X.K C f) (F : FnX X k f fd ps fM) (hr : RoomG (k + 1) X.A) (hm : X.mg x = some (.ref C)) (hb : KB X.K fd ps 1 ks ix) (tk : Takes X W) (hkw : DKs X W kws dk) (hg : Gl X x := by rfl) (hl : ks.length = m := by rfl)
    (hall : (backToKw pos (keywordEach kws X.env)).all (·.1.isSome) = true := by rfl) (hks : (backToKw pos (keywordEach kws X.env)).filterMap (·.1) = ks := by rfl) (hdb : (x == ("__debug__" : Str)) = false := by decide)
    (hpl : ((backTo pos (starEach [] X.env)).any (·.1) || (backToKw pos (keywordEach kws X.env)).any (·.1.isNone)) = false := by rfl) :
    DE X W (.Call (.Name x p) [] kws pos) (dMk C (ixN1 1 m ix fM) dk) := by
  subst hl
  refine ⟨fun pins s σ H Q I ⟨Δ, φ, st, hσ, hs, h⟩ => wpAny_Call_Name_kw (ld_glob I hg hm ?_ hdb)⟩
  have hA : upA X.K W dk σ H fun zs H2 => ∃ φ2 ys s2, So X.K φ2 H2 s2 ∧ Dts X.K φ2 H2 zs ys ∧ Ps X.K (wAt W σ) (Dt X.K) φ2 H2 (fun _ v H' _ _ => Q v H') (mMk C (ixN1 1 ks.length ix fM) ys s2) :=
    upA_bind hσ hs h fun φ1 zs H1 ys s1 f1 hσ1 hs1 rs h1 => ⟨φ1, ys, s1, hs1, rs, h1⟩
  refine PySem.W.callWith_KW0 (h₀ := X.base) I.ok.mod.kin Mc.kp hall ?_ hpl
  refine thn (hkw.run pos pins s σ H _ I hA) fun ws t2 ⟨zs, H2, I2, rz, φ2, ys, s2, so2, ry, h2⟩ => ⟨I2.kIn, ?_⟩
  rw [hks]
  exact run_mkK Mc F hr hb tk I2 rz so2 ry h2
end
end DV

namespace DV
open PySem L2 PyProof.Rows
theorem hgd {k : Nat} {A : Around} (hr : RoomG k A) : A.guards = some [] := hr.gd
section
variable {X : Cx} {W : WX}
/-- may be shown: ints of some size, no dict, not too deep, not too long -/
def shOk (p : PyData) : Bool := p.showable && !p.hasDict && decide (p.depth ≤ 64) && decide (p.shown.length ≤ sizeLine)
/-- repr(x) of plain data -/
def fRepr : OpN := fun xs s => match xs with
  | [x] => match toPy s 64 x with
    | some p => if shOk p = true then some (.str p.shown, s) else none
    | none => none
  | _ => none
def rRepr (K : PySem.W.Frag) : List V → Hp → VK → Prop := fun vs H Q => ∃ v p, vs = [v] ∧ Dp K H v p ∧ shOk p = true ∧ Q (.str p.shown) H
theorem cr_repr (hg : X.A.guards = some []) (hu : X.A.units + 66 < cLine) : CallR X (.builtin "repr") (rRepr X.K) := by
  intro pins s σ H vs us Q I r h
  obtain ⟨v, p, rfl, hd, ok, q⟩ := h
  obtain ⟨u, rfl, rv⟩ := vals1 r
  unfold shOk at ok
  simp only [Bool.and_eq_true, Bool.not_eq_true', decide_eq_true_eq] at ok
  obtain ⟨⟨⟨o1, o2⟩, o3⟩, o4⟩ := ok
  cases hd with
  | non =>
    cases rv
    exact PySem.P.repr_of_none ⟨.str _, H, I.tok _, ⟨_, rfl⟩, q⟩
  | bl b =>
    cases rv
    exact PySem.P.repr_of_bool ⟨.str _, H, I.tok _, ⟨_, rfl⟩, q⟩
  | int i =>
    obtain ⟨t, rfl⟩ := rv
    exact PySem.P.repr_of_int (by simpa [PyData.showable] using o1) ⟨.str _, H, I.tok _, ⟨_, rfl⟩, q⟩
  | str x =>
    obtain ⟨t, rfl⟩ := rv
    exact PySem.P.repr_of_str ⟨.str _, H, I.tok _, ⟨_, rfl⟩, q⟩ o4
  | lst hs ha =>
    rename_i a xs ds
    obtain ⟨as, rd⟩ := Dp.reads I (.list ds) (.ref a) u (.lst hs ha) rv
    obtain rfl : u = Value.ref a := rv
    exact repr_of_reads' rd o1 (PyData.noDict_hsm o2) hg (by omega) (fun _ _ e => e) (fun h' t tk hk => ⟨.str _, H, I.kept hk, ⟨_, rfl⟩, q⟩) o4
  | tup hs ha =>
    rename_i a xs ds
    obtain ⟨as, rd⟩ := Dp.reads I (.tuple ds) (.ref a) u (.tup hs ha) rv
    obtain rfl : u = Value.ref a := rv
    exact repr_of_reads' rd o1 (PyData.noDict_hsm o2) hg (by omega) (fun _ _ e => e) (fun h' t tk hk => ⟨.str _, H, I.kept hk, ⟨_, rfl⟩, q⟩) o4
theorem dc_repr (hg : X.A.guards = some []) (hu : X.A.units + 66 < cLine) : DCall X (.builtin "repr") fRepr := ⟨_, cr_repr hg hu, fun φ H s vs ds Q so rx p => by
  unfold fRepr at p
  split at p
  · obtain ⟨v, rfl, r⟩ := dts1 rx
    split at p
    · rename_i d e
      split at p
      · rename_i z
        exact ⟨v, d, rfl, toPy_dp so _ _ _ _ r e, z, p.ok so (.str _)⟩
      · exact p.elim
    · exact p.elim
  · exact p.elim⟩
end
end DV

namespace DV
open PySem L2 PyProof.Rows
/-! ### the runs, as equations -/
@[simp] theorem mret_eq {α : Type} (a : α) (s : Sto) : mret a s = some (.ok a, s) := rfl
@[simp] theorem mbind_ok {α β : Type} (m : M α) (k : α → M β) (s : Sto) : mbind m k s = match m s with | some (.ok a, s1) => k a s1 | some (.error x, s1) => some (.error x, s1) | none => none := rfl
@[simp] theorem dVar_eq (i : Nat) (Δ : Dn) (s : Sto) : dVar i Δ s = match Δ[i]? with | some (some d) => some (.ok d, s) | _ => none := rfl
@[simp] theorem dC_eq (d : D) (Δ : Dn) (s : Sto) : dC d Δ s = some (.ok d, s) := rfl
@[simp] theorem lift2_eq (f : Op2) (x y : D) (s : Sto) : lift2 f x y s = match f x y s with | some (d, s1) => some (.ok d, s1) | none => none := rfl
@[simp] theorem dOp_eq (f : Op2) (a b : DX) (Δ : Dn) : dOp f a b Δ = mbind (a Δ) fun x => mbind (b Δ) fun y => lift2 f x y := rfl
@[simp] theorem dBl_bl (b : Bool) : dBl (.bl b) = mret b := rfl
@[simp] theorem dTest_eq (a : DX) (Δ : Dn) : dTest a Δ = mbind (a Δ) dBl := rfl
@[simp] theorem dTru_eq (d : D) (s : Sto) : dTru d s = match truD d s with | some b => some (.ok b, s) | none => none := rfl
@[simp] theorem dAnd_eq (t u : DT) (Δ : Dn) : dAnd t u Δ = mbind (t Δ) fun c => if c = true then u Δ else mret false := rfl
@[simp] theorem dOr_eq (t u : DT) (Δ : Dn) : dOr t u Δ = mbind (t Δ) fun c => if c = true then mret true else u Δ := rfl
@[simp] theorem dNot_eq (t : DT) (Δ : Dn) : dNot t Δ = mbind (t Δ) fun c => mret !c := rfl
@[simp] theorem dTruth_eq (a : DX) (Δ : Dn) : dTruth a Δ = mbind (a Δ) dTru := rfl
@[simp] theorem dOrT_eq (a b : DX) (Δ : Dn) : dOrT a b Δ = mbind (a Δ) fun x => mbind (dTru x) fun c => if c = true then mret x else b Δ := rfl
@[simp] theorem dAndT_eq (a b : DX) (Δ : Dn) : dAndT a b Δ = mbind (a Δ) fun x => mbind (dTru x) fun c => if c = true then b Δ else mret x := rfl
@[simp] theorem dNotT_eq (a : DX) (Δ : Dn) : dNotT a Δ = mbind (a Δ) fun x => mbind (dTru x) fun b => mret (.bl !b) := rfl
@[simp] theorem dIf_eq (t : DT) (a b : DX) (Δ : Dn) : dIf t a b Δ = mbind (t Δ) fun c => if c = true then a Δ else b Δ := rfl
@[simp] theorem dNil_eq (Δ : Dn) (s : Sto) : dNil Δ s = some (.ok [], s) := rfl
@[simp] theorem dCons_eq (a : DX) (r : DA) (Δ : Dn) : dCons a r Δ = mbind (a Δ) fun x => mbind (r Δ) fun y => mret (x :: y) := rfl
@[simp] theorem dTup_eq (a : DA) (Δ : Dn) : dTup a Δ = mbind (a Δ) fun xs => if xs.length ≤ sizeLine then mret (.tup xs) else mfail := rfl
@[simp] theorem mnew_eq (o : DO) (s : Sto) : mnew o s = some (.ok (.obj s.length), s ++ [o]) := rfl
@[simp] theorem dLst_eq (a : DA) (Δ : Dn) : dLst a Δ = mbind (a Δ) fun xs => if xs.length ≤ sizeLine then mnew (.lst xs) else mfail := rfl
@[simp] theorem fI_eq (c : Int → Int → Bool) (g : Int → Int → D) (i j : Int) (s : Sto) : fI c g (.int i) (.int j) s = if c i j = true then some (g i j, s) else none := rfl
@[simp] theorem liftN_eq (f : OpN) (x : List D) (s : Sto) : liftN f x s = match f x s with | some (d, s1) => some (.ok d, s1) | none => none := rfl
@[simp] theorem dCB_eq (f : OpN) (a : DA) (Δ : Dn) : dCB f a Δ = mbind (a Δ) (liftN f) := rfl
@[simp] theorem dCl_eq (f : FnD) (a : DA) (Δ : Dn) : dCl f a Δ = mbind (a Δ) f := rfl
@[simp] theorem argN_eq (n : Nat) (f : FnD) (xs : List D) (s : Sto) : argN n f xs s = if xs.length = n then f xs s else none := rfl
@[simp] theorem fInt_int (i : Int) (s : Sto) : fInt [.int i] s = some (.int i, s) := rfl
@[simp] theorem fInt_bl (b : Bool) (s : Sto) : fInt [.bl b] s = some (.int (if b then 1 else 0), s) := rfl
@[simp] theorem gN_eq (i : Nat) (d : D) (Δ : Dn) (s : Sto) : gN i d Δ s = some (Δ.set i (some d), s) := rfl
@[simp] theorem gsNil_eq (Δ : Dn) (s : Sto) : gsNil [] Δ s = some (Δ, s) := rfl
@[simp] theorem gsCons_eq (g : DGf) (r : List D → Dn → Sto → Option (Dn × Sto)) (d : D) (ds : List D) (Δ : Dn) (s : Sto) : gsCons g r (d :: ds) Δ s = match g d Δ s with | some (Δ1, s1) => r ds Δ1 s1 | none => none := rfl
@[simp] theorem gTp_eq (n : Nat) (g : List D → Dn → Sto → Option (Dn × Sto)) (xs : List D) (Δ : Dn) (s : Sto) : gTp n g (.tup xs) Δ s = if xs.length = n then g xs Δ s else none := rfl
@[simp] theorem gSb_eq (f : D → D → D → Sto → Option Sto) (a b : DX) (d : D) (Δ : Dn) (s : Sto) : gSb f a b d Δ s = match a Δ s with | some (.ok o, s1) => (match b Δ s1 with | some (.ok i, s2) => (match f o i d s2 with | some s3 => some (Δ, s3) | none => none) | _ => none) | _ => none := rfl
@[simp] theorem fSet_eq (n : Nat) (k : Int) (d : D) (s : Sto) : fSet (.obj n) (.int k) d s = match lstAt s n with | some xs => (match ixN xs.length k with | some j => some (s.set n (.lst (xs.set j d))) | none => none) | none => none := rfl
@[simp] theorem sbind_eq {α : Type} (m : M α) (Δ : Dn) (k : α → Sto → RS) (s : Sto) : sbind m Δ k s = match m s with | some (.ok a, s1) => k a s1 | some (.error x, s1) => some (.ex x Δ, s1) | none => none := rfl
@[simp] theorem dAsg_eq (a : DX) (g : DGf) (Δ : Dn) : dAsg a g Δ = sbind (a Δ) Δ fun d s => match g d Δ s with | some (Δ1, s1) => some (.nx Δ1, s1) | none => none := rfl
@[simp] theorem dDrop_eq (a : DX) (Δ : Dn) : dDrop a Δ = sbind (a Δ) Δ fun _ s => some (.nx Δ, s) := rfl
@[simp] theorem dRet_eq (a : DX) (Δ : Dn) : dRet a Δ = sbind (a Δ) Δ fun d s => some (.rt d, s) := rfl
@[simp] theorem dNx_eq (Δ : Dn) (s : Sto) : dNx Δ s = some (.nx Δ, s) := rfl
@[simp] theorem dSeq_eq (a b : DS) (Δ : Dn) (s : Sto) : dSeq a b Δ s = match a Δ s with | some (.nx Δ1, s1) => b Δ1 s1 | some (.rt d, s1) => some (.rt d, s1) | some (.bk d, s1) => some (.bk d, s1) | some (.ct d, s1) => some (.ct d, s1) | some (.ex x d, s1) => some (.ex x d, s1) | none => none := by
  unfold dSeq
  rcases a Δ s with _ | ⟨r, s1⟩
  · rfl
  · cases r <;> rfl
@[simp] theorem dIfS_eq (t : DT) (a b : DS) (Δ : Dn) : dIfS t a b Δ = sbind (t Δ) Δ fun c s => if c = true then a Δ s else b Δ s := rfl
@[simp] theorem dPar_eq (i j : Nat) (a : DA) (Δ : Dn) : dPar i j a Δ = sbind (a Δ) Δ fun xs s => match xs with | [x, y] => some (.nx ((Δ.set i (some x)).set j (some y)), s) | _ => none := rfl
@[simp] theorem runFn_eq (n : Nat) (b : DS) (xs : List D) (s : Sto) : runFn n b xs s = match b (startD n xs) s with | some (.rt d, s1) => some (.ok d, s1) | some (.nx _, s1) => some (.ok .non, s1) | some (.ex x _, s1) => some (.error x, s1) | _ => none := rfl
@[simp] theorem fIx_obj (n : Nat) (i : Int) (s : Sto) : fIx (.obj n) (.int i) s = match lstAt s n with | some xs => (match atI xs i with | some d => some (d, s) | none => none) | none => none := rfl
@[simp] theorem fIx_tup (xs : List D) (i : Int) (s : Sto) : fIx (.tup xs) (.int i) s = match atI xs i with | some d => some (d, s) | none => none := rfl
@[simp] theorem fIx_str (z : Str) (i : Int) (s : Sto) : fIx (.str z) (.int i) s = if z.length ≤ sizeLine then (match atI z.cps.toList i with | some c => some (.str ⟨#[c]⟩, s) | none => none) else none := rfl
@[simp] theorem fLen_obj (n : Nat) (s : Sto) : fLen [.obj n] s = match lstAt s n with | some xs => some (.int xs.length, s) | none => none := rfl
@[simp] theorem fLen_tup (xs : List D) (s : Sto) : fLen [.tup xs] s = some (.int xs.length, s) := rfl
@[simp] theorem fLen_str (z : Str) (s : Sto) : fLen [.str z] s = if z.length ≤ sizeLine then some (.int z.length, s) else none := rfl
@[simp] theorem fTuple_obj (n : Nat) (s : Sto) : fTuple [.obj n] s = match lstAt s n with | some ys => some (.tup ys, s) | none => none := rfl
@[simp] theorem fTuple_tup (xs : List D) (s : Sto) : fTuple [.tup xs] s = some (.tup xs, s) := rfl
@[simp] theorem dOp1_eq (f : Op1) (a : DX) (Δ : Dn) : dOp1 f a Δ = mbind (a Δ) fun x => fun s => match f x s with | some (d, s1) => some (.ok d, s1) | none => none := rfl
@[simp] theorem iSeqT_eq (a : DX) (Δ : Dn) : iSeqT a Δ = mbind (a Δ) fun x s => match x with | .tup xs => some (.ok ⟨xs, none⟩, s) | _ => none := rfl
@[simp] theorem iSeqL_eq (a : DX) (Δ : Dn) : iSeqL a Δ = mbind (a Δ) fun x s => match x with | .obj n => (match lstAt s n with | some xs => some (.ok ⟨xs, some (n, xs)⟩, s) | none => none) | _ => none := rfl
@[simp] theorem dFor_eq (di : DI) (g : DGf) (b : DS) (Δ : Dn) : dFor di g b Δ = sbind (di Δ) Δ fun I s => forRun I g b I.its Δ s := rfl
@[simp] theorem dLc_eq (vs : List Nat) (di : DI) (g : DGf) (tt : DT) (de : DX) (Δ : Dn) : dLc vs di g tt de Δ = mbind (di Δ) fun I s => match lcRun I g tt de s.length I.its (wipeD Δ vs) (s ++ [.lst []]) with | some s1 => some (.ok (.obj s.length), s1) | none => none := rfl
@[simp] theorem dYes_eq (Δ : Dn) (s : Sto) : dYes Δ s = some (.ok true, s) := rfl
@[simp] theorem dMe_eq (C : Addr) (m : Str) (f : FnD) (a : DX) (da : DA) (Δ : Dn) : dMe C m f a da Δ = mbind (a Δ) fun x => mbind (mIns C m x) fun _ => mbind (da Δ) fun xs => f (x :: xs) := rfl
@[simp] theorem dMk_eq (C : Addr) (f : FnD) (da : DA) (Δ : Dn) : dMk C f da Δ = mbind (da Δ) (mMk C f) := rfl
@[simp] theorem iRange1_eq (da : DA) (Δ : Dn) : iRange1 da Δ = mbind (da Δ) fun xs s => match xs with | [.int j] => if rngOk j = true then some (.ok (rngI 0 j.toNat), s) else none | _ => none := rfl
@[simp] theorem iRange2_eq (da : DA) (Δ : Dn) : iRange2 da Δ = mbind (da Δ) fun xs s => match xs with | [.int i, .int j] => if (rngOk i && rngOk j) = true then some (.ok (rngI i (j - i).toNat), s) else none | _ => none := rfl
@[simp] theorem iEnum_eq (da : DA) (Δ : Dn) : iEnum da Δ = mbind (da Δ) fun xs s => match xs with | [.obj n] => (match lstAt s n with | some ys => some (.ok ⟨enumD 0 ys, some (n, ys)⟩, s) | none => none) | _ => none := rfl
end DV

namespace DV
open PySem L2 PyProof.Rows
theorem lstAt_set {s : Sto} {n : Nat} {xs ys : List D} (h : lstAt s n = some xs) : lstAt (s.set n (.lst ys)) n = some ys := by
  have := lstAt_eq h
  have hl := (List.getElem?_eq_some_iff.mp this).1
  unfold lstAt
  rw [List.getElem?_set_self hl]
theorem lstAt_lt {s : Sto} {n : Nat} {xs : List D} (h : lstAt s n = some xs) : n < s.length := (List.getElem?_eq_some_iff.mp (lstAt_eq h)).1
theorem lstAt_ne {s : Sto} {m n : Nat} {o : DO} (ne : m ≠ n) : lstAt (s.set n o) m = lstAt s m := by
  unfold lstAt
  rw [List.getElem?_set_ne (fun z => ne z.symm)]
theorem lstAt_app {s l : Sto} {n : Nat} {xs : List D} (h : lstAt s n = some xs) : lstAt (s ++ l) n = some xs := by
  have q := lstAt_eq h
  unfold lstAt
  rw [List.getElem?_append_left (List.getElem?_eq_some_iff.mp q).1, q]
@[simp] theorem lstAt_new {s : Sto} {xs : List D} : lstAt (s ++ [.lst xs]) s.length = some xs := by
  unfold lstAt
  rw [List.getElem?_append_right (Nat.le_refl _)]
  simp
@[simp] theorem lstAt_new2 {s : Sto} {xs ys : List D} : lstAt (s ++ [.lst xs, .lst ys]) s.length = some xs := by
  unfold lstAt
  rw [List.getElem?_append_right (Nat.le_refl _)]
  simp
@[simp] theorem lstAt_new3 {s : Sto} {a : DO} {ys : List D} : lstAt (s ++ [a, .lst ys]) (s.length + 1) = some ys := by
  unfold lstAt
  rw [List.getElem?_append_right (by omega)]
  simp
@[simp] theorem fI_obj {c : Int → Int → Bool} {g : Int → Int → D} {n : Nat} {y : D} {s : Sto} : fI c g (.obj n) y s = none := rfl
@[simp] theorem fI_str {c : Int → Int → Bool} {g : Int → Int → D} {n : Str} {y : D} {s : Sto} : fI c g (.str n) y s = none := rfl
@[simp] theorem fI_tup {c : Int → Int → Bool} {g : Int → Int → D} {n : List D} {y : D} {s : Sto} : fI c g (.tup n) y s = none := rfl
/-- two lists, item by item -/
inductive All2 {α β : Type} (R : α → β → Prop) : List α → List β → Prop
  | nil : All2 R [] []
  | cons {a b r t} : R a b → All2 R r t → All2 R (a :: r) (b :: t)
theorem All2.length {α β : Type} {R : α → β → Prop} : ∀ {r : List α} {t : List β}, All2 R r t → t.length = r.length
  | _, _, .nil => rfl
  | _, _, .cons _ h => congrArg (· + 1) h.length
theorem All2.imp {α β : Type} {R S : α → β → Prop} (f : ∀ a b, R a b → S a b) : ∀ {r : List α} {t : List β}, All2 R r t → All2 S r t
  | _, _, .nil => .nil
  | _, _, .cons h r => .cons (f _ _ h) (r.imp f)
/-- the turns of a comprehension -/
theorem lc_gen {I : Itd} {g : DGf} {tt : DT} {de : DX} {n : Nat} {Δ : Dn} (J : Nat → Sto → Prop) (R : D → List D → Prop) (hst : ∀ k s, J k s → I.still s = true)
    (step : ∀ k d s acc, d ∈ I.its → J (k + 1) s → lstAt s n = some acc → ∃ Δ1, g d Δ s = some (Δ1, s) ∧
      ((∃ s2, tt Δ1 s = some (.ok false, s2) ∧ lstAt s2 n = some acc ∧ R d [] ∧ J k s2) ∨
       (∃ s2 y s3, tt Δ1 s = some (.ok true, s2) ∧ de Δ1 s2 = some (.ok y, s3) ∧ lstAt s3 n = some acc ∧ R d [y] ∧ J k (s3.set n (.lst (acc ++ [y])))))) :
    ∀ (r : List D) (s : Sto) (acc : List D), (∀ d ∈ r, d ∈ I.its) → J r.length s → lstAt s n = some acc → acc.length + r.length ≤ sizeLine → ∃ s' yss, lcRun I g tt de n r Δ s = some s' ∧ lstAt s' n = some (acc ++ yss.flatten) ∧ All2 R r yss ∧ J 0 s'
  | [], s, acc, hm, j, e, hz => ⟨s, [], by simp [lcRun, hst _ _ j], by simpa using e, .nil, j⟩
  | d :: r, s, acc, hm, j, e, hz => by
    have hz' : acc.length < sizeLine := by simp at hz; omega
    obtain ⟨Δ1, hg, h⟩ := step r.length d s acc (hm d (by simp)) j e
    have hm' : ∀ d ∈ r, d ∈ I.its := fun d h => hm d (by simp [h])
    rcases h with ⟨s2, ht, e2, hR, j2⟩ | ⟨s2, y, s3, ht, hd, e3, hR, j3⟩
    · obtain ⟨s', yss, h1, h2, h3, h4⟩ := lc_gen J R hst step r s2 acc hm' j2 e2 (by simp at hz; omega)
      exact ⟨s', [] :: yss, by simp [lcRun, hst _ _ j, hg, ht, h1], by simpa using h2, .cons hR h3, h4⟩
    · obtain ⟨s', yss, h1, h2, h3, h4⟩ := lc_gen J R hst step r (s3.set n (.lst (acc ++ [y]))) (acc ++ [y]) hm' j3 (lstAt_set e3) (by simp at hz ⊢; omega)
      exact ⟨s', [y] :: yss, by simp [lcRun, hst _ _ j, hg, ht, hd, e3, hz', h1], by simpa using h2, .cons hR h3, h4⟩
/-- only what is new -/
def Gr (s s' : Sto) : Prop := ∃ l, s' = s ++ l
theorem Gr.refl (s : Sto) : Gr s s := ⟨[], by simp⟩
theorem Gr.trans {s s' s'' : Sto} (a : Gr s s') (b : Gr s' s'') : Gr s s'' := by
  obtain ⟨l, rfl⟩ := a
  obtain ⟨m, rfl⟩ := b
  exact ⟨l ++ m, by simp⟩
theorem Gr.app {s l : Sto} : Gr s (s ++ l) := ⟨l, rfl⟩
theorem Gr.lst {s s' : Sto} {n : Nat} {xs : List D} (h : Gr s s') (e : lstAt s n = some xs) : lstAt s' n = some xs := by
  obtain ⟨l, rfl⟩ := h
  exact lstAt_app e
theorem Gr.len {s s' : Sto} (h : Gr s s') : s.length ≤ s'.length := by
  obtain ⟨l, rfl⟩ := h
  simp
/-- grown behind s0, and changed there alone -/
theorem Gr.set {s s' : Sto} {n : Nat} {o : DO} (h : Gr s s') (hn : s.length ≤ n) : Gr s (s'.set n o) := by
  obtain ⟨l, rfl⟩ := h
  rw [List.set_append]
  split
  · omega
  · exact ⟨_, rfl⟩
/-- a comprehension whose parts only make new things -/
theorem lc_pure {I : Itd} {g : DGf} {tt : DT} {de : DX} {Δ : Dn} {s : Sto} (R : D → List D → Prop) (hst : ∀ s', Gr s s' → I.still s' = true)
    (step : ∀ d s', d ∈ I.its → Gr s s' → ∃ Δ1, g d Δ s' = some (Δ1, s') ∧
      ((∃ s2, tt Δ1 s' = some (.ok false, s2) ∧ Gr s' s2 ∧ R d []) ∨ (∃ s2 y s3, tt Δ1 s' = some (.ok true, s2) ∧ de Δ1 s2 = some (.ok y, s3) ∧ Gr s' s3 ∧ R d [y]))) (hz : I.its.length ≤ sizeLine) :
    ∃ s' yss, lcRun I g tt de s.length I.its Δ (s ++ [.lst []]) = some s' ∧ lstAt s' s.length = some yss.flatten ∧ All2 R I.its yss ∧ Gr s s' := by
  obtain ⟨s', yss, h1, h2, h3, h4⟩ := lc_gen (I := I) (g := g) (tt := tt) (de := de) (n := s.length) (Δ := Δ) (fun _ s' => Gr s s') R (fun _ s' h => hst s' h) (fun k d s' acc hd j e => by
    obtain ⟨Δ1, hg, h⟩ := step d s' hd j
    refine ⟨Δ1, hg, ?_⟩
    rcases h with ⟨s2, ht, g2, hR⟩ | ⟨s2, y, s3, ht, hy, g3, hR⟩
    · exact .inl ⟨s2, ht, g2.lst e, hR, j.trans g2⟩
    · exact .inr ⟨s2, y, s3, ht, hy, g3.lst e, hR, (j.trans g3).set (Nat.le_refl _)⟩) I.its (s ++ [.lst []]) [] (fun _ h => h) Gr.app lstAt_new (by simpa using hz)
  exact ⟨s', yss, h1, by simpa using h2, h3, h4⟩
end DV

namespace PySem.W
open PySem PySem.Calls PyProof.Rows Builtin
section
variable {prog : Program} {w : World} {A : Around} {E : Value → Shared → Prop} {s : Shared} {K : Frag} {x C L f : Addr} {h₀ : Heap} {m : Str → Option Value} {ox : Obj} {od : Option Obj} {b tb : Value}
set_option maxHeartbeats 2000000 in
/-- != of an instance whose class has an own == but no own != -/
theorem ne_K {Q : Value → Shared → Prop} (hu : A.units + 1 < cLine) (Ff : Fr h₀ L s.heap m) (X₀ : K.In h₀) (I : InstAt s.heap x ox C od) (hb : Looks (model prog w) s.heap (typeOf b) tb) (hn : notFirst K C tb = true)
    (hs : findIn K (.ref C) "__ne__" = some (some (.builtin "object.__ne__"))) (hm : mroIn K C (.type "object") = some true) (he : findIn K (.ref C) "__eq__" = some (some (.ref f))) (hf : isFn K (.ref f) = true)
    (h : wpAny (model prog w) A.in1 (call (.ref f) [.ref x, b]) (fun v s' => ∃ r, v = .bool r ∧ Q (.bool (!r)) s') E s) : wpAny (model prog w) A (richCompare .NotEq (.ref x) b) Q E s := by
  have X := X₀.keeps Ff.keep
  have body : wpAny (model prog w) A.in1 (Builtin.«object.__ne__» ⟨[.ref x, b], []⟩) (fun fin s' => ∃ r, fin = .done (.ret (.bool r)) ∧ Q (.bool r) s') E s := by
    unfold Builtin.«object.__ne__»
    obtain ⟨hp, g, d, tk, os⟩ := s
    repeat (first
      | with_reducible refine wpAny_cRoomFor hu ?_
      | (refine wpAny_bind (m := callSpecialIfBound? (.ref x) (Str.ofString "__eq__") [b])
          (ifBound_K X I he hf (wpAny_mono h (fun r s' hr => by
            obtain ⟨r, rfl, hq⟩ := hr
            repeat (first | exact ⟨_, rfl, hq⟩ | exact wpAny_pure ⟨_, rfl, hq⟩ | exact wpAny_truthy_bool ⟨_, rfl, hq⟩ | (refine wpAny_bind (m := truthy (.bool _)) (wpAny_truthy_bool ?_)) | wp_step)) fun _ _ e => e)))
      | wp_step)
  have called : wpAny (model prog w) A (call (.builtin "object.__ne__") ([.ref x] ++ [b])) (fun v s' => ∃ r, v = .bool r ∧ Q (.bool r) s') E s :=
    wpAny_call (codeAny_call_builtin F.cmp_object.ne.plain F.cmpEntry_ne (check_slot F.cmpKind_ne F.cmpSplit_ne (I.type.andThen (looks_subIn X (t := .ref C) hm)) (F.cmpArgs_ne _ _)
      (wpAny_mono body (fun fin s' hv => by
        obtain ⟨r, rfl, hq⟩ := hv
        first | exact ⟨r, rfl, hq⟩ | exact wpAny_pure ⟨r, rfl, hq⟩) fun _ _ e => e)))
  have one : wpAny (model prog w) A (tryCompare (.ref x) "__ne__" b) (fun r s' => ∃ v, r = some v ∧ Q v s') E s := by
    unfold tryCompare
    refine wpAny_bind ?_
    simp only [callSpecialIfBound?, bindSpecialIfBound?]
    refine wpAny_holding (wpAny_bind (wpAny_bind (wpAny_bind (I.type.here ((looks_findIn X hs).here ?_)))))
    refine wpAny_bind (wpAny_askSetting (wpAny_ite ?_))
    have fin : ∀ {R : Option Value → Shared → Prop}, (∀ (r : Bool) s', Q (.bool r) s' → R (some (.bool r)) s') → wpAny (model prog w) A (call (.builtin "object.__ne__") ([.ref x] ++ [b]) >>= fun v => pure (some v)) R E s := fun hR =>
      wpAny_bind (wpAny_mono called (fun v s' h' => wpAny_pure (by obtain ⟨r, rfl, q⟩ := h'; exact hR r s' q)) fun _ _ h' => h')
    rw [F.cmp_object.ne.bind]
    split
    · exact wpAny_bind (wpAny_pure (wpAny_pure (by exact fin fun r s' q => wpAny_pure ⟨_, rfl, q⟩)))
    · exact wpAny_tryCatch (wpAny_bind (wpAny_pure (wpAny_pure (by exact fin fun r s' q => wpAny_pure ⟨_, rfl, q⟩))))
  unfold richCompare
  simp only [oneThing_ref]
  refine wpAny_holding (wpAny_bind (wpAny_cRoomFor (Nat.lt_of_succ_lt hu) ?_))
  refine wpAny_bind (I.type.here (wpAny_bind (hb.here ?_)))
  split
  · rename_i q
    have e : subIn K tb (.ref C) = some false := by
      rcases Bool.or_eq_true_iff.mp hn with e | e
      · rw [beq_iff_eq.mp e] at q; simp at q
      · exact beq_iff_eq.mp e
    refine wpAny_bind ((looks_subIn X e).here ?_)
    simp only [Bool.false_eq_true, if_false]
    refine wpAny_bind (wpAny_mono one (fun r s' z => ?_) fun _ _ e => e)
    obtain ⟨v, rfl, hq⟩ := z
    exact wpAny_pure hq
  · refine wpAny_bind (wpAny_pure ?_)
    simp only [Bool.false_eq_true, if_false]
    refine wpAny_bind (wpAny_mono one (fun r s' z => ?_) fun _ _ e => e)
    obtain ⟨v, rfl, hq⟩ := z
    exact wpAny_pure hq
end
end PySem.W
namespace DV
open PySem L2 PyProof.Rows
/-! ### isinstance of an own class -/
structure IsC (K : PySem.W.Frag) (C : Addr) : Prop where
  cl : Cls K C
  ha : PySem.W.findIn K (.ref C) "__class__" = some (some (.builtin "object.__class__"))
  hn : PySem.W.specialIn K (.builtin "object.__class__") "__get__" = some (some (.builtin "getset_descriptor.__get__"))
  ht : PySem.W.takesIn K (.builtin "object.__class__") = some true
  hm : PySem.W.mroIn K C (.type "object") = some true
  ci : PySem.W.isClsIn K C = true
  ty : PySem.W.typeIn K (.ref C) = some (.type "type")
theorem sub_kd {K : PySem.W.Frag} {C : Addr} (k : Kd) : PySem.W.subIn K (.type k.name) (.ref C) = some false := by
  have h : ∀ k : Kd, (fastFind? k.name).isSome = true := by intro k; cases k <;> decide +kernel
  have hk := h k
  unfold PySem.W.subIn fastBuiltinMro
  obtain ⟨d, e⟩ := Option.isSome_iff_exists.mp hk
  simp only [e, Option.map_some, Option.some.injEq]
  induction d.mro with
  | nil => rfl
  | cons a r ih => rw [List.map_cons, List.contains_cons, ih]; rfl
theorem IsC.kit {K : PySem.W.Frag} {C : Addr} (c : IsC K C) {t : Value} (ht : (t == .ref C) = false) (hs : PySem.W.subIn K t (.ref C) = some false) : PySem.W.kitOne K t (.ref C) = some false := by
  have h : ((PySem.W.clsIn K C).isSome && PySem.W.typeIn K (.ref C) == some (.type "type")) = true := by
    have := c.ci
    unfold PySem.W.isClsIn at this
    rw [this, c.ty]; decide
  unfold PySem.W.kitOne PySem.W.kitCls
  rw [ht]
  simp only [Bool.false_eq_true, if_false, h, if_true]
  exact hs
/-- the answer of isinstance(x, C); L: the other classes -/
def fIsiC (C : Addr) (L : List Addr) : OpN := fun xs s => match xs with
  | [x, .adr c] => if c = C then match kdOf x s with
    | some _ => some (.bl false, s)
    | none => match x with
      | .obj n => match insAt s n with
        | some (C', _) => if C' = C then some (.bl true, s) else if C' ∈ L then some (.bl false, s) else none
        | none => none
      | _ => none
    else none
  | _ => none
section
variable {X : Cx} {W : WX} {k : Nat} {f C : Addr} {fd : FuncData} {ps : List Str} {fM : FnD}
theorem ins_ty {φ : List Addr} {H : Hp} {s : Sto} {v : V} {n : Nat} {C : Addr} {fs : List (Str × D)} (c : IsC X.K C) (so : So X.K φ H s) (r : Dt X.K φ H v (.obj n)) (e : insAt s n = some (C, fs)) : TyX X.K H v (.ref C) := by
  cases r
  rename_i a ha
  obtain ⟨b, hb, dx, vs, k, _⟩ := so.at (insAt_eq e)
  rw [ha] at hb
  cases hb
  exact .base (.ins k c.cl c.ha c.hn c.ht c.hm)
theorem dc_isiC {L : List Addr} (c : IsC X.K C) (hL : ∀ C' ∈ L, IsC X.K C' ∧ PySem.W.subIn X.K (.ref C') (.ref C) = some false) : DCall X (.builtin "isinstance") (fIsiC C L) := ⟨_, call_isi, fun φ H s vs ds Q so rx p => by
  unfold fIsiC at p
  split at p
  · rename_i x cc
    obtain ⟨v, u, rfl, r1, r2⟩ := dts2 rx
    split at p
    · rename_i z
      subst z
      cases r2
      split at p
      · rename_i k e
        exact ⟨v, .ref cc, .type k.name, .ref cc, false, rfl, .own cc, kd_ty so r1 e, c.kit rfl (sub_kd k), p.ok so (.bl _)⟩
      · split at p
        · rename_i n
          split at p
          · rename_i C' fs e
            split at p
            · rename_i z
              subst z
              exact ⟨v, .ref C', .ref C', .ref C', true, rfl, .own C', ins_ty c so r1 e, by unfold PySem.W.kitOne; simp, p.ok so (.bl _)⟩
            · rename_i z
              split at p
              · rename_i y
                exact ⟨v, .ref cc, .ref C', .ref cc, false, rfl, .own cc, ins_ty (hL C' y).1 so r1 e, c.kit (by simpa using z) (hL C' y).2, p.ok so (.bl _)⟩
              · exact p.elim
          · exact p.elim
        · exact p.elim
    · exact p.elim
  · exact p.elim⟩
/-! ### the own == of a class, and its != -/
def okR (C : Addr) (y : D) (s : Sto) : Bool := match kdOf y s with
  | some _ => true
  | none => match y with
    | .obj n => match insAt s n with
      | some (C', _) => C' == C
      | none => false
    | _ => false
def fOwn (C : Addr) (neg : Bool) (fM : FnD) : Op2 := fun x y s => match x with
  | .obj n => match insAt s n with
    | some (C', _) => if C' = C ∧ okR C y s = true then match fM [x, y] s with
      | some (.ok (.bl b), s') => some (.bl (if neg then !b else b), s')
      | _ => none
      else none
    | none => none
  | _ => none
theorem okR_ty {φ : List Addr} {H : Hp} {s : Sto} {v : V} {y : D} (c : IsC X.K C) (so : So X.K φ H s) (r : Dt X.K φ H v y) (e : okR C y s = true) : ∃ t, TyX X.K H v t ∧ PySem.W.notFirst X.K C t = true := by
  unfold okR at e
  split at e
  · rename_i k ek
    exact ⟨_, kd_ty so r ek, by unfold PySem.W.notFirst; rw [sub_kd]; simp⟩
  · split at e
    · split at e
      · rename_i n C' fs e1
        have z : C' = C := by simpa using e
        subst z
        exact ⟨_, ins_ty c so r e1, by unfold PySem.W.notFirst; simp⟩
      · cases e
    · cases e
/-- the relation of an operation that does f on data -/
def rD (K : PySem.W.Frag) (f : Op2) : R2 := fun v u H Q => ∃ φ s x y, So K φ H s ∧ Dt K φ H v x ∧ Dt K φ H u y ∧ PsO K φ H Q (f x y s)
theorem fOwn_read {neg : Bool} {φ : List Addr} {H : Hp} {s : Sto} {v u : V} {x y : D} {Q : VK} (c : IsC X.K C) (so : So X.K φ H s) (rx : Dt X.K φ H v x) (ry : Dt X.K φ H u y) (h : PsO X.K φ H Q (fOwn C neg fM x y s)) :
    ∃ a dx fs t, v = .ref a ∧ H a = some (.ins C dx fs) ∧ TyX X.K H u t ∧ PySem.W.notFirst X.K C t = true ∧ ∃ b s', fM [x, y] s = some (.ok (.bl b), s') ∧ PsO X.K φ H Q (some (.bl (if neg then !b else b), s')) := by
  unfold fOwn at h
  split at h
  · rename_i n
    split at h
    · rename_i C' fs e1
      split at h
      · rename_i z
        obtain ⟨z1, z2⟩ := z
        subst z1
        cases rx
        rename_i a ha
        obtain ⟨b, hb, dx, vs, k, _⟩ := so.at (insAt_eq e1)
        rw [ha] at hb
        cases hb
        obtain ⟨t, ht, hn⟩ := okR_ty c so ry z2
        split at h
        · rename_i b s' e2
          exact ⟨a, dx, vs, t, rfl, k, ht, hn, b, s', e2, h⟩
        · exact h.elim
      · exact h.elim
    · exact h.elim
  · exact h.elim
theorem dop_ownEq (c : IsC X.K C) (F : FnX X k f fd ["self", "other"] fM) (hr : RoomG k X.A) (hb : Binds X.K fd ["self", "other"] []) (tk : Takes X W) (hs : PySem.W.findIn X.K (.ref C) "__eq__" = some (some (.ref f))) (hf : PySem.W.isFn X.K (.ref f) = true) : DOp X (compareOp .Eq) (fOwn C false fM) := by
  refine ⟨rD X.K (fOwn C false fM), fun pins s σ H x y v u Q I rx ry h => ?_, fun φ H s x y v u Q so rx ry h => ⟨φ, s, x, y, so, rx, ry, h⟩⟩
  obtain ⟨φ, st, dx, dy, so, r1, r2, h⟩ := h
  obtain ⟨a, ddx, fs, t, rfl, ha, ty, hn, b, s', e, h⟩ := fOwn_read c so r1 r2 h
  cases (show v = Value.ref a from rx)
  obtain ⟨mA, J, _⟩ := ins_get I.hok ha
  obtain ⟨od, J, _⟩ := J.look
  obtain ⟨m, hF⟩ := I.fr
  obtain ⟨P, Z, p, hx⟩ := kit_of I ry ty
  show wpAny (model X.prog X.w) X.A (richCompare .Eq (.ref a) u) (EP X pins σ Q) X.xe s
  refine PySem.W.cmp_K (op := .Eq) (tb := t) hr.rm.units0 hF I.ok.mod.kin J (Z.ty _ _ I.kIn p) hn hs hf ?_
  have sp : spD X.K 2 fM ([V.ref a, y] ++ []) H (fun v H' => (∃ b, v = .bl b) ∧ Q v H') (WE W σ) := by
    refine ⟨rfl, [dx, dy], φ, st, .cons r1 (.cons r2 .nil), so, ?_⟩
    rw [e]
    intro φ' v H' f so' rv
    exact ⟨by cases rv; exact ⟨_, rfl⟩, h φ' v H' f so' rv⟩
  refine wpAny_mono (run_fnG (us := [.ref a, u]) (vs := [.ref a, y]) F hr hb tk I (.cons rfl (.cons ry .nil)) sp) (fun r s2 q => ?_) fun _ _ x => x
  obtain ⟨z, H', I', rz, ⟨b', ez⟩, q⟩ := q
  subst ez
  cases (show r = Value.bool b' from rz)
  exact ⟨.bl b', H', I', rfl, q⟩
theorem dop_ownNe (c : IsC X.K C) (F : FnX X k f fd ["self", "other"] fM) (hr : RoomG (k + 1) X.A) (hb : Binds X.K fd ["self", "other"] []) (tk : Takes X W) (hs : PySem.W.findIn X.K (.ref C) "__eq__" = some (some (.ref f))) (hf : PySem.W.isFn X.K (.ref f) = true)
    (hs2 : PySem.W.findIn X.K (.ref C) "__ne__" = some (some (.builtin "object.__ne__"))) : DOp X (compareOp .NotEq) (fOwn C true fM) := by
  refine ⟨rD X.K (fOwn C true fM), fun pins s σ H x y v u Q I rx ry h => ?_, fun φ H s x y v u Q so rx ry h => ⟨φ, s, x, y, so, rx, ry, h⟩⟩
  obtain ⟨φ, st, dx, dy, so, r1, r2, h⟩ := h
  obtain ⟨a, ddx, fs, t, rfl, ha, ty, hn, b, s', e, h⟩ := fOwn_read c so r1 r2 h
  cases (show v = Value.ref a from rx)
  obtain ⟨mA, J, _⟩ := ins_get I.hok ha
  obtain ⟨od, J, _⟩ := J.look
  obtain ⟨m, hF⟩ := I.fr
  obtain ⟨P, Z, p, hx⟩ := kit_of I ry ty
  show wpAny (model X.prog X.w) X.A (richCompare .NotEq (.ref a) u) (EP X pins σ Q) X.xe s
  have hr1 : RoomG k X.A.in1 := ⟨hr.rm.in1, hr.gd⟩
  refine PySem.W.ne_K (tb := t) hr1.rm.units0 hF I.ok.mod.kin J (Z.ty _ _ I.kIn p) hn hs2 c.hm hs hf ?_
  have sp : spD X.K 2 fM [V.ref a, y] H (fun v H' => (∃ b : Bool, v = .bl b ∧ Q (.bl (!b)) H')) (WE W σ) := by
    refine ⟨rfl, [dx, dy], φ, st, .cons r1 (.cons r2 .nil), so, ?_⟩
    rw [e]
    intro φ' v H' f so' rv
    cases rv
    exact ⟨b, rfl, h φ' (.bl (!b)) H' f so' (.bl _)⟩
  have e0 : Env0 X.prog X.w X.K X.mg X.base X.A.in1 X.stack s H := by
    have e := I.env0
    exact ⟨e.frames, e.mod, e.bs, e.bsz, e.funs, e.frf, e.hok, e.bare⟩
  have rr : Vals [V.ref a, y] [Value.ref a, u] := .cons rfl (.cons ry .nil)
  refine wpAny_call (codeAny_mono (F.run X.A.in1 X.stack s H ⟨[.ref a, u], []⟩ [.ref a, u] [.ref a, y] _ (WE W σ) hr1 e0 (by
    have bb := hb s [.ref a, u] I.kIn (by simp)
    simpa using bb) rr sp) fun q s2 hq => ?_)
  cases q with
  | error e => exact passAt tk σ pins H s e s2 I hq
  | ok fl => cases fl with
    | ret w =>
      obtain ⟨z, H', I', rz, ⟨b', ez, q⟩⟩ := I.after hq
      subst ez
      cases (show w = Value.bool b' from rz)
      exact ⟨b', rfl, .bl (!b'), H', I', rfl, q⟩
    | next => exact hq.elim
    | brk => exact hq.elim
    | cont => exact hq.elim
end
end DV

set_option maxHeartbeats 2000000
namespace DV
open PySem L2 PyProof.Rows
/-! ### try: body, except C as n: m = n — the caught exception is a value from there on -/
section
variable {X : Cx} {pins : List (Addr × Obj)} {σ : L2.St} {H : Hp} {s : Shared}
/-- an exception object that lies is looked at from now on -/
theorem track {e : Addr} {oe : Obj} {fl : Array Value} {cls : Value} {d : Option Addr} (I : Inv X pins σ H s) (he : s.heap.get? e = some oe) (hz : Zc cls d oe) (hd : oe.data = .fields fl) (na : H e = none) (nL : e ≠ X.env.locals)
    (n0 : X.s_0.heap.get? e = none) (np : ∀ p ∈ X.pn ++ pins, p.1 ≠ e) : Inv X pins σ (upd H e (ExK cls d e)) s := by
  have far : ∀ b u, X.s_0.heap.get? b = some u → b ≠ e := fun b u q z => by subst z; rw [n0] at q; cases q
  have old : ∀ b u, H b = some u → b ≠ e := fun b u q => ne_of_none q na
  have B := I.base
  refine { ok := I.ok, os := I.os, bare := I.bare, base := ?_, loc := I.loc, cell := I.cell, free := ?_, freeC := ?_, pin := ?_, hok := ?_, len := I.len }
  · refine { keep := B.keep, slot := B.slot, there := B.there, free := ?_, tups := ?_, frzs := ?_, tbls := ?_ }
    · intro b u q1 q2 q3
      rw [upd_ne (far b u q1)]
      exact B.free b u q1 q2 q3
    · intro b xs q
      rw [upd_ne (old b _ (B.tups b xs q))]
      exact B.tups b xs q
    · intro b u w q
      rw [upd_ne (old b _ (B.frzs b u w q))]
      exact B.frzs b u w q
    · intro b ps q
      obtain ⟨more, q2⟩ := B.tbls b ps q
      exact ⟨more, by rw [upd_ne (old b _ q2)]; exact q2⟩
  · rw [upd_ne fun z => nL z.symm]
    exact I.free
  · intro x c q
    obtain ⟨v, hv⟩ := I.cell x c q
    have ne : c ≠ e := fun z => by
      subst z
      obtain ⟨_, q1, q2⟩ := hv
      rw [he] at q1
      cases q1
      rw [hd] at q2
      cases q2
    rw [upd_ne ne]
    exact I.freeC x c q
  · intro p hp
    obtain ⟨q1, q2, q3⟩ := I.pin p hp
    exact ⟨q1, by rw [upd_ne (np p hp)]; exact q2, q3⟩
  · intro b u q
    by_cases z : b = e
    · subst z
      rw [upd_same] at q
      cases q
      exact ⟨⟨oe, fl, he, hz, hd⟩, ⟨oe, he⟩, fun h1 h2 ⟨o, v, w1, w2⟩ k => ⟨o, v, k o w1, w2⟩⟩
    · rw [upd_ne z] at q
      exact (I.hok b u q).stay (fun _ _ _ k => k) (fun c k => by rw [upd_ne (old c _ k)]; exact k) fun c xs k => by rw [upd_ne (old c _ k)]; exact k
end
/-- what the clause wishes of an exception of the body: it is one of the class c, and the suite keeps it -/
def wKept (K : PySem.W.Frag) (c : Value) (i : Nat) (ts : Addr → Value → Option Addr → TS) (Q : Ends) : WX := fun cls d σ H =>
  PySem.W.exmOne K cls c = some true ∧ ∀ e, H e = none → ts e cls d ⟨fun σ' H' => H' e = none → Q.nx (σ'.set i none) (upd H' e (ExK cls d e)), fun _ _ => False, fun _ _ => False, fun _ _ => False⟩ (σ.set i (some (.ref e))) H
section
variable {X : Cx} {x n : Str} {c : Value} {i : Nat} {body suite : List Stmt} {st1 : Stmt} {np pos pos' : Pos} {tb : WX → TS} {ts : Addr → Value → Option Addr → TS}
theorem ps_try_kept (stk : X.stack = X.env :: X.outer) (frm : X.env.frame = some X.env.locals) (nd : X.N.Nodup) (ni : X.N[i]? = some n) (nl : X.env.kindOf n = some .local) (nc : Names X x c) (hex : X.ex = [])
    (bodyOk : ∀ (W : WX) (pn : List (Addr × Obj)) (xe : Value → Shared → Prop), Takes (X.tr pn xe) W → PassesOwn (model X.prog X.w) X.A X.env xe → PSs (X.tr pn xe) body (tb W))
    (suiteOk : ∀ (e : Addr) (oe : Obj) (cls : Value) (d : Option Addr) (pn : List (Addr × Obj)), Zc cls d oe → (∃ vs, oe.data = .fields vs) → PSs (X.suite e ((e, oe) :: pn)) (st1 :: suite) (ts e cls d)) :
    PS X (.Try body [.ExceptHandler (some (.Name x np)) (some n) (st1 :: suite) pos'] [] [] pos) (fun Q σ H => tb (wKept X.K c i ts Q) Q σ H) := by
  constructor
  intro pins s σ H Q I start
  have okX := I.ok
  have allF : X.A.frames = some (X.env :: X.outer) := okX.frames.trans (congrArg some stk)
  let goOn : Value → Shared → Prop := fun u t1 =>
    wpAny (model X.prog X.w) X.A (noteFrame u X.env) (fun _ t2 =>
      wpAny (model X.prog X.w) X.A (setFlight u none) (fun _ t3 =>
        wpAny (model X.prog X.w) X.A (handleBy u X.env [.ExceptHandler (some (.Name x np)) (some n) (st1 :: suite) pos']) (SP X pins Q) X.xe t3) X.xe t2) X.xe t1
  have caught : Takes (X.tr (X.pn ++ pins) goOn) (wKept X.K c i ts Q) := by
    intro u t xx
    obtain ⟨e, B, t0, pins0, σ0, H0, cls, d, rfl, I0', inB, upTo, sky0, na, sameOs, allB, isC, wish⟩ := xx
    have I0 : Inv X pins σ0 H0 t0 := I0'.ofTry okX
    have sky : Sky B (X.env :: X.outer) e (Zc cls d) X.env.locals t.heap := stk ▸ sky0
    show wpAny _ X.A (noteFrame (.ref e) X.env) _ _ _
    refine Sky.land Zc.steady allF frm sky ?_
    intro g3 fly3 up3
    have I3 : Inv X pins σ0 H0 { t with heap := g3 } := I0.landed inB fly3.1 (upTo.trans up3) sameOs allB
    obtain ⟨o3, fl3, lies3, z3, dat3⟩ := fly3.there
    have noFrame : e ∉ frs (X.env :: X.outer) := by
      intro hm
      obtain ⟨_, o', q, hnf⟩ := fly3.2.2.1.mem hm
      rw [lies3] at q
      cases q
      exact hnf _ dat3
    have offLocals : e ≠ X.env.locals := by
      intro z
      apply noFrame
      exact List.mem_filterMap.mpr ⟨X.env, by simp, by rw [frm, z]⟩
    have offOuter : e ∉ X.fs := by
      intro hm
      obtain ⟨v, hv, q⟩ := List.mem_filterMap.mp hm
      apply noFrame
      exact List.mem_filterMap.mpr ⟨v, by simp [hv], q⟩
    -- the exception is younger than all that was looked at
    have young : t0.heap.get? e = none := by
      cases q : t0.heap.get? e with
      | none => rfl
      | some o =>
        have inB' := inB e o q (by rw [stk]; exact noFrame)
        rw [fly3.2.1] at inB'
        cases inB'
    have young0 : X.s_0.heap.get? e = none := by
      cases q : X.s_0.heap.get? e with
      | none => rfl
      | some o =>
        obtain ⟨o', q'⟩ := I0.base.there e o q (by rw [hex]; simp)
        rw [young] at q'
        cases q'
    have noPin : ∀ p ∈ X.pn ++ pins, p.1 ≠ e := by
      intro p hp z
      have q := (I0.pin p hp).1
      rw [z, young] at q
      cases q
    have S3 := I3.suite lies3 dat3 na offLocals offOuter
    refine wpAny_handleBy_cons (codeAny_handlers_test ?_) (by intro q; cases q)
    have itsType : PySem.W.Looks (model X.prog X.w) g3 (typeOf (.ref e)) cls := by
      intro A1 Q1 E1 t1 kk q
      refine wpAny_typeOf_ref (kk _ _ lies3) ?_
      rw [z3.1]
      exact q
    have meets := PySem.W.exm_one (M := model X.prog X.w) I3.kIn itsType isC
    have named : ∀ {Q1 E1 : Value → Shared → Prop}, Q1 c { t with heap := g3 } → wpAny (model X.prog X.w) (X.A.mark (some (.ref e))) (eval (.Name x np) X.env) Q1 E1 { t with heap := g3 } := by
      intro Q1 E1 q
      obtain ⟨gx, dbg, own | ⟨no, blt, ne⟩⟩ := nc
      · exact ld_glob (X := X.suite e ((e, o3) :: (X.pn ++ pins))) S3 gx own q dbg
      · exact ld_blt (X := X.suite e ((e, o3) :: (X.pn ++ pins))) S3 gx no blt q ne dbg
    refine named (meets.here ?_)
    refine codeAny_handlers_suite_as (HandSPX.lands_againZ fly3 ?_)
    intro g4 fly4 up4
    have I4 : Inv X pins σ0 H0 { t with heap := g4 } := I0.landed inB fly4.1 ((upTo.trans up3).trans up4) sameOs allB
    obtain ⟨o4, fl4, lies4, z4, dat4⟩ := fly4.there
    have S4 := I4.suite lies4 dat4 na offLocals offOuter
    refine store_ok (X := X.suite e ((e, o4) :: (X.pn ++ pins))) (v := .ref e) S4 nd ni (.inl nl) rfl ?_ (.inr nl)
    intro t5 S5
    have suite5 := (suiteOk e o4 cls d (X.pn ++ pins) z4 ⟨_, dat4⟩).run [] t5 _ H0 _ S5 (wish e na)
    refine wpAny_mono suite5 ?_ fun _ _ z => z.elim
    intro f t6 done6
    cases f with
    | next =>
      obtain ⟨σ6, H6, S6, q6⟩ := done6
      have pe := S6.pin (e, o4) (by simp)
      have I6 := track (S6.unsuite okX) pe.1 z4 dat4 pe.2.1 offLocals young0 noPin
      exact gone_ok I6 nd ni nl fun t7 I7 => ⟨_, _, I7, q6 pe.2.1⟩
    | brk =>
      obtain ⟨_, _, _, z⟩ := done6
      exact z.elim
    | cont =>
      obtain ⟨_, _, _, z⟩ := done6
      exact z.elim
    | ret u =>
      obtain ⟨_, _, _, _, _, z⟩ := done6
      exact z.elim
  have ran := (bodyOk (wKept X.K c i ts Q) (X.pn ++ pins) goOn caught PassesOwn.looking).run [] s σ H Q (I.toTry _) start
  refine wpAny_Try_except (wpAny_mono ran ?_ fun _ _ z => z)
  intro f t1 done1
  cases f with
  | next =>
    obtain ⟨σ1, H1, I1, q⟩ := done1
    exact wpAny_execs_nil ⟨σ1, H1, I1.ofTry okX, q⟩
  | brk => exact (fun ⟨σ1, H1, I1, q⟩ => ⟨σ1, H1, I1.ofTry okX, q⟩) done1
  | cont => exact (fun ⟨σ1, H1, I1, q⟩ => ⟨σ1, H1, I1.ofTry okX, q⟩) done1
  | ret u => exact (fun ⟨v, σ1, H1, I1, r, q⟩ => ⟨v, σ1, H1, I1.ofTry okX, r, q⟩) done1
end
/-! ### .. over the data -/
def dTryK (L : List Addr) (i j : Nat) (db : DS) : DS := fun Δ s => match db Δ s with
  | some (.ex x Δ1, s1) => if x.cls ∈ L ∧ i < Δ1.length ∧ j < Δ1.length then some (.nx ((Δ1.set j (some (.exc x.cls (x.fs.map (·.1)) (x.fs.map (·.2))))).set i none), s1) else none
  | r => r
theorem prs_split {R : V → D → Prop} : ∀ {vs : List (Str × V)} {fs : List (Str × D)}, Prs R vs fs → vs.map (·.1) = fs.map (·.1) ∧ vs = (fs.map (·.1)).zip (vs.map (·.2)) ∧ (fs.map (·.1)).length = (vs.map (·.2)).length
  | _, _, .nil => ⟨rfl, rfl, rfl⟩
  | _, _, .cons h r => by
    obtain ⟨h1, h2, h3⟩ := prs_split r
    refine ⟨by simp [h1], ?_, by simpa using h3⟩
    rw [List.map_cons, List.map_cons, List.zip_cons_cons, ← h2]
theorem prs_dts {K : PySem.W.Frag} {φ : List Addr} {H : Hp} : ∀ {vs : List (Str × V)} {fs : List (Str × D)}, Prs (Dt K φ H) vs fs → Dts K φ H (vs.map (·.2)) (fs.map (·.2))
  | _, _, .nil => .nil
  | _, _, .cons h r => .cons h (prs_dts r)
theorem Xr.exv {K : PySem.W.Frag} {φ : List Addr} {H : Hp} {cls : Value} {d : Option Addr} {x : Xc} {e : Addr} (h : Xr K φ H cls d x) (na : H e = none) : ∃ vs, ExV (upd H e (ExK cls d e)) e x.cls (x.fs.map (·.1)) vs ∧ Dts K φ H vs (x.fs.map (·.2)) := by
  obtain ⟨rfl, ⟨rfl, h2⟩ | ⟨a, vs, rfl, h2, h3⟩⟩ := h
  · rw [h2]
    exact ⟨[], ⟨rfl, .inl ⟨upd_same, rfl⟩⟩, .nil⟩
  · obtain ⟨q1, q2, q3⟩ := prs_split h3
    refine ⟨vs.map (·.2), ⟨q3, .inr ⟨a, upd_same, ?_⟩⟩, prs_dts h3⟩
    rw [upd_ne (ne_of_none h2 na), h2, ← q2]
theorem Xr.fu {K : PySem.W.Frag} {φ φ' : List Addr} {H H' : Hp} {cls : Value} {d : Option Addr} {x : Xc} (f : Fu K φ φ' H H') (h : Xr K φ H cls d x) : Xr K φ' H' cls d x := by
  obtain ⟨h1, h2 | ⟨a, vs, h2, h3, h4⟩⟩ := h
  · exact ⟨h1, .inl h2⟩
  · exact ⟨h1, .inr ⟨a, vs, h2, f.gd _ _ h3, h4.fu f⟩⟩
section
variable {X : Cx} {W0 : WX} {x n m : Str} {cv : Value} {i j : Nat} {body : List Stmt} {p1 p2 p3 np pos pos' : Pos} {db : DS} {L : List Addr}
theorem ds_tryK (stk : X.stack = X.env :: X.outer) (frm : X.env.frame = some X.env.locals) (nd : X.N.Nodup) (ij : i ≠ j) (hL : ∀ c ∈ L, PySem.W.exmOne X.K (.ref c) cv = some true) (nc : Names X x cv)
    (hb : ∀ (W : WX) (pn : List (Addr × Obj)) (xe : Value → Shared → Prop), Takes (X.tr pn xe) W → PassesOwn (model X.prog X.w) X.A X.env xe → DSs (X.tr pn xe) W body db)
    (su : ∀ (e : Addr) (pn : List (Addr × Obj)), DSt (X.suite e pn) (fun _ _ _ _ => False) (.Assign [.Name m p1] (.Name n p2) p3) (dAsg (dVar i) (gN j)))
    (ni : X.N[i]? = some n := by rfl) (nl : X.env.kindOf n = some .local := by rfl) (hex : X.ex = [] := by rfl) :
    DSt X W0 (.Try body [.ExceptHandler (some (.Name x np)) (some n) [.Assign [.Name m p1] (.Name n p2) p3] pos'] [] [] pos) (dTryK L i j db) := by
  refine ps_imp (ps_try_kept (tb := fun W => upS X.K W db) (ts := fun _ _ _ => upS X.K (fun _ _ _ _ => False) (dAsg (dVar i) (gN j))) stk frm nd ni nl nc hex hb (fun e oe cls d pn _ _ => dss_one (su e ((e, oe) :: pn)))) ?_
  intro D σ H ⟨Δ, φ, s, hσ, hs, h⟩
  refine ⟨Δ, φ, s, hσ, hs, ?_⟩
  unfold dTryK at h
  cases r : db Δ s with
  | none => rw [r] at h; exact h.elim
  | some q =>
    obtain ⟨r1, s1⟩ := q
    rw [r] at h
    cases r1 with
    | nx Δ1 => exact h
    | rt d => exact h
    | bk Δ1 => exact h
    | ct Δ1 => exact h
    | ex xx Δ1 =>
      simp only at h
      split at h
      · rename_i hc
        obtain ⟨hc1, hi, hj⟩ := hc
        intro φ1 σ1 H1 c dd f1 so1 sg1 xr
        have hcl := xr.1
        subst hcl
        refine ⟨hL _ hc1, fun e na => ?_⟩
        refine ⟨Δ1.set i (some (.adr e)), φ1, s1, sg1.set (.adr e) i, so1, ?_⟩
        have hv : dAsg (dVar i) (gN j) (Δ1.set i (some (.adr e))) s1 = some (.nx ((Δ1.set i (some (.adr e))).set j (some (.adr e))), s1) := by
          unfold dAsg sbind dVar gN
          rw [List.getElem?_set_self hi]
        rw [hv]
        intro φ2 σ2 H2 f2 so2 sg2 na2
        obtain ⟨vs, ev, rv⟩ := (xr.fu f2).exv na2
        have f3 : Fu X.K φ2 φ2 H2 (upd H2 e (ExK (.ref xx.cls) dd e)) := fu_new na2
        refine h φ2 _ _ ((f1.trans f2).trans f3) (so2.new na2) ⟨?_, fun k d hk => ?_⟩
        · have q := sg2.len
          simp only [List.length_set] at q ⊢
          exact q
        · by_cases ki : k = i
          · subst ki
            rw [List.getElem?_set_self (by simp; exact hi)] at hk
            cases hk
          · rw [List.getElem?_set_ne (fun z => ki z.symm)] at hk ⊢
            by_cases kj : k = j
            · subst kj
              rw [List.getElem?_set_self hj] at hk
              cases hk
              obtain ⟨v, hv1, hv2⟩ := sg2.get k (.adr e) (by rw [List.getElem?_set_self (by simp; exact hj)])
              cases hv2
              exact ⟨.ref e, hv1, .exc ev (rv.fu f3)⟩
            · rw [List.getElem?_set_ne (fun z => kj z.symm)] at hk
              obtain ⟨v, hv1, hv2⟩ := sg2.get k d (by rw [List.getElem?_set_ne (fun z => kj z.symm), List.getElem?_set_ne (fun z => ki z.symm)]; exact hk)
              exact ⟨v, hv1, hv2.fu f3⟩
      · exact h.elim
end
end DV

set_option maxHeartbeats 2000000
namespace DV
open PySem L2 PyProof.Rows
/-! ### isinstance of a caught exception -/
/-- what isinstance says of instances of the exception class c, asked for the class C: b -/
structure IsX (K : PySem.W.Frag) (C c : Addr) (b : Bool) : Prop where
  ex : ExcC K c
  one : PySem.W.kitOne K (.ref c) (.ref C) = some b
/-- the class C of exceptions; those of Y are instances, those of N are not -/
def fIsiX (C : Addr) (Y N : List Addr) : OpN := fun xs s => match xs with
  | [x, .adr c] => if c = C then match x with
    | .exc k _ _ => if k ∈ Y then some (.bl true, s) else if k ∈ N then some (.bl false, s) else none
    | x => match kdOf x s with
      | some _ => some (.bl false, s)
      | none => none
    else none
  | _ => none
def rIsX (K : PySem.W.Frag) : List V → Hp → VK → Prop := fun xs H Q => ∃ (e C c : Addr) (ks : List Str) (vs : List V) (b : Bool), xs = [.ref e, .ref C] ∧ ExV H e c ks vs ∧ IsX K C c b ∧ Q (.bl b) H
section
variable {X : Cx} {W : WX}
theorem inst_exc {pins : List (Addr × Obj)} {σ : L2.St} {H : Hp} {s : Shared} {e c : Addr} {ks : List Str} {vs : List V} (I : Inv X pins σ H s) (h : ExV H e c ks vs) : ∃ oe od, PySem.W.InstAt s.heap e oe c od := by
  have key : ∀ d, H e = some (ExK (.ref c) d e) → (∀ a, d = some a → ∃ fs, H a = some (.xd fs)) → ∃ oe od, PySem.W.InstAt s.heap e oe c od := by
    intro d h1 h2
    obtain ⟨⟨oe, fl, q1, q2, q3⟩, _⟩ := I.hok e _ h1
    obtain ⟨oc, odd, oda, osl⟩ := oe
    obtain ⟨z1, z2⟩ := q2
    dsimp only at z1 z2 q3
    subst z1 z2 q3
    cases odd with
    | none => exact ⟨_, none, q1, rfl, rfl, trivial⟩
    | some a =>
      obtain ⟨fs, hx⟩ := h2 a rfl
      obtain ⟨mA, n1, _⟩ := I.hok a _ hx
      obtain ⟨o, ho⟩ : ∃ o, s.heap.get? a = some o := by
        obtain ⟨o, _, _, ho, _⟩ := n1
        exact ⟨o, ho⟩
      exact ⟨_, some o, q1, rfl, rfl, ho⟩
  rcases h.2 with ⟨h1, _⟩ | ⟨d, h1, h2⟩
  · exact key none h1 fun a z => nomatch z
  · exact key (some d) h1 fun a z => by cases z; exact ⟨_, h2⟩
theorem call_isX : CallR X (.builtin "isinstance") (rIsX X.K) := by
  intro pins s σ H xs us Q I r h
  obtain ⟨e, C, c, ks, vs, b, rfl, hv, hx, q⟩ := h
  obtain ⟨u1, u2, rfl, r1, r2⟩ := vals2 r
  cases (show u1 = Value.ref e from r1)
  cases (show u2 = Value.ref C from r2)
  obtain ⟨oe, od, J⟩ := inst_exc I hv
  have E := hx.ex
  have hcl : (PySem.W.clsIn X.K c).isSome = true := by
    obtain ⟨cd, hc, _⟩ := PySem.W.any_some E.hd
    rw [hc]
    rfl
  exact PySem.W.kia_one (PySem.W.kitx_exc hcl E.hg E.hk E.hs E.ha E.hn E.ht E.hm) I.kIn J hx.one (fun z => nomatch z) fun tk => ⟨.bl b, H, I.tok tk, rfl, q⟩
theorem dc_isiX {C : Addr} {Y N : List Addr} (c : PySem.W.isClsIn X.K C = true) (ct : PySem.W.typeIn X.K (.ref C) = some (.type "type")) (hY : ∀ k ∈ Y, IsX X.K C k true) (hN : ∀ k ∈ N, IsX X.K C k false) : DCall X (.builtin "isinstance") (fIsiX C Y N) := by
  have un : ∀ k : Kd, PySem.W.kitOne X.K (.type k.name) (.ref C) = some false := by
    intro k
    have h : ((PySem.W.clsIn X.K C).isSome && PySem.W.typeIn X.K (.ref C) == some (.type "type")) = true := by
      unfold PySem.W.isClsIn at c
      rw [c, ct]
      decide
    unfold PySem.W.kitOne PySem.W.kitCls
    rw [show (Value.type k.name == Value.ref C) = false from rfl]
    simp only [Bool.false_eq_true, if_false, h, if_true]
    exact sub_kd k
  refine ⟨fun xs H Q => rIsX X.K xs H Q ∨ rIsi X.K xs H Q, fun pins s σ H xs us Q I r h => ?_, fun φ H s vs ds Q so rx p => ?_⟩
  · rcases h with h | h
    · exact call_isX pins s σ H xs us Q I r h
    · exact call_isi pins s σ H xs us Q I r h
  · unfold fIsiX at p
    split at p
    · rename_i x cc
      obtain ⟨v, u, rfl, r1, r2⟩ := dts2 rx
      split at p
      · rename_i z
        subst z
        cases r2
        split at p
        · rename_i k ks ds2
          cases r1
          rename_i e ws h1 h2
          left
          split at p
          · rename_i hk
            exact ⟨e, cc, k, ks, ws, true, rfl, h1, hY k hk, p.ok so (.bl _)⟩
          · split at p
            · rename_i hk
              exact ⟨e, cc, k, ks, ws, false, rfl, h1, hN k hk, p.ok so (.bl _)⟩
            · exact p.elim
        · split at p
          · rename_i k e
            right
            exact ⟨v, .ref cc, .type k.name, .ref cc, false, rfl, .own cc, kd_ty so r1 e, un k, p.ok so (.bl _)⟩
          · exact p.elim
      · exact p.elim
    · exact p.elim
/-! ### e.f of a caught exception -/
/-! ### is of bools and None -/
def fIsB : Op2 := fun x y s => match x, y with
  | .bl a, .bl b => some (.bl (decide (a = b)), s)
  | .non, .bl _ => some (.bl false, s)
  | _, _ => none
def fNotB : Op2 := fun x y s => match x, y with
  | .bl a, .bl b => some (.bl (!decide (a = b)), s)
  | .non, .bl _ => some (.bl true, s)
  | _, _ => none
theorem op_isNB : OpR X (compareOp .Is) (fun x y H Q => ∃ b : Bool, x = .non ∧ y = .bl b ∧ Q (.bl false) H) := by
  intro pins s σ H x y v u Q I rx ry h
  obtain ⟨b, rfl, rfl, q⟩ := h
  cases (show v = Value.none from rx)
  cases (show u = Value.bool b from ry)
  exact wpAny_is_other rfl (fun z => nomatch z) ⟨.bl false, H, I, rfl, q⟩
theorem op_notNB : OpR X (compareOp .IsNot) (fun x y H Q => ∃ b : Bool, x = .non ∧ y = .bl b ∧ Q (.bl true) H) := by
  intro pins s σ H x y v u Q I rx ry h
  obtain ⟨b, rfl, rfl, q⟩ := h
  cases (show v = Value.none from rx)
  cases (show u = Value.bool b from ry)
  exact wpAny_isNot_other rfl (fun z => nomatch z) ⟨.bl true, H, I, rfl, q⟩
theorem dop_isB : DOp X (compareOp .Is) fIsB := ⟨_, op_isBl.or op_isNB, fun φ H s x y v u Q so rx ry p => by
  cases rx <;> cases ry <;> first | exact p.elim | skip
  · exact .inr ⟨_, rfl, rfl, p.ok so (.bl _)⟩
  · exact .inl ⟨_, _, rfl, rfl, p.ok so (.bl _)⟩⟩
theorem dop_notB : DOp X (compareOp .IsNot) fNotB := ⟨_, op_notBl.or op_notNB, fun φ H s x y v u Q so rx ry p => by
  cases rx <;> cases ry <;> first | exact p.elim | skip
  · exact .inr ⟨_, rfl, rfl, p.ok so (.bl _)⟩
  · exact .inl ⟨_, _, rfl, rfl, p.ok so (.bl _)⟩⟩
/-! ### a tuple several times -/
def fRepT : Op2 := fun x y s => match x, y with
  | .tup xs, .int k => if xs.isEmpty = false ∧ 2 ≤ k ∧ k ≤ 1000 ∧ xs.length ≤ 1000 then some (.tup (List.replicate k.toNat xs).flatten, s) else none
  | _, _ => none
theorem dop_repT : DOp X (binaryOp .Mult) fRepT := ⟨_, op_repT, fun φ H s x y v u Q so rx ry p => by
  cases rx <;> cases ry <;> first | exact p.elim | skip
  rename_i a vs xs h r k
  simp only [fRepT] at p
  split at p
  · rename_i z
    obtain ⟨z1, z2, z3, z4⟩ := z
    exact ⟨a, k, vs, rfl, rfl, h, r.ne_nil z1, z2, z3, by rw [r.length]; exact z4, fun q hq => p _ _ _ (fu_new hq) (so.new hq) (.tup (.inl (.inl upd_same)) ((r.flat _).fu (fu_new hq)))⟩
  · exact p.elim⟩
end
theorem kit1 {K : PySem.W.Frag} {C c : Addr} {b : Bool} (ci : PySem.W.isClsIn K C = true) (ty : PySem.W.typeIn K (.ref C) = some (.type "type")) (sC : PySem.W.subIn K (.ref C) (.ref C) = some true) (h : PySem.W.subIn K (.ref c) (.ref C) = some b) : PySem.W.kitOne K (.ref c) (.ref C) = some b := by
  have q : ((PySem.W.clsIn K C).isSome && PySem.W.typeIn K (.ref C) == some (.type "type")) = true := by
    unfold PySem.W.isClsIn at ci
    rw [ci, ty]
    decide
  unfold PySem.W.kitOne PySem.W.kitCls
  by_cases z : (Value.ref c == Value.ref C) = true
  · rw [if_pos z]
    have e : c = C := Value.ref.inj (beq_iff_eq.mp z)
    subst e
    exact sC.symm.trans h
  · rw [if_neg z]
    simp only [q, if_true]
    exact h
theorem exm1 {K : PySem.W.Frag} {C c : Addr} (h1 : PySem.W.subIn K (.ref C) (.type "BaseException") = some true) (hd : PySem.W.hasDictIn K C = true) (ht : PySem.W.typeIn K (.ref C) = some (.type "type")) (h : PySem.W.subIn K (.ref c) (.ref C) = some true) : PySem.W.exmOne K (.ref c) (.ref C) = some true :=
  PySem.W.exm_ref h1 hd ht h
theorem all_nil {p : Addr → Prop} : ∀ k ∈ ([] : List Addr), p k := fun _ h => nomatch h
theorem all_cons {p : Addr → Prop} {a : Addr} {r : List Addr} (h : p a) (hr : ∀ k ∈ r, p k) : ∀ k ∈ a :: r, p k := fun k hk => by
  rcases List.mem_cons.mp hk with rfl | hk
  · exact h
  · exact hr k hk
end DV

set_option maxHeartbeats 2000000
namespace DV
open PySem L2 PyProof.Rows
/-! ### an own exception class whose __init__ is: B.__init__(self, '..'); self.f = f -/
section
variable {X : Cx} {B : Str} {RB : Addr} {e : Expr} {es : List Expr} {ta : TA} {p1 p2 pos : Pos}
/-- what the class B says, of whose __init__ another one's makes use -/
structure BaseI (K : PySem.W.Frag) (RB : Addr) : Prop where
  sp : PySem.W.specialIn K (.ref RB) "__getattribute__" = some (some (.builtin "type.__getattribute__"))
  rd : PySem.W.readsIn K RB (.type "type") = true
  fc : PySem.W.findCls K (.ref RB) (.type "type") "__init__" = some (.val (.builtin "ValueError.__init__"))
theorem pe_einit {pl : Sem Bool} (T : BaseI X.K RB) (hg : Gl X B) (hm : X.mg B = some (.ref RB)) (ha : PA X (e :: es) ta)
    (hc : eval (.Call (.Attribute (.Name B p1) "__init__" p2) (e :: es) [] pos) X.env = (do let ov ← eval (.Name B p1) X.env; standAt p2.atName; let (f, first) ← holding [ov] (getMethod ov "__init__" pl); callWith pos f first (backTo pos (starEach (e :: es) X.env)) (backToKw pos (keywordEach [] X.env))) := by rfl)
    (hdb : (B == ("__debug__" : Str)) = false := by decide) (he : starEach (e :: es) X.env = (false, eval e X.env) :: starEach es X.env := by rfl) (hpl : (backTo pos (starEach es X.env)).any (·.1) = false := by rfl) :
    PE X (.Call (.Attribute (.Name B p1) "__init__" p2) (e :: es) [] pos) (tVeI X.K ta) := by
  constructor
  intro pins s σ H Q I h
  refine PySem.W.methodCall_KW (ld_glob I hg hm ?_ hdb) hc
  refine PySem.W.method_cls I.kIn T.sp (PySem.W.cls_value I.kIn T.rd T.fc (by decide +kernel) ?_)
  have args := ha.run pos pins _ σ H _ (I.tok (s.toks + 1)) h
  refine PyProof.Rows.callWith_method1 (id := "ValueError.__init__") (first := []) (thn args ?_) he hpl
  intro us s1 told
  obtain ⟨vs, H1, I1, r1, a, C, ws, ev, hl, T1, ea, q⟩ := told
  subst ev
  cases r1 with
  | @cons _ u0 _ ur ra rr =>
    obtain rfl : u0 = Value.ref a := ra
    refine oinit_ok T1 I1 ea ?_ fun s' J => ⟨.non, H1, J, rfl, q⟩
    rw [← Paired.length rr, sizeLine_eq]
    omega
end
section
variable {P : Program} {w : World} {K : PySem.W.Frag} {mg : Str → Option Value} {base : Heap}
/-- a def by the rules of its body -/
theorem fn_mkP {x qual : Str} {st : Stmt} {f : Addr} {fd : FuncData} {N ps : List Str} {k : Nat} {sp : Sp} {t : TS} (F : Fun K x qual st f fd) (S : FnScope N ps (defScope st)) (hlen : ∀ vs H Q E, sp vs H Q E → vs.length = ps.length)
    (hb : ∀ (cdv : Value) (A : Around) (outer : List Env) (s : Shared) (H : Hp) (E : XK), Room k (Bx P w K mg base N qual (defScope st) f cdv A outer s H E).A → PSs (Bx P w K mg base N qual (defScope st) f cdv A outer s H E) (defBody st) t)
    (hs : ∀ vs H Q E, sp vs H Q E → t ⟨fun _ H' => Q .non H', Q, fun _ _ => False, fun _ _ => False⟩ (L2.start N vs) H) : FnOk P w K mg base (L2.CX P w) (k + 1) f fd ps sp := by
  constructor
  · exact hlen
  intro A outer s H args us vs Q E hr env0 bind rel hsp
  obtain ⟨oc, od, kV, doc, pm, an, cdv, ct, osl, rfl, lk, hcd⟩ := F.ex
  have olds : ∀ (b : Addr) (o : Obj), base.get? b = some o → s.heap.get? b = some o := fun b o q => (env0.bs b o q).1
  have kin := env0.mod.kin.keeps olds
  have seen : ∀ y ∈ ps.zip us, (defScope st).names.lookup y.1 = some .local ∨ ((defScope st).names.lookup y.1 = some .cell ∧ ((cellsFrom (s.heap.objs.size + 1) (defScope st).names []).lookup y.1).isSome = true) := by
    intro y hy
    rcases S.par y.1 (List.of_mem_zip (a := y.1) (b := y.2) hy).1 with q | q
    · exact .inl q
    · exact .inr ⟨q, PySem.W.cellsFrom_some _ _ _ (.inl q)⟩
  refine codeAny_call_function hr.depth (kin _ _ lk) rfl S.co S.gen rfl (PySem.W.codeRec_of kin hcd) (bind _ _ _ _ ?_)
  refine wpAny_newFunctionEnv_cells S.kind seen ?_
  intro env henv t1 inc
  subst henv
  have body := hb cdv A outer s H E (hr.deeper _)
  have J0 : Inv (Bx P w K mg base N qual (defScope st) f cdv A outer s H E) [] (L2.start N vs) H t1 := inv_start S hr.hd env0 (hlen _ _ _ _ hsp) rel inc
  refine ⟨env0.mod.nolimit.keeps fun b o q => inc.toInCall.keep b o (olds b o q), codeAny_func (wpAny_mono (body.run [] t1 (L2.start N vs) H _ J0 (hs vs H Q E hsp)) ?_ fun _ _ z => z)⟩
  intro fl t2 done
  cases fl with
  | ret u => exact (fun ⟨v, σ', H', J, rv, q⟩ => ⟨v, H', J.os, J.bare, J.base, J.hok, rv, q⟩) done
  | next => exact (fun ⟨σ', H', J, q⟩ => ⟨.non, H', J.os, J.bare, J.base, J.hok, rfl, q⟩) done
  | brk => exact (fun ⟨_, _, _, q⟩ => q.elim) done
  | cont => exact (fun ⟨_, _, _, q⟩ => q.elim) done
/-- what such an __init__ promises -/
def spIn (C : Addr) (f : Str) : Sp := fun vs H Q _ => ∃ (a : Addr) (v : V), vs = [.ref a, v] ∧ H a = some (exo a C none) ∧ ∀ dx, H dx = none → dx ≠ a → Q .non (upd (upd H dx (exd dx [(f, v)])) a (exo a C (some dx)))
theorem fn_einit {qual f n m : Str} {st : Stmt} {fI C : Addr} {fd : FuncData} (F : Fun K "__init__" qual st fI fd) (S : FnScope ["self", n] ["self", n] (defScope st)) (TC : OexC K C) (hno : PySem.W.findIn K (.ref C) f = some none)
    (ok : ∀ (cdv : Value) (A : Around) (outer : List Env) (s : Shared) (H : Hp) (E : XK), PSs (Bx P w K mg base ["self", n] qual (defScope st) fI cdv A outer s H E) (defBody st) (tSeq (tDrop (tVeI K (tCons (tVar 0) (tCons (tC (V.str m)) tNil)))) (tOst K f (tVar 0) (tVar 1)))) :
    FnOk P w K mg base (L2.CX P w) 1 fI fd ["self", n] (spIn C f) := by
  refine fn_mkP (k := 0) F S (fun vs H Q E h => ?_) (fun cdv A outer s H E _ => ok cdv A outer s H E) fun vs H Q E h => ?_
  · obtain ⟨a, v, rfl, _⟩ := h
    rfl
  · obtain ⟨a, v, rfl, h1, h2⟩ := h
    refine ⟨V.ref a, rfl, a, C, [V.str m], rfl, by simp, TC, h1, ?_⟩
    exact ⟨v, rfl, V.ref a, rfl, a, C, rfl, TC, hno, .inl ⟨h1, fun dx n1 n2 => h2 dx n1 n2⟩⟩
end
/-! ### raise C(e), C such a class -/
def dRaiseF (C : Addr) (f : Str) (de : DX) : DS := fun Δ => sbind (de Δ) Δ fun d s => some (.ex ⟨C, [(f, d)]⟩ Δ, s)
/-- what is known of such a class, of its __init__ -/
structure ExcI (X : Cx) (x : Str) (C : Addr) (f n : Str) : Prop where
  oc : OexC X.K C
  gC : X.mg x = some (.ref C)
  fn : ∃ (fI : Addr) (fd : FuncData), PySem.W.findIn X.K (.ref C) "__init__" = some (some (.ref fI)) ∧ PySem.W.typeIn X.K (.ref fI) = some (.type "function") ∧ L2.Binds X.K fd ["self", n] [] ∧ FnOk X.prog X.w X.K X.mg X.base (L2.CX X.prog X.w) 1 fI fd ["self", n] (spIn C f)
theorem upd_del {H : Hp} {a d : Addr} {o1 o2 o3 : HO} (na : H a = none) (ne : d ≠ a) : upd (L2.del (upd (upd H d o1) a o2) a) d o3 = upd H d o3 := by
  funext b
  by_cases h1 : b = d
  · subst h1
    rw [upd_same, upd_same]
  · rw [upd_ne h1, upd_ne h1]
    by_cases h2 : b = a
    · subst h2
      rw [L2.del_same, na]
    · rw [L2.del_ne h2, upd_ne h2, upd_ne h1]
section
variable {X : Cx} {W : WX} {k : Nat}
theorem passes_none : Passes (L2.CX X.prog X.w) X (fun _ _ _ => False) := fun _ _ _ _ _ _ _ h => by
  obtain ⟨_, _, _, _, _, _, _, _, _, _, _, _, z⟩ := h
  exact z.elim
theorem ds_raiseF {x f n : Str} {C : Addr} {e : Expr} {de : DX} {p pos pos2 : Pos} (T : ExcI X x C f n) (hc : X.calm = true) (hr : RoomG (k + 2) X.A) (tk : Takes X W) (he : DE X W e de) (hg : Gl X x := by rfl) (hdb : (x == ("__debug__" : Str)) = false := by decide)
    (hst : starEach [e] X.env = (false, eval e X.env) :: starEach [] X.env := by rfl) : DSt X W (.Raise (some (.Call (.Name x p) [e] [] pos)) none pos2) (dRaiseF C f de) := by
  obtain ⟨fI, fd, i1, i2, i3, i4⟩ := T.fn
  have mk := pmk_oex (pos := pos) (p := p) (e := e) (es := []) (ta := tCons (upE X.K W de) tNil) (dvs := []) (ds := []) T.oc i1 i2 i4 (hr.rm.mono (by omega)) i3 .nil passes_none hg T.gC (pa_cons he pa_nil hst) hdb hst
  refine ps_imp (ps_raise hc tk mk) ?_
  intro D σ H ⟨Δ, φ, s, hσ, hs, h⟩
  refine sbE hσ hs h fun φ1 v H1 d s1 f1 hσ1 hs1 rd h1 => ?_
  refine ⟨by simp, fun a na => ⟨a, v, rfl, upd_same, fun dx n1 n2 => ?_⟩⟩
  have nd : H1 dx = none := by
    rw [upd_ne n2] at n1
    exact n1
  have e1 : upd (upd (upd H1 a (exo a C none)) dx (exd dx [(f, v)])) a (exo a C (some dx)) = upd (upd H1 dx (exd dx [(f, v)])) a (exo a C (some dx)) := by
    funext b
    by_cases h1 : b = a
    · subst h1
      rw [upd_same, upd_same]
    · rw [upd_ne h1, upd_ne h1]
      by_cases h2 : b = dx
      · subst h2
        rw [upd_same, upd_same]
      · rw [upd_ne h2, upd_ne h2, upd_ne h1]
  refine ⟨rfl, dx, [(f, v)], upd_same, by rw [upd_ne n2, upd_same], nd, ?_⟩
  rw [e1, upd_del na n2]
  exact h1 φ1 σ _ (.ref C) (some dx) (fu_new nd) (hs1.new nd) (hσ1.fu (fu_new nd)) ⟨rfl, .inr ⟨dx, [(f, v)], rfl, upd_same, .cons (rd.fu (fu_new nd)) .nil⟩⟩
/-! ### e.f of a caught exception -/
def fFldX (C : Addr) (f : Str) : Op1 := fun x s => match x with
  | .exc c ks ds => if c = C then match (ks.zip ds).lookup f with
    | some d => some (d, s)
    | none => none else none
  | _ => none
/-- the class c's instances have the attribute f in their dict alone -/
structure XfF (K : PySem.W.Frag) (c : Addr) (f : Str) : Prop where
  xf : XfC K c
  no : PySem.W.findIn K (.ref c) f = some none
theorem lookup_rel {φ : List Addr} {H : Hp} {f : Str} {d : D} : ∀ {ks : List Str} {vs : List V} {ds : List D}, Dts X.K φ H vs ds → (ks.zip ds).lookup f = some d → ∃ v, (ks.zip vs).lookup f = some v ∧ Dt X.K φ H v d
  | [], _, _, _, e => by simp at e
  | _ :: _, _, _, .nil, e => by simp at e
  | k :: ks, _, _, .cons (v := v) (vs := vs) (d := d0) (ds := ds) h r, e => by
    rw [List.zip_cons_cons, List.lookup_cons] at e ⊢
    split at e
    · cases e
      exact ⟨v, rfl, h⟩
    · exact lookup_rel r e
theorem pe_fldX {e : Expr} {te : TE} {f : Str} {pos : Pos} (he : PE X e te) (hb : attributeBase e f X.env (eval e X.env) = eval e X.env := by rfl) :
    PE X (.Attribute e f pos) (fun σ H Q => te σ H fun x H1 => ∃ (b c : Addr) (ks : List Str) (vs : List V) (v : V), x = .ref b ∧ ExV H1 b c ks vs ∧ (ks.zip vs).lookup f = some v ∧ XfF X.K c f ∧ Q v H1) := by
  constructor
  intro pins s σ H Q I h
  refine attr_of hb (thn (he.run pins s σ H _ I h) ?_)
  intro u s1 told
  obtain ⟨x, H1, I1, rx, b, c, ks, vs, v, rfl, ⟨_, hv⟩, hl, T, q⟩ := told
  obtain rfl : u = Value.ref b := rx
  rcases hv with ⟨_, rfl⟩ | ⟨dd, h1, h2⟩
  · simp at hl
  · obtain ⟨⟨oe, fl, q1, q2, q3⟩, _⟩ := I1.hok b _ h1
    obtain ⟨mA, hns, hr⟩ := (show ObjOk X.prog X.w H1 s1.heap dd (.xd (ks.zip vs)) from I1.hok dd _ h2)
    obtain ⟨od, ho, look⟩ := lookIn_ns hns
    obtain ⟨w, hw, rw'⟩ := RelO.some_of (v := v) (o := mA f) (by rw [← hl]; exact hr f)
    have J : PySem.W.InstAt s1.heap b oe c (some od) := by
      refine ⟨q1, q2.1, ?_, ?_⟩
      · unfold PySem.W.notCls
        rw [q3]
      · rw [q2.2]
        exact ho
    have own := PySem.W.findObj_own (K := X.K) (od := od) T.xf.hdC T.no rfl (by rw [look, hw])
    exact PySem.HandSPX.exc_get I1.kIn J T.xf.ga T.xf.gg T.xf.exC own (handed_of rw') ⟨v, H1, I1.tok _, rw', q⟩
theorem de_fldX {e : Expr} {dx : DX} {f : Str} {C : Addr} {pos : Pos} (T : XfF X.K C f) (he : DE X W e dx) (hb : attributeBase e f X.env (eval e X.env) = eval e X.env := by rfl) : DE X W (.Attribute e f pos) (dOp1 (fFldX C f) dx) :=
  pe_imp (pe_fldX he hb) fun σ H Q ⟨Δ, φ, s, hσ, hs, h⟩ => upE_bind hσ hs h fun φ1 v H1 x s1 f1 hσ1 hs1 rx h1 => by
    have h2 := PsO.of1 h1
    unfold fFldX at h2
    split at h2
    · rename_i c ks ds
      cases rx
      rename_i b vs hx rs
      split at h2
      · rename_i z
        subst z
        split at h2
        · rename_i d e1
          obtain ⟨w, q1, q2⟩ := lookup_rel rs e1
          exact ⟨b, c, ks, vs, w, rfl, hx, q1, T, h2.ok hs1 q2⟩
        · exact h2.elim
      · exact h2.elim
    · exact h2.elim
end
end DV

set_option maxHeartbeats 2000000
namespace DV
open PySem L2 PyProof.Rows
/-! ### readings that know what lay at the start -/
def upP (K : PySem.W.Frag) (W : WX) (φ0 : List Addr) (H0 : Hp) (de : DX) : TE := fun σ H Q => ∃ Δ φ s, Fu K φ0 φ H0 H ∧ Sg K φ H σ Δ ∧ So K φ H s ∧ Ps K (wAt W σ) (Dt K) φ H (fun _ v H' _ _ => Q v H') (de Δ s)
def upSP (K : PySem.W.Frag) (W : WX) (φ0 : List Addr) (H0 : Hp) (ds : DS) : TS := fun D σ H => ∃ Δ φ s, Fu K φ0 φ H0 H ∧ Sg K φ H σ Δ ∧ So K φ H s ∧ PsS K W D φ H (ds Δ s)
def DEp (X : Cx) (W : WX) (φ0 : List Addr) (H0 : Hp) (e : Expr) (de : DX) : Prop := PE X e (upP X.K W φ0 H0 de)
def DSp (X : Cx) (W : WX) (φ0 : List Addr) (H0 : Hp) (st : Stmt) (ds : DS) : Prop := PS X st (upSP X.K W φ0 H0 ds)
def DSsp (X : Cx) (W : WX) (φ0 : List Addr) (H0 : Hp) (sts : List Stmt) (ds : DS) : Prop := PSs X sts (upSP X.K W φ0 H0 ds)
section
variable {X : Cx} {W : WX} {φ0 : List Addr} {H0 : Hp}
theorem DE.p {e : Expr} {de : DX} (h : DE X W e de) : DEp X W φ0 H0 e de := pe_imp h fun σ H Q ⟨Δ, φ, s, _, a, b, c⟩ => ⟨Δ, φ, s, a, b, c⟩
theorem DSt.p {st : Stmt} {ds : DS} (h : DSt X W st ds) : DSp X W φ0 H0 st ds := ps_imp h fun σ H Q ⟨Δ, φ, s, _, a, b, c⟩ => ⟨Δ, φ, s, a, b, c⟩
theorem DSs.p {sts : List Stmt} {ds : DS} (h : DSs X W sts ds) : DSsp X W φ0 H0 sts ds := pss_imp h fun σ H Q ⟨Δ, φ, s, _, a, b, c⟩ => ⟨Δ, φ, s, a, b, c⟩
theorem seqP {K : PySem.W.Frag} {D : Ends} {a b : DS} {Δ : Dn} {φ : List Addr} {H : Hp} {s : Sto} (f0 : Fu K φ0 φ H0 H) (h : PsS K W D φ H (dSeq a b Δ s)) : PsS K W { D with nx := upSP K W φ0 H0 b D } φ H (a Δ s) := by
  unfold dSeq at h
  cases e : a Δ s with
  | none => rw [e] at h; exact h.elim
  | some p =>
    obtain ⟨q, t⟩ := p
    rw [e] at h
    cases q with
    | nx Δ' => exact fun ψ σ' G f so hg => ⟨Δ', ψ, t, f0.trans f, hg, so, h.shift f⟩
    | rt d => exact h
    | bk d => exact h
    | ct d => exact h
    | ex x d => exact h
theorem dssp_cons {st : Stmt} {rest : List Stmt} {a b : DS} (h1 : DSp X W φ0 H0 st a) (h2 : DSsp X W φ0 H0 rest b) : DSsp X W φ0 H0 (st :: rest) (dSeq a b) :=
  pss_imp (pss_cons h1 h2) fun D σ H ⟨Δ, φ, s, f0, hσ, hs, h⟩ => ⟨Δ, φ, s, f0, hσ, hs, seqP f0 h⟩
theorem dssp_one {st : Stmt} {a : DS} (h1 : DSp X W φ0 H0 st a) : DSsp X W φ0 H0 [st] a := pss_one h1
/-- the first run of two, with what lay at the start -/
theorem sbP {K : PySem.W.Frag} {D : Ends} {φ : List Addr} {H : Hp} {s : Sto} {σ : L2.St} {Δ : Dn} {de : DX} {k : DV.D → Sto → RS} {Q : VK} (f0 : Fu K φ0 φ H0 H) (hσ : Sg K φ H σ Δ) (hs : So K φ H s) (h : PsS K W D φ H (sbind (de Δ) Δ k s))
    (q : ∀ φ1 v H1 d s1, Fu K φ φ1 H H1 → Sg K φ1 H1 σ Δ → So K φ1 H1 s1 → Dt K φ1 H1 v d → PsS K W D φ1 H1 (k d s1) → Q v H1) : upP K W φ0 H0 de σ H Q :=
  ⟨Δ, φ, s, f0, hσ, hs, Ps.mono (fun φ1 v H1 d s1 z => q φ1 v H1 d s1 z.1 (hσ.fu z.1) z.2.1 z.2.2.1 z.2.2.2) (sb hσ h)⟩
theorem dsp_expr {e : Expr} {de : DX} {pos : Pos} (he : DEp X W φ0 H0 e de) (hs : swapsWith e none pos.line X.env = pure false := by rfl) : DSp X W φ0 H0 (.Expr e pos) (dDrop de) :=
  ps_imp (ps_expr he hs) fun D σ H ⟨Δ, φ, s, f0, hσ, hs, h⟩ => sbP f0 hσ hs h fun φ1 v H1 d s1 f1 hσ1 hs1 rd h1 => h1 φ1 _ H1 (Fu.refl _ _) hs1 hσ1
theorem dsp_set {i : Nat} {x : Str} {e : Expr} {de : DX} {pos pos' : Pos} (hN : X.N.Nodup) (he : DEp X W φ0 H0 e de) (hi : X.N[i]? = some x := by rfl) (hx : Loc X.env.scope x := by first | exact Or.inl rfl | exact Or.inr rfl) (hs : swapsWith e (some (.Name x pos')) pos.line X.env = pure false := by rfl)
    (hf : X.fn x = true ∨ X.env.scope.names.lookup x = some .local := by first | exact .inl rfl | exact .inr rfl) : DSp X W φ0 H0 (.Assign [.Name x pos'] e pos) (dAsg de (gN i)) :=
  ps_imp (ps_set hN hi hx he hs hf) fun D σ H ⟨Δ, φ, s, f0, hσ, hs, h⟩ => sbP f0 hσ hs h fun φ1 v H1 d s1 f1 hσ1 hs1 rd h1 => h1 φ1 _ H1 (Fu.refl _ _) hs1 (hσ1.set rd i)
end
section
variable {X : Cx} {W0 : WX} {φ0 : List Addr} {H0 : Hp} {x n m : Str} {cv : Value} {i j : Nat} {body : List Stmt} {p1 p2 p3 np pos pos' : Pos} {db : DS} {L : List Addr}
theorem dsp_tryK (stk : X.stack = X.env :: X.outer) (frm : X.env.frame = some X.env.locals) (nd : X.N.Nodup) (ij : i ≠ j) (hL : ∀ c ∈ L, PySem.W.exmOne X.K (.ref c) cv = some true) (nc : Names X x cv)
    (hb : ∀ (W : WX) (pn : List (Addr × Obj)) (xe : Value → Shared → Prop), Takes (X.tr pn xe) W → PassesOwn (model X.prog X.w) X.A X.env xe → DSsp (X.tr pn xe) W φ0 H0 body db)
    (su : ∀ (e : Addr) (pn : List (Addr × Obj)), DSt (X.suite e pn) (fun _ _ _ _ => False) (.Assign [.Name m p1] (.Name n p2) p3) (dAsg (dVar i) (gN j)))
    (ni : X.N[i]? = some n := by rfl) (nl : X.env.kindOf n = some .local := by rfl) (hex : X.ex = [] := by rfl) :
    DSp X W0 φ0 H0 (.Try body [.ExceptHandler (some (.Name x np)) (some n) [.Assign [.Name m p1] (.Name n p2) p3] pos'] [] [] pos) (dTryK L i j db) := by
  refine ps_imp (ps_try_kept (tb := fun W => upSP X.K W φ0 H0 db) (ts := fun _ _ _ => upS X.K (fun _ _ _ _ => False) (dAsg (dVar i) (gN j))) stk frm nd ni nl nc hex hb (fun e oe cls d pn _ _ => dss_one (su e ((e, oe) :: pn)))) ?_
  intro D σ H ⟨Δ, φ, s, f0, hσ, hs, h⟩
  refine ⟨Δ, φ, s, f0, hσ, hs, ?_⟩
  unfold dTryK at h
  cases r : db Δ s with
  | none => rw [r] at h; exact h.elim
  | some q =>
    obtain ⟨r1, s1⟩ := q
    rw [r] at h
    cases r1 with
    | nx Δ1 => exact h
    | rt d => exact h
    | bk Δ1 => exact h
    | ct Δ1 => exact h
    | ex xx Δ1 =>
      simp only at h
      split at h
      · rename_i hc
        obtain ⟨hc1, hi, hj⟩ := hc
        intro φ1 σ1 H1 c dd f1 so1 sg1 xr
        have hcl := xr.1
        subst hcl
        refine ⟨hL _ hc1, fun e na => ?_⟩
        refine ⟨Δ1.set i (some (.adr e)), φ1, s1, sg1.set (.adr e) i, so1, ?_⟩
        have hv : dAsg (dVar i) (gN j) (Δ1.set i (some (.adr e))) s1 = some (.nx ((Δ1.set i (some (.adr e))).set j (some (.adr e))), s1) := by
          unfold dAsg sbind dVar gN
          rw [List.getElem?_set_self hi]
        rw [hv]
        intro φ2 σ2 H2 f2 so2 sg2 na2
        obtain ⟨vs, ev, rv⟩ := (xr.fu f2).exv na2
        have f3 : Fu X.K φ2 φ2 H2 (upd H2 e (ExK (.ref xx.cls) dd e)) := fu_new na2
        refine h φ2 _ _ ((f1.trans f2).trans f3) (so2.new na2) ⟨?_, fun k d hk => ?_⟩
        · have q := sg2.len
          simp only [List.length_set] at q ⊢
          exact q
        · by_cases ki : k = i
          · subst ki
            rw [List.getElem?_set_self (by simp; exact hi)] at hk
            cases hk
          · rw [List.getElem?_set_ne (fun z => ki z.symm)] at hk ⊢
            by_cases kj : k = j
            · subst kj
              rw [List.getElem?_set_self hj] at hk
              cases hk
              obtain ⟨v, hv1, hv2⟩ := sg2.get k (.adr e) (by rw [List.getElem?_set_self (by simp; exact hj)])
              cases hv2
              exact ⟨.ref e, hv1, .exc ev (rv.fu f3)⟩
            · rw [List.getElem?_set_ne (fun z => kj z.symm)] at hk
              obtain ⟨v, hv1, hv2⟩ := sg2.get k d (by rw [List.getElem?_set_ne (fun z => kj z.symm), List.getElem?_set_ne (fun z => ki z.symm)]; exact hk)
              exact ⟨v, hv1, hv2.fu f3⟩
      · exact h.elim
end
/-! ### the lambda in hand is called -/
/-- work(): its run is wk; the lambda stands at f -/
def dWk (i : Nat) (f : Addr) (wk : M D) : DX := fun Δ s => match Δ[i]? with
  | some (some (.adr g)) => if g = f then wk s else none
  | _ => none
section
variable {X : Cx} {pins : List (Addr × Obj)} {σ : L2.St} {H : Hp} {s : Shared}
/-- the context of the def that got the lambda -/
abbrev Zx (X : Cx) (N : List Str) (qual : Str) (sc : Scope) (g : Addr) (cdv : Value) (s : Shared) (H : Hp) (E : XK) : Cx := Bx X.prog X.w X.K X.mg X.base N qual sc g cdv X.A X.stack s H E
theorem de_act {Ng : List Str} {qg : Str} {sg : Scope} {g f c' : Addr} {cdg pm ctv : Value} {params : Arguments} {body : Expr} {scope : Scope} {k i : Nat} {a : Str} {pn : List (Addr × Obj)} {xe : Value → Shared → Prop} {W : WX} {E : XK} {db : DX} {p1 p2 : Pos} {φ0 : List Addr} {Δ : Dn}
    (I : Inv X pins σ H s) (L : LamX.LamS X.env.scope scope) (hf : s.heap.get? f = some (PySem.W.kla_obj "<lambda>" (X.env.qual ++ "<lambda>") params body scope (cloFrom X.env.cells scope.names []) pm c' ctv)) (hfn : H f = none) (hfr : f ∉ frs X.stack) (hc : H c' = some (LamX.CodeO c' (X.env.qual ++ "<lambda>")))
    (hbind : bindArgs (PySem.W.kla_fn "<lambda>" (X.env.qual ++ "<lambda>") params body scope (cloFrom X.env.cells scope.names []) pm (.ref c') ctv) ⟨[], []⟩ = pure [])
    (tk : Takes ((Zx X Ng qg sg g cdg s H E).tr pn xe) W) (hr : RoomG (k + 1) (Zx X Ng qg sg g cdg s H E).A) (hσ0 : Sg X.K φ0 H σ Δ)
    (hbody : ∀ (s1 : Shared) (HZ : Hp) (E' : XK), RoomG k ((Zx X Ng qg sg g cdg s H E).A.deeper (LamX.lamEnv X scope s1.heap.objs.size f c')) → Takes (LamX.lamCx X (Zx X Ng qg sg g cdg s H E).A (Zx X Ng qg sg g cdg s H E).stack s1 HZ E' scope f c') (EW E') →
      DE (LamX.lamCx X (Zx X Ng qg sg g cdg s H E).A (Zx X Ng qg sg g cdg s H E).stack s1 HZ E' scope f c') (EW E') body db)
    (hN : Ng[i]? = some a := by rfl) (hv : Vis sg a := by first | exact Or.inl rfl | exact Or.inr (Or.inl rfl)) (hd : (a == ("__debug__" : Str)) = false := by decide) (hcd : (a == ("__classdict__" : Str)) = false := by decide) :
    DEp ((Zx X Ng qg sg g cdg s H E).tr pn xe) W φ0 H (.Call (.Name a p1) [] [] p2) (dWk i f (db Δ)) := by
  refine ⟨fun pinsZ sZ σZ HZ Q IZ ⟨ΔZ, φZ, stZ, f0, hσZ, soZ, h⟩ => ?_⟩
  unfold dWk at h
  split at h
  · rename_i g' eΔ
    split at h
    · rename_i eg
      subst eg
      obtain ⟨v0, ev0, rv0⟩ := hσZ.get i _ eΔ
      cases rv0
      refine wpAny_Call_Name_kw (thn ((pe_var (pos := p1) (i := i) hN hv hd hcd).run pinsZ sZ σZ HZ (fun v H1 => v = .ref g' ∧ H1 = HZ) IZ ⟨.ref g', ev0, rfl, rfl⟩) fun u s1 ⟨v, H1, I1, r1, ev, eH⟩ => ?_)
      subst ev eH
      obtain rfl : u = Value.ref g' := r1
      have lies : s1.heap.get? g' = some (PySem.W.kla_obj "<lambda>" (X.env.qual ++ "<lambda>") params body scope (cloFrom X.env.cells scope.names []) pm c' ctv) := I1.base.keep g' _ hf hfn hfr fun z => nomatch (show g' ∈ ([] : List Addr) from z)
      refine PySem.W.callWith_F0 ⟨_, _, _, _, lies⟩ ?_
      have un : Un (frs X.stack) [] H H1 s.heap s1.heap := I1.base
      have hcZ : H1 c' = some (LamX.CodeO c' (X.env.qual ++ "<lambda>")) := f0.ge _ _ hc
      obtain ⟨⟨oc, vs, t, z1, z2, z3⟩, _, _⟩ := I1.hok c' _ hcZ
      have ran : codeAny (model X.prog X.w) (Zx X Ng qg sg g cdg s H E).A (.call (.ref g') ⟨[], []⟩) (CR (L2.CX X.prog X.w) (Zx X Ng qg sg g cdg s H E).stack X.prog X.w H1 s1 Q (WE W σZ)) s1 := by
        refine PySem.W.kla_callFunE hr.rm.depth lies rfl L.co L.gen rfl ⟨c', oc, vs, t, rfl, z1, z2, z3⟩ ?_
        rw [hbind]
        refine wpAny_pure (wpAny_newFunctionEnv (fun y hy => (L.own y hy).2) (fun y hy => absurd hy (by simp)) (fun h₁ hns hsb => ⟨I1.nolimit.fresh _ hsb, ?_⟩) L.kind)
        have kp : ∀ b o, s1.heap.get? b = some o → h₁.get? b = some o := fun b o e => hsb.extBut b o (Nat.ne_of_lt (Heap.lt_size e)) (Heap.get?_push_of_some _ e)
        have J := LamX.lam_start2 (A := (Zx X Ng qg sg g cdg s H E).A) (outer := (Zx X Ng qg sg g cdg s H E).stack) (E := WE W σZ) (f := g') (c' := c') (tk := s1.toks + ([] : List (Str × Value)).length) I L I1.env0 hr.rm.hd un hns kp
        have b := hbody s1 H1 (WE W σZ) (hr.deeper _) (takes_of rfl rfl rfl rfl)
        refine PySem.W.kla_codeExpr (wpAny_mono (b.run [] _ _ H1 Q J ⟨Δ, φZ, stZ, hσ0.fu f0, soZ, h⟩) (fun v s' hq => ?_) fun e s' hq => hq)
        obtain ⟨w', H', J', rv, q⟩ := hq
        exact ⟨w', H', J'.os, J'.bare, J'.base, J'.hok, rv, q⟩
      refine wpAny_call (codeAny_mono ran fun r s2 hq => ?_)
      cases r with
      | error e => exact passAt tk σZ pinsZ H1 s1 e s2 I1 hq
      | ok fl => cases fl with
        | ret u => exact I1.after hq
        | next => exact hq.elim
        | brk => exact hq.elim
        | cont => exact hq.elim
    · exact h.elim
  · exact h.elim
end
end DV

set_option maxHeartbeats 2000000
namespace DV
open PySem L2 PyProof.Rows
/-! ### x(lambda: e) -/
section
variable {K : PySem.W.Frag} {φ : List Addr} {H H' : Hp} {s : Sto}
/-- all but the tables stays -/
theorem fu_ext (e : LamX.ExtN H H') : Fu K φ φ H H' := by
  refine ⟨⟨[], List.append_nil _⟩, fun a xs q => ?_, fun a xs q => ?_, fun a f q => e a _ q fun ps => nofun, fun a f q => e a _ q fun ps => nofun⟩
  · rcases q with (q | ⟨ob, q⟩) | q
    · exact .inl (.inl (e a _ q fun ps => nofun))
    · exact .inl (.inr ⟨ob, e a _ q fun ps => nofun⟩)
    · exact .inr q
  · rcases q with ⟨ob, q⟩ | q
    · exact .inl ⟨ob, e a _ q fun ps => nofun⟩
    · exact .inr q
/-- the tables of the store -/
def tabsOf (s : Sto) : List (Addr × Str) := s.filterMap fun o => match o with
  | .tab P q => some (P, q)
  | _ => none
theorem tabsOf_at {p : Addr × Str} (h : p ∈ tabsOf s) : ∃ n : Nat, s[n]? = some (.tab p.1 p.2) := by
  obtain ⟨o, ho, e⟩ := List.mem_filterMap.mp h
  obtain ⟨n, hn⟩ := List.mem_iff_getElem?.mp ho
  cases o <;> cases e
  exact ⟨n, hn⟩
theorem tabsOf_mem {n : Nat} {P : Addr} {q : Str} (h : s[n]? = some (.tab P q)) : (P, q) ∈ tabsOf s := List.mem_filterMap.mpr ⟨_, List.mem_of_getElem? h, rfl⟩
theorem So.tabs (h : So K φ H s) : LamX.Tabs (tabsOf s) H := fun p hp => by
  obtain ⟨n, hn⟩ := tabsOf_at hp
  obtain ⟨a, _, _, q⟩ := h.ob n _ hn
  exact q
theorem So.tab1 (h : So K φ H s) {n : Nat} {P : Addr} {q : Str} (e : s[n]? = some (.tab P q)) : ∀ p ∈ tabsOf s, p.1 = P → p.2 = q := fun p hp z => by
  obtain ⟨m, hm⟩ := tabsOf_at hp
  obtain ⟨a, ha, ea, _⟩ := h.ob m _ hm
  obtain ⟨b, hb, eb, _⟩ := h.ob n _ e
  have ab : a = b := by rw [ea, eb, z]
  subst ab
  have mn : m = n := (List.getElem?_inj (List.getElem?_eq_some_iff.mp ha).1 h.nd).mp (ha.trans hb.symm)
  subst mn
  rw [e] at hm
  cases hm
  rfl
theorem So.ext (h : So K φ H s) (e : LamX.ExtN H H') (t : LamX.Tabs (tabsOf s) H') : So K φ H' s := ⟨h.len, h.nd, fun n o q => by
  obtain ⟨a, ha, r⟩ := h.ob n o q
  refine ⟨a, ha, ?_⟩
  cases o with
  | lst xs => obtain ⟨vs, z, w⟩ := r; exact ⟨vs, e a _ z fun ps => nofun, w.fu (fu_ext e)⟩
  | ins C fs => obtain ⟨dx, vs, z, w⟩ := r; exact ⟨dx, vs, e a _ z fun ps => nofun, w.fu (fu_ext e)⟩
  | dK kvs => obtain ⟨vs, z, w⟩ := r; exact ⟨vs, e a _ z fun ps => nofun, w.fu (fu_ext e)⟩
  | dT kvs => obtain ⟨vs, z, w⟩ := r; exact ⟨vs, e a _ z fun ps => nofun, w.fu (fu_ext e)⟩
  | tab P q' => exact ⟨r.1, t _ (tabsOf_mem q)⟩⟩
end
/-- x(lambda: e): the table of the def that writes it is the store's first object -/
def dLam (P : Addr) (q : Str) (fM : Addr → M D → M D) (db : DX) : DX := fun Δ s => match (show List DO from s)[0]? with
  | some (DO.tab P' q') => if P' = P ∧ q' = q then fM 0 (db Δ) s else none
  | _ => none
section
variable {X : Cx} {W : WX}
theorem de_lam {x qual a : Str} {st : Stmt} {g c P : Addr} {k : Nat} {fd : FuncData} {Ng : List Str} {params : Arguments} {body : Expr} {scope : Scope} {p lpos pos : Pos} {b : Addr → M D → DS} {fM : Addr → M D → M D} {db : DX}
    (hM : ∀ f wk, fM f wk = runFn Ng.length (b f wk) [.adr f]) (hi : ∀ f wk s, fM f wk s = fM 0 wk s)
    (hm : X.mg x = some (.ref g)) (hk : PySem.W.keepIn X.K (.ref g) = true) (F : Fun X.K x qual st g fd) (S : FnScope Ng [a] (defScope st)) (hb : Binds X.K fd [a] []) (hr : RoomG (k + 2) X.A) (tk : Takes X W)
    (TB : LamX.TabB X.base X.mg c P) (hcode : X.env.code = .ref c) (L : LamX.LamS X.env.scope scope) (hdef : defaultsOf params X.env = ([], []))
    (hbind : ∀ (q : Str) (cl : List (Str × Addr)) (pm cv ctv : Value), bindArgs (PySem.W.kla_fn "<lambda>" q params body scope cl pm cv ctv) ⟨[], []⟩ = pure [])
    (hcal : ∀ (cdv : Value) (f : Addr) (wk : M D) (s : Shared) (H : Hp) (E : XK) (φ0 : List Addr), RoomG (k + 1) (Zx X Ng qual (defScope st) g cdv s H E).A → Takes (Zx X Ng qual (defScope st) g cdv s H E) (EW E) →
      PassesOwn (model X.prog X.w) (Zx X Ng qual (defScope st) g cdv s H E).A (Zx X Ng qual (defScope st) g cdv s H E).env (Zx X Ng qual (defScope st) g cdv s H E).xe →
      (∀ (W' : WX) (pn : List (Addr × Obj)) (xe : Value → Shared → Prop) (p1 p2 : Pos), Takes ((Zx X Ng qual (defScope st) g cdv s H E).tr pn xe) W' → DEp ((Zx X Ng qual (defScope st) g cdv s H E).tr pn xe) W' φ0 H (.Call (.Name a p1) [] [] p2) (dWk 0 f wk)) →
      DSsp (Zx X Ng qual (defScope st) g cdv s H E) (EW E) φ0 H (defBody st) (b f wk))
    (hbody : ∀ (A : Around) (outer : List Env) (s : Shared) (H : Hp) (E : XK) (f c' : Addr), RoomG k (A.deeper (LamX.lamEnv X scope s.heap.objs.size f c')) → Takes (LamX.lamCx X A outer s H E scope f c') (EW E) → DE (LamX.lamCx X A outer s H E scope f c') (EW E) body db)
    (ha0 : Ng[0]? = some a := by rfl) (hva : Vis (defScope st) a := by first | exact Or.inl rfl | exact Or.inr (Or.inl rfl)) (hg : Gl X x := by rfl)
    (hdb : (x == ("__debug__" : Str)) = false := by decide) (hda : (a == ("__debug__" : Str)) = false := by decide) (hca : (a == ("__classdict__" : Str)) = false := by decide) :
    DE X W (.Call (.Name x p) [.Lambda params body scope lpos] [] pos) (dLam P (X.env.qual ++ "<lambda>") fM db) := by
  refine ⟨fun pins s σ H Q I ⟨Δ, φ, stt, hσ, hs, h⟩ => ?_⟩
  unfold dLam at h
  split at h
  · rename_i P' q' e0
    split at h
    · rename_i ePq
      obtain ⟨eP, eq⟩ := ePq
      subst eP eq
      refine wpAny_Call_Name_kw (ld_glob I hg hm ?_ hdb)
      refine PySem.W.callWith_K (h₀ := X.base) I.ok.mod.kin hk ?_ (by rfl) (by rfl)
      refine Calls.spliced_cons (LamX.lam_make2 (T := tabsOf stt) I TB hcode (tabsOf_mem e0) (hs.tab1 e0) hs.tabs hdef (L.has I.ok) fun f c' pm' ctv H1 s1 I1 eN T1 hf hfn hfr hco => ?_)
      refine Calls.spliced_nil ⟨I1.kIn, ?_⟩
      have f1 : Fu X.K φ φ H H1 := fu_ext eN
      have so1 : So X.K φ H1 stt := hs.ext eN T1
      have sg1 : Sg X.K φ H1 σ Δ := hσ.fu f1
      have h1 : Ps X.K (wAt W σ) (Dt X.K) φ H1 (fun _ v H' _ _ => Q v H') (fM f (db Δ) stt) := by
        rw [hi]
        exact h.shift f1
      have ran : codeAny (model X.prog X.w) X.A (.call (.ref g) ⟨[.ref f], []⟩) (CR (L2.CX X.prog X.w) X.stack X.prog X.w H1 s1 Q (WE W σ)) s1 := by
        obtain ⟨oc, od, kV, doc, pm, an, cdv, ct, osl, rfl, lk, hcd⟩ := F.ex
        have env0 := I1.env0
        have kin := I1.kIn
        have bind := hb s1 [.ref f] kin rfl
        have par : ∀ y ∈ [a].zip [Value.ref f], (defScope st).names.lookup y.1 = some .local ∨ ((defScope st).names.lookup y.1 = some .cell ∧ ((cellsFrom (s1.heap.objs.size + 1) (defScope st).names []).lookup y.1).isSome = true) := fun y hy => by
          rcases S.par y.1 (List.of_mem_zip (a := y.1) (b := y.2) hy).1 with q | q
          · exact Or.inl q
          · exact Or.inr (And.intro q (PySem.W.cellsFrom_some _ _ _ (Or.inl q)))
        refine codeAny_call_function hr.rm.depth (kin _ _ lk) rfl S.co S.gen rfl (PySem.W.codeRec_of kin hcd) (bind _ _ _ _ ?_)
        refine wpAny_newFunctionEnv_cells S.kind par fun env henv t1 inc => ?_
        subst henv
        have hr1 : RoomG (k + 1) (Zx X Ng qual (defScope st) g cdv s1 H1 (WE W σ)).A := hr.deeper _
        have cal := hcal cdv f (db Δ) s1 H1 (WE W σ) φ hr1 (takes_of rfl rfl rfl rfl) (passes_of rfl) fun W' pn xe p1 p2 tk' =>
          de_act I1 L hf hfn hfr hco (hbind _ _ _ _ _) tk' hr1 sg1 (fun s2 HZ E' r2 t2 => hbody _ _ s2 HZ E' f c' r2 t2) ha0 hva hda hca
        have J0 : Inv (Zx X Ng qual (defScope st) g cdv s1 H1 (WE W σ)) [] (L2.start Ng [.ref f]) H1 t1 := inv_start (us := [.ref f]) S hr.rm.hd env0 rfl (.cons rfl .nil) inc
        have start : upSP X.K (EW (WE W σ)) φ H1 (b f (db Δ)) { nx := fun _ H' => Q .non H', rt := Q } (L2.start Ng [.ref f]) H1 := by
          refine ⟨startD Ng.length [.adr f], φ, stt, Fu.refl _ _, Sg.start (.cons (.adr f) .nil), so1, ?_⟩
          rw [hM] at h1
          unfold runFn at h1
          cases e : b f (db Δ) (startD Ng.length [.adr f]) stt with
          | none => rw [e] at h1; exact h1.elim
          | some pr =>
            obtain ⟨q, s'⟩ := pr
            rw [e] at h1
            cases q with
            | rt d => exact h1
            | nx Δ => exact fun ψ σ' H' g so' _ => h1 ψ .non H' g so' .non
            | ex x Δ => exact fun ψ σ' H' c dd g so' _ xr => h1 ψ H' c dd g so' xr
            | bk Δ => exact h1.elim
            | ct Δ => exact h1.elim
        have ends : ∀ {σ' : L2.St} {H' : Hp} {v : V} {u : Value} {t2 : Shared}, Inv (Zx X Ng qual (defScope st) g cdv s1 H1 (WE W σ)) [] σ' H' t2 → RelV v u → Q v H' → CE X.stack X.prog X.w H1 s1 Q u t2 := fun {σ' H' v u t2} J rv q => ⟨v, H', J.os, J.bare, J.base, J.hok, rv, q⟩
        refine ⟨env0.mod.nolimit.keeps fun d u e => inc.toInCall.keep d u (env0.bs d u e).1, codeAny_func (wpAny_mono (cal.run [] t1 (L2.start Ng [.ref f]) H1 _ J0 start) (fun fl t2 hs => ?_) fun _ _ hs => hs)⟩
        cases fl with
        | ret u => obtain ⟨v, σ', H', J, rv, q⟩ := hs; exact ends J rv q
        | next => obtain ⟨σ', H', J, q⟩ := hs; exact ends (v := V.non) (u := Value.none) J rfl q
        | brk => obtain ⟨_, _, _, q⟩ := hs; exact q.elim
        | cont => obtain ⟨_, _, _, q⟩ := hs; exact q.elim
      refine wpAny_call (codeAny_mono ran fun r s2 hq => ?_)
      cases r with
      | error e => exact passAt tk σ pins H1 s1 e s2 I1 hq
      | ok fl => cases fl with
        | ret u => exact I1.after hq
        | next => exact hq.elim
        | brk => exact hq.elim
        | cont => exact hq.elim
    · exact h.elim
  · exact h.elim
end
end DV

set_option maxHeartbeats 2000000
namespace DV
open PySem L2 PyProof.Rows
/-! ### repr of an empty dict -/
section
variable {X : Cx}
def fRepr0 : OpN := fun xs s => match xs with
  | [.obj n] => match s[n]? with
    | some (.dK []) => some (.str "{}", s)
    | _ => none
  | _ => none
def rRepr0 : List V → Hp → VK → Prop := fun vs H Q => ∃ a, vs = [.ref a] ∧ H a = some (.dK []) ∧ Q (.str "{}") H
theorem cr_repr0 (hg : X.A.guards = some []) (hu : X.A.units + 66 < cLine) : CallR X (.builtin "repr") rRepr0 := by
  intro pins s σ H vs us Q I r h
  obtain ⟨a, rfl, ha, q⟩ := h
  obtain ⟨u, rfl, rv⟩ := vals1 r
  obtain rfl : u = Value.ref a := rv
  obtain ⟨_, nsys, ws, kv, o, es, ep, h1, hex, h2, h3, h4, h5⟩ := (show ObjOk X.prog X.w H s.heap a (.dK []) from I.hok a _ ha)
  have hcl : o.cls = .type "dict" := hex.1
  cases kv
  have hes : es.toList = [] := by
    cases e : es.toList with
    | nil => rfl
    | cons x r => rw [e] at h4; cases h4
  have rd : Reads s.heap (.ref a) (.dict []) ([a] ++ []) := .dict h1 hcl h2 (by rw [hes]; exact .nil) (by rw [hes]; exact .nil)
  have hdep : (PyData.dict []).depth = 1 := by decide +kernel
  have hlen : (PyData.dict []).shown = "{}" := by decide +kernel
  refine repr_of_reads' rd (by decide +kernel) (fun _ z => ?_) hg (by rw [hdep]; omega) (fun _ _ e => e) (fun h' t tk hk => ⟨.str _, H, I.kept hk, ⟨_, by rw [hlen]⟩, q⟩) (by rw [hlen]; decide +kernel)
  have z' : sysModules = a := by simpa using z
  rw [← z'] at nsys
  simp at nsys
theorem dc_repr0 (hg : X.A.guards = some []) (hu : X.A.units + 66 < cLine) : DCall X (.builtin "repr") fRepr0 := ⟨_, cr_repr0 hg hu, fun φ H s vs ds Q so rx p => by
  unfold fRepr0 at p
  split at p
  · rename_i n
    obtain ⟨v, rfl, r⟩ := dts1 rx
    cases r
    rename_i a ha
    split at p
    · rename_i e
      obtain ⟨b, hb, ws, k, rr⟩ := so.at e
      rw [ha] at hb
      cases hb
      cases rr
      exact ⟨a, rfl, k, p.ok so (.str _)⟩
    · exact p.elim
  · exact p.elim⟩
end
/-! ### a def whose code object is known -/
section
variable {P : Program} {w : World} {K : PySem.W.Frag} {mg : Str → Option Value} {base : Heap}
theorem fn_mkC {x qual : Str} {st : Stmt} {f : Addr} {fd : FuncData} {N ps : List Str} {k n : Nat} {b : DS} {M : FnD} {cv : Value} (hM : M = runFn n b) (hn : N.length = n) (F : Fun K x qual st f fd) (S : FnScope N ps (defScope st)) (hcv : fd.code = cv)
    (hb : ∀ (A : Around) (outer : List Env) (s : Shared) (H : Hp) (E : XK), RoomG k (Bx P w K mg base N qual (defScope st) f cv A outer s H E).A → Takes (Bx P w K mg base N qual (defScope st) f cv A outer s H E) (EW E) →
      PassesOwn (model P w) (Bx P w K mg base N qual (defScope st) f cv A outer s H E).A (Bx P w K mg base N qual (defScope st) f cv A outer s H E).env (Bx P w K mg base N qual (defScope st) f cv A outer s H E).xe →
      DSs (Bx P w K mg base N qual (defScope st) f cv A outer s H E) (EW E) (defBody st) b) : FnG P w K mg base (k + 1) f fd ps M := by
  subst hM hn
  refine ⟨fun A outer s H args us vs Q E hr env0 bind rel hsp => ?_⟩
  obtain ⟨hl, ds, φ, st', rd, so, h⟩ := hsp
  obtain ⟨oc, od, kV, doc, pm, an, cdv, ct, osl, rfl, lk, hcd⟩ := F.ex
  obtain rfl : cdv = cv := hcv
  have old : ∀ (a : Addr) (u : Obj), base.get? a = some u → s.heap.get? a = some u := fun a u e => (env0.bs a u e).1
  have kin := env0.mod.kin.keeps old
  have par : ∀ y ∈ ps.zip us, (defScope st).names.lookup y.1 = some .local ∨ ((defScope st).names.lookup y.1 = some .cell ∧ ((cellsFrom (s.heap.objs.size + 1) (defScope st).names []).lookup y.1).isSome = true) := fun y hy => by
    rcases S.par y.1 (List.of_mem_zip (a := y.1) (b := y.2) hy).1 with q | q
    · exact Or.inl q
    · exact Or.inr (And.intro q (PySem.W.cellsFrom_some _ _ _ (Or.inl q)))
  refine codeAny_call_function hr.rm.depth (kin _ _ lk) rfl S.co S.gen rfl (PySem.W.codeRec_of kin hcd) (bind _ _ _ _ ?_)
  refine wpAny_newFunctionEnv_cells S.kind par fun env henv t1 inc => ?_
  subst henv
  have body := hb A outer s H E (hr.deeper _) (takes_of rfl rfl rfl rfl) (passes_of rfl)
  have J0 : Inv (Bx P w K mg base N qual (defScope st) f cdv A outer s H E) [] (L2.start N vs) H t1 := inv_start S hr.rm.hd env0 hl rel inc
  have start : upS K (EW E) b { nx := fun _ H' => Q .non H', rt := Q } (L2.start N vs) H := by
    refine ⟨startD N.length ds, φ, st', Sg.start rd, so, ?_⟩
    unfold runFn at h
    cases e : b (startD N.length ds) st' with
    | none => rw [e] at h; exact h.elim
    | some p =>
      obtain ⟨q, s'⟩ := p
      rw [e] at h
      cases q with
      | rt d => exact h
      | nx Δ => exact fun ψ σ' H' g so' _ => h ψ .non H' g so' .non
      | ex x Δ => exact fun ψ σ' H' c dd g so' _ xr => h ψ H' c dd g so' xr
      | bk Δ => exact h.elim
      | ct Δ => exact h.elim
  have ends : ∀ {σ' : L2.St} {H' : Hp} {v : V} {u : Value} {t2 : Shared}, Inv (Bx P w K mg base N qual (defScope st) f cdv A outer s H E) [] σ' H' t2 → RelV v u → Q v H' → CE outer P w H s Q u t2 := fun {σ' H' v u t2} J rv q => ⟨v, H', J.os, J.bare, J.base, J.hok, rv, q⟩
  refine ⟨env0.mod.nolimit.keeps fun a u e => inc.toInCall.keep a u (old a u e), codeAny_func (wpAny_mono (body.run [] t1 (L2.start N vs) H _ J0 start) (fun fl t2 hs => ?_) fun _ _ hs => hs)⟩
  cases fl with
  | ret u => obtain ⟨v, σ', H', J, rv, q⟩ := hs; exact ends J rv q
  | next => obtain ⟨σ', H', J, q⟩ := hs; exact ends (v := V.non) (u := Value.none) J rfl q
  | brk => obtain ⟨_, _, _, q⟩ := hs; exact q.elim
  | cont => obtain ⟨_, _, _, q⟩ := hs; exact q.elim
end
/-! ### the end of a law that holds lambdas: its table is the store's first object -/
/-- the run over the data says True for every script -/
def AllTrueT (P : Addr) (q : Str) (fM : FnD) : Prop := ∀ ns : List Int, ns.length ≤ 63 → ∃ s, fM [.fz (ns.map .int)] [.tab P q] = some (.ok (.bl true), s)
theorem So.oneTab {K : PySem.W.Frag} {H : Hp} {P : Addr} {q : Str} (h : LamX.TabS H P q) : So K [P] H [.tab P q] := by
  refine ⟨rfl, by simp, fun n o e => ?_⟩
  have hn : n = 0 := by
    have := (List.getElem?_eq_some_iff.mp e).1
    simpa using this
  subst hn
  cases e
  exact ⟨P, rfl, rfl, h⟩
/-- the law's call at the top, from its run over the data; c its code object, p the table of that -/
theorem law_topT {P : Program} {w : World} {K : PySem.W.Frag} {mg mb : Str → Option Value} {k : Nat} {fa a c p : Addr} {q : Str} {fd : FuncData} {x : Str} {fM : FnD} {t : Shared} {vs : List Value} {ns : List Int} (inK : K.In t.heap) (nsM : t.heap.Ns mainGlobals mg) (nsB : t.heap.Ns builtinsNs mb)
    (boot : ∀ y : Str, y ≠ "__name__" → mb y = bootBuiltins y) (lim : t.heap.NoLimit) (noG : t.gens = #[]) (tabP : t.heap.get? p = some { cls := .none, data := .fields #[] }) (noK : K.lookup p = none) (hd : PySem.W.CodeHd t.heap c p)
    (bm : ∃ (m : Addr) (o : Obj), mg "__builtins__" = some (.ref m) ∧ m ≠ builtinsNs ∧ t.heap.get? m = some o ∧ o.cls = .type "module" ∧ o.dict = some builtinsNs ∧ o.data = .plain)
    (script : t.heap.get? a = some { cls := .type "list", data := .seq vs.toArray }) (hints : IntsAre vs ns) (h63 : ns.length ≤ 63) (hr : RoomG k callerA)
    (F : ∀ base : Heap, K.In base → base.Ns mainGlobals mg → LamX.TabB base mg c p → FnG P w K mg base k fa fd [x] fM) (bind : ∀ (s : Shared) (u : Value), BindsTo s fd ⟨[u], []⟩ [(x, u)]) (hT : AllTrueT p q fM) :
    codeAny (model P w) callerA (.call (.ref fa) ⟨[.ref a], []⟩) (fun r t2 => r = .ok (.ret (.bool true)) ∧ OldK t.heap t2.heap ∧ t2.os = t.os ∧ AllBare t2.gens) t := by
  have vals := vals_ints hints
  have small : ns.length ≤ sizeLine := Nat.le_of_lt (small1000 (by omega))
  have ap : p ≠ a := fun z => by
    rw [z, script] at tabP
    cases tabP
  -- H tracks the table, and the script at most
  have run : ∀ H : Hp, H p = some (.tbl #[]) → (∀ b, b ≠ p → H b = none ∨ ∃ ob xs, H b = some (.frz ob (.lst xs))) → FzL K H a (ns.map V.int) → HOk P w H t.heap → (∀ b, H b ≠ none → b = a ∨ b = p) → (H a ≠ none → K.lookup a = none) →
      codeAny (model P w) callerA (.call (.ref fa) ⟨[.ref a], []⟩) (fun r t2 => r = .ok (.ret (.bool true)) ∧ OldK t.heap t2.heap ∧ t2.os = t.os ∧ AllBare t2.gens) t := fun H hp only fz hok alone free => by
    have untracked : ∀ {b : Addr} {o : Obj}, t.heap.get? b = some o → b ≠ p → (b = a → H a = none) → (hidT t.heap H).get? b = some o := fun {b o} e m n => hidT_get e (by
      cases q : H b with
      | none => rfl
      | some u =>
        rcases alone b (by rw [q]; simp) with z | z
        · rw [z] at q
          rw [n z] at q
          cases q
        · exact absurd z m)
    have plain : ∀ {b : Addr} {o : Obj}, t.heap.get? b = some o → (∀ us n, o.data ≠ .seq us n) → o.data ≠ .fields #[] → (hidT t.heap H).get? b = some o := fun {b o} e n1 n2 => untracked e (fun z => by
      subst z
      rw [tabP] at e
      cases e
      exact n2 rfl) fun z => by
      subst z
      rw [script] at e
      cases e
      exact (n1 _ _ rfl).elim
    have dicts : ∀ {b : Addr} {m : Str → Option Value}, t.heap.Ns b m → (hidT t.heap H).Ns b m := fun {b m} ⟨o, es, ep, e, d, r⟩ => ⟨o, es, ep, plain e (fun us n z => by rw [d] at z; cases z) (fun z => by rw [d] at z; cases z), d, r⟩
    have inB : K.In (hidT t.heap H) := fun b o e => untracked (inK b o e) (fun z => by
      subst z
      rw [noK] at e
      cases e) (fun z => by
      subst z
      cases q : H b with
      | none => rfl
      | some u => rw [free (by rw [q]; simp)] at e; cases e)
    obtain ⟨ml, l1, l2⟩ := lim
    have md : Mod K mg (hidT t.heap H) := ⟨inB, dicts nsM, ⟨mb, dicts nsB, boot⟩, ⟨ml, dicts l1, l2⟩⟩
    have TB : LamX.TabB (hidT t.heap H) mg c p := by
      refine ⟨?_, ?_, fun z => ?_⟩
      · obtain ⟨o, us, file, tf, flags, tg, inF, text, tt, e, c1, c2, c3, c4, c5, c6, c7, c8, c9⟩ := hd
        refine ⟨o, us, file, tf, flags, tg, inF, text, tt, plain e (fun vs n z => ?_) (fun z => ?_), c1, c2, c3, c4, c5, c6, c7, c8, c9⟩
        · rw [c2] at z
          cases z
        · rw [c2] at z
          cases z
          simp at c3
      · obtain ⟨m, o, b1, b2, b3, b4, b5, b6⟩ := bm
        refine ⟨m, o, b1, b2, fun z => ?_, fun z => ?_, plain b3 (fun vs n z => ?_) (fun z => ?_), b4, b5, b6⟩
        · obtain ⟨o', es, ep, e, hd, _⟩ := nsM
          rw [z, e] at b3
          cases b3
          rw [hd] at b6
          cases b6
        · rw [z, tabP] at b3
          cases b3
          cases b6
        · rw [b6] at z
          cases z
        · rw [b6] at z
          cases z
      · obtain ⟨o', es, ep, e, hd, _⟩ := nsM
        rw [z, tabP] at e
        cases e
        cases hd
    have env0 : Env0 P w K mg (hidT t.heap H) callerA [] t H := ⟨rfl, md, fun b o e => of_hidT e, Nat.le_of_eq (hidT_size _ _), trivial, fun b hb => absurd hb (by simp [frs]), hok, .of_eq noG⟩
    obtain ⟨s', hs⟩ := hT ns h63
    have sp : spD K 1 fM [.ref a] H (fun v _ => v = .bl true) fun _ _ _ => False := by
      refine ⟨rfl, [.fz (ns.map .int)], [p], [.tab p q], .cons (.fz fz (Dts.of_ints ns)) .nil, So.oneTab (LamX.TabS.nil hp), ?_⟩
      rw [hs]
      intro φ v H' _ _ rv
      cases rv
      rfl
    refine codeAny_mono ((F _ inB (dicts nsM) TB).run callerA [] t H ⟨[.ref a], []⟩ [.ref a] [.ref a] (fun v _ => v = .bl true) (fun _ _ _ => False) hr env0 (bind t (.ref a)) (.cons rfl .nil) sp) fun r t2 h => ?_
    cases r with
    | error e => exact (no_exc h).elim
    | ok fl => cases fl with
      | next => exact h.elim
      | brk => exact h.elim
      | cont => exact h.elim
      | ret u =>
        obtain ⟨v, H', os, bare, un, hok', rv, ev⟩ := h
        have ev' : v = .bl true := ev
        subst ev'
        obtain rfl : u = Value.bool true := rv
        obtain ⟨more, hm⟩ := un.tbls p #[] hp
        have now : t2.heap.get? p = some { cls := .none, data := .fields more } := by
          have z := hok' p _ hm
          rw [Array.empty_append] at z
          exact z
        have kept : ∀ b o, b ≠ p → t.heap.get? b = some o → t2.heap.get? b = some o := fun b o np e => by
          rcases only b np with z | ⟨ob, xs, z⟩
          · exact un.keep b o e z (fun y => absurd y (by simp [frs])) (by simp)
          · obtain ⟨e1, _⟩ := hok b _ z
            obtain ⟨e2, _⟩ := hok' b _ (un.frzs b ob _ z)
            rw [e] at e1
            cases e1
            exact e2
        refine ⟨rfl, ⟨fun b o e => ?_, fun b o e => ?_⟩, os, bare⟩
        · by_cases hb : b = p
          · subst hb
            rw [tabP] at e
            cases e
            exact .inr (.inl ⟨(hd.tab tabP).isCodeTable, rfl, #[], more, rfl, by rw [Array.empty_append]; exact now⟩)
          · exact .inl (kept b o hb e)
        · by_cases hb : b = p
          · subst hb
            exact ⟨_, now⟩
          · exact ⟨o, kept b o hb e⟩
  cases lk : K.lookup a with
  | some o =>
    have e := inK a o lk
    rw [script] at e
    cases e
    refine run (fun b => if b = p then some (.tbl #[]) else none) (if_pos rfl) (fun b n => .inl (if_neg n)) (.inr (.inr ⟨_, vs.toArray, _, lk, rfl, rfl, rfl, by rw [List.size_toArray, hints.length]; exact small, by simpa using vals⟩)) (fun b u z => ?_) (fun b z => ?_) fun z => absurd (if_neg ap.symm) z
    · by_cases hb : b = p
      · subst hb
        cases (if_pos rfl).symm.trans z
        exact tabP
      · cases (if_neg hb).symm.trans z
    · by_cases hb : b = p
      · exact .inr hb
      · exact absurd (if_neg hb) z
  | none =>
    refine run (fun b => if b = a then some (.frz { cls := .type "list", data := .seq vs.toArray } (.lst (ns.map V.int))) else if b = p then some (.tbl #[]) else none) ((if_neg ap).trans (if_pos rfl)) (fun b n => ?_) (.inl ⟨_, if_pos rfl⟩) (fun b u z => ?_) (fun b z => ?_) fun _ => lk
    · by_cases hb : b = a
      · exact .inr ⟨_, _, if_pos hb⟩
      · exact .inl ((if_neg hb).trans (if_neg n))
    · by_cases hb : b = a
      · subst hb
        cases (if_pos rfl).symm.trans z
        exact ⟨script, by rw [List.length_map]; exact small, vs, _, vals, script⟩
      · have z1 := (if_neg hb).symm.trans z
        by_cases hb2 : b = p
        · subst hb2
          cases (if_pos rfl).symm.trans z1
          exact tabP
        · cases (if_neg hb2).symm.trans z1
    · by_cases hb : b = a
      · exact .inl hb
      · by_cases hb2 : b = p
        · exact .inr hb2
        · exact absurd ((if_neg hb).trans (if_neg hb2)) z
/-- the goal at the law's head -/
theorem walk_topT {l : PySem.W.OpenLaw} {k : Nat} {q : Program} {loose : List Str} {XP : (Str → Option Value) → Heap → Prop} {YP : World → Heap → Prop} {d : DefRec} {K : Params → PySem.W.Frag} {x : Str} (hn : l.most = some 63) (hdf : d.params.defaults = []) (hr : RoomG k callerA)
    (hrec : ((recsOf q).any fun e => e.name == d.name) = true) (hY : ∀ (w : World) (h : Heap), YP w h → (K w.params).In h)
    (F : ∀ (w : World) (mg : Str → Option Value) (fa : Addr) (h : Heap), (K w.params).In h → h.Ns mainGlobals mg → mg d.name = some (.ref fa) → LamX.OwnTab (K w.params) fa h →
      ∃ (fd : FuncData) (fM : FnD) (c p : Addr) (lq : Str), AllTrueT p lq fM ∧ (∀ (s : Shared) (u : Value), BindsTo s fd ⟨[u], []⟩ [(x, u)]) ∧ h.get? p = some { cls := .none, data := .fields #[] } ∧ (K w.params).lookup p = none ∧ PySem.W.CodeHd h c p ∧
        ∀ base : Heap, (K w.params).In base → base.Ns mainGlobals mg → LamX.TabB base mg c p → FnG l.prog w (K w.params) mg base k fa fd [x] fM) :
    PySem.W.WalkO q loose XP YP l.row.toRowW d [] (fun f vs => PySem.call f vs) := by
  refine Att.attach_call hn hdf fun w s₀ t mg mb fa o pm cd doc a vs ns G Y _ _ _ hmg hobj hints hlen noG => ?_
  have inK := hY w _ Y
  have own : LamX.OwnTab (K w.params) fa t.heap := by
    intro c P o1 fd1 e dd us sl k1 k2 k3 k4 k5
    obtain ⟨r, r1, r2⟩ := List.any_eq_true.mp hrec
    obtain ⟨a1, o2, fd2, c2, p2, g1, g2, g3, g4, g5, g6⟩ := G.T.tab r r1
    rw [beq_iff_eq.mp r2, hmg] at g1
    cases g1
    rw [inK _ _ k1] at g2
    cases g2
    rw [k2] at g3
    cases g3
    rw [k3] at g4
    cases g4
    obtain ⟨⟨oc, vc, e1, _, e3, e4⟩, hP⟩ := g6
    rw [inK _ _ k4] at e1
    cases e1
    cases e3
    rw [k5] at e4
    cases e4
    exact hP
  obtain ⟨fd, fM, c, p, lq, hT, hbd, tabP, noK, hd, hF⟩ := F w mg fa _ inK G.T.g hmg own
  exact law_topT inK G.T.g G.T.b G.T.builtins G.T.nolimit noG tabP noK hd G.T.bmain hobj hints hlen hr hF hbd hT
end DV

namespace DV
open PySem L2 PyProof.Rows
/-! ### a def that gets a lambda does not look at it -/
def finS : RS → Rs D
  | some (.rt d, s') => some (.ok d, s')
  | some (.nx _, s') => some (.ok .non, s')
  | some (.ex x _, s') => some (.error x, s')
  | _ => none
theorem runFn_fin (n : Nat) (b : DS) (args : List D) (s : Sto) : runFn n b args s = finS (b (startD n args) s) := by
  unfold runFn finS
  cases b (startD n args) s with
  | none => rfl
  | some p =>
    obtain ⟨q, s'⟩ := p
    cases q <;> rfl
theorem fin_ret {de : DX} {Δ Δ' : Dn} {s : Sto} (h : de Δ = de Δ') : finS (dRet de Δ s) = finS (dRet de Δ' s) := by
  unfold dRet sbind
  rw [h]
  cases de Δ' s with
  | none => rfl
  | some p =>
    obtain ⟨q, s'⟩ := p
    cases q <;> rfl
/-- if t: return e, then b -/
theorem fin_ifret {t : DT} {de : DX} {b : DS} {Δ Δ' : Dn} {s : Sto} (ht : t Δ = t Δ') (h : de Δ = de Δ') (hb : ∀ s, finS (b Δ s) = finS (b Δ' s)) : finS (dSeq (dIfS t (dRet de) dNx) b Δ s) = finS (dSeq (dIfS t (dRet de) dNx) b Δ' s) := by
  unfold dSeq dIfS sbind dRet sbind dNx
  rw [ht, h]
  cases t Δ' s with
  | none => rfl
  | some p =>
    obtain ⟨q, s'⟩ := p
    cases q with
    | error x => rfl
    | ok c =>
      cases c with
      | false => exact hb s'
      | true =>
        dsimp only
        rw [if_pos rfl, if_pos rfl]
        cases de Δ' s' with
        | none => rfl
        | some p =>
          obtain ⟨q, s2⟩ := p
          cases q <;> rfl
end DV

set_option maxHeartbeats 2000000
namespace DV
open PySem L2 PyProof.Rows
/-! ### a short text times a number -/
def fRepS : Op2 := fun x y s => match x, y with
  | .str z, .int k => if z.length ≤ 16 ∧ -(2 ^ 63) ≤ k ∧ k ≤ 1048576 then some (.str (Txt.mul z k), s) else none
  | _, _ => none
def rRepS : R2 := fun x y H Q => ∃ (z : Str) (k : Int), x = .str z ∧ y = .int k ∧ z.length ≤ 16 ∧ -(2 ^ 63) ≤ k ∧ k ≤ 1048576 ∧ Q (.str (Txt.mul z k)) H
section
variable {X : Cx}
theorem op_repS : OpR X (binaryOp .Mult) rRepS := by
  intro pins s σ H x y v u Q I rx ry h
  obtain ⟨z, k, rfl, rfl, h1, h2, h3, q⟩ := h
  obtain ⟨t, rfl⟩ := rx
  obtain ⟨t', rfl⟩ := ry
  exact PySem.W.KXi.mul rfl h1 h2 h3 fun tt m _ _ => ⟨.str _, H, I.tok _, ⟨_, rfl⟩, q⟩
theorem dop_repS : DOp X (binaryOp .Mult) fRepS := ⟨_, op_repS, fun φ H s x y v u Q so rx ry p => by
  cases rx <;> cases ry <;> first | exact p.elim | skip
  rename_i z k
  simp only [fRepS] at p
  split at p
  · rename_i e
    exact ⟨z, k, rfl, rfl, e.1, e.2.1, e.2.2, p.ok so (.str _)⟩
  · exact p.elim⟩
end
end DV
namespace DV
open PySem L2 PyProof.Rows
/-! ### a def that gets a lambda does not look at it, piece by piece -/
theorem fin_first {P Q Q' : DS} {Δ Δ0 Δ1 Δ2 : Dn} {s s1 : Sto} (h1 : P Δ s = some (.nx Δ1, s1)) (h2 : P Δ0 s = some (.nx Δ2, s1)) (h : finS (Q Δ1 s1) = finS (Q' Δ2 s1)) : finS (dSeq P Q Δ s) = finS (dSeq P Q' Δ0 s) := by
  unfold dSeq
  rw [h1, h2]
  exact h
def catchD (i j : Nat) (Δ : Dn) (x : Xc) : Dn := (Δ.set j (some (.exc x.cls (x.fs.map (·.1)) (x.fs.map (·.2))))).set i none
theorem fin_try {L : List Addr} {i j : Nat} {W W0 R : DS} {Δ Δ0 : Dn} {s : Sto}
    (hW : (W Δ s = none ∧ W0 Δ0 s = none) ∨ (∃ Δ1 Δ2 s1, W Δ s = some (.nx Δ1, s1) ∧ W0 Δ0 s = some (.nx Δ2, s1) ∧ finS (R Δ1 s1) = finS (R Δ2 s1)) ∨ (∃ x s1, W Δ s = some (.ex x Δ, s1) ∧ W0 Δ0 s = some (.ex x Δ0, s1) ∧ finS (R (catchD i j Δ x) s1) = finS (R (catchD i j Δ0 x) s1)))
    (hl : Δ.length = Δ0.length) : finS (dSeq (dTryK L i j W) R Δ s) = finS (dSeq (dTryK L i j W0) R Δ0 s) := by
  unfold dSeq dTryK
  rcases hW with ⟨h1, h2⟩ | ⟨Δ1, Δ2, s1, h1, h2, h3⟩ | ⟨x, s1, h1, h2, h3⟩
  · rw [h1, h2]
  · rw [h1, h2]
    exact h3
  · rw [h1, h2]
    dsimp only
    rw [hl]
    by_cases c : x.cls ∈ L ∧ i < Δ0.length ∧ j < Δ0.length
    · rw [if_pos c, if_pos c]
      exact h3
    · rw [if_neg c, if_neg c]
theorem wk_drop {i j : Nat} {f : Addr} {wk : M D} {R : DS} {Δ Δ0 : Dn} {s : Sto} (h1 : Δ[0]? = some (some (.adr f))) (h2 : Δ0[0]? = some (some (.adr 0))) (hR : ∀ s1, finS (R Δ s1) = finS (R Δ0 s1)) (hC : ∀ x s1, finS (R (catchD i j Δ x) s1) = finS (R (catchD i j Δ0 x) s1)) :
    (dDrop (dWk 0 f wk) Δ s = none ∧ dDrop (dWk 0 0 wk) Δ0 s = none) ∨ (∃ Δ1 Δ2 s1, dDrop (dWk 0 f wk) Δ s = some (.nx Δ1, s1) ∧ dDrop (dWk 0 0 wk) Δ0 s = some (.nx Δ2, s1) ∧ finS (R Δ1 s1) = finS (R Δ2 s1)) ∨
      (∃ x s1, dDrop (dWk 0 f wk) Δ s = some (.ex x Δ, s1) ∧ dDrop (dWk 0 0 wk) Δ0 s = some (.ex x Δ0, s1) ∧ finS (R (catchD i j Δ x) s1) = finS (R (catchD i j Δ0 x) s1)) := by
  have e1 : dWk 0 f wk Δ s = wk s := by simp [dWk, h1]
  have e2 : dWk 0 0 wk Δ0 s = wk s := by simp [dWk, h2]
  unfold dDrop sbind
  rw [e1, e2]
  cases wk s with
  | none => exact .inl ⟨rfl, rfl⟩
  | some p =>
    obtain ⟨q, s1⟩ := p
    cases q with
    | ok a => exact .inr (.inl ⟨_, _, _, rfl, rfl, hR s1⟩)
    | error x => exact .inr (.inr ⟨x, s1, rfl, rfl, hC x s1⟩)
theorem wk_asg {i j k : Nat} {f : Addr} {wk : M D} {R : DS} {Δ Δ0 : Dn} {s : Sto} (h1 : Δ[0]? = some (some (.adr f))) (h2 : Δ0[0]? = some (some (.adr 0))) (hR : ∀ d s1, finS (R (Δ.set k (some d)) s1) = finS (R (Δ0.set k (some d)) s1)) (hC : ∀ x s1, finS (R (catchD i j Δ x) s1) = finS (R (catchD i j Δ0 x) s1)) :
    (dAsg (dWk 0 f wk) (gN k) Δ s = none ∧ dAsg (dWk 0 0 wk) (gN k) Δ0 s = none) ∨ (∃ Δ1 Δ2 s1, dAsg (dWk 0 f wk) (gN k) Δ s = some (.nx Δ1, s1) ∧ dAsg (dWk 0 0 wk) (gN k) Δ0 s = some (.nx Δ2, s1) ∧ finS (R Δ1 s1) = finS (R Δ2 s1)) ∨
      (∃ x s1, dAsg (dWk 0 f wk) (gN k) Δ s = some (.ex x Δ, s1) ∧ dAsg (dWk 0 0 wk) (gN k) Δ0 s = some (.ex x Δ0, s1) ∧ finS (R (catchD i j Δ x) s1) = finS (R (catchD i j Δ0 x) s1)) := by
  have e1 : dWk 0 f wk Δ s = wk s := by simp [dWk, h1]
  have e2 : dWk 0 0 wk Δ0 s = wk s := by simp [dWk, h2]
  unfold dAsg sbind gN
  rw [e1, e2]
  cases wk s with
  | none => exact .inl ⟨rfl, rfl⟩
  | some p =>
    obtain ⟨q, s1⟩ := p
    cases q with
    | ok a => exact .inr (.inl ⟨_, _, _, rfl, rfl, hR a s1⟩)
    | error x => exact .inr (.inr ⟨x, s1, rfl, rfl, hC x s1⟩)
theorem asg_two {i j : Nat} {a b : D} {Δ : Dn} {s : Sto} : dAsg (dTup (dCons (dC a) (dCons (dC b) dNil))) (gTp 2 (gsCons (gN i) (gsCons (gN j) gsNil))) Δ s = some (.nx ((Δ.set i (some a)).set j (some b)), s) := by
  have l2 : 2 ≤ sizeLine := by rw [sizeLine_eq]; omega
  simp [dAsg, dTup, dCons, dNil, dC, mbind, mret, sbind, l2, gTp, gsCons, gsNil, gN]
end DV

namespace My
open PySem L2 PyProof.Rows DV
abbrev topS (i : Nat) : Stmt := PySem.Challenge.pw_barscribe_k03_points_judged.main.body.getD i (.Pass ⟨0, 0, 0, 0⟩)
structure Ax where
  (ct pt : Addr)
  (fx_BadPoint : Addr) (dx_BadPoint : FuncData)
  (f_is_number f_dots_of f_u_pulses f_is_tree f_u_nodes f_u_borders f_Metre_uu_init_ f_is_bits f_Metre_is_point f_Metre_level f_u_law_begin f_u_law_draw f_u_law_pick f_u_law_size f_u_law_is_value f_u_law_wild f_u_law_fits f_u_law_tree f_u_law_told f_u_law_thing f_u_law_is_point f_law c_Metre c_BadPoint c_RhythmError o_DOTS : Addr)
  (d_is_number d_dots_of d_u_pulses d_is_tree d_u_nodes d_u_borders d_Metre_uu_init_ d_is_bits d_Metre_is_point d_Metre_level d_u_law_begin d_u_law_draw d_u_law_pick d_u_law_size d_u_law_is_value d_u_law_wild d_u_law_fits d_u_law_tree d_u_law_told d_u_law_thing d_u_law_is_point d_law : FuncData)
def kv_DOTS : List (Int × Int) := [(1, 0), (3, 1), (7, 2)]
abbrev s_is_number : Stmt := topS 8
theorem sc_is_number : FnScope ["thing"] ["thing"] (defScope s_is_number) := ⟨rfl, rfl, rfl, by decide +kernel, rfl, by decide +kernel, by decide +kernel⟩
abbrev s_dots_of : Stmt := topS 9
theorem sc_dots_of : FnScope ["length", "odd"] ["length"] (defScope s_dots_of) := ⟨rfl, rfl, rfl, by decide +kernel, rfl, by decide +kernel, by decide +kernel⟩
abbrev s_u_pulses : Stmt := topS 11
theorem sc_u_pulses : FnScope ["thing", "depth", "parts", "total", "child"] ["thing", "depth"] (defScope s_u_pulses) := ⟨rfl, rfl, rfl, by decide +kernel, rfl, by decide +kernel, by decide +kernel⟩
abbrev s_is_tree : Stmt := topS 10
theorem sc_is_tree : FnScope ["thing"] ["thing"] (defScope s_is_tree) := ⟨rfl, rfl, rfl, by decide +kernel, rfl, by decide +kernel, by decide +kernel⟩
abbrev s_u_nodes : Stmt := topS 12
theorem sc_u_nodes : FnScope ["tree", "begin", "depth", "inner", "end", "child", "below"] ["tree", "begin", "depth"] (defScope s_u_nodes) := ⟨rfl, rfl, rfl, by decide +kernel, rfl, by decide +kernel, by decide +kernel⟩
abbrev s_u_borders : Stmt := topS 13
theorem sc_u_borders : FnScope ["tree", "nodes", "levels", "begin", "_", "depth", "pulse"] ["tree"] (defScope s_u_borders) := ⟨rfl, rfl, rfl, by decide +kernel, rfl, by decide +kernel, by decide +kernel⟩
abbrev s_Metre_uu_init_ : Stmt := inClass (topS 14) 0
theorem sc_Metre_uu_init_ : FnScope ["self", "tree"] ["self", "tree"] (defScope s_Metre_uu_init_) := ⟨rfl, rfl, rfl, by decide +kernel, rfl, by decide +kernel, by decide +kernel⟩
abbrev s_is_bits : Stmt := topS 15
theorem sc_is_bits : FnScope ["thing"] ["thing"] (defScope s_is_bits) := ⟨rfl, rfl, rfl, by decide +kernel, rfl, by decide +kernel, by decide +kernel⟩
abbrev s_Metre_is_point : Stmt := inClass (topS 14) 2
theorem sc_Metre_is_point : FnScope ["self", "thing", "pulse", "bits"] ["self", "thing"] (defScope s_Metre_is_point) := ⟨rfl, rfl, rfl, by decide +kernel, rfl, by decide +kernel, by decide +kernel⟩
abbrev s_Metre_level : Stmt := inClass (topS 14) 3
theorem sc_Metre_level : FnScope ["self", "point", "pulse", "bits"] ["self", "point"] (defScope s_Metre_level) := ⟨rfl, rfl, rfl, by decide +kernel, rfl, by decide +kernel, by decide +kernel⟩
abbrev s_u_law_begin : Stmt := topS 17
theorem sc_u_law_begin : FnScope ["_law_cell", "_law_turn"] ["_law_cell", "_law_turn"] (defScope s_u_law_begin) := ⟨rfl, rfl, rfl, by decide +kernel, rfl, by decide +kernel, by decide +kernel⟩
abbrev s_u_law_draw : Stmt := topS 18
theorem sc_u_law_draw : FnScope ["_law_state", "_law_size_here", "_law_found"] ["_law_state", "_law_size_here"] (defScope s_u_law_draw) := ⟨rfl, rfl, rfl, by decide +kernel, rfl, by decide +kernel, by decide +kernel⟩
abbrev s_u_law_pick : Stmt := topS 19
theorem sc_u_law_pick : FnScope ["_law_state", "_law_items"] ["_law_state", "_law_items"] (defScope s_u_law_pick) := ⟨rfl, rfl, rfl, by decide +kernel, rfl, by decide +kernel, by decide +kernel⟩
abbrev s_u_law_size : Stmt := topS 20
theorem sc_u_law_size : FnScope ["_law_tree_here", "_law_child"] ["_law_tree_here"] (defScope s_u_law_size) := ⟨rfl, rfl, rfl, by decide +kernel, rfl, by decide +kernel, by decide +kernel⟩
abbrev s_u_law_is_value : Stmt := topS 21
theorem sc_u_law_is_value : FnScope ["_law_size_here"] ["_law_size_here"] (defScope s_u_law_is_value) := ⟨rfl, rfl, rfl, by decide +kernel, rfl, by decide +kernel, by decide +kernel⟩
abbrev s_u_law_wild : Stmt := topS 22
theorem sc_u_law_wild : FnScope ["_law_state", "_law_deep", "_law_turn"] ["_law_state", "_law_deep"] (defScope s_u_law_wild) := ⟨rfl, rfl, rfl, by decide +kernel, rfl, by decide +kernel, by decide +kernel⟩
abbrev s_u_law_fits : Stmt := topS 23
theorem sc_u_law_fits : FnScope ["_law_tree_here", "_law_child"] ["_law_tree_here"] (defScope s_u_law_fits) := ⟨rfl, rfl, rfl, by decide +kernel, rfl, by decide +kernel, by decide +kernel⟩
abbrev s_u_law_tree : Stmt := topS 24
theorem sc_u_law_tree : FnScope ["_law_state", "_law_tree_here", "_law_four", "_law_some", "_law_pair", "_law_three"] ["_law_state"] (defScope s_u_law_tree) := ⟨rfl, rfl, rfl, by decide +kernel, rfl, by decide +kernel, by decide +kernel⟩
abbrev s_u_law_told : Stmt := topS 25
theorem sc_u_law_told : FnScope ["_law_work", "error", "_law_caught", "_law_found"] ["_law_work"] (defScope s_u_law_told) := ⟨rfl, rfl, rfl, by decide +kernel, rfl, by decide +kernel, by decide +kernel⟩
abbrev s_u_law_thing : Stmt := topS 26
theorem sc_u_law_thing : FnScope ["_law_state", "_law_size_here", "_law_pulse", "_law_bits", "_law_some", "_law_turn"] ["_law_state", "_law_size_here"] (defScope s_u_law_thing) := ⟨rfl, rfl, rfl, by decide +kernel, rfl, by decide +kernel, by decide +kernel⟩
abbrev s_u_law_is_point : Stmt := topS 27
theorem sc_u_law_is_point : FnScope ["_law_size_here", "_law_value", "_law_pulse", "_law_bits", "_law_sign"] ["_law_size_here", "_law_value"] (defScope s_u_law_is_point) := ⟨rfl, rfl, rfl, by decide +kernel, rfl, by decide +kernel, by decide +kernel⟩
abbrev s_law : Stmt := topS 28
theorem sc_law : FnScope ["_law_script", "_law_k", "_law_cell", "_law_state", "_law_tree_here", "_law_turn", "_law_long", "_law_metre", "_law_size_here", "_law_value", "_law_good", "_law_told_here"] ["_law_script"] (defScope s_law) := ⟨rfl, rfl, rfl, by decide +kernel, rfl, by decide +kernel, by decide +kernel⟩
abbrev s_x_BadPoint : Stmt := inClass (topS 3) 0
theorem sc_x_BadPoint : FnScope ["self", "point"] ["self", "point"] (defScope s_x_BadPoint) := ⟨rfl, rfl, rfl, by decide +kernel, rfl, by decide +kernel, by decide +kernel⟩
structure Tx (K : PySem.W.Frag) (mg : Str → Option Value) (A : Ax) : Prop where
  F_is_number : Fun K "is_number" "is_number" s_is_number A.f_is_number A.d_is_number
  b_is_number : Binds K A.d_is_number ["thing"] []
  m_is_number : mg "is_number" = some (.ref A.f_is_number)
  F_dots_of : Fun K "dots_of" "dots_of" s_dots_of A.f_dots_of A.d_dots_of
  b_dots_of : Binds K A.d_dots_of ["length"] []
  m_dots_of : mg "dots_of" = some (.ref A.f_dots_of)
  F_u_pulses : Fun K "_pulses" "_pulses" s_u_pulses A.f_u_pulses A.d_u_pulses
  b_u_pulses : Binds K A.d_u_pulses ["thing", "depth"] []
  m_u_pulses : mg "_pulses" = some (.ref A.f_u_pulses)
  F_is_tree : Fun K "is_tree" "is_tree" s_is_tree A.f_is_tree A.d_is_tree
  b_is_tree : Binds K A.d_is_tree ["thing"] []
  m_is_tree : mg "is_tree" = some (.ref A.f_is_tree)
  F_u_nodes : Fun K "_nodes" "_nodes" s_u_nodes A.f_u_nodes A.d_u_nodes
  b_u_nodes : Binds K A.d_u_nodes ["tree", "begin", "depth"] []
  m_u_nodes : mg "_nodes" = some (.ref A.f_u_nodes)
  F_u_borders : Fun K "_borders" "_borders" s_u_borders A.f_u_borders A.d_u_borders
  b_u_borders : Binds K A.d_u_borders ["tree"] []
  m_u_borders : mg "_borders" = some (.ref A.f_u_borders)
  F_Metre_uu_init_ : Fun K "__init__" "Metre.__init__" s_Metre_uu_init_ A.f_Metre_uu_init_ A.d_Metre_uu_init_
  b_Metre_uu_init_ : Binds K A.d_Metre_uu_init_ ["self", "tree"] []
  F_is_bits : Fun K "is_bits" "is_bits" s_is_bits A.f_is_bits A.d_is_bits
  b_is_bits : Binds K A.d_is_bits ["thing"] []
  m_is_bits : mg "is_bits" = some (.ref A.f_is_bits)
  F_Metre_is_point : Fun K "is_point" "Metre.is_point" s_Metre_is_point A.f_Metre_is_point A.d_Metre_is_point
  b_Metre_is_point : Binds K A.d_Metre_is_point ["self", "thing"] []
  me_Metre_is_point : Meth K A.c_Metre "is_point" A.f_Metre_is_point
  F_Metre_level : Fun K "level" "Metre.level" s_Metre_level A.f_Metre_level A.d_Metre_level
  b_Metre_level : Binds K A.d_Metre_level ["self", "point"] []
  me_Metre_level : Meth K A.c_Metre "level" A.f_Metre_level
  F_u_law_begin : Fun K "_law_begin" "_law_begin" s_u_law_begin A.f_u_law_begin A.d_u_law_begin
  b_u_law_begin : Binds K A.d_u_law_begin ["_law_cell", "_law_turn"] []
  m_u_law_begin : mg "_law_begin" = some (.ref A.f_u_law_begin)
  F_u_law_draw : Fun K "_law_draw" "_law_draw" s_u_law_draw A.f_u_law_draw A.d_u_law_draw
  b_u_law_draw : Binds K A.d_u_law_draw ["_law_state", "_law_size_here"] []
  m_u_law_draw : mg "_law_draw" = some (.ref A.f_u_law_draw)
  F_u_law_pick : Fun K "_law_pick" "_law_pick" s_u_law_pick A.f_u_law_pick A.d_u_law_pick
  b_u_law_pick : Binds K A.d_u_law_pick ["_law_state", "_law_items"] []
  m_u_law_pick : mg "_law_pick" = some (.ref A.f_u_law_pick)
  F_u_law_size : Fun K "_law_size" "_law_size" s_u_law_size A.f_u_law_size A.d_u_law_size
  b_u_law_size : Binds K A.d_u_law_size ["_law_tree_here"] []
  m_u_law_size : mg "_law_size" = some (.ref A.f_u_law_size)
  F_u_law_is_value : Fun K "_law_is_value" "_law_is_value" s_u_law_is_value A.f_u_law_is_value A.d_u_law_is_value
  b_u_law_is_value : Binds K A.d_u_law_is_value ["_law_size_here"] []
  m_u_law_is_value : mg "_law_is_value" = some (.ref A.f_u_law_is_value)
  F_u_law_wild : Fun K "_law_wild" "_law_wild" s_u_law_wild A.f_u_law_wild A.d_u_law_wild
  b_u_law_wild : Binds K A.d_u_law_wild ["_law_state", "_law_deep"] []
  m_u_law_wild : mg "_law_wild" = some (.ref A.f_u_law_wild)
  F_u_law_fits : Fun K "_law_fits" "_law_fits" s_u_law_fits A.f_u_law_fits A.d_u_law_fits
  b_u_law_fits : Binds K A.d_u_law_fits ["_law_tree_here"] []
  m_u_law_fits : mg "_law_fits" = some (.ref A.f_u_law_fits)
  F_u_law_tree : Fun K "_law_tree" "_law_tree" s_u_law_tree A.f_u_law_tree A.d_u_law_tree
  b_u_law_tree : Binds K A.d_u_law_tree ["_law_state"] []
  m_u_law_tree : mg "_law_tree" = some (.ref A.f_u_law_tree)
  F_u_law_told : Fun K "_law_told" "_law_told" s_u_law_told A.f_u_law_told A.d_u_law_told
  b_u_law_told : Binds K A.d_u_law_told ["_law_work"] []
  m_u_law_told : mg "_law_told" = some (.ref A.f_u_law_told)
  F_u_law_thing : Fun K "_law_thing" "_law_thing" s_u_law_thing A.f_u_law_thing A.d_u_law_thing
  b_u_law_thing : Binds K A.d_u_law_thing ["_law_state", "_law_size_here"] []
  m_u_law_thing : mg "_law_thing" = some (.ref A.f_u_law_thing)
  F_u_law_is_point : Fun K "_law_is_point" "_law_is_point" s_u_law_is_point A.f_u_law_is_point A.d_u_law_is_point
  b_u_law_is_point : Binds K A.d_u_law_is_point ["_law_size_here", "_law_value"] []
  m_u_law_is_point : mg "_law_is_point" = some (.ref A.f_u_law_is_point)
  F_law : Fun K "law" "law" s_law A.f_law A.d_law
  b_law : Binds K A.d_law ["_law_script"] []
  m_law : mg "law" = some (.ref A.f_law)
  kb_Metre_is_point_1_thing : KB K A.d_Metre_is_point ["self", "thing"] 1 ["thing"] [0, 1]
  kb_Metre_level_1_point : KB K A.d_Metre_level ["self", "point"] 1 ["point"] [0, 1]
  cl_Metre : Cls K A.c_Metre
  mc_Metre : mg "Metre" = some (.ref A.c_Metre)
  mk_Metre : Mk K A.c_Metre A.f_Metre_uu_init_
  n_Metre_tree : NoAttr K A.c_Metre "tree"
  n_Metre_borders : NoAttr K A.c_Metre "borders"
  n_Metre_pulses : NoAttr K A.c_Metre "pulses"
  n_Metre_depth : NoAttr K A.c_Metre "depth"
  xi_BadPoint : PySem.W.isClsIn K A.c_BadPoint = true
  xt_BadPoint : PySem.W.typeIn K (.ref A.c_BadPoint) = some (.type "type")
  xi_RhythmError : PySem.W.isClsIn K A.c_RhythmError = true
  xt_RhythmError : PySem.W.typeIn K (.ref A.c_RhythmError) = some (.type "type")
  xm_BadPoint : mg "BadPoint" = some (.ref A.c_BadPoint)
  xm_RhythmError : mg "RhythmError" = some (.ref A.c_RhythmError)
  oc_BadPoint : OexC K A.c_BadPoint
  xa_BadPoint : PySem.W.findIn K (.ref A.c_BadPoint) "__init__" = some (some (.ref A.fx_BadPoint))
  xt2_BadPoint : PySem.W.typeIn K (.ref A.fx_BadPoint) = some (.type "function")
  xb_BadPoint : Binds K A.dx_BadPoint ["self", "point"] []
  xF_BadPoint : Fun K "__init__" "BadPoint.__init__" s_x_BadPoint A.fx_BadPoint A.dx_BadPoint
  xn_BadPoint : PySem.W.findIn K (.ref A.c_BadPoint) "point" = some none
  bi_RhythmError : BaseI K A.c_RhythmError
  xf_BadPoint_point : XfF K A.c_BadPoint "point"
  cd_law : A.d_law.code = .ref A.ct
  ix_BadPoint_BadPoint : IsX K A.c_BadPoint A.c_BadPoint true
  ix_RhythmError_BadPoint : IsX K A.c_RhythmError A.c_BadPoint true
  xx_RhythmError_BadPoint : PySem.W.exmOne K (.ref A.c_BadPoint) (.ref A.c_RhythmError) = some true
  z_bool : mg "bool" = none
  z_enumerate : mg "enumerate" = none
  z_int : mg "int" = none
  z_isinstance : mg "isinstance" = none
  z_len : mg "len" = none
  z_max : mg "max" = none
  z_range : mg "range" = none
  z_repr : mg "repr" = none
  z_str : mg "str" = none
  z_sum : mg "sum" = none
  z_tuple : mg "tuple" = none
  g_DOTS : mg "DOTS" = some (.ref A.o_DOTS)
  k_DOTS : KdI K A.o_DOTS kv_DOTS
  g_MOST_DEEP : (∃ t, mg "MOST_DEEP" = some (.int 4 t))
  g_MOST_PULSES : (∃ t, mg "MOST_PULSES" = some (.int 16 t))
def ds_is_number (A : Ax) : DS := (dRet (dAndT (dCB fIsi (dCons (dVar 0) (dCons (dC (.ty "int")) dNil))) (dNotT (dCB fIsi (dCons (dVar 0) (dCons (dC (.ty "bool")) dNil))))))
def M_is_number (A : Ax) : FnD := runFn 1 (ds_is_number A)
def ds_dots_of (A : Ax) : DS := (dSeq (dAsg (dOp fShr (dVar 0) (dOp fSub (dOp1 fBits (dOp fAnd (dVar 0) (dOp1 fNeg (dVar 0)))) (dC (.int 1)))) (gN 1))
  (dRet (dKGet kv_DOTS (dVar 1))))
def M_dots_of (A : Ax) : FnD := runFn 2 (ds_dots_of A)
def ds_u_pulses (A : Ax) (go : FnD) : DS := (dSeq (dIfS (dAnd (dTruth (dCl (argN 1 (M_is_number A)) (dCons (dVar 0) dNil))) (dTest (dOp fEq (dVar 0) (dC (.int 1))))) (dRet (dC (.int 1))) dNx)
  (dSeq (dIfS (dOr (dTest (dOp fEq (dVar 1) (dC (.int 4)))) (dOr (dNot (dTruth (dCB fIsi (dCons (dVar 0) (dCons (dC (.ty "tuple")) dNil))))) (dTest (dOp fNotIn (dCB fLen (dCons (dVar 0) dNil)) (dTup (dCons (dC (.int 2)) (dCons (dC (.int 3)) dNil))))))) (dRet (dC (.int 0))) dNx)
  (dSeq (dAsg (dLc [4] (iSeqT (dVar 0)) (gN 4) dYes (dCl (argN 2 go) (dCons (dVar 4) (dCons (dOp fAdd (dVar 1) (dC (.int 1))) dNil)))) (gN 2))
  (dSeq (dAsg (dCB fSum (dCons (dVar 2) dNil)) (gN 3))
  (dSeq (dIfS (dOr (dTest (dOp fIn (dC (.int 0)) (dVar 2))) (dAnd (dTest (dOp fGt (dVar 1) (dC (.int 0)))) (dTest (dOp fIsN (dCl (argN 1 (M_dots_of A)) (dCons (dVar 3) dNil)) (dC .non))))) (dRet (dC (.int 0))) dNx)
  (dRet (dVar 3)))))))
def M_u_pulses (A : Ax) : Nat → FnD
  | 0 => fun _ _ => none
  | n + 1 => runFn 5 (ds_u_pulses A (M_u_pulses A n))
def ds_is_tree (A : Ax) : DS := (dRet (dChain fLe fLe (dC (.int 1)) (dCl (argN 2 (M_u_pulses A 6)) (dCons (dVar 0) (dCons (dC (.int 0)) dNil))) (dC (.int 16))))
def M_is_tree (A : Ax) : FnD := runFn 1 (ds_is_tree A)
def ds_u_nodes (A : Ax) (go : FnD) : DS := (dSeq (dIfS (dTest (dOp fEq (dVar 0) (dC (.int 1)))) (dRet (dLst (dCons (dTup (dCons (dVar 1) (dCons (dOp fAdd (dVar 1) (dC (.int 1))) (dCons (dVar 2) dNil)))) dNil))) dNx)
  (dSeq (dAsg (dLst dNil) (gN 3))
  (dSeq (dAsg (dVar 1) (gN 4))
  (dSeq (dFor (iSeqT (dVar 0)) (gN 5) (dSeq (dAsg (dCl (argN 3 go) (dCons (dVar 5) (dCons (dVar 4) (dCons (dOp fAdd (dVar 2) (dC (.int 1))) dNil)))) (gN 6))
  (dSeq (dDrop (dBM "list" fExtend (dVar 3) (dCons (dVar 6) dNil)))
  (dAsg (dOp fIx (dOp fIx (dVar 6) (dC (.int 0))) (dC (.int 1))) (gN 4)))))
  (dRet (dOp fAdd (dLst (dCons (dTup (dCons (dVar 1) (dCons (dVar 4) (dCons (dVar 2) dNil)))) dNil)) (dVar 3)))))))
def M_u_nodes (A : Ax) : Nat → FnD
  | 0 => fun _ _ => none
  | n + 1 => runFn 7 (ds_u_nodes A (M_u_nodes A n))
def ds_u_borders (A : Ax) : DS := (dSeq (dAsg (dCl (argN 3 (M_u_nodes A 6)) (dCons (dVar 0) (dCons (dC (.int 0)) (dCons (dC (.int 0)) dNil)))) (gN 1))
  (dSeq (dAsg dDNew (gN 2))
  (dSeq (dFor (iSeqL (dVar 1)) (gTp 3 (gsCons (gN 3) (gsCons (gN 4) (gsCons (gN 5) gsNil)))) (dDrop (dDSetd (dVar 2) (dVar 3) (dVar 5))))
  (dRet (dCB fTuple (dCons (dOp fAdd (dLc [6] (iRange1 (dCons (dOp fIx (dOp fIx (dVar 1) (dC (.int 0))) (dC (.int 1))) dNil)) (gN 6) dYes (dDIx (dVar 2) (dVar 6))) (dLst (dCons (dC (.int 0)) dNil))) dNil))))))
def M_u_borders (A : Ax) : FnD := runFn 7 (ds_u_borders A)
def ds_Metre_uu_init_ (A : Ax) : DS := (dSeq (dIfS (dNot (dTruth (dCl (argN 1 (M_is_tree A)) (dCons (dVar 1) dNil)))) dStop dNx)
  (dSeq (dStF A.c_Metre "tree" (dVar 0) (dVar 1))
  (dSeq (dStF A.c_Metre "borders" (dVar 0) (dCl (argN 1 (M_u_borders A)) (dCons (dVar 1) dNil)))
  (dSeq (dStF A.c_Metre "pulses" (dVar 0) (dOp fSub (dCB fLen (dCons (dOp1 (fFld A.c_Metre "borders") (dVar 0)) dNil)) (dC (.int 1))))
  (dStF A.c_Metre "depth" (dVar 0) (dCB fMaxA (dCons (dOp1 (fFld A.c_Metre "borders") (dVar 0)) dNil)))))))
def M_Metre_uu_init_ (A : Ax) : FnD := runFn 2 (ds_Metre_uu_init_ A)
def ds_is_bits (A : Ax) : DS := (dSeq (dIfS (dOr (dNot (dTruth (dCB fIsi (dCons (dVar 0) (dCons (dC (.ty "str")) dNil))))) (dTest (dOp fNe (dBM "str" fStrip (dVar 0) (dCons (dC (.str "01")) dNil)) (dC (.str ""))))) (dRet (dC (.bl false))) dNx)
  (dRet (dOrT (dOp fEq (dVar 0) (dC (.str ""))) (dBM "str" fEndswith (dVar 0) (dCons (dC (.str "1")) dNil)))))
def M_is_bits (A : Ax) : FnD := runFn 1 (ds_is_bits A)
def ds_Metre_is_point (A : Ax) : DS := (dSeq (dIfS (dOr (dNot (dTruth (dCB fIsi (dCons (dVar 1) (dCons (dC (.ty "tuple")) dNil))))) (dTest (dOp fNe (dCB fLen (dCons (dVar 1) dNil)) (dC (.int 2))))) (dRet (dC (.bl false))) dNx)
  (dSeq (dAsg (dVar 1) (gTp 2 (gsCons (gN 2) (gsCons (gN 3) gsNil))))
  (dSeq (dIfS (dOr (dNot (dTruth (dCl (argN 1 (M_is_number A)) (dCons (dVar 2) dNil)))) (dNot (dTruth (dCl (argN 1 (M_is_bits A)) (dCons (dVar 3) dNil))))) (dRet (dC (.bl false))) dNx)
  (dRet (dOrT (dChain fLe fLt (dC (.int 0)) (dVar 2) (dOp1 (fFld A.c_Metre "pulses") (dVar 0))) (dAndT (dOp fEq (dVar 2) (dOp1 (fFld A.c_Metre "pulses") (dVar 0))) (dOp fEq (dVar 3) (dC (.str "")))))))))
def M_Metre_is_point (A : Ax) : FnD := runFn 4 (ds_Metre_is_point A)
def ds_Metre_level (A : Ax) : DS := (dSeq (dIfS (dNot (dTruth (dMe A.c_Metre "is_point" (argN 2 (M_Metre_is_point A)) (dVar 0) (dCons (dVar 1) dNil)))) (dRaiseF A.c_BadPoint "point" (dVar 1)) dNx)
  (dSeq (dAsg (dVar 1) (gTp 2 (gsCons (gN 2) (gsCons (gN 3) gsNil))))
  (dSeq (dIfS (dTest (dOp fEq (dVar 3) (dC (.str "")))) (dRet (dOp fIx (dOp1 (fFld A.c_Metre "borders") (dVar 0)) (dVar 2))) dNx)
  (dRet (dOp fAdd (dOp1 (fFld A.c_Metre "depth") (dVar 0)) (dCB fLen (dCons (dVar 3) dNil)))))))
def M_Metre_level (A : Ax) : FnD := runFn 4 (ds_Metre_level A)
def ds_u_law_begin (A : Ax) : DS := (dRet (dLst (dCons (dCB fMaxA (dCons (dC (.int 0)) (dCons (dOp fSub (dVar 0) (dOp fPow (dC (.int 10)) (dC (.int 18)))) dNil))) (dCons (dOp fAdd (dVar 0) (dOp fMul (dC (.int 977)) (dVar 1))) (dCons (dC (.int 0)) dNil)))))
def M_u_law_begin (A : Ax) : FnD := runFn 2 (ds_u_law_begin A)
def ds_u_law_draw (A : Ax) : DS := (dSeq (dIfS (dTest (dOp fGt (dOp fIx (dVar 0) (dC (.int 0))) (dC (.int 0)))) (dSeq (dAsg (dOp fMod (dCB fInt (dCons (dOp fIx (dVar 0) (dC (.int 0))) dNil)) (dVar 1)) (gN 2))
  (dSeq (dAsg (dOp fDiv (dOp fIx (dVar 0) (dC (.int 0))) (dVar 1)) (gSb fSet (dVar 0) (dC (.int 0))))
  (dRet (dVar 2)))) dNx)
  (dSeq (dAsg (dOp fAdd (dOp fIx (dVar 0) (dC (.int 2))) (dC (.int 1))) (gSb fSet (dVar 0) (dC (.int 2))))
  (dSeq (dAsg (dOp fAdd (dOp fMod (dCB fInt (dCons (dOp fIx (dVar 0) (dC (.int 1))) dNil)) (dC (.int 2147483629))) (dOp fMul (dC (.int 104729)) (dOp fIx (dVar 0) (dC (.int 2))))) (gN 2))
  (dSeq (dAsg (dOp fMul (dVar 2) (dOp fAdd (dOp fAdd (dOp fMod (dCB fInt (dCons (dOp fIx (dVar 0) (dC (.int 1))) dNil)) (dC (.int 2147483587))) (dOp fMul (dOp fMul (dC (.int 7919)) (dOp fIx (dVar 0) (dC (.int 2)))) (dOp fIx (dVar 0) (dC (.int 2))))) (dC (.int 11)))) (gN 2))
  (dRet (dOp fMod (dCB fInt (dCons (dOp fDiv (dOp fMod (dCB fInt (dCons (dOp fPow (dVar 2) (dC (.int 3))) dNil)) (dC (.int 2147483647))) (dC (.int 11))) dNil)) (dVar 1)))))))
def M_u_law_draw (A : Ax) : FnD := runFn 3 (ds_u_law_draw A)
def ds_u_law_pick (A : Ax) : DS := (dRet (dOp fIx (dVar 1) (dCl (argN 2 (M_u_law_draw A)) (dCons (dVar 0) (dCons (dCB fLen (dCons (dVar 1) dNil)) dNil)))))
def M_u_law_pick (A : Ax) : FnD := runFn 2 (ds_u_law_pick A)
def ds_u_law_size (A : Ax) (go : FnD) : DS := (dRet (dIf (dTest (dOp fEq (dVar 0) (dC (.int 1)))) (dC (.int 1)) (dCB fSum (dCons (dLc [1] (iSeqT (dVar 0)) (gN 1) dYes (dCl (argN 1 go) (dCons (dVar 1) dNil))) dNil))))
def M_u_law_size (A : Ax) : Nat → FnD
  | 0 => fun _ _ => none
  | n + 1 => runFn 2 (ds_u_law_size A (M_u_law_size A n))
def ds_u_law_is_value (A : Ax) : DS := (dSeq (whRun (dAnd (dTest (dOp fGt (dVar 0) (dC (.int 0)))) (dTest (dOp fEq (dOp fMod (dCB fInt (dCons (dVar 0) dNil)) (dC (.int 2))) (dC (.int 0))))) (dAsg (dOp fDiv (dVar 0) (dC (.int 2))) (gN 0)) 8)
  (dRet (dOp fIn (dVar 0) (dTup (dCons (dC (.int 1)) (dCons (dC (.int 3)) (dCons (dC (.int 7)) dNil)))))))
def M_u_law_is_value (A : Ax) : FnD := runFn 1 (ds_u_law_is_value A)
def ds_u_law_wild (A : Ax) (go : FnD) : DS := (dSeq (dIfS (dOr (dTest (dOp fEq (dVar 1) (dC (.int 0)))) (dTest (dOp fEq (dCl (argN 2 (M_u_law_draw A)) (dCons (dVar 0) (dCons (dC (.int 3)) dNil))) (dC (.int 0))))) (dRet (dC (.int 1))) dNx)
  (dRet (dCB fTuple (dCons (dLc [2] (iRange1 (dCons (dOp fAdd (dC (.int 2)) (dCB fInt (dCons (dOp fEq (dCl (argN 2 (M_u_law_draw A)) (dCons (dVar 0) (dCons (dC (.int 3)) dNil))) (dC (.int 0))) dNil))) dNil)) (gN 2) dYes (dCl (argN 2 go) (dCons (dVar 0) (dCons (dOp fSub (dVar 1) (dC (.int 1))) dNil)))) dNil))))
def M_u_law_wild (A : Ax) : Nat → FnD
  | 0 => fun _ _ => none
  | n + 1 => runFn 3 (ds_u_law_wild A (M_u_law_wild A n))
def ds_u_law_fits (A : Ax) (go : FnD) : DS := (dSeq (dIfS (dTest (dOp fEq (dVar 0) (dC (.int 1)))) (dRet (dC (.bl true))) dNx)
  (dRet (dOp fEq (dLc [1] (iSeqT (dVar 0)) (gN 1) (dOr (dNot (dTruth (dCl (argN 1 (M_u_law_is_value A)) (dCons (dCl (argN 1 (M_u_law_size A 6)) (dCons (dVar 1) dNil)) dNil)))) (dNot (dTruth (dCl (argN 1 go) (dCons (dVar 1) dNil))))) (dVar 1)) (dLst dNil))))
def M_u_law_fits (A : Ax) : Nat → FnD
  | 0 => fun _ _ => none
  | n + 1 => runFn 2 (ds_u_law_fits A (M_u_law_fits A n))
def ds_u_law_tree (A : Ax) : DS := (dSeq (dAsg (dCl (argN 2 (M_u_law_wild A 6)) (dCons (dVar 0) (dCons (dCl (argN 2 (M_u_law_pick A)) (dCons (dVar 0) (dCons (dLst (dCons (dC (.int 1)) (dCons (dC (.int 2)) (dCons (dC (.int 2)) (dCons (dC (.int 3)) (dCons (dC (.int 4)) dNil)))))) dNil))) dNil))) (gN 1))
  (dSeq (dIfS (dAnd (dTest (dOp fLe (dCl (argN 1 (M_u_law_size A 6)) (dCons (dVar 1) dNil)) (dC (.int 16)))) (dTruth (dCl (argN 1 (M_u_law_fits A 6)) (dCons (dVar 1) dNil)))) (dRet (dVar 1)) dNx)
  (dSeq (dAsg (dTup (dCons (dTup (dCons (dC (.int 1)) (dCons (dC (.int 1)) dNil))) (dCons (dTup (dCons (dC (.int 1)) (dCons (dC (.int 1)) (dCons (dC (.int 1)) dNil)))) dNil))) (gTp 2 (gsCons (gN 4) (gsCons (gN 5) gsNil))))
  (dSeq (dAsg (dTup (dCons (dVar 4) (dCons (dVar 4) dNil))) (gN 2))
  (dSeq (dAsg (dLst (dCons (dVar 2) (dCons (dTup (dCons (dVar 5) (dCons (dVar 5) dNil))) (dCons (dTup (dCons (dVar 5) (dCons (dVar 4) dNil))) (dCons (dTup (dCons (dVar 5) (dCons (dVar 5) (dCons (dVar 5) dNil)))) dNil))))) (gN 3))
  (dRet (dCl (argN 2 (M_u_law_pick A)) (dCons (dVar 0) (dCons (dOp fAdd (dVar 3) (dLst (dCons (dTup (dCons (dVar 2) (dCons (dVar 2) dNil))) (dCons (dTup (dCons (dVar 4) (dCons (dVar 4) (dCons (dVar 5) dNil)))) dNil)))) dNil)))))))))
def M_u_law_tree (A : Ax) : FnD := runFn 6 (ds_u_law_tree A)
def ds_u_law_told (A : Ax) (f : Addr) (wk : M D) : DS := (dSeq (dAsg (dTup (dCons (dC .non) (dCons (dC .non) dNil))) (gTp 2 (gsCons (gN 2) (gsCons (gN 3) gsNil))))
  (dSeq (dTryK [A.c_BadPoint] 1 2 (dAsg (dWk 0 f wk) (gN 3)))
  (dSeq (dIfS (dTest (dOp fIsN (dVar 2) (dC .non))) (dRet (dVar 3)) dNx)
  (dRet (dIf (dTruth (dCB (fIsiX A.c_BadPoint [A.c_BadPoint] []) (dCons (dVar 2) (dCons (dC (.adr A.c_BadPoint)) dNil)))) (dTup (dCons (dC (.str "point")) (dCons (dCB fRepr (dCons (dOp1 (fFldX A.c_BadPoint "point") (dVar 2)) dNil)) dNil))) (dTup (dCons (dC (.str "other")) (dCons (dC (.str "")) dNil))))))))
def M_u_law_told (A : Ax) (f : Addr) (wk : M D) : M D := runFn 4 (ds_u_law_told A f wk) [.adr f]
def ds_u_law_thing (A : Ax) : DS := (dSeq (dAsg (dCl (argN 2 (M_u_law_pick A)) (dCons (dVar 0) (dCons (dLst (dCons (dC (.int 0)) (dCons (dOp fSub (dVar 1) (dC (.int 1))) (dCons (dVar 1) (dCons (dCl (argN 2 (M_u_law_draw A)) (dCons (dVar 0) (dCons (dVar 1) dNil))) (dCons (dOp1 fNeg (dC (.int 1))) (dCons (dOp fAdd (dVar 1) (dC (.int 1))) (dCons (dC (.bl true)) (dCons (dC .non) (dCons (dC (.str "0")) dNil)))))))))) dNil))) (gN 2))
  (dSeq (dAsg (dBM "str" fJoin (dC (.str "")) (dCons (dLc [5] (iRange1 (dCons (dCl (argN 2 (M_u_law_draw A)) (dCons (dVar 0) (dCons (dC (.int 6)) dNil))) dNil)) (gN 5) dYes (dCl (argN 2 (M_u_law_pick A)) (dCons (dVar 0) (dCons (dC (.str "01")) dNil)))) dNil)) (gN 3))
  (dSeq (dAsg (dLst (dCons (dVar 3) (dCons (dOp fAdd (dVar 3) (dC (.str "1"))) (dCons (dOp fAdd (dVar 3) (dC (.str "1"))) (dCons (dOp fAdd (dVar 3) (dC (.str "1"))) (dCons (dC (.str "")) (dCons (dC (.str "2")) (dCons (dOp fAdd (dVar 3) (dC (.str "01"))) (dCons (dC (.int 1)) (dCons (dC .non) (dCons (dLst (dCons (dC (.str "1")) dNil)) (dCons (dC (.str "1 ")) (dCons (dC (.str "-1")) dNil))))))))))))) (gN 4))
  (dSeq (dAsg (dCl (argN 2 (M_u_law_pick A)) (dCons (dVar 0) (dCons (dVar 4) dNil))) (gN 3))
  (dSeq (dAsg (dLst (dCons (dLst (dCons (dVar 2) (dCons (dVar 3) dNil))) (dCons (dTup (dCons (dVar 2) dNil)) (dCons (dTup (dCons (dVar 2) (dCons (dVar 3) (dCons (dC (.int 0)) dNil)))) (dCons (dVar 3) (dCons (dC .non) (dCons (dTup (dCons (dVar 3) (dCons (dVar 2) dNil))) dNil))))))) (gN 4))
  (dRet (dCl (argN 2 (M_u_law_pick A)) (dCons (dVar 0) (dCons (dOp fAdd (dOp fMul (dLst (dCons (dTup (dCons (dVar 2) (dCons (dVar 3) dNil))) dNil)) (dC (.int 9))) (dVar 4)) dNil)))))))))
def M_u_law_thing (A : Ax) : FnD := runFn 6 (ds_u_law_thing A)
def ds_u_law_is_point (A : Ax) : DS := (dSeq (dIfS (dOr (dNot (dTruth (dCB fIsi (dCons (dVar 1) (dCons (dC (.ty "tuple")) dNil))))) (dTest (dOp fNe (dCB fLen (dCons (dVar 1) dNil)) (dC (.int 2))))) (dRet (dC (.bl false))) dNx)
  (dSeq (dAsg (dVar 1) (gTp 2 (gsCons (gN 2) (gsCons (gN 3) gsNil))))
  (dSeq (dIfS (dOr (dNot (dTruth (dCB fIsi (dCons (dVar 2) (dCons (dC (.ty "int")) dNil))))) (dOr (dTruth (dCB fIsi (dCons (dVar 2) (dCons (dC (.ty "bool")) dNil)))) (dNot (dTruth (dCB fIsi (dCons (dVar 3) (dCons (dC (.ty "str")) dNil))))))) (dRet (dC (.bl false))) dNx)
  (dSeq (dIfS (dOr (dTest (dOp fNe (dLc [4] (iSeqS (dVar 3)) (gN 4) (dTest (dOp fNotIn (dVar 4) (dC (.str "01")))) (dVar 4)) (dLst dNil))) (dTest (dOp fEq (dSl fSl (dVar 3) (dPt (dOp1 fNeg (dC (.int 1)))) dNoPt) (dC (.str "0"))))) (dRet (dC (.bl false))) dNx)
  (dRet (dOrT (dChain fLe fLt (dC (.int 0)) (dVar 2) (dVar 0)) (dAndT (dOp fEq (dVar 2) (dVar 0)) (dOp fEq (dVar 3) (dC (.str ""))))))))))
def M_u_law_is_point (A : Ax) : FnD := runFn 5 (ds_u_law_is_point A)
def ds_law (A : Ax) : DS := (dSeq (dFor (iEnum (dCons (dSl fSl (dOrT (dVar 0) (dLst (dCons (dC (.int 5)) dNil))) dNoPt (dPt (dC (.int 8)))) dNil)) (gTp 2 (gsCons (gN 1) (gsCons (gN 2) gsNil))) (dSeq (dAsg (dCl (argN 2 (M_u_law_begin A)) (dCons (dVar 2) (dCons (dVar 1) dNil))) (gN 3))
  (dSeq (dAsg (dCl (argN 1 (M_u_law_tree A)) (dCons (dVar 3) dNil)) (gN 4))
  (dSeq (dAsg (dTup (dCons (dMk A.c_Metre (argN 2 (M_Metre_uu_init_ A)) (dCons (dVar 4) dNil)) (dCons (dCl (argN 1 (M_u_law_size A 6)) (dCons (dVar 4) dNil)) dNil))) (gTp 2 (gsCons (gN 7) (gsCons (gN 8) gsNil))))
  (dSeq (dFor (iRange1 (dCons (dC (.int 8)) dNil)) (gN 5) (dSeq (dAsg (dCl (argN 2 (M_u_law_thing A)) (dCons (dVar 3) (dCons (dVar 8) dNil))) (gN 9))
  (dSeq (dAsg (dCl (argN 2 (M_u_law_is_point A)) (dCons (dVar 8) (dCons (dVar 9) dNil))) (gN 10))
  (dSeq (dIfS (dTest (dOp fNe (dCB fRepr (dCons (dLst (dCons (dMe A.c_Metre "is_point" (argN 2 (M_Metre_is_point A)) (dVar 7) (dCons (dVar 9) dNil)) (dCons (dMeK A.c_Metre "is_point" 1 [0, 1] (M_Metre_is_point A) (dVar 7) (dCons (dVar 9) dNil)) dNil))) dNil)) (dCB fRepr (dCons (dLst (dCons (dVar 10) (dCons (dVar 10) dNil))) dNil)))) (dRet (dC (.bl false))) dNx)
  (dSeq (dAsg (dLam A.pt "law.<locals>.<lambda>" (M_u_law_told A) (dMe A.c_Metre "level" (argN 2 (M_Metre_level A)) (dVar 7) (dCons (dVar 9) dNil))) (gN 11))
  (dSeq (dIfS (dAnd (dNot (dTruth (dVar 10))) (dTest (dOp fNe (dVar 11) (dTup (dCons (dC (.str "point")) (dCons (dCB fRepr (dCons (dVar 9) dNil)) dNil)))))) (dRet (dC (.bl false))) dNx)
  (dIfS (dAnd (dTruth (dVar 10)) (dAnd (dTest (dOp fNe (dOp fIx (dVar 9) (dC (.int 1))) (dC (.str "")))) (dTest (dOp fNe (dVar 11) (dOp fAdd (dOp1 (fFld A.c_Metre "depth") (dVar 7)) (dCB fLen (dCons (dOp fIx (dVar 9) (dC (.int 1))) dNil))))))) (dRet (dC (.bl false))) dNx)))))))
  (dSeq (dAsg (dOp fRepS (dC (.str "01")) (dOp fAdd (dC (.int 1)) (dCl (argN 2 (M_u_law_draw A)) (dCons (dVar 3) (dCons (dC (.int 3000)) dNil))))) (gN 6))
  (dIfS (dOr (dTest (dOp fNe (dMeK A.c_Metre "level" 1 [0, 1] (M_Metre_level A) (dVar 7) (dCons (dTup (dCons (dOp fSub (dVar 8) (dC (.int 1))) (dCons (dVar 6) dNil))) dNil)) (dOp fAdd (dOp1 (fFld A.c_Metre "depth") (dVar 7)) (dCB fLen (dCons (dVar 6) dNil))))) (dTruth (dMe A.c_Metre "is_point" (argN 2 (M_Metre_is_point A)) (dVar 7) (dCons (dTup (dCons (dC (.int 0)) (dCons (dOp fAdd (dVar 6) (dC (.str "0"))) dNil))) dNil)))) (dRet (dC (.bl false))) dNx)))))))
  (dRet (dC (.bl true))))
def M_law (A : Ax) : FnD := runFn 12 (ds_law A)
section
variable {P : Program} {w : World} {K : PySem.W.Frag} {mg : Str → Option Value} {base : Heap} {A : Ax}
theorem xi_BadPoint (T : Tx K mg A) : FnOk P w K mg base (L2.CX P w) 1 A.fx_BadPoint A.dx_BadPoint ["self", "point"] (spIn A.c_BadPoint "point") :=
  fn_einit T.xF_BadPoint sc_x_BadPoint T.oc_BadPoint T.xn_BadPoint fun cdv AA outer s H E => pss_cons (ps_expr (pe_einit T.bi_RhythmError rfl T.xm_RhythmError (pa_cons (pe_var (i := 0) rfl (Or.inl rfl)) (pa_cons pe_str pa_nil)))) (pss_one (ps_ost (pe_var (i := 0) rfl (Or.inl rfl)) (pe_var (i := 1) rfl (Or.inl rfl))))
theorem ok_is_number (T : Tx K mg A) : FnG P w K mg base 1 A.f_is_number A.d_is_number ["thing"] (M_is_number A) :=
  fn_mkD (n := 1) (b := ds_is_number A) rfl rfl T.F_is_number sc_is_number fun cdv AA outer s H E hr tk hp => by
    unfold ds_is_number
    exact (dss_one (ds_ret (de_andT (de_callB dc_isi rfl T.z_isinstance (by decide +kernel) (da_cons (de_var 0) (da_cons (de_ty rfl T.z_int (by decide +kernel)) da_nil))) (de_one (de_notT (de_callB dc_isi rfl T.z_isinstance (by decide +kernel) (da_cons (de_var 0) (da_cons (de_ty rfl T.z_bool (by decide +kernel)) da_nil))))))))
theorem ok_dots_of (T : Tx K mg A) : FnG P w K mg base 1 A.f_dots_of A.d_dots_of ["length"] (M_dots_of A) :=
  fn_mkD (n := 2) (b := ds_dots_of A) rfl rfl T.F_dots_of sc_dots_of fun cdv AA outer s H E hr tk hp => by
    unfold ds_dots_of
    exact (dss_cons (ds_set (i := 1) sc_dots_of.nd (de_op dop_shr (de_var 0) (de_op dop_sub (de_bits (de_op dop_and (de_var 0) (de_neg (de_var 0)))) de_int)))
  (dss_one (ds_ret (de_kget T.k_DOTS (pe_glob rfl T.g_DOTS rfl) (de_var 1)))))
theorem ok_u_pulses (T : Tx K mg A) : ∀ n : Nat, FnG P w K mg base (1 + n) A.f_u_pulses A.d_u_pulses ["thing", "depth"] (M_u_pulses A n)
  | 0 => fn_none
  | n + 1 => by
    have ih := ok_u_pulses T n
    refine fn_mkD (n := 5) (b := ds_u_pulses A (M_u_pulses A n)) rfl rfl T.F_u_pulses sc_u_pulses fun cdv AA outer s H E hr tk hp => ?_
    generalize M_u_pulses A n = go at ih ⊢
    unfold ds_u_pulses
    exact (dss_cons (ds_if (DW.pt (dw_and (dt_truth (de_call (ok_is_number T) (hr.mono (Nat.le_trans (by decide) (Nat.le_add_right _ _))) T.m_is_number T.F_is_number.kp T.b_is_number tk (da_cons (de_var 0) da_nil))) (dw_and1 (dt_cmp (dop_eq (hu64 hr)) (de_var 0) de_int)))) (dss_one (ds_ret de_int)) dss_nil)
  (dss_cons (ds_if (DW.pt (dw_or (dt_cmp (dop_eq (hu64 hr)) (de_var 1) (de_globI rfl (T.g_MOST_DEEP).choose_spec)) (dw_or (dt_not (dt_truth (de_callB dc_isi rfl T.z_isinstance (by decide +kernel) (da_cons (de_var 0) (da_cons (de_ty rfl T.z_tuple (by decide +kernel)) da_nil))))) (dw_or1 (dt_cmp (dop_notIn (hu66 hr)) (de_callB dc_len rfl T.z_len (by decide +kernel) (da_cons (de_var 0) da_nil)) (de_tup (da_cons de_int (da_cons de_int da_nil)))))))) (dss_one (ds_ret de_int)) dss_nil)
  (dss_cons (ds_setLc (i := 2) (own := [("child", 4)]) rfl sc_u_pulses.nd (di_tup (de_var 0)) (blkOk_by (own := [("child", 4)]) (N := ["thing", "depth", "parts", "total", "child"]) (sc := defScope s_u_pulses) (by decide +kernel)) (ng_name (by decide)) (fun _ _ _ _ _ => (pg_name (i := 4) sc_u_pulses.nd rfl (Or.inl rfl))) (fun _ _ _ _ _ => dts_nil) (fun _ _ _ _ _ => (de_call (ih) hr T.m_u_pulses T.F_u_pulses.kp T.b_u_pulses takes0 (da_cons (de_var 4) (da_cons (de_op dop_add (de_var 1) de_int) da_nil)))) (sw_true rfl rfl rfl (by decide +kernel)))
  (dss_cons (ds_set (i := 3) sc_u_pulses.nd (de_callB (dc_sum rfl) rfl T.z_sum (by decide +kernel) (da_cons (de_var 2) da_nil)))
  (dss_cons (ds_if (DW.pt (dw_or (dt_cmp (dop_in (hu66 hr)) de_int (de_var 2)) (dw_or1 (DW.pt (dw_and (dt_cmp dop_gt (de_var 1) de_int) (dw_and1 (dt_cmp dop_isN (de_call (ok_dots_of T) (hr.mono (Nat.le_trans (by decide) (Nat.le_add_right _ _))) T.m_dots_of T.F_dots_of.kp T.b_dots_of tk (da_cons (de_var 3) da_nil)) de_non))))))) (dss_one (ds_ret de_int)) dss_nil)
  (dss_one (ds_ret (de_var 3))))))))
theorem ok_is_tree (T : Tx K mg A) : FnG P w K mg base 8 A.f_is_tree A.d_is_tree ["thing"] (M_is_tree A) :=
  fn_mkD (n := 1) (b := ds_is_tree A) rfl rfl T.F_is_tree sc_is_tree fun cdv AA outer s H E hr tk hp => by
    unfold ds_is_tree
    exact (dss_one (ds_ret (de_chain dop_le dop_le pure_fI de_int (de_call (ok_u_pulses T 6) (hr.mono (by decide)) T.m_u_pulses T.F_u_pulses.kp T.b_u_pulses tk (da_cons (de_var 0) (da_cons de_int da_nil))) (de_globI rfl (T.g_MOST_PULSES).choose_spec))))
theorem ok_u_nodes (T : Tx K mg A) : ∀ n : Nat, FnG P w K mg base (0 + n) A.f_u_nodes A.d_u_nodes ["tree", "begin", "depth"] (M_u_nodes A n)
  | 0 => fn_none
  | n + 1 => by
    have ih := ok_u_nodes T n
    refine fn_mkD (n := 7) (b := ds_u_nodes A (M_u_nodes A n)) rfl rfl T.F_u_nodes sc_u_nodes fun cdv AA outer s H E hr tk hp => ?_
    generalize M_u_nodes A n = go at ih ⊢
    unfold ds_u_nodes
    exact (dss_cons (ds_if (dt_cmp (dop_eq (hu64 hr)) (de_var 0) de_int) (dss_one (ds_ret (de_lst (da_cons (de_tup (da_cons (de_var 1) (da_cons (de_op dop_add (de_var 1) de_int) (da_cons (de_var 2) da_nil)))) da_nil)))) dss_nil)
  (dss_cons (ds_set (i := 3) sc_u_nodes.nd (de_lst da_nil))
  (dss_cons (ds_set (i := 4) sc_u_nodes.nd (de_var 1))
  (dss_cons (ds_for hp rfl (di_tup (de_var 0)) (dg_name (i := 5) sc_u_nodes.nd) (dss_cons (ds_set (i := 6) sc_u_nodes.nd (de_call (ih) hr T.m_u_nodes T.F_u_nodes.kp T.b_u_nodes tk (da_cons (de_var 5) (da_cons (de_var 4) (da_cons (de_op dop_add (de_var 2) de_int) da_nil)))))
  (dss_cons (ds_expr (de_bm PySem.F.plainAttrs_list PySem.F.slot_list_extend PySem.F.type_list_extend dm_extend (de_var 3) (da_cons (de_var 6) da_nil)))
  (dss_one (ds_set (i := 4) sc_u_nodes.nd (de_ix (de_ix (de_var 6) de_int) de_int))))))
  (dss_one (ds_ret (de_op dop_add (de_lst (da_cons (de_tup (da_cons (de_var 1) (da_cons (de_var 4) (da_cons (de_var 2) da_nil)))) da_nil)) (de_var 3))))))))
theorem ok_u_borders (T : Tx K mg A) : FnG P w K mg base 7 A.f_u_borders A.d_u_borders ["tree"] (M_u_borders A) :=
  fn_mkD (n := 7) (b := ds_u_borders A) rfl rfl T.F_u_borders sc_u_borders fun cdv AA outer s H E hr tk hp => by
    unfold ds_u_borders
    exact (dss_cons (ds_set (i := 1) sc_u_borders.nd (de_call (ok_u_nodes T 6) (hr.mono (by decide)) T.m_u_nodes T.F_u_nodes.kp T.b_u_nodes tk (da_cons (de_var 0) (da_cons de_int (da_cons de_int da_nil)))))
  (dss_cons (ds_set (i := 2) sc_u_borders.nd de_dnew)
  (dss_cons (ds_for hp rfl (di_list (de_var 1)) (dg_tup rfl (dgs_cons (dg_name (i := 3) sc_u_borders.nd) (dgs_cons (dg_name (i := 4) sc_u_borders.nd) (dgs_cons (dg_name (i := 5) sc_u_borders.nd) dgs_nil)))) (dss_one (ds_expr (de_dsetd (de_var 2) (de_var 3) (de_var 5)))))
  (dss_one (ds_ret (de_callTy dc_tuple rfl T.z_tuple (by decide +kernel) (da_cons (de_op dop_add (de_lc (own := [("pulse", 6)]) rfl sc_u_borders.nd (di_range1 rfl T.z_range (da_cons (de_ix (de_ix (de_var 1) de_int) de_int) da_nil)) (blkOk_by (own := [("pulse", 6)]) (N := ["tree", "nodes", "levels", "begin", "_", "depth", "pulse"]) (sc := defScope s_u_borders) (by decide +kernel)) (ng_name (by decide)) (fun _ _ _ _ _ => (pg_name (i := 6) sc_u_borders.nd rfl (Or.inl rfl))) (fun _ _ _ _ _ => dts_nil) (fun _ _ _ _ _ => (de_dix (hu1 hr) (de_var 2) (de_var 6)))) (de_lst (da_cons de_int da_nil))) da_nil)))))))
theorem ok_Metre_uu_init_ (T : Tx K mg A) : FnG P w K mg base 9 A.f_Metre_uu_init_ A.d_Metre_uu_init_ ["self", "tree"] (M_Metre_uu_init_ A) :=
  fn_mkD (n := 2) (b := ds_Metre_uu_init_ A) rfl rfl T.F_Metre_uu_init_ sc_Metre_uu_init_ fun cdv AA outer s H E hr tk hp => by
    unfold ds_Metre_uu_init_
    exact (dss_cons (ds_if (dt_not (dt_truth (de_call (ok_is_tree T) (hr.mono (by decide)) T.m_is_tree T.F_is_tree.kp T.b_is_tree tk (da_cons (de_var 1) da_nil)))) (dss_one ds_never) dss_nil)
  (dss_cons (ds_fld T.cl_Metre T.n_Metre_tree (de_var 0) (de_var 1))
  (dss_cons (ds_fld T.cl_Metre T.n_Metre_borders (de_var 0) (de_call (ok_u_borders T) (hr.mono (by decide)) T.m_u_borders T.F_u_borders.kp T.b_u_borders tk (da_cons (de_var 1) da_nil)))
  (dss_cons (ds_fld T.cl_Metre T.n_Metre_pulses (de_var 0) (de_op dop_sub (de_callB dc_len rfl T.z_len (by decide +kernel) (da_cons (de_fld T.cl_Metre T.n_Metre_borders (de_var 0)) da_nil)) de_int))
  (dss_one (ds_fld T.cl_Metre T.n_Metre_depth (de_var 0) (de_callB (dc_maxA rfl (hu66 hr)) rfl T.z_max (by decide +kernel) (da_cons (de_fld T.cl_Metre T.n_Metre_borders (de_var 0)) da_nil))))))))
theorem ok_is_bits (T : Tx K mg A) : FnG P w K mg base 1 A.f_is_bits A.d_is_bits ["thing"] (M_is_bits A) :=
  fn_mkD (n := 1) (b := ds_is_bits A) rfl rfl T.F_is_bits sc_is_bits fun cdv AA outer s H E hr tk hp => by
    unfold ds_is_bits
    exact (dss_cons (ds_if (DW.pt (dw_or (dt_not (dt_truth (de_callB dc_isi rfl T.z_isinstance (by decide +kernel) (da_cons (de_var 0) (da_cons (de_ty rfl T.z_str (by decide +kernel)) da_nil))))) (dw_or1 (dt_cmp (dop_ne (hu64 hr)) (de_bm PySem.F.plainAttrs_str PySem.F.slot_str_strip PySem.F.type_str_strip dm_strip (de_var 0) (da_cons de_str da_nil)) de_str)))) (dss_one (ds_ret de_bl)) dss_nil)
  (dss_one (ds_ret (de_orT (de_cmp (dop_eq (hu64 hr)) (de_var 0) de_str) (de_one (de_bm PySem.F.plainAttrs_str PySem.F.slot_str_endswith PySem.F.type_str_endswith dm_endswith (de_var 0) (da_cons de_str da_nil)))))))
theorem ok_Metre_is_point (T : Tx K mg A) : FnG P w K mg base 2 A.f_Metre_is_point A.d_Metre_is_point ["self", "thing"] (M_Metre_is_point A) :=
  fn_mkD (n := 4) (b := ds_Metre_is_point A) rfl rfl T.F_Metre_is_point sc_Metre_is_point fun cdv AA outer s H E hr tk hp => by
    unfold ds_Metre_is_point
    exact (dss_cons (ds_if (DW.pt (dw_or (dt_not (dt_truth (de_callB dc_isi rfl T.z_isinstance (by decide +kernel) (da_cons (de_var 1) (da_cons (de_ty rfl T.z_tuple (by decide +kernel)) da_nil))))) (dw_or1 (dt_cmp (dop_ne (hu64 hr)) (de_callB dc_len rfl T.z_len (by decide +kernel) (da_cons (de_var 1) da_nil)) de_int)))) (dss_one (ds_ret de_bl)) dss_nil)
  (dss_cons (ds_asg (de_var 1) (dg_tup rfl (dgs_cons (dg_name (i := 2) sc_Metre_is_point.nd) (dgs_cons (dg_name (i := 3) sc_Metre_is_point.nd) dgs_nil))))
  (dss_cons (ds_if (DW.pt (dw_or (dt_not (dt_truth (de_call (ok_is_number T) (hr.mono (by decide)) T.m_is_number T.F_is_number.kp T.b_is_number tk (da_cons (de_var 2) da_nil)))) (dw_or1 (dt_not (dt_truth (de_call (ok_is_bits T) (hr.mono (by decide)) T.m_is_bits T.F_is_bits.kp T.b_is_bits tk (da_cons (de_var 3) da_nil))))))) (dss_one (ds_ret de_bl)) dss_nil)
  (dss_one (ds_ret (de_orT (de_chain dop_le dop_lt pure_fI de_int (de_var 2) (de_fld T.cl_Metre T.n_Metre_pulses (de_var 0))) (de_one (de_andT (de_cmp (dop_eq (hu64 hr)) (de_var 2) (de_fld T.cl_Metre T.n_Metre_pulses (de_var 0))) (de_one (de_cmp (dop_eq (hu64 hr)) (de_var 3) de_str))))))))))
theorem ok_Metre_level (T : Tx K mg A) : FnG P w K mg base 3 A.f_Metre_level A.d_Metre_level ["self", "point"] (M_Metre_level A) :=
  fn_mkD (n := 4) (b := ds_Metre_level A) rfl rfl T.F_Metre_level sc_Metre_level fun cdv AA outer s H E hr tk hp => by
    unfold ds_Metre_level
    exact (dss_cons (ds_if (dt_not (dt_truth (de_meth (de_var 0) T.cl_Metre T.me_Metre_is_point (ok_Metre_is_point T) (hr.mono (by decide)) T.b_Metre_is_point tk (da_cons (de_var 1) da_nil)))) (dss_one (ds_raiseF (k := 0) ⟨T.oc_BadPoint, T.xm_BadPoint, ⟨_, _, T.xa_BadPoint, T.xt2_BadPoint, T.xb_BadPoint, xi_BadPoint T⟩⟩ rfl (hr.mono (by decide)) tk (de_var 1))) dss_nil)
  (dss_cons (ds_asg (de_var 1) (dg_tup rfl (dgs_cons (dg_name (i := 2) sc_Metre_level.nd) (dgs_cons (dg_name (i := 3) sc_Metre_level.nd) dgs_nil))))
  (dss_cons (ds_if (dt_cmp (dop_eq (hu64 hr)) (de_var 3) de_str) (dss_one (ds_ret (de_ix (de_fld T.cl_Metre T.n_Metre_borders (de_var 0)) (de_var 2)))) dss_nil)
  (dss_one (ds_ret (de_op dop_add (de_fld T.cl_Metre T.n_Metre_depth (de_var 0)) (de_callB dc_len rfl T.z_len (by decide +kernel) (da_cons (de_var 3) da_nil))))))))
theorem ok_u_law_begin (T : Tx K mg A) : FnG P w K mg base 1 A.f_u_law_begin A.d_u_law_begin ["_law_cell", "_law_turn"] (M_u_law_begin A) :=
  fn_mkD (n := 2) (b := ds_u_law_begin A) rfl rfl T.F_u_law_begin sc_u_law_begin fun cdv AA outer s H E hr tk hp => by
    unfold ds_u_law_begin
    exact (dss_one (ds_ret (de_lst (da_cons (de_callB (dc_maxA rfl (hu66 hr)) rfl T.z_max (by decide +kernel) (da_cons de_int (da_cons (de_op dop_sub (de_var 0) (de_op dop_pow de_int de_int)) da_nil))) (da_cons (de_op dop_add (de_var 0) (de_op dop_mul de_int (de_var 1))) (da_cons de_int da_nil))))))
theorem ok_u_law_draw (T : Tx K mg A) : FnG P w K mg base 1 A.f_u_law_draw A.d_u_law_draw ["_law_state", "_law_size_here"] (M_u_law_draw A) :=
  fn_mkD (n := 3) (b := ds_u_law_draw A) rfl rfl T.F_u_law_draw sc_u_law_draw fun cdv AA outer s H E hr tk hp => by
    unfold ds_u_law_draw
    exact (dss_cons (ds_if (dt_cmp dop_gt (de_ix (de_var 0) de_int) de_int) (dss_cons (ds_set (i := 2) sc_u_law_draw.nd (de_op dop_mod (de_callTy dc_int rfl T.z_int (by decide +kernel) (da_cons (de_ix (de_var 0) de_int) da_nil)) (de_var 1)))
  (dss_cons (ds_asg (de_op dop_div (de_ix (de_var 0) de_int) (de_var 1)) (dg_sub (W := EW E) (de_var 0) de_int))
  (dss_one (ds_ret (de_var 2))))) dss_nil)
  (dss_cons (ds_asg (de_op dop_add (de_ix (de_var 0) de_int) de_int) (dg_sub (W := EW E) (de_var 0) de_int))
  (dss_cons (ds_set (i := 2) sc_u_law_draw.nd (de_op dop_add (de_op dop_mod (de_callTy dc_int rfl T.z_int (by decide +kernel) (da_cons (de_ix (de_var 0) de_int) da_nil)) de_int) (de_op dop_mul de_int (de_ix (de_var 0) de_int))))
  (dss_cons (ds_set (i := 2) sc_u_law_draw.nd (de_op dop_mul (de_var 2) (de_op dop_add (de_op dop_add (de_op dop_mod (de_callTy dc_int rfl T.z_int (by decide +kernel) (da_cons (de_ix (de_var 0) de_int) da_nil)) de_int) (de_op dop_mul (de_op dop_mul de_int (de_ix (de_var 0) de_int)) (de_ix (de_var 0) de_int))) de_int)))
  (dss_one (ds_ret (de_op dop_mod (de_callTy dc_int rfl T.z_int (by decide +kernel) (da_cons (de_op dop_div (de_op dop_mod (de_callTy dc_int rfl T.z_int (by decide +kernel) (da_cons (de_op dop_pow (de_var 2) de_int) da_nil)) de_int) de_int) da_nil)) (de_var 1))))))))
theorem ok_u_law_pick (T : Tx K mg A) : FnG P w K mg base 2 A.f_u_law_pick A.d_u_law_pick ["_law_state", "_law_items"] (M_u_law_pick A) :=
  fn_mkD (n := 2) (b := ds_u_law_pick A) rfl rfl T.F_u_law_pick sc_u_law_pick fun cdv AA outer s H E hr tk hp => by
    unfold ds_u_law_pick
    exact (dss_one (ds_ret (de_ix (de_var 1) (de_call (ok_u_law_draw T) (hr.mono (by decide)) T.m_u_law_draw T.F_u_law_draw.kp T.b_u_law_draw tk (da_cons (de_var 0) (da_cons (de_callB dc_len rfl T.z_len (by decide +kernel) (da_cons (de_var 1) da_nil)) da_nil))))))
theorem ok_u_law_size (T : Tx K mg A) : ∀ n : Nat, FnG P w K mg base (0 + n) A.f_u_law_size A.d_u_law_size ["_law_tree_here"] (M_u_law_size A n)
  | 0 => fn_none
  | n + 1 => by
    have ih := ok_u_law_size T n
    refine fn_mkD (n := 2) (b := ds_u_law_size A (M_u_law_size A n)) rfl rfl T.F_u_law_size sc_u_law_size fun cdv AA outer s H E hr tk hp => ?_
    generalize M_u_law_size A n = go at ih ⊢
    unfold ds_u_law_size
    exact (dss_one (ds_ret (de_if (dt_cmp (dop_eq (hu64 hr)) (de_var 0) de_int) de_int (de_callB (dc_sum rfl) rfl T.z_sum (by decide +kernel) (da_cons (de_lc (own := [("_law_child", 1)]) rfl sc_u_law_size.nd (di_tup (de_var 0)) (blkOk_by (own := [("_law_child", 1)]) (N := ["_law_tree_here", "_law_child"]) (sc := defScope s_u_law_size) (by decide +kernel)) (ng_name (by decide)) (fun _ _ _ _ _ => (pg_name (i := 1) sc_u_law_size.nd rfl (Or.inl rfl))) (fun _ _ _ _ _ => dts_nil) (fun _ _ _ _ _ => (de_call (ih) hr T.m_u_law_size T.F_u_law_size.kp T.b_u_law_size takes0 (da_cons (de_var 1) da_nil)))) da_nil)))))
theorem ok_u_law_is_value (T : Tx K mg A) : FnG P w K mg base 1 A.f_u_law_is_value A.d_u_law_is_value ["_law_size_here"] (M_u_law_is_value A) :=
  fn_mkD (n := 1) (b := ds_u_law_is_value A) rfl rfl T.F_u_law_is_value sc_u_law_is_value fun cdv AA outer s H E hr tk hp => by
    unfold ds_u_law_is_value
    exact (dss_cons (ds_while 8 hp (DW.pt (dw_and (dt_cmp dop_gt (de_var 0) de_int) (dw_and1 (dt_cmp (dop_eq (hu64 hr)) (de_op dop_mod (de_callTy dc_int rfl T.z_int (by decide +kernel) (da_cons (de_var 0) da_nil)) de_int) de_int)))) (dss_one (ds_set (i := 0) sc_u_law_is_value.nd (de_op dop_div (de_var 0) de_int))))
  (dss_one (ds_ret (de_cmp (dop_in (hu66 hr)) (de_var 0) (de_tup (da_cons de_int (da_cons de_int (da_cons de_int da_nil))))))))
theorem ok_u_law_wild (T : Tx K mg A) : ∀ n : Nat, FnG P w K mg base (1 + n) A.f_u_law_wild A.d_u_law_wild ["_law_state", "_law_deep"] (M_u_law_wild A n)
  | 0 => fn_none
  | n + 1 => by
    have ih := ok_u_law_wild T n
    refine fn_mkD (n := 3) (b := ds_u_law_wild A (M_u_law_wild A n)) rfl rfl T.F_u_law_wild sc_u_law_wild fun cdv AA outer s H E hr tk hp => ?_
    generalize M_u_law_wild A n = go at ih ⊢
    unfold ds_u_law_wild
    exact (dss_cons (ds_if (DW.pt (dw_or (dt_cmp (dop_eq (hu64 hr)) (de_var 1) de_int) (dw_or1 (dt_cmp (dop_eq (hu64 hr)) (de_call (ok_u_law_draw T) (hr.mono (Nat.le_trans (by decide) (Nat.le_add_right _ _))) T.m_u_law_draw T.F_u_law_draw.kp T.b_u_law_draw tk (da_cons (de_var 0) (da_cons de_int da_nil))) de_int)))) (dss_one (ds_ret de_int)) dss_nil)
  (dss_one (ds_ret (de_callTy dc_tuple rfl T.z_tuple (by decide +kernel) (da_cons (de_lc (own := [("_law_turn", 2)]) rfl sc_u_law_wild.nd (di_range1 rfl T.z_range (da_cons (de_op dop_add de_int (de_callTy dc_int rfl T.z_int (by decide +kernel) (da_cons (de_cmp (dop_eq (hu64 hr)) (de_call (ok_u_law_draw T) (hr.mono (Nat.le_trans (by decide) (Nat.le_add_right _ _))) T.m_u_law_draw T.F_u_law_draw.kp T.b_u_law_draw tk (da_cons (de_var 0) (da_cons de_int da_nil))) de_int) da_nil))) da_nil)) (blkOk_by (own := [("_law_turn", 2)]) (N := ["_law_state", "_law_deep", "_law_turn"]) (sc := defScope s_u_law_wild) (by decide +kernel)) (ng_name (by decide)) (fun _ _ _ _ _ => (pg_name (i := 2) sc_u_law_wild.nd rfl (Or.inl rfl))) (fun _ _ _ _ _ => dts_nil) (fun _ _ _ _ _ => (de_call (ih) hr T.m_u_law_wild T.F_u_law_wild.kp T.b_u_law_wild takes0 (da_cons (de_var 0) (da_cons (de_op dop_sub (de_var 1) de_int) da_nil))))) da_nil)))))
theorem ok_u_law_fits (T : Tx K mg A) : ∀ n : Nat, FnG P w K mg base (6 + n) A.f_u_law_fits A.d_u_law_fits ["_law_tree_here"] (M_u_law_fits A n)
  | 0 => fn_none
  | n + 1 => by
    have ih := ok_u_law_fits T n
    refine fn_mkD (n := 2) (b := ds_u_law_fits A (M_u_law_fits A n)) rfl rfl T.F_u_law_fits sc_u_law_fits fun cdv AA outer s H E hr tk hp => ?_
    generalize M_u_law_fits A n = go at ih ⊢
    unfold ds_u_law_fits
    exact (dss_cons (ds_if (dt_cmp (dop_eq (hu64 hr)) (de_var 0) de_int) (dss_one (ds_ret de_bl)) dss_nil)
  (dss_one (ds_ret (de_cmp (dop_eq (hu64 hr)) (de_lc (own := [("_law_child", 1)]) rfl sc_u_law_fits.nd (di_tup (de_var 0)) (blkOk_by (own := [("_law_child", 1)]) (N := ["_law_tree_here", "_law_child"]) (sc := defScope s_u_law_fits) (by decide +kernel)) (ng_name (by decide)) (fun _ _ _ _ _ => (pg_name (i := 1) sc_u_law_fits.nd rfl (Or.inl rfl))) (fun _ _ _ _ _ => (dts_one (DW.pt (dw_or (dt_not (dt_truth (de_call (ok_u_law_is_value T) (hr.mono (Nat.le_trans (by decide) (Nat.le_add_right _ _))) T.m_u_law_is_value T.F_u_law_is_value.kp T.b_u_law_is_value takes0 (da_cons (de_call (ok_u_law_size T 6) (hr.mono (Nat.le_trans (by decide) (Nat.le_add_right _ _))) T.m_u_law_size T.F_u_law_size.kp T.b_u_law_size takes0 (da_cons (de_var 1) da_nil)) da_nil)))) (dw_or1 (dt_not (dt_truth (de_call (ih) hr T.m_u_law_fits T.F_u_law_fits.kp T.b_u_law_fits takes0 (da_cons (de_var 1) da_nil))))))))) (fun _ _ _ _ _ => (de_var 1))) (de_lst da_nil)))))
theorem ok_u_law_tree (T : Tx K mg A) : FnG P w K mg base 13 A.f_u_law_tree A.d_u_law_tree ["_law_state"] (M_u_law_tree A) :=
  fn_mkD (n := 6) (b := ds_u_law_tree A) rfl rfl T.F_u_law_tree sc_u_law_tree fun cdv AA outer s H E hr tk hp => by
    unfold ds_u_law_tree
    exact (dss_cons (ds_set (i := 1) sc_u_law_tree.nd (de_call (ok_u_law_wild T 6) (hr.mono (by decide)) T.m_u_law_wild T.F_u_law_wild.kp T.b_u_law_wild tk (da_cons (de_var 0) (da_cons (de_call (ok_u_law_pick T) (hr.mono (by decide)) T.m_u_law_pick T.F_u_law_pick.kp T.b_u_law_pick tk (da_cons (de_var 0) (da_cons (de_lst (da_cons de_int (da_cons de_int (da_cons de_int (da_cons de_int (da_cons de_int da_nil)))))) da_nil))) da_nil))))
  (dss_cons (ds_if (DW.pt (dw_and (dt_cmp dop_le (de_call (ok_u_law_size T 6) (hr.mono (by decide)) T.m_u_law_size T.F_u_law_size.kp T.b_u_law_size tk (da_cons (de_var 1) da_nil)) de_int) (dw_and1 (dt_truth (de_call (ok_u_law_fits T 6) (hr.mono (by decide)) T.m_u_law_fits T.F_u_law_fits.kp T.b_u_law_fits tk (da_cons (de_var 1) da_nil)))))) (dss_one (ds_ret (de_var 1))) dss_nil)
  (dss_cons (ds_asg (de_tup (da_cons (de_tup (da_cons de_int (da_cons de_int da_nil))) (da_cons (de_tup (da_cons de_int (da_cons de_int (da_cons de_int da_nil)))) da_nil))) (dg_tup rfl (dgs_cons (dg_name (i := 4) sc_u_law_tree.nd) (dgs_cons (dg_name (i := 5) sc_u_law_tree.nd) dgs_nil))))
  (dss_cons (ds_set (i := 2) sc_u_law_tree.nd (de_tup (da_cons (de_var 4) (da_cons (de_var 4) da_nil))))
  (dss_cons (ds_set (i := 3) sc_u_law_tree.nd (de_lst (da_cons (de_var 2) (da_cons (de_tup (da_cons (de_var 5) (da_cons (de_var 5) da_nil))) (da_cons (de_tup (da_cons (de_var 5) (da_cons (de_var 4) da_nil))) (da_cons (de_tup (da_cons (de_var 5) (da_cons (de_var 5) (da_cons (de_var 5) da_nil)))) da_nil))))))
  (dss_one (ds_ret (de_call (ok_u_law_pick T) (hr.mono (by decide)) T.m_u_law_pick T.F_u_law_pick.kp T.b_u_law_pick tk (da_cons (de_var 0) (da_cons (de_op dop_add (de_var 3) (de_lst (da_cons (de_tup (da_cons (de_var 2) (da_cons (de_var 2) da_nil))) (da_cons (de_tup (da_cons (de_var 4) (da_cons (de_var 4) (da_cons (de_var 5) da_nil)))) da_nil)))) da_nil))))))))))
theorem hi_u_law_told (A : Ax) (f : Addr) (wk : M D) (s : Sto) : M_u_law_told A f wk s = M_u_law_told A 0 wk s := by
  unfold M_u_law_told ds_u_law_told
  rw [runFn_fin, runFn_fin]
  refine fin_first (s1 := s) (by first | rfl | exact asg_two) (by first | rfl | exact asg_two) (fin_try ?_ ?_)
  rotate_left
  · rfl
  first
    | exact wk_drop rfl rfl (fun _ => by first | exact fin_ret rfl | exact fin_ifret rfl rfl fun _ => fin_ret rfl) (fun _ _ => by first | exact fin_ret rfl | exact fin_ifret rfl rfl fun _ => fin_ret rfl)
    | exact wk_asg rfl rfl (fun _ _ => by first | exact fin_ret rfl | exact fin_ifret rfl rfl fun _ => fin_ret rfl) (fun _ _ => by first | exact fin_ret rfl | exact fin_ifret rfl rfl fun _ => fin_ret rfl)
theorem ok_u_law_told (T : Tx K mg A) (AA : Around) (outer : List Env) (cdv : Value) (f : Addr) (wk : M D) (s : Shared) (H : Hp) (E : XK) (f0 : List Addr) (hr : RoomG 0 (Bx P w K mg base ["_law_work", "error", "_law_caught", "_law_found"] "_law_told" (defScope s_u_law_told) A.f_u_law_told cdv AA outer s H E).A) (tk : Takes (Bx P w K mg base ["_law_work", "error", "_law_caught", "_law_found"] "_law_told" (defScope s_u_law_told) A.f_u_law_told cdv AA outer s H E) (EW E)) (hp : PassesOwn (model P w) (Bx P w K mg base ["_law_work", "error", "_law_caught", "_law_found"] "_law_told" (defScope s_u_law_told) A.f_u_law_told cdv AA outer s H E).A (Bx P w K mg base ["_law_work", "error", "_law_caught", "_law_found"] "_law_told" (defScope s_u_law_told) A.f_u_law_told cdv AA outer s H E).env (Bx P w K mg base ["_law_work", "error", "_law_caught", "_law_found"] "_law_told" (defScope s_u_law_told) A.f_u_law_told cdv AA outer s H E).xe)
    (hw : ∀ (W : WX) (pn : List (Addr × Obj)) (xe : Value → Shared → Prop) (p1 p2 : Pos), Takes ((Bx P w K mg base ["_law_work", "error", "_law_caught", "_law_found"] "_law_told" (defScope s_u_law_told) A.f_u_law_told cdv AA outer s H E).tr pn xe) W → DEp ((Bx P w K mg base ["_law_work", "error", "_law_caught", "_law_found"] "_law_told" (defScope s_u_law_told) A.f_u_law_told cdv AA outer s H E).tr pn xe) W f0 H (.Call (.Name "_law_work" p1) [] [] p2) (dWk 0 f wk)) :
    DSsp (Bx P w K mg base ["_law_work", "error", "_law_caught", "_law_found"] "_law_told" (defScope s_u_law_told) A.f_u_law_told cdv AA outer s H E) (EW E) f0 H (defBody s_u_law_told) (ds_u_law_told A f wk) := by
  unfold ds_u_law_told
  exact (dssp_cons (DSt.p (ds_asg (de_tup (da_cons de_non (da_cons de_non da_nil))) (dg_tup rfl (dgs_cons (dg_name (i := 2) sc_u_law_told.nd) (dgs_cons (dg_name (i := 3) sc_u_law_told.nd) dgs_nil)))))
  (dssp_cons (dsp_tryK (L := [A.c_BadPoint]) (i := 1) (j := 2) rfl rfl sc_u_law_told.nd (by decide) (all_cons T.xx_RhythmError_BadPoint all_nil) ⟨rfl, by decide, .inl T.xm_RhythmError⟩ (fun W pn xe tk hp => (dssp_one (dsp_set (i := 3) sc_u_law_told.nd (hw W pn xe _ _ tk)))) (fun _ _ => ds_set (i := 2) sc_u_law_told.nd (de_var 1)))
  (dssp_cons (DSt.p (ds_if (dt_cmp dop_isN (de_var 2) de_non) (dss_one (ds_ret (de_var 3))) dss_nil))
  (dssp_one (DSt.p (ds_ret (de_if (dt_truth (de_callB (dc_isiX (Y := [A.c_BadPoint]) (N := []) T.xi_BadPoint T.xt_BadPoint (all_cons T.ix_BadPoint_BadPoint all_nil) all_nil) rfl T.z_isinstance (by decide +kernel) (da_cons (de_var 2) (da_cons (de_globA rfl T.xm_BadPoint) da_nil)))) (de_tup (da_cons de_str (da_cons (de_callB (dc_repr (hgd hr) (hu66 hr)) rfl T.z_repr (by decide +kernel) (da_cons (de_fldX T.xf_BadPoint_point (de_var 2)) da_nil)) da_nil))) (de_tup (da_cons de_str (da_cons de_str da_nil))))))))))
theorem ok_u_law_thing (T : Tx K mg A) : FnG P w K mg base 3 A.f_u_law_thing A.d_u_law_thing ["_law_state", "_law_size_here"] (M_u_law_thing A) :=
  fn_mkD (n := 6) (b := ds_u_law_thing A) rfl rfl T.F_u_law_thing sc_u_law_thing fun cdv AA outer s H E hr tk hp => by
    unfold ds_u_law_thing
    exact (dss_cons (ds_set (i := 2) sc_u_law_thing.nd (de_call (ok_u_law_pick T) (hr.mono (by decide)) T.m_u_law_pick T.F_u_law_pick.kp T.b_u_law_pick tk (da_cons (de_var 0) (da_cons (de_lst (da_cons de_int (da_cons (de_op dop_sub (de_var 1) de_int) (da_cons (de_var 1) (da_cons (de_call (ok_u_law_draw T) (hr.mono (by decide)) T.m_u_law_draw T.F_u_law_draw.kp T.b_u_law_draw tk (da_cons (de_var 0) (da_cons (de_var 1) da_nil))) (da_cons (de_neg de_int) (da_cons (de_op dop_add (de_var 1) de_int) (da_cons de_bl (da_cons de_non (da_cons de_str da_nil)))))))))) da_nil))))
  (dss_cons (ds_set (i := 3) sc_u_law_thing.nd (de_bm PySem.F.plainAttrs_str PySem.F.slot_str_join PySem.F.type_str_join dm_join de_str (da_cons (de_lc (own := [("_law_turn", 5)]) rfl sc_u_law_thing.nd (di_range1 rfl T.z_range (da_cons (de_call (ok_u_law_draw T) (hr.mono (by decide)) T.m_u_law_draw T.F_u_law_draw.kp T.b_u_law_draw tk (da_cons (de_var 0) (da_cons de_int da_nil))) da_nil)) (blkOk_by (own := [("_law_turn", 5)]) (N := ["_law_state", "_law_size_here", "_law_pulse", "_law_bits", "_law_some", "_law_turn"]) (sc := defScope s_u_law_thing) (by decide +kernel)) (ng_name (by decide)) (fun _ _ _ _ _ => (pg_name (i := 5) sc_u_law_thing.nd rfl (Or.inl rfl))) (fun _ _ _ _ _ => dts_nil) (fun _ _ _ _ _ => (de_call (ok_u_law_pick T) (hr.mono (by decide)) T.m_u_law_pick T.F_u_law_pick.kp T.b_u_law_pick takes0 (da_cons (de_var 0) (da_cons de_str da_nil))))) da_nil)))
  (dss_cons (ds_set (i := 4) sc_u_law_thing.nd (de_lst (da_cons (de_var 3) (da_cons (de_op dop_add (de_var 3) de_str) (da_cons (de_op dop_add (de_var 3) de_str) (da_cons (de_op dop_add (de_var 3) de_str) (da_cons de_str (da_cons de_str (da_cons (de_op dop_add (de_var 3) de_str) (da_cons de_int (da_cons de_non (da_cons (de_lst (da_cons de_str da_nil)) (da_cons de_str (da_cons de_str da_nil))))))))))))))
  (dss_cons (ds_set (i := 3) sc_u_law_thing.nd (de_call (ok_u_law_pick T) (hr.mono (by decide)) T.m_u_law_pick T.F_u_law_pick.kp T.b_u_law_pick tk (da_cons (de_var 0) (da_cons (de_var 4) da_nil))))
  (dss_cons (ds_set (i := 4) sc_u_law_thing.nd (de_lst (da_cons (de_lst (da_cons (de_var 2) (da_cons (de_var 3) da_nil))) (da_cons (de_tup (da_cons (de_var 2) da_nil)) (da_cons (de_tup (da_cons (de_var 2) (da_cons (de_var 3) (da_cons de_int da_nil)))) (da_cons (de_var 3) (da_cons de_non (da_cons (de_tup (da_cons (de_var 3) (da_cons (de_var 2) da_nil))) da_nil))))))))
  (dss_one (ds_ret (de_call (ok_u_law_pick T) (hr.mono (by decide)) T.m_u_law_pick T.F_u_law_pick.kp T.b_u_law_pick tk (da_cons (de_var 0) (da_cons (de_op dop_add (de_op dop_mul (de_lst (da_cons (de_tup (da_cons (de_var 2) (da_cons (de_var 3) da_nil))) da_nil)) de_int) (de_var 4)) da_nil))))))))))
theorem ok_u_law_is_point (T : Tx K mg A) : FnG P w K mg base 1 A.f_u_law_is_point A.d_u_law_is_point ["_law_size_here", "_law_value"] (M_u_law_is_point A) :=
  fn_mkD (n := 5) (b := ds_u_law_is_point A) rfl rfl T.F_u_law_is_point sc_u_law_is_point fun cdv AA outer s H E hr tk hp => by
    unfold ds_u_law_is_point
    exact (dss_cons (ds_if (DW.pt (dw_or (dt_not (dt_truth (de_callB dc_isi rfl T.z_isinstance (by decide +kernel) (da_cons (de_var 1) (da_cons (de_ty rfl T.z_tuple (by decide +kernel)) da_nil))))) (dw_or1 (dt_cmp (dop_ne (hu64 hr)) (de_callB dc_len rfl T.z_len (by decide +kernel) (da_cons (de_var 1) da_nil)) de_int)))) (dss_one (ds_ret de_bl)) dss_nil)
  (dss_cons (ds_asg (de_var 1) (dg_tup rfl (dgs_cons (dg_name (i := 2) sc_u_law_is_point.nd) (dgs_cons (dg_name (i := 3) sc_u_law_is_point.nd) dgs_nil))))
  (dss_cons (ds_if (DW.pt (dw_or (dt_not (dt_truth (de_callB dc_isi rfl T.z_isinstance (by decide +kernel) (da_cons (de_var 2) (da_cons (de_ty rfl T.z_int (by decide +kernel)) da_nil))))) (dw_or (dt_truth (de_callB dc_isi rfl T.z_isinstance (by decide +kernel) (da_cons (de_var 2) (da_cons (de_ty rfl T.z_bool (by decide +kernel)) da_nil)))) (dw_or1 (dt_not (dt_truth (de_callB dc_isi rfl T.z_isinstance (by decide +kernel) (da_cons (de_var 3) (da_cons (de_ty rfl T.z_str (by decide +kernel)) da_nil))))))))) (dss_one (ds_ret de_bl)) dss_nil)
  (dss_cons (ds_if (DW.pt (dw_or (dt_cmp (dop_ne (hu64 hr)) (de_lc (own := [("_law_sign", 4)]) rfl sc_u_law_is_point.nd (di_str (de_var 3)) (blkOk_by (own := [("_law_sign", 4)]) (N := ["_law_size_here", "_law_value", "_law_pulse", "_law_bits", "_law_sign"]) (sc := defScope s_u_law_is_point) (by decide +kernel)) (ng_name (by decide)) (fun _ _ _ _ _ => (pg_name (i := 4) sc_u_law_is_point.nd rfl (Or.inl rfl))) (fun _ _ _ _ _ => (dts_one (dt_cmp (dop_notIn (hu66 hr)) (de_var 4) de_str))) (fun _ _ _ _ _ => (de_var 4))) (de_lst da_nil)) (dw_or1 (dt_cmp (dop_eq (hu64 hr)) (de_sl (de_var 3) (dp_some (de_neg de_int)) dp_none) de_str)))) (dss_one (ds_ret de_bl)) dss_nil)
  (dss_one (ds_ret (de_orT (de_chain dop_le dop_lt pure_fI de_int (de_var 2) (de_var 0)) (de_one (de_andT (de_cmp (dop_eq (hu64 hr)) (de_var 2) (de_var 0)) (de_one (de_cmp (dop_eq (hu64 hr)) (de_var 3) de_str)))))))))))
theorem ok_law (T : Tx K mg A) (TB : LamX.TabB base mg A.ct A.pt) : FnG P w K mg base 14 A.f_law A.d_law ["_law_script"] (M_law A) :=
  fn_mkC (n := 12) (b := ds_law A) rfl rfl T.F_law sc_law T.cd_law fun AA outer s H E hr tk hp => by
    unfold ds_law
    exact (dss_cons (ds_for hp rfl (di_enum rfl T.z_enumerate (da_cons (de_sl (de_orT (de_var 0) (de_one (de_lst (da_cons de_int da_nil)))) dp_none (dp_some de_int)) da_nil)) (dg_tup rfl (dgs_cons (dg_name (i := 1) sc_law.nd) (dgs_cons (dg_name (i := 2) sc_law.nd) dgs_nil))) (dss_cons (ds_set (i := 3) sc_law.nd (de_call (ok_u_law_begin T) (hr.mono (by decide)) T.m_u_law_begin T.F_u_law_begin.kp T.b_u_law_begin tk (da_cons (de_var 2) (da_cons (de_var 1) da_nil))))
  (dss_cons (ds_set (i := 4) sc_law.nd (de_call (ok_u_law_tree T) (hr.mono (by decide)) T.m_u_law_tree T.F_u_law_tree.kp T.b_u_law_tree tk (da_cons (de_var 3) da_nil)))
  (dss_cons (ds_asg (de_tup (da_cons (de_make T.mk_Metre (ok_Metre_uu_init_ T) (hr.mono (by decide)) T.mc_Metre T.b_Metre_uu_init_ tk (da_cons (de_var 4) da_nil)) (da_cons (de_call (ok_u_law_size T 6) (hr.mono (by decide)) T.m_u_law_size T.F_u_law_size.kp T.b_u_law_size tk (da_cons (de_var 4) da_nil)) da_nil))) (dg_tup rfl (dgs_cons (dg_name (i := 7) sc_law.nd) (dgs_cons (dg_name (i := 8) sc_law.nd) dgs_nil))))
  (dss_cons (ds_for hp rfl (di_range1 rfl T.z_range (da_cons de_int da_nil)) (dg_name (i := 5) sc_law.nd) (dss_cons (ds_set (i := 9) sc_law.nd (de_call (ok_u_law_thing T) (hr.mono (by decide)) T.m_u_law_thing T.F_u_law_thing.kp T.b_u_law_thing tk (da_cons (de_var 3) (da_cons (de_var 8) da_nil))))
  (dss_cons (ds_set (i := 10) sc_law.nd (de_call (ok_u_law_is_point T) (hr.mono (by decide)) T.m_u_law_is_point T.F_u_law_is_point.kp T.b_u_law_is_point tk (da_cons (de_var 8) (da_cons (de_var 9) da_nil))))
  (dss_cons (ds_if (dt_cmp (dop_ne (hu64 hr)) (de_callB (dc_repr (hgd hr) (hu66 hr)) rfl T.z_repr (by decide +kernel) (da_cons (de_lst (da_cons (de_meth (de_var 7) T.cl_Metre T.me_Metre_is_point (ok_Metre_is_point T) (hr.mono (by decide)) T.b_Metre_is_point tk (da_cons (de_var 9) da_nil)) (da_cons (de_methK0 (de_var 7) T.cl_Metre T.me_Metre_is_point (ok_Metre_is_point T) (hr.mono (by decide)) T.kb_Metre_is_point_1_thing tk (dk_cons (de_var 9) dk_nil)) da_nil))) da_nil)) (de_callB (dc_repr (hgd hr) (hu66 hr)) rfl T.z_repr (by decide +kernel) (da_cons (de_lst (da_cons (de_var 10) (da_cons (de_var 10) da_nil))) da_nil))) (dss_one (ds_ret de_bl)) dss_nil)
  (dss_cons (ds_set (i := 11) sc_law.nd (de_lam (k := 11) (c := A.ct) (P := A.pt) (b := ds_u_law_told A) (fM := M_u_law_told A) (fun _ _ => rfl) (hi_u_law_told A) T.m_u_law_told T.F_u_law_told.kp T.F_u_law_told sc_u_law_told T.b_u_law_told hr tk TB rfl (LamX.lamS_by (sc := defScope s_law) (by decide +kernel)) rfl (fun _ _ _ _ _ => rfl) (fun cdv f wk s H E f0 hr tk hp hw => ok_u_law_told T _ _ cdv f wk s H E f0 (hr.mono (by decide)) tk hp hw) (fun _ _ _ _ _ _ _ hr tk => (de_meth (de_var 7) T.cl_Metre T.me_Metre_level (ok_Metre_level T) (hr.mono (by decide)) T.b_Metre_level tk (da_cons (de_var 9) da_nil)))))
  (dss_cons (ds_if (DW.pt (dw_and (dt_not (dt_truth (de_var 10))) (dw_and1 (dt_cmp (dop_ne (hu64 hr)) (de_var 11) (de_tup (da_cons de_str (da_cons (de_callB (dc_repr (hgd hr) (hu66 hr)) rfl T.z_repr (by decide +kernel) (da_cons (de_var 9) da_nil)) da_nil))))))) (dss_one (ds_ret de_bl)) dss_nil)
  (dss_one (ds_if (DW.pt (dw_and (dt_truth (de_var 10)) (dw_and (dt_cmp (dop_ne (hu64 hr)) (de_ix (de_var 9) de_int) de_str) (dw_and1 (dt_cmp (dop_ne (hu64 hr)) (de_var 11) (de_op dop_add (de_fld T.cl_Metre T.n_Metre_depth (de_var 7)) (de_callB dc_len rfl T.z_len (by decide +kernel) (da_cons (de_ix (de_var 9) de_int) da_nil)))))))) (dss_one (ds_ret de_bl)) dss_nil))))))))
  (dss_cons (ds_set (i := 6) sc_law.nd (de_op dop_repS de_str (de_op dop_add de_int (de_call (ok_u_law_draw T) (hr.mono (by decide)) T.m_u_law_draw T.F_u_law_draw.kp T.b_u_law_draw tk (da_cons (de_var 3) (da_cons de_int da_nil))))))
  (dss_one (ds_if (DW.pt (dw_or (dt_cmp (dop_ne (hu64 hr)) (de_methK0 (de_var 7) T.cl_Metre T.me_Metre_level (ok_Metre_level T) (hr.mono (by decide)) T.kb_Metre_level_1_point tk (dk_cons (de_tup (da_cons (de_op dop_sub (de_var 8) de_int) (da_cons (de_var 6) da_nil))) dk_nil)) (de_op dop_add (de_fld T.cl_Metre T.n_Metre_depth (de_var 7)) (de_callB dc_len rfl T.z_len (by decide +kernel) (da_cons (de_var 6) da_nil)))) (dw_or1 (dt_truth (de_meth (de_var 7) T.cl_Metre T.me_Metre_is_point (ok_Metre_is_point T) (hr.mono (by decide)) T.b_Metre_is_point tk (da_cons (de_tup (da_cons de_int (da_cons (de_op dop_add (de_var 6) de_str) da_nil))) da_nil)))))) (dss_one (ds_ret de_bl)) dss_nil))))))))
  (dss_one (ds_ret de_bl)))
end
end My

namespace My
open PySem L2 PyProof.Rows DV
@[simp] theorem atI3_0 {α : Type} {a b c : α} : atI [a, b, c] 0 = some a := rfl
@[simp] theorem atI3_1 {α : Type} {a b c : α} : atI [a, b, c] 1 = some b := rfl
@[simp] theorem atI3_2 {α : Type} {a b c : α} : atI [a, b, c] 2 = some c := rfl
@[simp] theorem ixN3_0 : ixN 3 0 = some 0 := rfl
@[simp] theorem ixN3_2 : ixN 3 2 = some 2 := rfl
theorem draw_pos (A : Ax) {s : Sto} {n : Nat} {a b c m : Int} (hs : lstAt s n = some [.int a, .int b, .int c]) (ha : 0 < a) (hm : 0 < m) (hm2 : m < 1073741824) :
    M_u_law_draw A [.obj n, .int m] s = some (.ok (.int (a.fmod m)), s.set n (.lst [.int (a.fdiv m), .int b, .int c])) := by
  have h1 : modOk a m = true := by unfold modOk; simp; omega
  have h2 : divOk a m = true := by unfold divOk; simp; omega
  simp [M_u_law_draw, ds_u_law_draw, startD, hs, fGt, fMod, fDiv, ha, h1, h2]
theorem fm {b : Int} (a : Int) (h : 0 < b) : 0 ≤ a.fmod b ∧ a.fmod b < b := by
  rw [Int.fmod_eq_emod_of_nonneg _ (Int.le_of_lt h)]
  exact ⟨Int.emod_nonneg _ (by omega), Int.emod_lt_of_pos _ h⟩
theorem pow3 {v : Int} (h : v.natAbs < 2 ^ 200) : powOk v 3 = true := by
  have q : Builtin.Int.intBits v ≤ 200 := by
    unfold Builtin.Int.intBits
    split
    · decide
    · rename_i hz
      have hv : v.natAbs ≠ 0 := fun e => hz (by simpa using e)
      exact (Nat.log2_lt hv).mpr h
  unfold powOk
  simp only [Bool.and_eq_true, decide_eq_true_eq]
  refine ⟨by decide, ?_⟩
  have e : (3 : Int).toNat = 3 := rfl
  rw [e]
  exact Nat.le_trans (Nat.mul_le_mul_right 3 q) (by decide)
def drawI (b c m : Int) : Int :=
  ((((b.fmod 2147483629 + 104729 * c) * (b.fmod 2147483587 + 7919 * c * c + 11)) ^ 3).fmod 2147483647).fdiv 11 |>.fmod m
theorem draw_neg (A : Ax) {s : Sto} {n : Nat} {a b c m : Int} (hs : lstAt s n = some [.int a, .int b, .int c]) (ha : ¬ 0 < a) (hc : 0 ≤ c ∧ c < 100000) (hm : 0 < m) :
    M_u_law_draw A [.obj n, .int m] s = some (.ok (.int (drawI b (c + 1) m)), s.set n (.lst [.int a, .int b, .int (c + 1)])) := by
  have h1 : ∀ i j : Int, j ≠ 0 → modOk i j = true := fun i j h => by unfold modOk; simpa using h
  have h1' : ∀ i : Int, modOk i m = true := fun i => h1 i m (by omega)
  have h2 : ∀ i : Int, divOk i 11 = true := fun i => by unfold divOk; simp
  have h3 := lstAt_set (ys := [.int a, .int b, .int (c + 1)]) hs
  have m1 : mulOk 104729 (c + 1) = true := by unfold mulOk; simp
  have m2 : mulOk 7919 (c + 1) = true := by unfold mulOk; simp
  have m3 : mulOk (7919 * (c + 1)) (c + 1) = true := by
    have : (c + 1).natAbs < 2 ^ 64 := by omega
    unfold mulOk; simp [this]
  have b1 := fm b (show (0 : Int) < 2147483629 by decide)
  have b2 := fm b (show (0 : Int) < 2147483587 by decide)
  have m4 : ∀ v, mulOk (b.fmod 2147483629 + 104729 * (c + 1)) v = true := fun v => by
    have : (b.fmod 2147483629 + 104729 * (c + 1)).natAbs < 2 ^ 64 := by omega
    unfold mulOk; simp [this]
  have sq : 0 ≤ 7919 * (c + 1) * (c + 1) ∧ 7919 * (c + 1) * (c + 1) ≤ 7919 * 100000 * 100000 := by
    have q1 : 7919 * (c + 1) ≤ 7919 * 100000 := by omega
    have q2 : 0 ≤ 7919 * (c + 1) := by omega
    exact ⟨Int.mul_nonneg q2 (by omega), Int.mul_le_mul q1 (by omega) (by omega) (by decide)⟩
  have p3 : powOk ((b.fmod 2147483629 + 104729 * (c + 1)) * (b.fmod 2147483587 + 7919 * (c + 1) * (c + 1) + 11)) 3 = true := pow3 (by
    rw [Int.natAbs_mul]
    have q1 : (b.fmod 2147483629 + 104729 * (c + 1)).natAbs < 2 ^ 64 := by omega
    have q2 : (b.fmod 2147483587 + 7919 * (c + 1) * (c + 1) + 11).natAbs < 2 ^ 64 := by omega
    exact Nat.lt_trans (Nat.mul_lt_mul'' q1 q2) (by decide))
  simp [M_u_law_draw, ds_u_law_draw, startD, hs, fGt, fMod, fDiv, fAdd, fAddI, orOp, fMul, fMulI, fPow, ha, h1, h1', h2, h3, m1, m2, m3, m4, p3, drawI]
/-- k more draws from the state at n -/
def Rnd (s : Sto) (n k : Nat) : Prop := ∃ a b c : Int, lstAt s n = some [.int a, .int b, .int c] ∧ 0 ≤ c ∧ c + k ≤ 100000
/-- all but n stands -/
def Sm (n : Nat) (s s' : Sto) : Prop := s.length ≤ s'.length ∧ ∀ i, i < s.length → i ≠ n → s'[i]? = s[i]?
theorem Sm.refl (n : Nat) (s : Sto) : Sm n s s := ⟨Nat.le_refl _, fun _ _ _ => rfl⟩
theorem Sm.trans {n : Nat} {s s' s'' : Sto} (a : Sm n s s') (b : Sm n s' s'') : Sm n s s'' := ⟨Nat.le_trans a.1 b.1, fun i h e => (b.2 i (Nat.lt_of_lt_of_le h a.1) e).trans (a.2 i h e)⟩
theorem Sm.set {n : Nat} {s : Sto} {o : DO} : Sm n s (s.set n o) := ⟨by rw [List.length_set]; exact Nat.le_refl _, fun i _ e => List.getElem?_set_ne (fun z => e z.symm)⟩
theorem Sm.app {n : Nat} {s : Sto} {l : List DO} : Sm n s (s ++ l) := ⟨by simp, fun i h _ => List.getElem?_append_left h⟩
theorem Sm.lst {n m : Nat} {s s' : Sto} {xs : List D} (h : Sm n s s') (e : lstAt s m = some xs) (ne : m ≠ n) : lstAt s' m = some xs := by
  have q := lstAt_eq e
  unfold lstAt
  rw [h.2 m (List.getElem?_eq_some_iff.mp q).1 ne, q]
theorem Rnd.mono {s : Sto} {n j k : Nat} (h : Rnd s n k) (l : j ≤ k) : Rnd s n j := by
  obtain ⟨a, b, c, e, h1, h2⟩ := h
  exact ⟨a, b, c, e, h1, by omega⟩
theorem Rnd.app {s : Sto} {n k : Nat} {l : List DO} (h : Rnd s n k) : Rnd (s ++ l) n k := by
  obtain ⟨a, b, c, e, h1, h2⟩ := h
  refine ⟨a, b, c, ?_, h1, h2⟩
  have q := lstAt_eq e
  unfold lstAt
  rw [List.getElem?_append_left (List.getElem?_eq_some_iff.mp q).1, q]
theorem draw (A : Ax) {s : Sto} {n k : Nat} {m : Int} (h : Rnd s n (k + 1)) (hm : 0 < m) (hm2 : m < 1073741824) : ∃ v s', M_u_law_draw A [.obj n, .int m] s = some (.ok (.int v), s') ∧ 0 ≤ v ∧ v < m ∧ Rnd s' n k ∧ Sm n s s' := by
  obtain ⟨a, b, c, hs, h1, h2⟩ := h
  by_cases ha : 0 < a
  · exact ⟨_, _, draw_pos A hs ha hm hm2, (fm a hm).1, (fm a hm).2, ⟨_, _, _, lstAt_set hs, h1, by omega⟩, Sm.set⟩
  · exact ⟨_, _, draw_neg A hs ha ⟨h1, by omega⟩ hm, (fm _ hm).1, (fm _ hm).2, ⟨_, _, _, lstAt_set hs, by omega, by omega⟩, Sm.set⟩
theorem pick (A : Ax) {s : Sto} {n j k : Nat} {xs : List D} (h : Rnd s n (k + 1)) (e : lstAt s j = some xs) (ne : j ≠ n) (h0 : 0 < xs.length) (h1 : xs.length < 1000000) : ∃ d s', M_u_law_pick A [.obj n, .obj j] s = some (.ok d, s') ∧ d ∈ xs ∧ Rnd s' n k ∧ Sm n s s' := by
  obtain ⟨v, s', hd, v0, v1, r, sm⟩ := draw A h (m := xs.length) (by omega) (by omega)
  have e' := sm.lst e ne
  have hv : v.toNat < xs.length := by omega
  have ha : atI xs v = some (xs[v.toNat]) := by
    unfold atI ixN
    rw [if_pos v0, if_pos v1]
    exact List.getElem?_eq_getElem hv
  refine ⟨xs[v.toNat], s', ?_, List.getElem_mem hv, r, sm⟩
  simp [M_u_law_pick, ds_u_law_pick, startD, e, hd, e', ha]
end My

namespace My
open PySem L2 PyProof.Rows DV
/-! ### trees -/
inductive Tr where
  | lf | two (a b : Tr) | tri (a b c : Tr)
namespace Tr
def d : Tr → D
  | lf => .int 1
  | two a b => .tup [a.d, b.d]
  | tri a b c => .tup [a.d, b.d, c.d]
def p : Tr → PyData
  | lf => .int 1
  | two a b => .tuple [a.p, b.p]
  | tri a b c => .tuple [a.p, b.p, c.p]
def sz : Tr → Nat
  | lf => 1
  | two a b => a.sz + b.sz
  | tri a b c => a.sz + b.sz + c.sz
def ht : Tr → Nat
  | lf => 0
  | two a b => max a.ht b.ht + 1
  | tri a b c => max a.ht (max b.ht c.ht) + 1
def isLf : Tr → Bool
  | lf => true
  | _ => false
theorem toPy (s : Sto) : ∀ (t : Tr) (n : Nat), t.ht < n → toPy s n t.d = some t.p
  | lf, n + 1, _ => rfl
  | two a b, n + 1, h => by
    simp only [ht] at h
    have h1 := toPy s a n (by omega)
    have h2 := toPy s b n (by omega)
    simp [d, p, DV.toPy, omap, h1, h2]
  | tri a b c, n + 1, h => by
    simp only [ht] at h
    have h1 := toPy s a n (by omega)
    have h2 := toPy s b n (by omega)
    have h3 := toPy s c n (by omega)
    simp [d, p, DV.toPy, omap, h1, h2, h3]
theorem lay : ∀ t : Tr, PyData.canLay0 t.p = true
  | lf => rfl
  | two a b => by simp [p, PyData.canLay0, PyData.canLayAll0, lay a, lay b]
  | tri a b c => by simp [p, PyData.canLay0, PyData.canLayAll0, lay a, lay b, lay c]
theorem dep : ∀ t : Tr, PyData.depth t.p ≤ t.ht
  | lf => Nat.le_refl _
  | two a b => by
    have := dep a
    have := dep b
    simp only [p, PyData.depth, PyData.depthAll, ht]
    omega
  | tri a b c => by
    have := dep a
    have := dep b
    have := dep c
    simp only [p, PyData.depth, PyData.depthAll, ht]
    omega
theorem shp (t : Tr) (h : t.ht ≤ 60) : SeqAt.shaped t.p = true := by
  have := dep t
  simp [SeqAt.shaped, lay t]
  omega
end Tr
theorem py2_int (s : Sto) (i j : Int) : py2 s (.int i) (.int j) = some (.int i, .int j) := rfl
@[simp] theorem fEq_int (s : Sto) (i j : Int) : fEq (.int i) (.int j) s = some (.bl (i == j), s) := rfl
@[simp] theorem fNe_int (s : Sto) (i j : Int) : fNe (.int i) (.int j) s = some (.bl (!(i == j)), s) := rfl
theorem fEq_tr (s : Sto) (t : Tr) (h : t.ht ≤ 60) : fEq t.d (.int 1) s = some (.bl t.isLf, s) := by
  have h1 : py2 s t.d (.int 1) = some (t.p, .int 1) := by
    have q : SeqAt.shaped (PyData.int 1) = true := rfl
    simp [py2, t.toPy s 64 (by omega), DV.toPy, t.shp h, q]
  unfold fEq
  rw [h1]
  cases t <;> rfl
theorem rng2 : rngI 0 2 = ⟨[.int 0, .int 1], none⟩ := rfl
theorem rng3 : rngI 0 3 = ⟨[.int 0, .int 1, .int 2], none⟩ := rfl
theorem le_line {n : Nat} (h : n ≤ 1000) : n ≤ sizeLine := Nat.le_of_lt (small1000 h)
theorem Rnd.set {s : Sto} {n m k : Nat} {o : DO} (h : Rnd s n k) (ne : n ≠ m) : Rnd (s.set m o) n k := by
  obtain ⟨a, b, c, e, h1, h2⟩ := h
  exact ⟨a, b, c, by rw [lstAt_ne ne]; exact e, h1, h2⟩
theorem Rnd.lt {s : Sto} {n k : Nat} (h : Rnd s n k) : n < s.length := by
  obtain ⟨a, b, c, e, h1, h2⟩ := h
  exact lstAt_lt e
theorem Sm.setN {n m : Nat} {s s' : Sto} {o : DO} (h : Sm n s s') (hm : s.length ≤ m) : Sm n s (s'.set m o) := ⟨by rw [List.length_set]; exact h.1, fun i hi e => by rw [List.getElem?_set_ne (by omega)]; exact h.2 i hi e⟩
def Kid (m : Nat) (_ : D) (ys : List D) : Prop := ∃ t : Tr, ys = [t.d] ∧ t.ht ≤ m
/-- the law's drawn trees -/
theorem wild (A : Ax) : ∀ (n : Nat) (deep : Nat) (s : Sto) (st k : Nat), deep < n → Rnd s st (k + 2 * 4 ^ deep) → ∃ t s', M_u_law_wild A n [.obj st, .int deep] s = some (.ok (Tr.d t), s') ∧ t.ht ≤ deep ∧ Rnd s' st k ∧ Sm st s s'
  | 0, _, _, _, _, h, _ => by omega
  | n + 1, deep, s, st, k, h, r => by
    by_cases h0 : deep = 0
    · subst h0
      exact ⟨.lf, s, by simp [M_u_law_wild, ds_u_law_wild, startD, Tr.d], Nat.le_refl _, r.mono (by omega), Sm.refl _ _⟩
    · obtain ⟨m, rfl⟩ : ∃ m, deep = m + 1 := ⟨deep - 1, by omega⟩
      have hp : 4 ^ (m + 1) = 4 * 4 ^ m := by rw [Nat.pow_succ]; omega
      have hp1 : 1 ≤ 4 ^ m := Nat.one_le_pow _ _ (by decide)
      obtain ⟨v, s1, d1, v0, v1, r1, sm1⟩ := draw A (m := 3) (r.mono (show (k + 6 * 4 ^ m + 1) + 1 ≤ _ by omega)) (by decide) (by decide)
      have ne : ((m : Int) + 1 == 0) = false := by simp; omega
      by_cases hv : v = 0
      · subst hv
        exact ⟨.lf, s1, by simp [M_u_law_wild, ds_u_law_wild, startD, Tr.d, ne, d1], Nat.zero_le _, r1.mono (by omega), sm1⟩
      · have ne2 : (v == 0) = false := by simpa using hv
        obtain ⟨w, s2, d2, w0, w1, r2, sm2⟩ := draw A (m := 3) (r1.mono (show (k + 6 * 4 ^ m) + 1 ≤ _ by omega)) (by decide) (by decide)
        -- the children, one by one
        have hz : ∃ (cnt : Nat) (its : List D), (cnt = 2 ∧ its = [.int 0, .int 1] ∨ cnt = 3 ∧ its = [.int 0, .int 1, .int 2]) ∧ rngI 0 (2 + (if w = 0 then 1 else 0 : Int)).toNat = ⟨its, none⟩ ∧ its.length = cnt := by
          by_cases hw : w = 0
          · subst hw
            exact ⟨3, _, .inr ⟨rfl, rfl⟩, rng3, rfl⟩
          · rw [if_neg hw]
            exact ⟨2, _, .inl ⟨rfl, rfl⟩, rng2, rfl⟩
        obtain ⟨cnt, its, hc, hr, hl⟩ := hz
        have hcnt : cnt ≤ 3 := by rcases hc with h | h <;> omega
        have hJ : Rnd (s2 ++ [.lst []]) st (k + its.length * (2 * 4 ^ m)) ∧ Sm st s (s2 ++ [.lst []]) := by
          refine ⟨(r2.app).mono ?_, (sm1.trans sm2).trans Sm.app⟩
          rw [hl]
          have := Nat.mul_le_mul_right (2 * 4 ^ m) hcnt
          omega
        have lt2 : s.length ≤ s2.length := (sm1.trans sm2).1
        have hst : st < s.length := r.lt
        obtain ⟨s', yss, e1, e2, e3, e4⟩ := lc_gen (I := ⟨its, none⟩) (g := gN 2) (tt := dYes) (de := dCl (argN 2 (M_u_law_wild A n)) (dCons (dVar 0) (dCons (dOp fSub (dVar 1) (dC (.int 1))) dNil))) (n := s2.length) (Δ := [some (.obj st), some (.int ((m : Int) + 1)), none])
          (fun j s' => Rnd s' st (k + j * (2 * 4 ^ m)) ∧ Sm st s s') (Kid m) (fun _ _ _ => rfl) (fun j d s' acc hd hj ha => by
            obtain ⟨hj1, hj2⟩ := hj
            obtain ⟨t, s3, w1, w2, w3, w4⟩ := wild A n m s' st (k + j * (2 * 4 ^ m)) (by omega) (hj1.mono (by have := Nat.add_mul j 1 (2 * 4 ^ m); omega))
            refine ⟨_, rfl, .inr ⟨s', t.d, s3, rfl, ?_, w4.lst ha (by omega), ⟨t, rfl, w2⟩, w3.set (by omega), (hj2.trans w4).setN lt2⟩⟩
            simp [fSub, w1]) its _ [] (fun _ h => h) hJ lstAt_new (by rw [hl]; exact le_line (by simp; omega))
        have e2' : lstAt s' s2.length = some yss.flatten := by simpa using e2
        have run : ∀ ys, yss.flatten = ys → M_u_law_wild A (n + 1) [.obj st, .int ((m : Int) + 1)] s = some (.ok (.tup ys), s') := fun ys hy => by
          have hi : rngOk (2 + (if w = 0 then 1 else 0 : Int)) = true := by
            by_cases hw : w = 0 <;> simp [hw, rngOk]
          simp [M_u_law_wild, ds_u_law_wild, startD, ne, ne2, d1, d2, fAdd, fAddI, orOp, hi, hr, wipeD, e1, e2', hy]
        rcases hc with ⟨h1, h2⟩ | ⟨h1, h2⟩ <;> subst h2
        · cases e3 with
          | cons a1 e3 => cases e3 with
            | cons a2 e3 =>
              cases e3
              obtain ⟨t1, rfl, q1⟩ := a1
              obtain ⟨t2, rfl, q2⟩ := a2
              exact ⟨.two t1 t2, s', run _ rfl, by simp only [Tr.ht]; omega, e4.1.mono (by omega), e4.2⟩
        · cases e3 with
          | cons a1 e3 => cases e3 with
            | cons a2 e3 => cases e3 with
              | cons a3 e3 =>
                cases e3
                obtain ⟨t1, rfl, q1⟩ := a1
                obtain ⟨t2, rfl, q2⟩ := a2
                obtain ⟨t3, rfl, q3⟩ := a3
                exact ⟨.tri t1 t2 t3, s', run _ rfl, by simp only [Tr.ht]; omega, e4.1.mono (by omega), e4.2⟩
end My

namespace My
open PySem L2 PyProof.Rows DV
/-- what a comprehension over one tree's children makes -/
def One (f : Tr → D) (d : D) (ys : List D) : Prop := ∀ t : Tr, d = t.d → ys = [f t]
def kids : Tr → List Tr
  | .lf => []
  | .two a b => [a, b]
  | .tri a b c => [a, b, c]
theorem Tr.ofTup {t : Tr} (h : t.isLf = false) : t.d = .tup ((kids t).map Tr.d) := by cases t <;> first | rfl | cases h
theorem Tr.d_inj : ∀ {a b : Tr}, a.d = b.d → a = b
  | .lf, .lf, _ => rfl
  | .lf, .two _ _, h => by cases h
  | .lf, .tri _ _ _, h => by cases h
  | .two _ _, .lf, h => by cases h
  | .tri _ _ _, .lf, h => by cases h
  | .two _ _, .tri _ _ _, h => by simp [Tr.d] at h
  | .tri _ _ _, .two _ _, h => by simp [Tr.d] at h
  | .two a b, .two c e, h => by
    simp only [Tr.d, D.tup.injEq, List.cons.injEq, and_true] at h
    rw [Tr.d_inj h.1, Tr.d_inj h.2]
  | .tri a b x, .tri c e y, h => by
    simp only [Tr.d, D.tup.injEq, List.cons.injEq, and_true] at h
    rw [Tr.d_inj h.1, Tr.d_inj h.2.1, Tr.d_inj h.2.2]
theorem All2.map_of {α β γ : Type} {R : β → γ → Prop} {g : α → β} {f : α → γ} : ∀ {l : List α} {r : List γ}, All2 R (l.map g) r → (∀ a ∈ l, ∀ y, R (g a) y → y = f a) → r = l.map f
  | [], _, .nil, _ => rfl
  | a :: l, _, .cons h t, q => by
    rw [q a (by simp) _ h, All2.map_of t fun b hb => q b (by simp [hb])]
    rfl
theorem intsOf_map : ∀ l : List Int, intsOf (l.map D.int) = some l
  | [] => rfl
  | i :: r => by simp [intsOf, intsOf_map r]
theorem kids_ht {t c : Tr} (h : c ∈ kids t) : c.ht < t.ht := by
  cases t <;> simp [kids] at h <;> simp only [Tr.ht]
  · rcases h with rfl | rfl <;> omega
  · rcases h with rfl | rfl | rfl <;> omega
theorem kids_len (t : Tr) : (kids t).length ≤ 3 := by cases t <;> simp [kids]
theorem sz_kids {t : Tr} (h : t.isLf = false) : (((kids t).map fun c => (c.sz : Int)).sum) = t.sz := by
  cases t <;> first | (cases h; done) | (simp [kids, Tr.sz]; try omega)
theorem flat_one {α β : Type} (f : α → β) : ∀ l : List α, (l.map fun a => [f a]).flatten = l.map f
  | [] => rfl
  | a :: r => by simp [flat_one f r]
theorem size (A : Ax) : ∀ (n : Nat) (t : Tr) (s : Sto), t.ht < n → t.ht ≤ 60 → ∃ s', M_u_law_size A n [t.d] s = some (.ok (.int t.sz), s') ∧ Gr s s'
  | 0, _, _, h, _ => by omega
  | n + 1, t, s, h, h60 => by
    have he := fEq_tr s t h60
    cases hl : t.isLf with
    | true =>
      cases t <;> first | (cases hl; done) | skip
      exact ⟨s, by simp [M_u_law_size, ds_u_law_size, startD, Tr.d, Tr.sz], Gr.refl _⟩
    | false =>
      rw [hl] at he
      have hd := Tr.ofTup hl
      obtain ⟨s', yss, e1, e2, e3, e4⟩ := lc_pure (I := ⟨(kids t).map Tr.d, none⟩) (g := gN 1) (tt := dYes) (de := dCl (argN 1 (M_u_law_size A n)) (dCons (dVar 1) dNil)) (Δ := [some t.d, none]) (s := s) (One fun c => .int c.sz) (fun _ _ => rfl) (fun d s' hdm _ => by
        obtain ⟨c, hc, rfl⟩ := List.mem_map.mp hdm
        obtain ⟨s3, w1, w2⟩ := size A n c s' (by have := kids_ht hc; omega) (by have := kids_ht hc; omega)
        exact ⟨_, rfl, .inr ⟨s', .int c.sz, s3, rfl, by simp [w1], w2, fun t' ht => by rw [Tr.d_inj ht]⟩⟩) (le_line (by simp; have := kids_len t; omega))
      have e5 : yss = (kids t).map fun c => [D.int c.sz] := All2.map_of e3 fun c _ y q => q c rfl
      rw [e5, flat_one] at e2
      have e6 : intsOf ((kids t).map fun c => D.int c.sz) = some ((kids t).map fun c => (c.sz : Int)) := by
        rw [← intsOf_map, List.map_map]
        rfl
      refine ⟨s', ?_, e4⟩
      have := sz_kids hl
      simp [M_u_law_size, ds_u_law_size, startD, he, wipeD, hd] at e1 ⊢
      simp [hd] at he
      simp [he, e1, e2, fSum, fLs, e6, this]
end My

namespace My
open PySem L2 PyProof.Rows DV
def odd : Nat → Nat → Nat
  | 0, n => n
  | f + 1, n => if n % 2 = 0 then odd f (n / 2) else n
def isV (n : Nat) : Bool := odd 8 n == 1 || odd 8 n == 3 || odd 8 n == 7
theorem fmodN (n : Nat) (m : Nat) : (n : Int).fmod m = ((n % m : Nat) : Int) := by
  rw [Int.fmod_eq_emod_of_nonneg _ (by omega)]
  rfl
theorem fdivN (n : Nat) (m : Nat) : (n : Int).fdiv m = ((n / m : Nat) : Int) := by
  rw [Int.fdiv_eq_ediv_of_nonneg _ (by omega)]
  rfl
@[simp] theorem mod2 {i : Int} : modOk i 2 = true := rfl
@[simp] theorem div2 {i : Int} : divOk i 2 = true := rfl
abbrev wT : DT := dAnd (dTest (dOp fGt (dVar 0) (dC (.int 0)))) (dTest (dOp fEq (dOp fMod (dCB fInt (dCons (dVar 0) dNil)) (dC (.int 2))) (dC (.int 0))))
abbrev wB : DS := dAsg (dOp fDiv (dVar 0) (dC (.int 2))) (gN 0)
theorem wh (s : Sto) : ∀ (f n : Nat), 0 < n → n < 2 ^ f → whRun wT wB f [some (.int n)] s = some (.nx [some (.int (odd f n))], s)
  | 0, n, h, h1 => by simp at h1; omega
  | f + 1, n, h, h1 => by
    have e1 : (n : Int).fmod 2 = ((n % 2 : Nat) : Int) := fmodN n 2
    have e2 : (n : Int).fdiv 2 = ((n / 2 : Nat) : Int) := fdivN n 2
    have p : 2 ^ (f + 1) = 2 * 2 ^ f := by rw [Nat.pow_succ]; omega
    by_cases hz : n % 2 = 0
    · have ih := wh s f (n / 2) (by omega) (by omega)
      have e3 : (n : Int).fmod 2 = 0 := by rw [e1, hz]; rfl
      unfold whRun
      simp [fGt, fMod, fDiv, h, e3, e2, odd, hz, wT, wB] at ih ⊢
      exact ih
    · have e3 : ¬ (n : Int).fmod 2 = 0 := by rw [e1]; omega
      unfold whRun
      simp [fGt, fMod, fDiv, h, e3, odd, hz]
theorem in137 (s : Sto) (i : Int) : fIn (.int i) (.tup [.int 1, .int 3, .int 7]) s = some (.bl (((1 : Int) == i) || (((3 : Int) == i) || (((7 : Int) == i) || false))), s) := rfl
theorem is_value (A : Ax) (s : Sto) {n : Nat} (h : 0 < n) (h1 : n < 256) : M_u_law_is_value A [.int n] s = some (.ok (.bl (isV n)), s) := by
  have w := wh s 8 n h h1
  have l3 : 3 ≤ sizeLine := le_line (by decide)
  have e : ∀ a b : Nat, ((a : Int) == (b : Int)) = (b == a) := fun a b => by
    rw [Bool.eq_iff_iff]
    simp only [beq_iff_eq]
    omega
  have e1 := e 1 (odd 8 n)
  have e3 := e 3 (odd 8 n)
  have e7 := e 7 (odd 8 n)
  simp only [M_u_law_is_value, ds_u_law_is_value, runFn_eq, dSeq_eq, startD, List.map_cons, List.map_nil, List.length_cons, List.length_nil, Nat.sub_self, List.replicate_zero, List.append_nil, List.cons_append, List.nil_append]
  rw [w]
  simp [in137, isV, l3] at e1 e3 e7 ⊢
  rw [e1, e3, e7]
  rw [Bool.or_assoc]
theorem canLayAll_map : ∀ l : List Tr, PyData.canLayAll0 (l.map Tr.p) = true
  | [] => rfl
  | t :: r => by simp [PyData.canLayAll0, t.lay, canLayAll_map r]
/-- the law's test of a tree -/
def fits : Tr → Bool
  | .lf => true
  | .two a b => (isV a.sz && fits a) && (isV b.sz && fits b)
  | .tri a b c => (isV a.sz && fits a) && ((isV b.sz && fits b) && (isV c.sz && fits c))
theorem sz_pos : ∀ t : Tr, 0 < t.sz
  | .lf => by decide
  | .two a b => by have := sz_pos a; simp only [Tr.sz]; omega
  | .tri a b c => by have := sz_pos a; simp only [Tr.sz]; omega
theorem sz_le : ∀ t : Tr, t.sz ≤ 3 ^ t.ht
  | .lf => by decide
  | .two a b => by
    have h1 := sz_le a
    have h2 := sz_le b
    have p1 := Nat.pow_le_pow_right (show 0 < 3 by decide) (show a.ht ≤ max a.ht b.ht by omega)
    have p2 := Nat.pow_le_pow_right (show 0 < 3 by decide) (show b.ht ≤ max a.ht b.ht by omega)
    simp only [Tr.sz, Tr.ht, Nat.pow_succ]
    omega
  | .tri a b c => by
    have h1 := sz_le a
    have h2 := sz_le b
    have h3 := sz_le c
    have p1 := Nat.pow_le_pow_right (show 0 < 3 by decide) (show a.ht ≤ max a.ht (max b.ht c.ht) by omega)
    have p2 := Nat.pow_le_pow_right (show 0 < 3 by decide) (show b.ht ≤ max a.ht (max b.ht c.ht) by omega)
    have p3 := Nat.pow_le_pow_right (show 0 < 3 by decide) (show c.ht ≤ max a.ht (max b.ht c.ht) by omega)
    simp only [Tr.sz, Tr.ht, Nat.pow_succ]
    omega
theorem sz_lt {t : Tr} (h : t.ht ≤ 5) : t.sz < 256 := Nat.lt_of_le_of_lt (sz_le t) (Nat.lt_of_le_of_lt (Nat.pow_le_pow_right (by decide) h) (by decide))
theorem fits_kids {t : Tr} (h : t.isLf = false) : fits t = (kids t).all fun c => isV c.sz && fits c := by
  cases t <;> first | (cases h; done) | simp [kids, fits]
def Bad (d : D) (ys : List D) : Prop := ∀ c : Tr, d = c.d → ys = if (isV c.sz && fits c) = true then [] else [c.d]
theorem bad_flat : ∀ {l : List Tr} {yss : List (List D)}, All2 Bad (l.map Tr.d) yss → yss.flatten = (l.filter fun c => !(isV c.sz && fits c)).map Tr.d
  | [], _, .nil => rfl
  | a :: r, _, .cons h t => by
    rw [List.flatten_cons, h a rfl, bad_flat t, List.filter_cons]
    cases isV a.sz && fits a <;> simp
theorem toPys (s : Sto) : ∀ (l : List Tr), (∀ c ∈ l, c.ht ≤ 60) → omap (toPy s 63) (l.map Tr.d) = some (l.map Tr.p)
  | [], _ => rfl
  | t :: r, h => by
    have h1 := t.toPy s 63 (by have := h t (by simp); omega)
    simp [omap, h1, toPys s r fun c hc => h c (by simp [hc])]
theorem deps : ∀ (l : List Tr), (∀ c ∈ l, c.ht ≤ 60) → PyData.depthAll (l.map Tr.p) ≤ 60
  | [], _ => by simp [PyData.depthAll]
  | t :: r, h => by
    have h1 := t.dep
    have h2 := h t (by simp)
    have := deps r fun c hc => h c (by simp [hc])
    simp only [List.map_cons, PyData.depthAll]
    omega
/-- a list of trees against the empty list -/
theorem eq_nil {s : Sto} {m n : Nat} {l : List Tr} (e : lstAt s m = some (l.map Tr.d)) (e2 : lstAt s n = some []) (h : ∀ c ∈ l, c.ht ≤ 60) : fEq (.obj m) (.obj n) s = some (.bl l.isEmpty, s) := by
  have h1 : toPy s 64 (.obj m) = some (.list (l.map Tr.p)) := by simp [toPy, e, toPys s l h]
  have h2 : toPy s 64 (.obj n) = some (.list []) := by simp [toPy, e2, omap]
  have q1 : SeqAt.shaped (.list (l.map Tr.p)) = true := by
    have := deps l h
    simp [SeqAt.shaped, PyData.canLay0, canLayAll_map, PyData.depth]
    omega
  have q2 : SeqAt.shaped (PyData.list []) = true := rfl
  have h3 : py2 s (.obj m) (.obj n) = some (.list (l.map Tr.p), .list []) := by simp [py2, h1, h2, q1, q2]
  unfold fEq
  rw [h3]
  cases l <;> rfl
theorem fits_run (A : Ax) : ∀ (n : Nat) (t : Tr) (s : Sto), t.ht < n → t.ht ≤ 5 → ∃ s', M_u_law_fits A n [t.d] s = some (.ok (.bl (fits t)), s') ∧ Gr s s'
  | 0, _, _, h, _ => by omega
  | n + 1, t, s, h, h5 => by
    have he := fEq_tr s t (by omega)
    cases hl : t.isLf with
    | true =>
      cases t <;> first | (cases hl; done) | skip
      exact ⟨s, by simp [M_u_law_fits, ds_u_law_fits, startD, Tr.d, fits], Gr.refl _⟩
    | false =>
      rw [hl] at he
      have hd := Tr.ofTup hl
      obtain ⟨s', yss, e1, e2, e3, e4⟩ := lc_pure (I := ⟨(kids t).map Tr.d, none⟩) (g := gN 1) (tt := dOr (dNot (dTruth (dCl (argN 1 (M_u_law_is_value A)) (dCons (dCl (argN 1 (M_u_law_size A 6)) (dCons (dVar 1) dNil)) dNil)))) (dNot (dTruth (dCl (argN 1 (M_u_law_fits A n)) (dCons (dVar 1) dNil))))) (de := dVar 1) (Δ := [some t.d, none]) (s := s) Bad (fun _ _ => rfl) (fun d s' hdm _ => by
        obtain ⟨c, hc, rfl⟩ := List.mem_map.mp hdm
        have hch := kids_ht hc
        obtain ⟨s2, w1, w2⟩ := size A 6 c s' (by omega) (by omega)
        have w3 := is_value A s2 (sz_pos c) (sz_lt (show c.ht ≤ 5 by omega))
        refine ⟨_, rfl, ?_⟩
        cases hv : isV c.sz with
        | false =>
          rw [hv] at w3
          exact .inr ⟨s2, c.d, s2, by simp [w1, w3, truD], by simp, w2, fun t' ht => by rw [← Tr.d_inj ht, hv]; simp⟩
        | true =>
          rw [hv] at w3
          obtain ⟨s3, w4, w5⟩ := fits_run A n c s2 (by omega) (by omega)
          cases hf : fits c with
          | false =>
            rw [hf] at w4
            exact .inr ⟨s3, c.d, s3, by simp [w1, w3, w4, truD], by simp, w2.trans w5, fun t' ht => by rw [← Tr.d_inj ht, hv, hf]; simp⟩
          | true =>
            rw [hf] at w4
            exact .inl ⟨s3, by simp [w1, w3, w4, truD], w2.trans w5, fun t' ht => by rw [← Tr.d_inj ht, hv, hf]; simp⟩) (le_line (by simp; have := kids_len t; omega))
      rw [bad_flat e3] at e2
      have q := eq_nil (s := s' ++ [.lst []]) (lstAt_app e2) lstAt_new (fun c hc => by
        have := kids_ht (List.mem_filter.mp hc).1
        omega)
      have q2 : ((kids t).filter fun c => !(isV c.sz && fits c)).isEmpty = fits t := by
        rw [fits_kids hl]
        generalize kids t = l
        induction l with
        | nil => rfl
        | cons a r ih =>
          rw [List.filter_cons, List.all_cons, ← ih]
          cases isV a.sz && fits a <;> simp
      rw [q2] at q
      refine ⟨s' ++ [.lst []], ?_, e4.trans Gr.app⟩
      have l0 : 0 ≤ sizeLine := Nat.zero_le _
      simp [M_u_law_fits, ds_u_law_fits, startD, wipeD, hd] at e1 ⊢
      simp [hd] at he
      simp [he, e1, q]
end My

namespace My
open PySem L2 PyProof.Rows DV
theorem Gr.sm {s s' : Sto} {n : Nat} (h : Gr s s') : Sm n s s' := by
  obtain ⟨l, rfl⟩ := h
  exact Sm.app
theorem Rnd.gr {s s' : Sto} {n k : Nat} (h : Rnd s n k) (g : Gr s s') : Rnd s' n k := by
  obtain ⟨l, rfl⟩ := g
  exact h.app
/-- what the laws ask of a tree -/
structure Good (t : Tr) : Prop where
  ht : t.ht ≤ 4
  sz : t.sz ≤ 16
  fit : fits t = true
def pair : Tr := .two .lf .lf
def three : Tr := .tri .lf .lf .lf
def four : Tr := .two pair pair
def seven : List Tr := [four, .two three three, .two three pair, .tri three three three, .two four four, .tri pair pair three]
theorem seven_good : ∀ t ∈ seven, Good t := by
  intro t h
  simp only [seven, List.mem_cons, List.not_mem_nil, or_false] at h
  rcases h with rfl | rfl | rfl | rfl | rfl | rfl <;> exact ⟨by decide, by decide, by decide⟩
theorem tree (A : Ax) {s : Sto} {n k : Nat} (h : Rnd s n (k + 600)) : ∃ t s', M_u_law_tree A [.obj n] s = some (.ok (Tr.d t), s') ∧ Good t ∧ Rnd s' n k ∧ Sm n s s' := by
  have l5 : 5 ≤ sizeLine := le_line (by decide)
  have l4 : 4 ≤ sizeLine := le_line (by decide)
  have l3 : 3 ≤ sizeLine := le_line (by decide)
  have l2 : 2 ≤ sizeLine := le_line (by decide)
  have l6 : 6 ≤ sizeLine := le_line (by decide)
  have hn := h.lt
  obtain ⟨d, s1, p1, p2, p3, p4⟩ := pick A (s := s ++ [.lst [.int 1, .int 2, .int 2, .int 3, .int 4]]) (j := s.length) (xs := [.int 1, .int 2, .int 2, .int 3, .int 4]) ((h.app).mono (show (k + 514) + 1 ≤ _ by omega)) lstAt_new (by omega) (by simp) (by simp)
  obtain ⟨deep, hd, h4⟩ : ∃ m : Nat, d = .int m ∧ m ≤ 4 := by
    simp only [List.mem_cons, List.not_mem_nil, or_false] at p2
    rcases p2 with rfl | rfl | rfl | rfl | rfl
    · exact ⟨1, rfl, by decide⟩
    · exact ⟨2, rfl, by decide⟩
    · exact ⟨2, rfl, by decide⟩
    · exact ⟨3, rfl, by decide⟩
    · exact ⟨4, rfl, by decide⟩
  subst hd
  have h44 : 4 ^ deep ≤ 256 := Nat.le_trans (Nat.pow_le_pow_right (by decide) h4) (by decide)
  obtain ⟨t, s2, w1, w2, w3, w4⟩ := wild A 6 deep s1 n (k + 2) (by omega) (p3.mono (by omega))
  have ht5 : t.ht ≤ 4 := by omega
  obtain ⟨s3, z1, z2⟩ := size A 6 t s2 (by omega) (by omega)
  have sm3 : Sm n s s3 := ((Sm.app.trans p4).trans w4).trans (Gr.sm z2)
  have r3 : Rnd s3 n (k + 2) := w3.gr z2
  obtain ⟨s4, f1, f2⟩ := fits_run A 6 t s3 (by omega) (by omega)
  by_cases c1 : t.sz ≤ 16 ∧ fits t = true
  · refine ⟨t, s4, ?_, ⟨ht5, c1.1, c1.2⟩, (r3.gr f2).mono (by omega), sm3.trans (Gr.sm f2)⟩
    have c16 : ((t.sz : Nat) : Int) ≤ 16 := by omega
    rw [c1.2] at f1
    simp [M_u_law_tree, ds_u_law_tree, startD, l5, p1, w1, z1, f1, fLe, c16, truD]
  · -- one of the written trees
    have key : ∃ s5, Gr s2 s5 ∧ ∀ (b : DS), dIfS (dAnd (dTest (dOp fLe (dCl (argN 1 (M_u_law_size A 6)) (dCons (dVar 1) dNil)) (dC (.int 16)))) (dTruth (dCl (argN 1 (M_u_law_fits A 6)) (dCons (dVar 1) dNil)))) (dRet (dVar 1)) b [some (.obj n), some t.d, none, none, none, none] s2 = b [some (.obj n), some t.d, none, none, none, none] s5 := by
      by_cases c16 : t.sz ≤ 16
      · have hf : fits t = false := by
          cases hf : fits t with
          | false => rfl
          | true => exact absurd ⟨c16, hf⟩ c1
        rw [hf] at f1
        have c16' : ((t.sz : Nat) : Int) ≤ 16 := by omega
        exact ⟨s4, z2.trans f2, fun b => by simp [z1, f1, fLe, c16', truD]⟩
      · have c16' : ¬ ((t.sz : Nat) : Int) ≤ 16 := by omega
        exact ⟨s3, z2, fun b => by simp [z1, fLe, c16']⟩
    obtain ⟨s5, g5, hk⟩ := key
    have r5 : Rnd s5 n (k + 2) := w3.gr g5
    have sm5 : Sm n s s5 := ((Sm.app.trans p4).trans w4).trans (Gr.sm g5)
    obtain ⟨x, s6, q1, q2, q3, q4⟩ := pick A (s := s5 ++ [.lst ([four, .two three three, .two three pair, .tri three three three].map Tr.d), .lst ([Tr.two four four, .tri pair pair three].map Tr.d), .lst (seven.map Tr.d)]) (j := s5.length + 2) (xs := seven.map Tr.d) ((r5.app).mono (show (k + 1) + 1 ≤ _ by omega)) (by
      have := lstAt_new (s := s5 ++ [.lst ([four, .two three three, .two three pair, .tri three three three].map Tr.d), .lst ([Tr.two four four, .tri pair pair three].map Tr.d)]) (xs := seven.map Tr.d)
      simpa using this) (by have := r5.lt; omega) (by simp [seven]) (by simp [seven])
    obtain ⟨u, hu, rfl⟩ := List.mem_map.mp q2
    refine ⟨u, s6, ?_, seven_good u hu, q3.mono (by omega), (sm5.trans Sm.app).trans q4⟩
    have a1 : lstAt (s5 ++ [DO.lst ([four, .two three three, .two three pair, .tri three three three].map Tr.d)]) s5.length = some ([four, .two three three, .two three pair, .tri three three three].map Tr.d) := lstAt_new
    simp [seven, four, three, pair, Tr.d] at q1 a1
    simp [M_u_law_tree, ds_u_law_tree, startD, l5, p1, w1, hk, l2, l3, l4, l6, fAdd, fAddI, fAddS, fAddL, orOp, q1, a1]
end My

namespace My
open PySem L2 PyProof.Rows DV
@[simp] theorem isi_ii {i : Int} {s : Sto} : fIsi [.int i, .ty "int"] s = some (.bl true, s) := rfl
@[simp] theorem isi_ib {i : Int} {s : Sto} : fIsi [.int i, .ty "bool"] s = some (.bl false, s) := rfl
@[simp] theorem isi_ti {i : List D} {s : Sto} : fIsi [.tup i, .ty "int"] s = some (.bl false, s) := rfl
@[simp] theorem isi_tt {i : List D} {s : Sto} : fIsi [.tup i, .ty "tuple"] s = some (.bl true, s) := rfl
@[simp] theorem isi_ss {i : Str} {s : Sto} : fIsi [.str i, .ty "str"] s = some (.bl true, s) := rfl
theorem isnum_int (A : Ax) (i : Int) (s : Sto) : M_is_number A [.int i] s = some (.ok (.bl true), s) := by simp [M_is_number, ds_is_number, startD, truD]
theorem isnum_tup (A : Ax) (i : List D) (s : Sto) : M_is_number A [.tup i] s = some (.ok (.bl false), s) := by simp [M_is_number, ds_is_number, startD, truD]
def lowB (n : Nat) : Int := ((Builtin.Int.intBits (Builtin.bitAnd (n : Int) (-(n : Int))) : Nat) : Int) - 1
theorem dots_fact : ∀ n : Fin 82, isV n.val = true → 0 < n.val → 0 ≤ lowB n.val ∧ (lookI kv_DOTS ((n.val : Int) / 2 ^ (lowB n.val).toNat)).isSome = true := by decide +kernel
theorem dots (A : Ax) (s : Sto) {n : Nat} (h : isV n = true) (h0 : 0 < n) (h1 : n < 82) : ∃ v : Int, M_dots_of A [.int n] s = some (.ok (.int v), s) := by
  obtain ⟨q1, q2⟩ := dots_fact ⟨n, h1⟩ h h0
  obtain ⟨v, hv⟩ := Option.isSome_iff_exists.mp q2
  refine ⟨v, ?_⟩
  have q1' : shrOk n (lowB n) = true := by unfold shrOk; simpa using q1
  unfold lowB at q1' hv
  simp at hv
  simp [M_dots_of, ds_dots_of, startD, fShr, fSub, fBits, fAnd, fNeg, q1', dKGet, hv]
theorem notIn23 (s : Sto) (k : Nat) (h : k = 2 ∨ k = 3) : fNotIn (.int k) (.tup [.int 2, .int 3]) s = some (.bl false, s) := by
  rcases h with rfl | rfl <;> rfl
theorem toPyI (s : Sto) (n : Nat) : ∀ l : List Int, omap (toPy s (n + 1)) (l.map D.int) = some (l.map PyData.int)
  | [] => rfl
  | i :: r => by simp [omap, toPy, toPyI s n r]
theorem layI : ∀ l : List Int, PyData.canLayAll0 (l.map PyData.int) = true
  | [] => rfl
  | t :: r => by simp [PyData.canLayAll0, PyData.canLay0, layI r]
theorem depI : ∀ l : List Int, PyData.depthAll (l.map PyData.int) = 0
  | [] => rfl
  | t :: r => by simp [PyData.depthAll, PyData.depth, depI r]
theorem shpI (l : List Int) : SeqAt.shaped (.list (l.map PyData.int)) = true := by simp [SeqAt.shaped, PyData.canLay0, layI, PyData.depth, depI]
theorem shp1 (i : Int) : SeqAt.shaped (.int i) = true := rfl
theorem inI {s : Sto} {m : Nat} {l : List Int} (i : Int) (e : lstAt s m = some (l.map D.int)) : fIn (.int i) (.obj m) s = some (.bl (l.any fun z => z == i), s) := by
  have h1 : toPy s 64 (.obj m) = some (.list (l.map PyData.int)) := by simp [toPy, e, toPyI]
  have h3 : py2 s (.int i) (.obj m) = some (.int i, .list (l.map PyData.int)) := by
    have h0 : toPy s 64 (.int i) = some (.int i) := rfl
    simp [py2, h0, h1, shpI, shp1]
  have h4 : ∀ l : List Int, ((l.map PyData.int).any fun z => PyData.eqv z (.int i)) = l.any fun z => z == i := fun l => by
    induction l with
    | nil => rfl
    | cons a r ih => rw [List.map_cons, List.any_cons, List.any_cons, ih]; rfl
  simp [fIn, orOp, fInS, fInP, h3, pyItems, h4]
theorem kids_sz {t c : Tr} (h : c ∈ kids t) : c.sz ≤ t.sz := by
  cases t <;> simp [kids] at h <;> simp only [Tr.sz]
  · rcases h with rfl | rfl <;> omega
  · rcases h with rfl | rfl | rfl <;> omega
theorem kids_fit {t c : Tr} (hf : fits t = true) (h : c ∈ kids t) : isV c.sz = true ∧ fits c = true := by
  have hl : t.isLf = false := by cases t <;> first | rfl | cases h
  rw [fits_kids hl, List.all_eq_true] at hf
  simpa using hf c h
theorem kids23 {t : Tr} (h : t.isLf = false) : (kids t).length = 2 ∨ (kids t).length = 3 := by cases t <;> first | (cases h; done) | simp [kids]
theorem pulses (A : Ax) : ∀ (n : Nat) (t : Tr) (s : Sto) (dep : Nat), t.ht < n → t.ht + dep ≤ 4 → t.sz ≤ 16 → fits t = true → (0 < dep → isV t.sz = true) → ∃ s', M_u_pulses A n [t.d, .int dep] s = some (.ok (.int t.sz), s') ∧ Gr s s'
  | 0, _, _, _, h, _, _, _, _ => by omega
  | n + 1, t, s, dep, h, h4, h16, hf, hv => by
    have he := fEq_tr s t (by omega)
    cases hl : t.isLf with
    | true =>
      cases t <;> first | (cases hl; done) | skip
      exact ⟨s, by simp [M_u_pulses, ds_u_pulses, startD, Tr.d, Tr.sz, isnum_int, truD], Gr.refl _⟩
    | false =>
      rw [hl] at he
      have hd := Tr.ofTup hl
      have h0 : 0 < t.ht := by cases t <;> first | (cases hl; done) | (simp only [Tr.ht]; omega)
      have hdep : ((dep : Int) == 4) = false := by simp; omega
      obtain ⟨s', yss, e1, e2, e3, e4⟩ := lc_pure (I := ⟨(kids t).map Tr.d, none⟩) (g := gN 4) (tt := dYes) (de := dCl (argN 2 (M_u_pulses A n)) (dCons (dVar 4) (dCons (dOp fAdd (dVar 1) (dC (.int 1))) dNil))) (Δ := [some t.d, some (.int dep), none, none, none]) (s := s) (One fun c => .int c.sz) (fun _ _ => rfl) (fun d s' hdm _ => by
        obtain ⟨c, hc, rfl⟩ := List.mem_map.mp hdm
        have k1 := kids_fit hf hc
        obtain ⟨s3, w1, w2⟩ := pulses A n c s' (dep + 1) (by have := kids_ht hc; omega) (by have := kids_ht hc; omega) (Nat.le_trans (kids_sz hc) h16) k1.2 (fun _ => k1.1)
        exact ⟨_, rfl, .inr ⟨s', .int c.sz, s3, rfl, by simp at w1; simp [fAdd, fAddI, orOp, w1], w2, fun t' ht => by rw [Tr.d_inj ht]⟩⟩) (le_line (by simp; have := kids_len t; omega))
      have e5 : yss = (kids t).map fun c => [D.int c.sz] := All2.map_of e3 fun c _ y q => q c rfl
      rw [e5, flat_one] at e2
      have e2' : lstAt s' s.length = some (((kids t).map fun c => (c.sz : Int)).map D.int) := by rw [e2, List.map_map]; rfl
      have e6 : intsOf ((kids t).map fun c => D.int c.sz) = some ((kids t).map fun c => (c.sz : Int)) := by
        rw [← intsOf_map, List.map_map]
        rfl
      have hin := inI 0 e2'
      have hin0 : (((kids t).map fun c => (c.sz : Int)).any fun z => z == 0) = false := by
        rw [List.any_eq_false]
        intro x hx
        obtain ⟨c, _, rfl⟩ := List.mem_map.mp hx
        have := sz_pos c
        simp; omega
      rw [hin0] at hin
      have hnot := notIn23 s (kids t).length (kids23 hl)
      have hsum := sz_kids hl
      have l2 : 2 ≤ sizeLine := le_line (by decide)
      refine ⟨s', ?_, e4⟩
      simp at hdep
      by_cases hz : 0 < dep
      · obtain ⟨v, hdots⟩ := dots A s' (hv hz) (sz_pos t) (by omega)
        simp [M_u_pulses, ds_u_pulses, startD, wipeD, hd] at e1 ⊢
        simp [isnum_tup, truD, hdep, hnot, l2, e1, e2, e6, fSum, fLs, hsum, hin, fGt, hz, hdots, fIsN, isNon]
      · have hz' : dep = 0 := by omega
        subst hz'
        simp [M_u_pulses, ds_u_pulses, startD, wipeD, hd] at e1 ⊢
        simp [isnum_tup, truD, hnot, l2, e1, e2, e6, fSum, fLs, hsum, hin, fGt]
theorem is_tree (A : Ax) (s : Sto) {t : Tr} (g : Good t) : ∃ s', M_is_tree A [t.d] s = some (.ok (.bl true), s') ∧ Gr s s' := by
  obtain ⟨s', w1, w2⟩ := pulses A 6 t s 0 (by have := g.ht; omega) (by have := g.ht; omega) g.sz g.fit (fun h => by omega)
  refine ⟨s', ?_, w2⟩
  have h1 : (1 : Int) ≤ t.sz := by have := sz_pos t; omega
  have h2 : (t.sz : Int) ≤ 16 := by have := g.sz; omega
  simp at w1
  simp [M_is_tree, ds_is_tree, startD, dChain, w1, fLe, h1, h2]
end My

namespace My
open PySem L2 PyProof.Rows DV
def nodesOf : Tr → Nat → Nat → List (Nat × Nat × Nat)
  | .lf, b, d => [(b, b + 1, d)]
  | .two x y, b, d => (b, b + x.sz + y.sz, d) :: (nodesOf x b (d + 1) ++ nodesOf y (b + x.sz) (d + 1))
  | .tri x y z, b, d => (b, b + x.sz + y.sz + z.sz, d) :: (nodesOf x b (d + 1) ++ nodesOf y (b + x.sz) (d + 1) ++ nodesOf z (b + x.sz + y.sz) (d + 1))
def ndD (n : Nat × Nat × Nat) : D := .tup [.int n.1, .int n.2.1, .int n.2.2]
theorem nodes_head : ∀ (t : Tr) (b d : Nat), ∃ r, nodesOf t b d = (b, b + t.sz, d) :: r
  | .lf, b, d => ⟨[], rfl⟩
  | .two x y, b, d => ⟨_, by simp [nodesOf, Tr.sz, Nat.add_assoc]; rfl⟩
  | .tri x y z, b, d => ⟨_, by simp [nodesOf, Tr.sz, Nat.add_assoc]; rfl⟩
theorem nodes_len : ∀ (t : Tr) (b d : Nat), (nodesOf t b d).length + 1 ≤ 2 * t.sz
  | .lf, b, d => by simp [nodesOf, Tr.sz]
  | .two x y, b, d => by
    have := nodes_len x b (d + 1)
    have := nodes_len y (b + x.sz) (d + 1)
    have := sz_pos x
    simp [nodesOf, Tr.sz]; omega
  | .tri x y z, b, d => by
    have := nodes_len x b (d + 1)
    have := nodes_len y (b + x.sz) (d + 1)
    have := nodes_len z (b + x.sz + y.sz) (d + 1)
    have := sz_pos x
    simp [nodesOf, Tr.sz]; omega
theorem at_head {α : Type} {x : α} {r : List α} : atI (x :: r) 0 = some x := by
  unfold atI ixN
  simp
theorem ext_run {s : Sto} {m n : Nat} {xs ys : List D} (e1 : lstAt s n = some xs) (e2 : lstAt s m = some ys) (h : xs.length + ys.length ≤ sizeLine) : fExtend (.obj n) [.obj m] s = some (.non, s.set n (.lst (xs ++ ys))) := by
  simp [fExtend, e1, e2, h]
def NdS (A : Ax) (n : Nat) (t : Tr) : Prop := ∀ (s : Sto) (b d : Nat), ∃ m s', M_u_nodes A n [t.d, .int b, .int d] s = some (.ok (.obj m), s') ∧ Gr s s' ∧ s.length ≤ m ∧ lstAt s' m = some ((nodesOf t b d).map ndD)
def ndB (A : Ax) (n : Nat) : DS := dSeq (dAsg (dCl (argN 3 (M_u_nodes A n)) (dCons (dVar 5) (dCons (dVar 4) (dCons (dOp fAdd (dVar 2) (dC (.int 1))) dNil)))) (gN 6))
  (dSeq (dDrop (dBM "list" fExtend (dVar 3) (dCons (dVar 6) dNil)))
  (dAsg (dOp fIx (dOp fIx (dVar 6) (dC (.int 0))) (dC (.int 1))) (gN 4)))
theorem ndB_eq (A : Ax) (n : Nat) : (dSeq (dAsg (dCl (argN 3 (M_u_nodes A n)) (dCons (dVar 5) (dCons (dVar 4) (dCons (dOp fAdd (dVar 2) (dC (.int 1))) dNil)))) (gN 6))
  (dSeq (dDrop (dBM "list" fExtend (dVar 3) (dCons (dVar 6) dNil)))
  (dAsg (dOp fIx (dOp fIx (dVar 6) (dC (.int 0))) (dC (.int 1))) (gN 4)))) = ndB A n := rfl
theorem tyL {s : Sto} {n : Nat} {xs : List D} (e : lstAt s n = some xs) : tyD "list" (.obj n) s = true := by
  simp [tyD, lstAt_eq e]
theorem nd_turn {A : Ax} {n : Nat} {c : Tr} (ih : NdS A n c) {s s1 : Sto} {L d e : Nat} {acc : List D} {x0 x1 x6 : Option D} (g : Gr s s1) (hL : s.length ≤ L) (ha : lstAt s1 L = some acc) (hz : acc.length + 2 * c.sz ≤ 1000) :
    ∃ s2 y, ndB A n [x0, x1, some (.int d), some (.obj L), some (.int e), some c.d, x6] s1 = some (.nx [x0, x1, some (.int d), some (.obj L), some (.int (e + c.sz : Nat)), some c.d, some y], s2) ∧ Gr s s2 ∧ lstAt s2 L = some (acc ++ (nodesOf c e (d + 1)).map ndD) := by
  obtain ⟨m, s', w1, w2, w3, w4⟩ := ih s1 e (d + 1)
  have hl := lstAt_lt ha
  have e1 := w2.lst ha
  have e2 := ext_run e1 w4 (by rw [List.length_map]; have := nodes_len c e (d + 1); exact le_line (by omega))
  obtain ⟨r, hr⟩ := nodes_head c e (d + 1)
  have e3 : lstAt (s'.set L (.lst (acc ++ (nodesOf c e (d + 1)).map ndD))) m = some ((nodesOf c e (d + 1)).map ndD) := by rw [lstAt_ne (by omega)]; exact w4
  refine ⟨s'.set L (.lst (acc ++ (nodesOf c e (d + 1)).map ndD)), .obj m, ?_, (g.trans w2).set hL, lstAt_set e1⟩
  simp at w1
  have ty := tyL e1
  rw [hr, List.map_cons] at e3
  have e4 : ndD (e, e + c.sz, d + 1) = .tup [.int e, .int ((e : Int) + c.sz), .int ((d : Int) + 1)] := by simp [ndD]
  rw [e4] at e3
  have a1 : atI [D.int e, .int ((e : Int) + c.sz), .int ((d : Int) + 1)] 1 = some (.int ((e : Int) + c.sz)) := rfl
  rw [hr] at e2 ⊢
  simp only [List.map_cons, e4] at e2 ⊢
  simp [ndB, fAdd, fAddI, orOp, w1, dBM, mTy, ty, DV.liftM, e2, e3, at_head, a1]
theorem ofTup2 {a b : Tr} : (Tr.two a b).d = .tup [a.d, b.d] := rfl
theorem ofTup3 {a b c : Tr} : (Tr.tri a b c).d = .tup [a.d, b.d, c.d] := rfl
theorem nodes_run (A : Ax) : ∀ (n : Nat) (t : Tr), t.ht < n → t.ht ≤ 5 → NdS A n t
  | 0, _, h, _ => by omega
  | n + 1, t, h, h5 => by
    intro s b d
    have he := fEq_tr s t (by omega)
    have l3 : 3 ≤ sizeLine := le_line (by decide)
    have l1 : 1 ≤ sizeLine := le_line (by decide)
    have hs := sz_lt h5
    cases t with
    | lf =>
      refine ⟨s.length, s ++ [.lst [ndD (b, b + 1, d)]], ?_, Gr.app, Nat.le_refl _, lstAt_new⟩
      simp [M_u_nodes, ds_u_nodes, startD, Tr.d, l3, l1, fAdd, fAddI, orOp, ndD]
    | two x y =>
      simp only [Tr.ht] at h h5
      simp only [Tr.sz] at hs
      have hx := nodes_run A n x (by omega) (by omega)
      have hy := nodes_run A n y (by omega) (by omega)
      obtain ⟨s1, y1, r1, g1, q1⟩ := nd_turn hx (s := s) (s1 := s ++ [.lst []]) (L := s.length) (d := d) (e := b) (acc := []) (x0 := some (Tr.two x y).d) (x1 := some (.int b)) (x6 := none) Gr.app (Nat.le_refl _) lstAt_new (by simp; omega)
      obtain ⟨s2, y2, r2, g2, q2⟩ := nd_turn hy (s := s) (s1 := s1) (L := s.length) (d := d) (e := b + x.sz) (x0 := some (Tr.two x y).d) (x1 := some (.int b)) (x6 := some y1) g1 (Nat.le_refl _) q1 (by simp; have := nodes_len x b (d + 1); omega)
      have lz : 1 + ((nodesOf x b (d + 1)).length + (nodesOf y (b + x.sz) (d + 1)).length) ≤ sizeLine := by
        have := nodes_len x b (d + 1)
        have := nodes_len y (b + x.sz) (d + 1)
        exact le_line (by omega)
      have q2' := lstAt_app (l := [DO.lst [ndD (b, b + x.sz + y.sz, d)]]) q2
      refine ⟨s2.length + 1, s2 ++ [.lst [ndD (b, b + x.sz + y.sz, d)], .lst ((nodesOf (.two x y) b d).map ndD)], ?_, g2.trans Gr.app, by have := g2.len; omega, lstAt_new3⟩
      have e0 : ndD (b, b + x.sz + y.sz, d) = .tup [.int b, .int ((b : Int) + x.sz + y.sz), .int d] := by simp [ndD]
      rw [e0] at q2' ⊢
      simp only [List.nil_append] at q2'
      simp [Tr.isLf] at he
      have hF : dFor (iSeqT (dVar 0)) (gN 5) (ndB A n) [some (Tr.two x y).d, some (.int b), some (.int d), some (.obj s.length), some (.int b), none, none] (s ++ [.lst []]) = some (.nx [some (Tr.two x y).d, some (.int b), some (.int d), some (.obj s.length), some (.int (b + x.sz + y.sz : Nat)), some y.d, some y2], s2) := by
        simp at r1 r2
        simp [ofTup2] at r1 r2 ⊢
        simp [forRun, Itd.still, r1, r2]
      simp at hF
      simp only [M_u_nodes, ds_u_nodes, ndB_eq]
      simp [startD, he, hF, l3, l1, fAdd, fAddI, fAddS, fAddL, orOp, q2', lz, nodesOf, e0]
    | tri x y z =>
      simp only [Tr.ht] at h h5
      simp only [Tr.sz] at hs
      have hx := nodes_run A n x (by omega) (by omega)
      have hy := nodes_run A n y (by omega) (by omega)
      have hz := nodes_run A n z (by omega) (by omega)
      obtain ⟨s1, y1, r1, g1, q1⟩ := nd_turn hx (s := s) (s1 := s ++ [.lst []]) (L := s.length) (d := d) (e := b) (acc := []) (x0 := some (Tr.tri x y z).d) (x1 := some (.int b)) (x6 := none) Gr.app (Nat.le_refl _) lstAt_new (by simp; omega)
      obtain ⟨s2, y2, r2, g2, q2⟩ := nd_turn hy (s := s) (s1 := s1) (L := s.length) (d := d) (e := b + x.sz) (x0 := some (Tr.tri x y z).d) (x1 := some (.int b)) (x6 := some y1) g1 (Nat.le_refl _) q1 (by simp; have := nodes_len x b (d + 1); omega)
      obtain ⟨s3, y3, r3, g3, q3⟩ := nd_turn hz (s := s) (s1 := s2) (L := s.length) (d := d) (e := b + x.sz + y.sz) (x0 := some (Tr.tri x y z).d) (x1 := some (.int b)) (x6 := some y2) g2 (Nat.le_refl _) q2 (by
        have := nodes_len x b (d + 1)
        have := nodes_len y (b + x.sz) (d + 1)
        simp
        omega)
      have lz : 1 + ((nodesOf x b (d + 1)).length + ((nodesOf y (b + x.sz) (d + 1)).length + (nodesOf z (b + x.sz + y.sz) (d + 1)).length)) ≤ sizeLine := by
        have := nodes_len x b (d + 1)
        have := nodes_len y (b + x.sz) (d + 1)
        have := nodes_len z (b + x.sz + y.sz) (d + 1)
        exact le_line (by omega)
      have q2' := lstAt_app (l := [DO.lst [ndD (b, b + x.sz + y.sz + z.sz, d)]]) q3
      refine ⟨s3.length + 1, s3 ++ [.lst [ndD (b, b + x.sz + y.sz + z.sz, d)], .lst ((nodesOf (.tri x y z) b d).map ndD)], ?_, g3.trans Gr.app, by have := g3.len; omega, lstAt_new3⟩
      have e0 : ndD (b, b + x.sz + y.sz + z.sz, d) = .tup [.int b, .int ((b : Int) + x.sz + y.sz + z.sz), .int d] := by simp [ndD]
      rw [e0] at q2' ⊢
      simp only [List.nil_append, List.append_assoc] at q2'
      simp [Tr.isLf] at he
      have hF : dFor (iSeqT (dVar 0)) (gN 5) (ndB A n) [some (Tr.tri x y z).d, some (.int b), some (.int d), some (.obj s.length), some (.int b), none, none] (s ++ [.lst []]) = some (.nx [some (Tr.tri x y z).d, some (.int b), some (.int d), some (.obj s.length), some (.int (b + x.sz + y.sz + z.sz : Nat)), some z.d, some y3], s3) := by
        simp at r1 r2 r3
        simp [ofTup3] at r1 r2 r3 ⊢
        simp [forRun, Itd.still, r1, r2, r3]
      simp at hF
      simp only [M_u_nodes, ds_u_nodes, ndB_eq]
      simp [startD, he, hF, l3, l1, fAdd, fAddI, fAddS, fAddL, orOp, q2', lz, nodesOf, e0]
end My

namespace My
open PySem L2 PyProof.Rows DV
theorem for_gen {I : Itd} {g : DGf} {b : DS} (J : List D → Dn → Sto → Prop) (hst : ∀ r Δ s, J r Δ s → I.still s = true)
    (step : ∀ d r Δ s, J (d :: r) Δ s → ∃ Δ1 s1, g d Δ s = some (Δ1, s1) ∧ ∃ Δ2 s2, b Δ1 s1 = some (.nx Δ2, s2) ∧ J r Δ2 s2) : ∀ r Δ s, J r Δ s → ∃ Δ' s', forRun I g b r Δ s = some (.nx Δ', s') ∧ J [] Δ' s'
  | [], Δ, s, j => ⟨Δ, s, by simp [forRun, hst _ _ _ j], j⟩
  | d :: r, Δ, s, j => by
    obtain ⟨Δ1, s1, h1, Δ2, s2, h2, j2⟩ := step d r Δ s j
    obtain ⟨Δ', s', h3, h4⟩ := for_gen J hst step r Δ2 s2 j2
    exact ⟨Δ', s', by simp [forRun, hst _ _ _ j, h1, h2, h3], h4⟩
def bd : Tr → Nat → List Nat
  | .lf, d => [d]
  | .two x y, d => d :: ((bd x (d + 1)).tail ++ bd y (d + 1))
  | .tri x y z, d => d :: ((bd x (d + 1)).tail ++ bd y (d + 1) ++ bd z (d + 1))
theorem bd_len : ∀ (t : Tr) (d : Nat), (bd t d).length = t.sz
  | .lf, d => rfl
  | .two x y, d => by
    have := bd_len x (d + 1)
    have := bd_len y (d + 1)
    have := sz_pos x
    simp [bd, Tr.sz]; omega
  | .tri x y z, d => by
    have := bd_len x (d + 1)
    have := bd_len y (d + 1)
    have := bd_len z (d + 1)
    have := sz_pos x
    simp [bd, Tr.sz]; omega
theorem bd_head (t : Tr) (d : Nat) : ∃ r, bd t d = d :: r := by cases t <;> exact ⟨_, rfl⟩
abbrev Kv := List (Key × D)
def ent : Nat → List Nat → Kv
  | _, [] => []
  | b, v :: r => (.inl (b : Int), .int v) :: ent (b + 1) r
theorem ent_len : ∀ (b : Nat) (l : List Nat), (ent b l).length = l.length
  | _, [] => rfl
  | b, v :: r => congrArg (· + 1) (ent_len (b + 1) r)
theorem ent_app : ∀ (b : Nat) (l m : List Nat), ent b (l ++ m) = ent b l ++ ent (b + l.length) m
  | b, [], m => rfl
  | b, v :: r, m => by
    have := ent_app (b + 1) r m
    simp [ent, this]
    congr 1
    omega
theorem val_ent : ∀ (b : Nat) (l : List Nat) (i : Nat), valD (ent b l) (.inl ((b + i : Nat) : Int)) = (l[i]?).map fun (v : Nat) => D.int (v : Int)
  | b, [], i => rfl
  | b, v :: r, 0 => by simp [ent, valD]
  | b, v :: r, i + 1 => by
    have := val_ent (b + 1) r i
    have e : b + 1 + i = b + (i + 1) := by omega
    rw [e] at this
    have ne : ¬ (b : Int) = ((b + (i + 1) : Nat) : Int) := by omega
    unfold valD at this ⊢
    simp only [ent, List.find?_cons]
    have q : decide ((Sum.inl (b : Int) : Key) = Sum.inl ((b + (i + 1) : Nat) : Int)) = false := by
      simp only [decide_eq_false_iff_not, Sum.inl.injEq]
      exact ne
    rw [q]
    simpa using this
theorem val_any {κ : Type} [DecidableEq κ] {kvs : List (κ × D)} {k : κ} (h : valD kvs k = none) : (kvs.any fun kv => decide (kv.1 = k)) = false := by
  unfold valD at h
  rw [Option.map_eq_none_iff, List.find?_eq_none] at h
  rw [List.any_eq_false]
  exact h
def setd (kvs : Kv) (n : Nat × Nat × Nat) : Kv := match valD kvs (.inl (n.1 : Int)) with
  | some _ => kvs
  | none => kvs ++ [(.inl (n.1 : Int), .int n.2.2)]
theorem setd_new (l : List Nat) (e d : Nat) : setd (ent 0 l) (l.length, e, d) = ent 0 (l ++ [d]) := by
  have h := val_ent 0 l l.length
  rw [Nat.zero_add] at h
  rw [ent_app, Nat.zero_add]
  unfold setd
  simp only [h, List.getElem?_eq_none (Nat.le_refl _), Option.map_none]
  rfl
theorem setd_old (l : List Nat) (b e d : Nat) (hb : b < l.length) : setd (ent 0 l) (b, e, d) = ent 0 l := by
  have h := val_ent 0 l b
  rw [Nat.zero_add] at h
  unfold setd
  simp only [h, List.getElem?_eq_getElem hb, Option.map_some]
theorem fold_nodes : ∀ (t : Tr) (d : Nat), (∀ l0, (nodesOf t l0.length d).foldl setd (ent 0 l0) = ent 0 (l0 ++ bd t d)) ∧ ∀ (l0 : List Nat) b, l0.length = b + 1 → (nodesOf t b d).foldl setd (ent 0 l0) = ent 0 (l0 ++ (bd t d).tail)
  | .lf, d => ⟨fun l0 => by simp [nodesOf, bd, setd_new], fun l0 b h => by simp [nodesOf, bd, setd_old _ _ _ _ (show b < l0.length by omega)]⟩
  | .two x y, d => by
    have hx := (fold_nodes x (d + 1)).2
    have hy := (fold_nodes y (d + 1)).1
    have lx := bd_len x (d + 1)
    have px := sz_pos x
    have core : ∀ (l0 : List Nat) b, l0.length = b + 1 → (nodesOf x b (d + 1) ++ nodesOf y (b + x.sz) (d + 1)).foldl setd (ent 0 l0) = ent 0 (l0 ++ ((bd x (d + 1)).tail ++ bd y (d + 1))) := fun l0 b h => by
      rw [List.foldl_append, hx l0 b h]
      have e : (l0 ++ (bd x (d + 1)).tail).length = b + x.sz := by simp; omega
      have := hy (l0 ++ (bd x (d + 1)).tail)
      rw [e] at this
      rw [this, List.append_assoc]
    refine ⟨fun l0 => ?_, fun l0 b h => ?_⟩
    · rw [nodesOf, List.foldl_cons, setd_new, core _ _ (by simp)]
      simp [bd]
    · rw [nodesOf, List.foldl_cons, setd_old _ _ _ _ (by omega), core _ _ h]
      simp [bd]
  | .tri x y z, d => by
    have hx := (fold_nodes x (d + 1)).2
    have hy := (fold_nodes y (d + 1)).1
    have hz := (fold_nodes z (d + 1)).1
    have lx := bd_len x (d + 1)
    have ly := bd_len y (d + 1)
    have px := sz_pos x
    have core : ∀ (l0 : List Nat) b, l0.length = b + 1 → (nodesOf x b (d + 1) ++ nodesOf y (b + x.sz) (d + 1) ++ nodesOf z (b + x.sz + y.sz) (d + 1)).foldl setd (ent 0 l0) = ent 0 (l0 ++ ((bd x (d + 1)).tail ++ bd y (d + 1) ++ bd z (d + 1))) := fun l0 b h => by
      rw [List.foldl_append, List.foldl_append, hx l0 b h]
      have e : (l0 ++ (bd x (d + 1)).tail).length = b + x.sz := by simp; omega
      have q := hy (l0 ++ (bd x (d + 1)).tail)
      rw [e] at q
      have e2 : (l0 ++ (bd x (d + 1)).tail ++ bd y (d + 1)).length = b + x.sz + y.sz := by simp; omega
      have q2 := hz (l0 ++ (bd x (d + 1)).tail ++ bd y (d + 1))
      rw [e2] at q2
      rw [q, q2]
      simp [List.append_assoc]
    refine ⟨fun l0 => ?_, fun l0 b h => ?_⟩
    · rw [nodesOf, List.foldl_cons, setd_new, core _ _ (by simp)]
      simp [bd]
    · rw [nodesOf, List.foldl_cons, setd_old _ _ _ _ (by omega), core _ _ h]
      simp [bd]
def sdB : DS := dDrop (dDSetd (dVar 2) (dVar 3) (dVar 5))
theorem dct_set {s : Sto} {n : Nat} {xs ys : Kv} (h : dctAt s n = some xs) : dctAt (s.set n (.dK ys)) n = some ys := by
  have := dctAt_eq h
  have hl := (List.getElem?_eq_some_iff.mp this).1
  unfold dctAt
  rw [List.getElem?_set_self hl]
theorem sd_turn {Δ : Dn} {s : Sto} {n : Nat} {kvs : Kv} {x0 x1 x4 x6 : Option D} (e : dctAt s n = some kvs) (nd : Nat × Nat × Nat) (hz : kvs.length < sizeLine) :
    ∃ s2, sdB [x0, x1, some (.obj n), some (.int nd.1), x4, some (.int nd.2.2), x6] s = some (.nx [x0, x1, some (.obj n), some (.int nd.1), x4, some (.int nd.2.2), x6], s2) ∧ dctAt s2 n = some (setd kvs nd) ∧ (∀ i, i ≠ n → s2[i]? = s[i]?) ∧ s2.length = s.length := by
  cases h : valD kvs (.inl (nd.1 : Int)) with
  | some v =>
    exact ⟨s, by simp [sdB, dDSetd, mDct, e, keyD, hz, h], by simp [setd, h, e], fun _ _ => rfl, rfl⟩
  | none =>
    have ha := val_any h
    refine ⟨s.set n (.dK (kvs ++ [(.inl (nd.1 : Int), .int nd.2.2)])), ?_, by rw [dct_set e]; simp [setd, h], fun i hi => List.getElem?_set_ne (fun z => hi z.symm), by simp⟩
    have hp : putKD kvs (Sum.inl (nd.1 : Int)) (D.int nd.2.2) = kvs ++ [(Sum.inl (nd.1 : Int), D.int nd.2.2)] := by
      unfold putKD
      rw [ha]
      rfl
    simp [sdB, dDSetd, mDct, e, keyD, hz, h, hp]
end My

namespace My
open PySem L2 PyProof.Rows DV
theorem still_of {its xs : List D} {m : Nat} {s : Sto} (h : lstAt s m = some xs) : Itd.still ⟨its, some (m, xs)⟩ s = true := by simp [Itd.still, h, D.beqs_self]
theorem fold_len : ∀ (l : List (Nat × Nat × Nat)) (kvs : Kv), (l.foldl setd kvs).length ≤ kvs.length + l.length
  | [], kvs => by simp
  | n :: r, kvs => by
    have h1 := fold_len r (setd kvs n)
    have h2 : (setd kvs n).length ≤ kvs.length + 1 := by
      unfold setd
      split <;> simp
    simp only [List.foldl_cons, List.length_cons]
    omega
theorem range_get {α : Type} (f : Nat → α) (l : List Nat) : (List.range l.length).map (fun i => f (l.getD i 0)) = l.map f := by
  apply List.ext_getElem
  · simp
  · intro i h1 h2
    simp at h1 h2
    simp [List.getD_eq_getElem?_getD, h2]
theorem rngOk_nat {n : Nat} (h : n ≤ 100000) : rngOk (n : Int) = true := by
  unfold rngOk
  simp only [Bool.and_eq_true, decide_eq_true_eq]
  omega
theorem sdB_eq : (dDrop (dDSetd (dVar 2) (dVar 3) (dVar 5))) = sdB := rfl
def natD (v : Nat) : D := .int v
theorem lst_of_same {s s' : Sto} {m : Nat} (h : s'[m]? = s[m]?) : lstAt s' m = lstAt s m := by unfold lstAt; rw [h]
theorem bd_loop {t : Tr} {m : Nat} {s1 : Sto} (ns : List (Nat × Nat × Nat)) (hz : ns.length < sizeLine) (hm : lstAt s1 m = some (ns.map ndD)) {x3 x4 x5 x6 : Option D} :
    ∃ Δ' s', forRun ⟨ns.map ndD, some (m, ns.map ndD)⟩ (gTp 3 (gsCons (gN 3) (gsCons (gN 4) (gsCons (gN 5) gsNil)))) sdB (ns.map ndD) [some t.d, some (.obj m), some (.obj s1.length), x3, x4, x5, x6] (s1 ++ [.dK []]) = some (.nx Δ', s') ∧
      (∃ y3 y4 y5, Δ' = [some t.d, some (.obj m), some (.obj s1.length), y3, y4, y5, x6]) ∧ dctAt s' s1.length = some (ns.foldl setd []) ∧ Gr s1 s' := by
  have hl := lstAt_lt hm
  obtain ⟨Δ', s', h1, pre, suf, h2, h3, ⟨y3, y4, y5, h4⟩, h5, h6, h7⟩ := for_gen (I := ⟨ns.map ndD, some (m, ns.map ndD)⟩) (g := gTp 3 (gsCons (gN 3) (gsCons (gN 4) (gsCons (gN 5) gsNil)))) (b := sdB)
    (fun r Δ s' => ∃ pre suf, ns = pre ++ suf ∧ r = suf.map ndD ∧ (∃ y3 y4 y5, Δ = [some t.d, some (.obj m), some (.obj s1.length), y3, y4, y5, x6]) ∧ dctAt s' s1.length = some (pre.foldl setd []) ∧ (∀ i, i ≠ s1.length → s'[i]? = s1[i]?) ∧ s'.length = s1.length + 1)
    (fun r Δ s' ⟨pre, suf, _, _, _, _, h6, _⟩ => still_of (by rw [lst_of_same (h6 m (by omega))]; exact hm))
    (fun d r Δ s' ⟨pre, suf, h2, h3, ⟨y3, y4, y5, h4⟩, h5, h6, h7⟩ => by
      cases suf with
      | nil => cases h3
      | cons nd suf =>
        rw [List.map_cons] at h3
        injection h3 with e1 e2
        subst e1 h4
        have hzz : (pre.foldl setd []).length < sizeLine := by
          have := fold_len pre []
          have : ns.length = pre.length + (suf.length + 1) := by rw [h2]; simp
          simp at *
          omega
        obtain ⟨s2, w1, w2, w3, w4⟩ := sd_turn (Δ := []) (s := s') (x0 := some t.d) (x1 := some (.obj m)) (x4 := some (.int nd.2.1)) (x6 := x6) h5 nd hzz
        refine ⟨_, s', by simp [ndD], _, s2, w1, pre ++ [nd], suf, by rw [h2]; simp, e2, ⟨_, _, _, rfl⟩, ?_, fun i hi => (w3 i hi).trans (h6 i hi), w4.trans h7⟩
        rw [w2, List.foldl_append]
        rfl) (ns.map ndD) [some t.d, some (.obj m), some (.obj s1.length), x3, x4, x5, x6] (s1 ++ [.dK []]) ⟨[], ns, rfl, rfl, ⟨_, _, _, rfl⟩, by simp [dctAt], fun i hi => by
          by_cases hlt : i < s1.length
          · exact List.getElem?_append_left hlt
          · rw [List.getElem?_eq_none (by simp only [List.length_append, List.length_singleton]; omega), List.getElem?_eq_none (by omega)], by simp⟩
  have : suf = [] := by cases suf <;> first | rfl | cases h3
  subst this
  rw [List.append_nil] at h2
  subst h2
  refine ⟨Δ', s', h1, ⟨y3, y4, y5, h4⟩, h5, ⟨[s'[s1.length]'(by omega)], ?_⟩⟩
  apply List.ext_getElem?
  intro i
  by_cases hi : i < s1.length
  · rw [h6 i (by omega), List.getElem?_append_left hi]
  · by_cases he : i = s1.length
    · subst he
      rw [List.getElem?_append_right (Nat.le_refl _), List.getElem?_eq_getElem (by omega)]
      simp
    · rw [List.getElem?_eq_none (by omega), List.getElem?_eq_none (by simp; omega)]
theorem borders (A : Ax) (t : Tr) (s : Sto) (h5 : t.ht ≤ 5) : ∃ s', M_u_borders A [t.d] s = some (.ok (.tup ((bd t 0 ++ [0]).map natD)), s') ∧ Gr s s' := by
  obtain ⟨m, s1, n1, n2, n3, n4⟩ := nodes_run A 6 t (by omega) h5 s 0 0
  have hsz := sz_lt h5
  have hnl := nodes_len t 0 0
  obtain ⟨Δ', s2, w1, ⟨y3, y4, y5, w2⟩, w3, w4⟩ := bd_loop (t := t) (s1 := s1) (x3 := none) (x4 := none) (x5 := none) (x6 := none) (nodesOf t 0 0) (Nat.lt_of_lt_of_le (show (nodesOf t 0 0).length < 1000 by omega) (le_line (Nat.le_refl _))) n4
  subst w2
  have hf := (fold_nodes t 0).1 []
  simp only [List.nil_append, List.length_nil] at hf
  have e0 : ent 0 [] = [] := rfl
  rw [e0] at hf
  rw [hf] at w3
  have hn2 := w4.lst n4
  obtain ⟨r, hr⟩ := nodes_head t 0 0
  obtain ⟨s3, yss, e1, e2, e3, e4⟩ := lc_pure (I := rngI 0 t.sz) (g := gN 6) (tt := dYes) (de := dDIx (dVar 2) (dVar 6)) (Δ := [some t.d, some (.obj m), some (.obj s1.length), y3, y4, y5, none]) (s := s2) (fun d ys => ∀ i : Nat, d = .int ((0 : Int) + i) → i < t.sz → ys = [natD ((bd t 0).getD i 0)]) (fun _ _ => rfl) (fun d s' hd hg => by
    obtain ⟨i, hi, rfl⟩ := List.mem_map.mp hd
    rw [List.mem_range] at hi
    have hv := val_ent 0 (bd t 0) i
    have hlen := bd_len t 0
    rw [List.getElem?_eq_getElem (by omega)] at hv
    simp at hv
    have hdc : dctAt s' s1.length = some (ent 0 (bd t 0)) := by
      obtain ⟨l, rfl⟩ := hg
      have q := dctAt_eq w3
      unfold dctAt
      rw [List.getElem?_append_left (List.getElem?_eq_some_iff.mp q).1, q]
    refine ⟨_, rfl, .inr ⟨s', .int ((bd t 0)[i]'(by omega) : Nat), s', rfl, ?_, Gr.refl _, fun j hj hlt => ?_⟩⟩
    · simp [dDIx, dGetK, hdc, keyD, hv]
    · have hj2 : (i : Int) = j := by simpa using hj
      have : i = j := by omega
      subst this
      simp [natD, List.getD_eq_getElem?_getD, List.getElem?_eq_getElem (show i < (bd t 0).length by omega)]) (le_line (by simp [rngI]; omega))
  have e5 : yss = (List.range t.sz).map fun i => [natD ((bd t 0).getD i 0)] := All2.map_of (g := fun i : Nat => D.int ((0 : Int) + i)) e3 fun i hi y q => q i rfl (List.mem_range.mp hi)
  have hlen := bd_len t 0
  rw [e5, flat_one, ← hlen, range_get] at e2
  have l1 : 1 ≤ sizeLine := le_line (by decide)
  have l2 : (bd t 0).length + 1 ≤ sizeLine := le_line (by omega)
  refine ⟨s3 ++ [.lst [.int 0], .lst ((bd t 0 ++ [0]).map natD)], ?_, ((n2.trans w4).trans e4).trans Gr.app⟩
  have e2' := lstAt_app (l := [DO.lst [.int 0]]) e2
  have hd0 : ndD (0, 0 + t.sz, 0) = .tup [.int 0, .int t.sz, .int 0] := by simp [ndD]
  rw [hr, List.map_cons, hd0] at hn2
  have a1 : atI [D.int 0, .int (t.sz : Int), .int 0] 1 = some (.int t.sz) := rfl
  have rk := rngOk_nat (show t.sz ≤ 100000 by omega)
  simp only [M_u_borders, ds_u_borders, sdB_eq]
  simp at n1
  have n4' := lstAt_app (l := [DO.dK []]) n4
  simp [startD, n1, dDNew, n4', w1, hn2, at_head, a1, rk, wipeD, e1, l1, fAdd, fAddI, fAddS, fAddL, orOp, e2', l2, natD]
end My

namespace My
open PySem L2 PyProof.Rows DV
abbrev kT : Str := "tree"
abbrev kB : Str := "borders"
abbrev kP : Str := "pulses"
abbrev kD : Str := "depth"
def dpI (t : Tr) : Int := maxL ((bd t 0 ++ [0]).map fun (v : Nat) => (v : Int))
def dp (t : Tr) : Nat := (dpI t).toNat
theorem maxL_spec {l : List Int} (h : l ≠ []) : maxL l ∈ l ∧ ∀ y ∈ l, y ≤ maxL l := by
  cases l with
  | nil => exact absurd rfl h
  | cons a r => exact fold_max r a
theorem dp_spec (t : Tr) : dpI t = dp t ∧ ∀ v ∈ bd t 0, v ≤ dp t := by
  have h := maxL_spec (l := (bd t 0 ++ [0]).map fun (v : Nat) => (v : Int)) (by simp)
  have h0 : (0 : Int) ≤ dpI t := h.2 0 (by simp)
  refine ⟨by unfold dp; omega, fun v hv => ?_⟩
  have := h.2 v (by simp; exact .inl ⟨v, hv, rfl⟩)
  have e : dpI t = maxL ((bd t 0 ++ [0]).map fun (v : Nat) => (v : Int)) := rfl
  unfold dp
  omega
theorem intsOf_nat : ∀ l : List Nat, intsOf (l.map natD) = some (l.map fun (v : Nat) => (v : Int))
  | [] => rfl
  | i :: r => by simp [intsOf, natD, intsOf_nat r]
def flds (t : Tr) : List (Str × D) := [(kT, t.d), (kB, .tup ((bd t 0 ++ [0]).map natD)), (kP, .int t.sz), (kD, .int (dp t))]
def MetreAt (A : Ax) (s : Sto) (n : Nat) (t : Tr) : Prop := insAt s n = some (A.c_Metre, flds t)
theorem ins_set {s : Sto} {n : Nat} {x} {C : Addr} {fs : List (Str × D)} (h : insAt s n = some x) : insAt (s.set n (.ins C fs)) n = some (C, fs) := by
  obtain ⟨C', fs'⟩ := x
  have := insAt_eq h
  have hl := (List.getElem?_eq_some_iff.mp this).1
  unfold insAt
  rw [List.getElem?_set_self hl]
theorem ins_gr {s s' : Sto} {n : Nat} {x} (g : Gr s s') (h : insAt s n = some x) : insAt s' n = some x := by
  obtain ⟨l, rfl⟩ := g
  obtain ⟨C', fs'⟩ := x
  have := insAt_eq h
  unfold insAt
  rw [List.getElem?_append_left (List.getElem?_eq_some_iff.mp this).1, this]
theorem ins_new {s : Sto} {C : Addr} {fs : List (Str × D)} : insAt (s ++ [.ins C fs]) s.length = some (C, fs) := by simp [insAt]
theorem put0 (x : D) : putD kT x [] = [(kT, x)] := rfl
theorem put1 (x y : D) : putD kB y [(kT, x)] = [(kT, x), (kB, y)] := rfl
theorem put2 (x y z : D) : putD kP z [(kT, x), (kB, y)] = [(kT, x), (kB, y), (kP, z)] := rfl
theorem put3 (x y z w : D) : putD kD w [(kT, x), (kB, y), (kP, z)] = [(kT, x), (kB, y), (kP, z), (kD, w)] := rfl
theorem get_b1 (x y : D) : [(kT, x), (kB, y)].lookup kB = some y := rfl
theorem get_b2 (x y z : D) : [(kT, x), (kB, y), (kP, z)].lookup kB = some y := rfl
theorem fFld_obj {C : Addr} {f : Str} {n : Nat} {s : Sto} {fs : List (Str × D)} {d : D} (h : insAt s n = some (C, fs)) (e : fs.lookup f = some d) : fFld C f (.obj n) s = some (d, s) := by simp [fFld, h, e]
theorem fStF_obj {C : Addr} {f : Str} {n : Nat} {s : Sto} {fs : List (Str × D)} {d : D} (h : insAt s n = some (C, fs)) (e : fs.length < 1000) : fStF C f (.obj n) d s = some (s.set n (.ins C (putD f d fs))) := by simp [fStF, h, e]
theorem make (A : Ax) {t : Tr} (g : Good t) (s : Sto) : ∃ s', mMk A.c_Metre (argN 2 (M_Metre_uu_init_ A)) [t.d] s = some (.ok (.obj s.length), s') ∧ Gr s s' ∧ MetreAt A s' s.length t := by
  have i0 : insAt (s ++ [.ins A.c_Metre []]) s.length = some (A.c_Metre, []) := ins_new
  obtain ⟨s1, t1, t2⟩ := is_tree A (s ++ [.ins A.c_Metre []]) g
  have i1 := ins_gr t2 i0
  have f1 := fStF_obj (f := kT) (d := t.d) i1 (by decide)
  rw [put0] at f1
  have i2 := ins_set (C := A.c_Metre) (fs := [(kT, t.d)]) i1
  have g2 : Gr s (s1.set s.length (.ins A.c_Metre [(kT, t.d)])) := (Gr.app.trans t2).set (Nat.le_refl _)
  obtain ⟨s3, b1, b2⟩ := borders A t (s1.set s.length (.ins A.c_Metre [(kT, t.d)])) (by have := g.ht; omega)
  have i3 := ins_gr b2 i2
  generalize hB : D.tup ((bd t 0 ++ [0]).map natD) = B at b1
  have f3 := fStF_obj (f := kB) (d := B) i3 (by simp)
  rw [put1] at f3
  have i4 := ins_set (C := A.c_Metre) (fs := [(kT, t.d), (kB, B)]) i3
  have g4 : Gr s (s3.set s.length (.ins A.c_Metre [(kT, t.d), (kB, B)])) := (g2.trans b2).set (Nat.le_refl _)
  generalize hs4 : s3.set s.length (.ins A.c_Metre [(kT, t.d), (kB, B)]) = s4 at f3 i4 g4
  have r4 := fFld_obj (f := kB) i4 (get_b1 t.d B)
  have f4 := fStF_obj (f := kP) (d := .int t.sz) i4 (by simp)
  rw [put2] at f4
  have i5 := ins_set (C := A.c_Metre) (fs := [(kT, t.d), (kB, B), (kP, .int t.sz)]) i4
  have g5 := g4.set (n := s.length) (o := .ins A.c_Metre [(kT, t.d), (kB, B), (kP, .int t.sz)]) (Nat.le_refl _)
  generalize hs5 : s4.set s.length (.ins A.c_Metre [(kT, t.d), (kB, B), (kP, .int t.sz)]) = s5 at f4 i5 g5
  have r5 := fFld_obj (f := kB) i5 (get_b2 t.d B (.int t.sz))
  have f5 := fStF_obj (f := kD) (d := .int (dp t)) i5 (by simp)
  rw [put3] at f5
  have i6 := ins_set (C := A.c_Metre) (fs := [(kT, t.d), (kB, B), (kP, .int t.sz), (kD, .int (dp t))]) i5
  have g6 := g5.set (n := s.length) (o := .ins A.c_Metre [(kT, t.d), (kB, B), (kP, .int t.sz), (kD, .int (dp t))]) (Nat.le_refl _)
  have hlen := bd_len t 0
  have ln : fLen [B] s4 = some (.int (t.sz + 1), s4) := by rw [← hB]; simp [hlen]
  have mx : fMaxA [B] s5 = some (.int (dp t), s5) := by
    have q := (dp_spec t).1
    have q2 := intsOf_nat (bd t 0 ++ [0])
    rw [← hB]
    unfold dpI at q
    simp only [fMaxA, orN, fMax, f2I, fMaxL, fLs, fMaxT, q2, q]
    simp
  refine ⟨_, ?_, g6, by unfold MetreAt flds; rw [hB]; exact i6⟩
  simp [mMk, M_Metre_uu_init_, ds_Metre_uu_init_, startD, t1, truD, dStF, f1, b1, f3, lift1, r4, ln, fSub, f4, r5, mx, f5]
end My

namespace My
open PySem L2 PyProof.Rows DV
def txt (l : List Bool) : Str := ⟨(l.map fun b => if b then 49 else 48).toArray⟩
def trim : List Bool → List Bool
  | [] => []
  | b :: r => match trim r with
    | [] => if b then [true] else []
    | c :: q => b :: c :: q
theorem strOk_txt (l : List Bool) (h : l.length ≤ 100) : PyData.canLay0 (.str (txt l)) = true := by
  simp [PyData.canLay0, PyData.strOk, txt]
theorem fEq_str {x y : Str} {s : Sto} (hx : PyData.canLay0 (.str x) = true) (hy : PyData.canLay0 (.str y) = true) : fEq (.str x) (.str y) s = some (.bl (x == y), s) := by
  have h1 : toPy s 64 (.str x) = some (.str x) := rfl
  have h2 : toPy s 64 (.str y) = some (.str y) := rfl
  have h3 : py2 s (.str x) (.str y) = some (.str x, .str y) := by
    simp only [py2, h1, h2, SeqAt.shaped, hx, hy, PyData.depth]
    rfl
  unfold fEq
  rw [h3]
  rfl
theorem txt_size (l : List Bool) : (txt l).length = l.length := by simp [txt, Str.length]
theorem cutLast (r : List Bool) (b : Bool) (h : r.length ≤ 3) : cutS (txt (r ++ [b])) (some (-1)) none = txt [b] := by
  match r, h with
  | [], _ => cases b <;> rfl
  | [x], _ => cases x <;> cases b <;> rfl
  | [x, y], _ => cases x <;> cases y <;> cases b <;> rfl
  | [x, y, z], _ => cases x <;> cases y <;> cases z <;> cases b <;> rfl
theorem cutInit (r : List Bool) (b : Bool) (h : r.length ≤ 3) : cutS (txt (r ++ [b])) none (some (-1)) = txt r := by
  match r, h with
  | [], _ => cases b <;> rfl
  | [x], _ => cases x <;> cases b <;> rfl
  | [x, y], _ => cases x <;> cases y <;> cases b <;> rfl
  | [x, y, z], _ => cases x <;> cases y <;> cases z <;> cases b <;> rfl
theorem cutNil : cutS (txt []) (some (-1)) none = txt [] := by rfl
theorem trim_app1 (r : List Bool) : trim (r ++ [true]) = r ++ [true] := by
  induction r with
  | nil => rfl
  | cons a r ih =>
    rw [List.cons_append, trim, ih]
    cases r <;> rfl
theorem trim_app0 (r : List Bool) : trim (r ++ [false]) = trim r := by
  induction r with
  | nil => rfl
  | cons a r ih =>
    rw [List.cons_append, trim, ih, trim]
theorem s0 : ("0" : Str) = txt [false] := by decide
theorem c0 : PyData.canLay0 (.str "0") = true := by rw [s0]; exact strOk_txt _ (by decide)
theorem e00 : (txt [false] == ("0" : Str)) = true := by decide
theorem e10 : (txt [true] == ("0" : Str)) = false := by decide
theorem en0 : (txt [] == ("0" : Str)) = false := by decide
theorem txt_cons (b : Bool) (l : List Bool) : (⟨#[if b = true then 49 else 48]⟩ : Str) ++ txt l = txt (b :: l) := by
  have q : ∀ (c : Nat) (m : List Nat), #[c] ++ m.toArray = (c :: m).toArray := fun c m => by simp
  exact congrArg (fun a => (⟨a⟩ : Str)) (q _ _)
theorem one_len (c : Nat) : Str.length ⟨#[c]⟩ = 1 := rfl
theorem rng_len (n : Nat) : (rngI 0 n).its.length = n := by simp [rngI]
theorem e_nil : ("" : Str) = txt [] := by decide
theorem seq_nx {a b : DS} {Δ Δ1 : Dn} {s s1 : Sto} (h : a Δ s = some (.nx Δ1, s1)) : dSeq a b Δ s = b Δ1 s1 := by
  rw [dSeq_eq, h]
theorem range1 {da : DA} {Δ : Dn} {s s1 : Sto} {k : Nat} (h : da Δ s = some (.ok [.int k], s1)) (hk : k ≤ 100000) : iRange1 da Δ s = some (.ok (rngI 0 k), s1) := by
  have rk := rngOk_nat hk
  rw [iRange1_eq, mbind_ok, h]
  simp only [rk, if_true, Int.toNat_natCast]
theorem for_of {di : DI} {g : DGf} {b : DS} {Δ : Dn} {s s1 : Sto} {I : Itd} {r : RS} (h : di Δ s = some (.ok I, s1)) (h2 : forRun I g b I.its Δ s1 = r) : dFor di g b Δ s = r := by
  rw [dFor_eq, sbind_eq, h]
  exact h2
theorem fn_rt {n : Nat} {b : DS} {xs : List D} {s s1 : Sto} {d : D} (h : b (startD n xs) s = some (.rt d, s1)) : runFn n b xs s = some (.ok d, s1) := by
  rw [runFn_eq, h]
end My

namespace My
open PySem L2 PyProof.Rows DV
/-! ### texts of '0' and '1' of any length -/
theorem lay_txt (l : List Bool) : PyData.canLay0 (.str (txt l)) = true := by
  simp [PyData.canLay0, PyData.strOk, txt]
theorem all_goes (l : List Bool) : ∀ c ∈ (txt l).cps.toList, ("01" : Str).cps.contains c = true := by
  intro c hc
  simp only [txt, List.mem_map] at hc
  obtain ⟨b, _, rfl⟩ := hc
  cases b <;> decide +kernel
theorem tw_all {α : Type} {p : α → Bool} : ∀ {l : List α}, (∀ a ∈ l, p a = true) → l.takeWhile p = l
  | [], _ => rfl
  | a :: r, h => by rw [List.takeWhile_cons, if_pos (h a (by simp)), tw_all fun b hb => h b (by simp [hb])]
theorem strip_any (l : List Bool) : Txt.stripChars (txt l) ("01" : Str) = ("" : Str) := by
  have lo : stripLo ("01" : Str).cps.contains true (txt l) = (txt l).length := by
    unfold stripLo
    rw [if_pos rfl, tw_all (all_goes l)]
    simp [Str.length]
  have hi : stripHi ("01" : Str).cps.contains true (txt l) (txt l).length = (txt l).length := by
    unfold stripHi
    rw [if_pos rfl, List.drop_eq_nil_of_le (by simp [Str.length])]
    simp
  unfold Txt.stripChars Txt.stripBy
  split
  · rename_i h
    unfold stripSame at h
    rw [lo] at h
    have h0 : (txt l).length = 0 := by
      simp only [Bool.and_eq_true, beq_iff_eq] at h
      exact h.1
    rw [txt_size] at h0
    have : l = [] := List.eq_nil_of_length_eq_zero h0
    subst this
    exact e_nil.symm
  · unfold stripped
    rw [lo, hi]
    show (⟨_⟩ : Str) = _
    have : (txt l).cps.extract (txt l).length (txt l).length = #[] := by
      simp [Str.length]
    rw [this]
    rfl
theorem cps_app (r : List Bool) (b : Bool) : (txt (r ++ [b])).cps = (txt r).cps.push (if b then 49 else 48) := by
  simp [txt]
theorem ends_any (r : List Bool) (b : Bool) : Txt.endswith (txt (r ++ [b])) ("1" : Str) = b := by
  have h1 : ("1" : Str).length = 1 := rfl
  have h2 : (txt (r ++ [b])).length = r.length + 1 := by rw [txt_size]; simp
  have h3 : (txt r).cps.size = r.length := by simp [txt]
  unfold Txt.endswith
  rw [h1, h2]
  have h4 : decide (0 + 1 ≤ r.length + 1) = true := by simp
  rw [h4, Bool.true_and]
  unfold Builtin.Str.subAt
  rw [h1, cps_app]
  have h5 : ((txt r).cps.push (if b then 49 else 48)).extract (r.length + 1 - 1) (r.length + 1 - 1 + 1) = #[if b then 49 else 48] := by
    have e : r.length + 1 - 1 = (txt r).cps.size := by omega
    rw [e]
    apply Array.ext
    · simp
    · intro i h6 h7
      simp at h7
      subst h7
      simp
  rw [h5]
  cases b <;> decide
theorem last_any (r : List Bool) (b : Bool) : cutS (txt (r ++ [b])) (some (-1)) none = txt [b] := by
  have hn : (txt (r ++ [b])).length = r.length + 1 := by rw [txt_size]; simp
  have h1 : HT.sIx (r.length + 1) 0 (some (-1)) = r.length := by
    unfold HT.sIx
    simp
    omega
  have h2 : HT.sIx (r.length + 1) (r.length + 1) none = r.length + 1 := rfl
  have h3 : (txt (r ++ [b])).cps.toList = (r.map fun b => if b then 49 else 48) ++ [if b then 49 else 48] := by simp [txt]
  unfold cutS
  rw [hn, h1, h2, h3, List.drop_append_of_le_length (by simp), List.drop_eq_nil_of_le (by simp)]
  have h4 : r.length + 1 - r.length = 1 := by omega
  rw [h4]
  rfl
theorem ne_any (l : List Bool) : (txt l == ("" : Str)) = l.isEmpty := by
  cases l with
  | nil => decide
  | cons b r =>
    have : ¬ (txt (b :: r) = ("" : Str)) := fun e => by
      have := congrArg Str.length e
      rw [txt_size] at this
      have e0 : ("" : Str).length = 0 := rfl
      rw [e0] at this
      cases this
    simp [this]
end My

namespace My
open PySem L2 PyProof.Rows DV
theorem strip4 (l : List Bool) (h : l.length ≤ 4) : Txt.stripChars (txt l) ("01" : Str) = ("" : Str) := by
  match l, h with
  | [], _ => decide +kernel
  | [x], _ => cases x <;> decide +kernel
  | [x, y], _ => cases x <;> cases y <;> decide +kernel
  | [x, y, z], _ => cases x <;> cases y <;> cases z <;> decide +kernel
  | [x, y, z, b], _ => cases x <;> cases y <;> cases z <;> cases b <;> decide +kernel
theorem ends4 (r : List Bool) (h : r.length ≤ 3) : Txt.endswith (txt (r ++ [true])) ("1" : Str) = true := by
  match r, h with
  | [], _ => rfl
  | [x], _ => cases x <;> rfl
  | [x, y], _ => cases x <;> cases y <;> rfl
  | [x, y, z], _ => cases x <;> cases y <;> cases z <;> rfl
theorem str1 : PyData.canLay0 (.str "") = true := by rw [e_nil]; exact strOk_txt [] (by decide)
theorem ne_eq (l : List Bool) (h : l.length ≤ 4) : (txt l == ("" : Str)) = l.isEmpty := by
  match l, h with
  | [], _ => decide +kernel
  | [x], _ => cases x <;> decide +kernel
  | [x, y], _ => cases x <;> cases y <;> decide +kernel
  | [x, y, z], _ => cases x <;> cases y <;> cases z <;> decide +kernel
  | [x, y, z, b], _ => cases x <;> cases y <;> cases z <;> cases b <;> decide +kernel
theorem fNe_str {x y : Str} {s : Sto} (hx : PyData.canLay0 (.str x) = true) (hy : PyData.canLay0 (.str y) = true) : fNe (.str x) (.str y) s = some (.bl (!(x == y)), s) := by
  have h1 : toPy s 64 (.str x) = some (.str x) := rfl
  have h2 : toPy s 64 (.str y) = some (.str y) := rfl
  have h3 : py2 s (.str x) (.str y) = some (.str x, .str y) := by
    simp only [py2, h1, h2, SeqAt.shaped, hx, hy, PyData.depth]
    rfl
  unfold fNe
  rw [h3]
  rfl
/-- as trim leaves it -/
def Trm (l : List Bool) : Prop := l = [] ∨ ∃ r, l = r ++ [true]
theorem trm_trim : ∀ l : List Bool, Trm (trim l)
  | [] => .inl rfl
  | b :: r => by
    have ih := trm_trim r
    rw [trim]
    split
    · rename_i e
      cases b
      · exact .inl rfl
      · exact .inr ⟨[], rfl⟩
    · rename_i c q e
      rw [e] at ih
      rcases ih with ih | ⟨r', ih⟩
      · cases ih
      · exact .inr ⟨b :: r', by rw [ih]; rfl⟩
theorem tyS {x : Str} {s : Sto} : tyD "str" (.str x) s = true := rfl
theorem bits_ok (A : Ax) (s : Sto) (l : List Bool) (h : l.length ≤ 4) (ht : Trm l) : M_is_bits A [.str (txt l)] s = some (.ok (.bl true), s) := by
  have z : lenOk (txt l) = true := by unfold lenOk; rw [txt_size]; exact decide_eq_true (le_line (by omega))
  have q1 := strip4 l h
  have q2 := fNe_str (s := s) str1 str1
  have e1 : (("" : Str) == "") = true := by decide
  rw [e1] at q2
  have q3 := fEq_str (s := s) (strOk_txt l (by omega)) str1
  rw [ne_eq l h] at q3
  have fs : fStrip (.str (txt l)) [.str "01"] s = some (.str "", s) := by simp [fStrip, fS1, z, q1]
  rcases ht with rfl | ⟨r, rfl⟩
  · have e2 : ([] : List Bool).isEmpty = true := rfl
    rw [e2] at q3
    simp [M_is_bits, ds_is_bits, startD, truD, dBM, mTy, tyS, DV.liftM, fs, q2, q3]
  · have q4 := ends4 r (by simp at h; omega)
    have fe : fEndswith (.str (txt (r ++ [true]))) [.str "1"] s = some (.bl true, s) := by simp [fEndswith, fS1, q4]
    have e2 : (r ++ [true]).isEmpty = false := by cases r <;> rfl
    rw [e2] at q3
    simp [M_is_bits, ds_is_bits, startD, truD, dBM, mTy, tyS, DV.liftM, fs, q2, q3, fe]
abbrev kI : Str := "is_point"
abbrev kL : Str := "level"
theorem no_i (t : Tr) : (flds t).lookup kI = none := rfl
theorem no_l (t : Tr) : (flds t).lookup kL = none := rfl
theorem fl_b (t : Tr) : (flds t).lookup kB = some (.tup ((bd t 0 ++ [0]).map natD)) := rfl
theorem fl_p (t : Tr) : (flds t).lookup kP = some (.int t.sz) := rfl
theorem fl_d (t : Tr) : (flds t).lookup kD = some (.int (dp t)) := rfl
theorem fl_t (t : Tr) : (flds t).lookup kT = some t.d := rfl
theorem mi_ok {C : Addr} {m : Str} {n : Nat} {s : Sto} {fs : List (Str × D)} (h : insAt s n = some (C, fs)) (e : fs.lookup m = none) : mIns C m (.obj n) s = some (.ok (), s) := by simp [mIns, h, e]
def levD (t : Tr) (q : Nat) (l : List Bool) : Nat := if l.isEmpty = true then (bd t 0 ++ [0]).getD q 0 else dp t + l.length
theorem isp_ok (A : Ax) {s : Sto} {n : Nat} {t : Tr} (hM : MetreAt A s n t) (q : Nat) (l : List Bool) (h : l.length ≤ 4) (ht : Trm l) (hq : q < t.sz ∨ q = t.sz ∧ l = []) : M_Metre_is_point A [.obj n, .tup [.int q, .str (txt l)]] s = some (.ok (.bl true), s) := by
  have f1 := fFld_obj hM (fl_p t)
  have b := bits_ok A s l h ht
  have q3 := fEq_str (s := s) (strOk_txt l (by omega)) str1
  rw [ne_eq l h] at q3
  rcases hq with hq | ⟨rfl, rfl⟩
  · have hq' : (q : Int) < t.sz := by omega
    simp [M_Metre_is_point, ds_Metre_is_point, startD, truD, isnum_int, b, lift1, f1, dChain, fLe, fLt, hq']
  · have e2 : ([] : List Bool).isEmpty = true := rfl
    rw [e2] at q3
    simp [M_Metre_is_point, ds_Metre_is_point, startD, truD, isnum_int, b, lift1, f1, dChain, fLe, fLt, q3]
theorem at_nat {l : List Nat} {q : Nat} (h : q < l.length) : atI (l.map natD) (q : Int) = some (.int (l.getD q 0 : Nat)) := by
  unfold atI ixN
  simp [h, natD, List.getD_eq_getElem?_getD]
theorem level (A : Ax) {s : Sto} {n : Nat} {t : Tr} (hM : MetreAt A s n t) (q : Nat) (l : List Bool) (h : l.length ≤ 4) (ht : Trm l) (hq : q < t.sz ∨ q = t.sz ∧ l = []) : M_Metre_level A [.obj n, .tup [.int q, .str (txt l)]] s = some (.ok (.int (levD t q l)), s) := by
  have i := isp_ok A hM q l h ht hq
  have mi := mi_ok hM (no_i t)
  have f1 := fFld_obj hM (fl_b t)
  have f2 := fFld_obj hM (fl_d t)
  have q3 := fEq_str (s := s) (strOk_txt l (by omega)) str1
  rw [ne_eq l h] at q3
  have hl := bd_len t 0
  have ha := at_nat (l := bd t 0 ++ [0]) (q := q) (by simp; omega)
  have z : l.length ≤ sizeLine := le_line (by omega)
  generalize hB : (bd t 0 ++ [0]).map natD = B at f1 ha
  cases hl2 : l.isEmpty with
  | true =>
    rw [hl2] at q3
    simp [M_Metre_level, ds_Metre_level, startD, truD, mi, i, lift1, f1, f2, q3, ha, levD, hl2]
  | false =>
    rw [hl2] at q3
    simp [M_Metre_level, ds_Metre_level, startD, truD, mi, i, lift1, f1, f2, q3, levD, hl2, z, txt_size, fAdd, fAddI, orOp]
end My

namespace My
open PySem L2 PyProof.Rows DV
/-! ### runs, put together -/
theorem cn {a : DX} {r : DA} {Δ : Dn} {s s1 s2 : Sto} {x : D} {xs : List D} (h1 : a Δ s = some (.ok x, s1)) (h2 : r Δ s1 = some (.ok xs, s2)) : dCons a r Δ s = some (.ok (x :: xs), s2) := by
  rw [dCons_eq, mbind_ok, h1]
  show mbind (r Δ) (fun y => mret (x :: y)) s1 = _
  rw [mbind_ok, h2]
  rfl
theorem tp {da : DA} {Δ : Dn} {s s1 : Sto} {xs : List D} (h : da Δ s = some (.ok xs, s1)) (hz : xs.length ≤ 1000) : dTup da Δ s = some (.ok (.tup xs), s1) := by
  rw [dTup_eq, mbind_ok, h]
  show (if xs.length ≤ sizeLine then mret (D.tup xs) else mfail) s1 = _
  rw [if_pos (le_line hz)]
  rfl
theorem ls {da : DA} {Δ : Dn} {s s1 : Sto} {xs : List D} (h : da Δ s = some (.ok xs, s1)) (hz : xs.length ≤ 1000) : dLst da Δ s = some (.ok (.obj s1.length), s1 ++ [.lst xs]) := by
  rw [dLst_eq, mbind_ok, h]
  show (if xs.length ≤ sizeLine then mnew (DO.lst xs) else mfail) s1 = _
  rw [if_pos (le_line hz)]
  rfl
theorem asg {de : DX} {g : DGf} {Δ Δ1 : Dn} {s s1 s2 : Sto} {d : D} (h : de Δ s = some (.ok d, s1)) (h2 : g d Δ s1 = some (Δ1, s2)) : dAsg de g Δ s = some (.nx Δ1, s2) := by
  rw [dAsg_eq, sbind_eq, h]
  simp only [h2]
theorem me5 {C : Addr} {m : Str} {f : FnD} {a : DX} {da : DA} {Δ : Dn} {s s1 s2 : Sto} {x : D} {xs : List D} (h1 : a Δ s = some (.ok x, s1)) (h2 : mIns C m x s1 = some (.ok (), s1)) (h3 : da Δ s1 = some (.ok xs, s2)) : dMe C m f a da Δ s = f (x :: xs) s2 := by
  rw [dMe_eq, mbind_ok, h1]
  show mbind (mIns C m x) (fun _ => mbind (da Δ) fun xs => f (x :: xs)) s1 = _
  rw [mbind_ok, h2]
  show mbind (da Δ) (fun xs => f (x :: xs)) s1 = _
  rw [mbind_ok, h3]
theorem cl5 {f : FnD} {da : DA} {Δ : Dn} {s s1 : Sto} {xs : List D} (h : da Δ s = some (.ok xs, s1)) : dCl f da Δ s = f xs s1 := by
  rw [dCl_eq, mbind_ok, h]
theorem ag5 {n : Nat} {f : FnD} {xs : List D} {s : Sto} (h : xs.length = n) : argN n f xs s = f xs s := by rw [argN_eq, if_pos h]
theorem op5 {f : Op2} {a b : DX} {Δ : Dn} {s s1 s2 s3 : Sto} {x y d : D} (h1 : a Δ s = some (.ok x, s1)) (h2 : b Δ s1 = some (.ok y, s2)) (h3 : f x y s2 = some (d, s3)) : dOp f a b Δ s = some (.ok d, s3) := by
  rw [dOp_eq, mbind_ok, h1]
  show mbind (b Δ) (fun y => lift2 f x y) s1 = _
  rw [mbind_ok, h2]
  show lift2 f x y s2 = _
  rw [lift2_eq, h3]
theorem te5 {a : DX} {Δ : Dn} {s s1 : Sto} {b : Bool} (h : a Δ s = some (.ok (.bl b), s1)) : dTest a Δ s = some (.ok b, s1) := by
  rw [dTest_eq, mbind_ok, h]
  rfl
theorem tr5 {a : DX} {Δ : Dn} {s s1 : Sto} {b : Bool} (h : a Δ s = some (.ok (.bl b), s1)) : dTruth a Δ s = some (.ok b, s1) := by
  rw [dTruth_eq, mbind_ok, h]
  cases b <;> rfl
theorem if5 {t : DT} {a b : DS} {Δ : Dn} {s s1 : Sto} {c : Bool} (h : t Δ s = some (.ok c, s1)) : dIfS t a b Δ s = if c = true then a Δ s1 else b Δ s1 := by
  rw [dIfS_eq, sbind_eq, h]
theorem or5 {t u : DT} {Δ : Dn} {s s1 : Sto} (h : t Δ s = some (.ok false, s1)) : dOr t u Δ s = u Δ s1 := by
  rw [dOr_eq, mbind_ok, h]
  rfl
theorem no5 {t : DT} {a : DS} {Δ : Dn} {s s1 : Sto} (h : t Δ s = some (.ok false, s1)) : dIfS t a dNx Δ s = some (.nx Δ, s1) := by
  rw [if5 h]
  rfl
theorem cb5 {f : OpN} {da : DA} {Δ : Dn} {s s1 s2 : Sto} {xs : List D} {d : D} (h : da Δ s = some (.ok xs, s1)) (h2 : f xs s1 = some (d, s2)) : dCB f da Δ s = some (.ok d, s2) := by
  rw [dCB_eq, mbind_ok, h]
  show liftN f xs s1 = _
  rw [liftN_eq, h2]
theorem ort5 {t u : DT} {Δ : Dn} {s s1 : Sto} (h : t Δ s = some (.ok true, s1)) : dOr t u Δ s = some (.ok true, s1) := by
  rw [dOr_eq, mbind_ok, h]
  rfl
theorem andt5 {t u : DT} {Δ : Dn} {s s1 : Sto} (h : t Δ s = some (.ok true, s1)) : dAnd t u Δ s = u Δ s1 := by
  rw [dAnd_eq, mbind_ok, h]
  rfl
theorem andf5 {t u : DT} {Δ : Dn} {s s1 : Sto} (h : t Δ s = some (.ok false, s1)) : dAnd t u Δ s = some (.ok false, s1) := by
  rw [dAnd_eq, mbind_ok, h]
  rfl
theorem yes5 {t : DT} {de : DX} {Δ : Dn} {s s1 s2 : Sto} {d : D} (h : t Δ s = some (.ok true, s1)) (h2 : de Δ s1 = some (.ok d, s2)) : dIfS t (dRet de) dNx Δ s = some (.rt d, s2) := by
  rw [if5 h, if_pos rfl]
  unfold dRet sbind
  rw [h2]
theorem gr_at {s s' : Sto} (g : Gr s s') {i : Nat} {o : DO} (h : s[i]? = some o) : s'[i]? = some o := by
  obtain ⟨l, rfl⟩ := g
  rw [List.getElem?_append_left (List.getElem?_eq_some_iff.mp h).1]
  exact h
theorem seq_rt {a b : DS} {Δ : Dn} {s s1 : Sto} {d : D} (h : a Δ s = some (.rt d, s1)) : dSeq a b Δ s = some (.rt d, s1) := by unfold dSeq; rw [h]
end My

namespace My
open PySem L2 PyProof.Rows DV
/-- as digits of a point are -/
def goodB (l : List Bool) : Bool := l.isEmpty || l.getLast? == some true
theorem good_trm {l : List Bool} : goodB l = true ↔ Trm l := by
  unfold goodB Trm
  constructor
  · intro h
    rw [Bool.or_eq_true] at h
    rcases h with h | h
    · exact .inl (by simpa using h)
    · obtain ⟨r, rfl⟩ := List.getLast?_eq_some_iff.mp (by simpa using h)
      exact .inr ⟨r, rfl⟩
  · rintro (rfl | ⟨r, rfl⟩)
    · rfl
    · simp
theorem tySt {x : Str} {s : Sto} : tyD "str" (.str x) s = true := rfl
theorem fNeS {x y : Str} {s : Sto} (hx : PyData.canLay0 (.str x) = true) (hy : PyData.canLay0 (.str y) = true) : fNe (.str x) (.str y) s = some (.bl (!(x == y)), s) := fNe_str hx hy
theorem bits_txt (A : Ax) (s : Sto) (l : List Bool) (h : l.length ≤ 100000) : M_is_bits A [.str (txt l)] s = some (.ok (.bl (goodB l)), s) := by
  have z : lenOk (txt l) = true := by unfold lenOk; rw [txt_size]; exact decide_eq_true (by rw [sizeLine_eq]; omega)
  have q1 := strip_any l
  have q2 := fNe_str (s := s) str1 str1
  have e1 : (("" : Str) == "") = true := by decide
  rw [e1] at q2
  have q3 := fEq_str (s := s) (lay_txt l) str1
  rw [ne_any l] at q3
  have fs : fStrip (.str (txt l)) [.str "01"] s = some (.str "", s) := by simp [fStrip, fS1, z, q1]
  rcases List.eq_nil_or_concat l with rfl | ⟨r, b, rfl⟩
  · have e2 : ([] : List Bool).isEmpty = true := rfl
    rw [e2] at q3
    simp [M_is_bits, ds_is_bits, startD, truD, dBM, mTy, tyS, DV.liftM, fs, q2, q3, goodB]
  · rw [List.concat_eq_append] at *
    have q4 := ends_any r b
    have fe : fEndswith (.str (txt (r ++ [b]))) [.str "1"] s = some (.bl b, s) := by simp [fEndswith, fS1, q4]
    have e2 : (r ++ [b]).isEmpty = false := by cases r <;> rfl
    rw [e2] at q3
    have e3 : goodB (r ++ [b]) = b := by cases b <;> simp [goodB]
    rw [e3]
    simp [M_is_bits, ds_is_bits, startD, truD, dBM, mTy, tyS, DV.liftM, fs, q2, q3, fe]
/-- texts with another sign -/
theorem bits_odd (A : Ax) (s : Sto) {x : Str} (h : x = "2" ∨ x = "1 " ∨ x = "-1") : M_is_bits A [.str x] s = some (.ok (.bl false), s) := by
  have key : ∀ y : Str, lenOk x = true → Txt.stripChars x ("01" : Str) = y → PyData.canLay0 (.str y) = true → (y == "") = false → M_is_bits A [.str x] s = some (.ok (.bl false), s) := fun y z q1 la e1 => by
    have q2 := fNe_str (s := s) la str1
    rw [e1] at q2
    have fs : fStrip (.str x) [.str "01"] s = some (.str y, s) := by simp [fStrip, fS1, z, q1]
    simp [M_is_bits, ds_is_bits, startD, truD, dBM, mTy, tyS, DV.liftM, fs, q2]
  rcases h with rfl | rfl | rfl
  · exact key "2" (by unfold lenOk; exact decide_eq_true (le_line (by decide))) (by decide +kernel) (by decide +kernel) (by decide)
  · exact key " " (by unfold lenOk; exact decide_eq_true (le_line (by decide))) (by decide +kernel) (by decide +kernel) (by decide)
  · exact key "-" (by unfold lenOk; exact decide_eq_true (le_line (by decide))) (by decide +kernel) (by decide +kernel) (by decide)
end My

namespace My
open PySem L2 PyProof.Rows DV
@[simp] theorem isi_ni {s : Sto} : fIsi [.non, .ty "int"] s = some (.bl false, s) := rfl
@[simp] theorem isi_nt {s : Sto} : fIsi [.non, .ty "tuple"] s = some (.bl false, s) := rfl
@[simp] theorem isi_ns {s : Sto} : fIsi [.non, .ty "str"] s = some (.bl false, s) := rfl
@[simp] theorem isi_bi {b : Bool} {s : Sto} : fIsi [.bl b, .ty "int"] s = some (.bl true, s) := rfl
@[simp] theorem isi_bb {b : Bool} {s : Sto} : fIsi [.bl b, .ty "bool"] s = some (.bl true, s) := rfl
@[simp] theorem isi_bt {b : Bool} {s : Sto} : fIsi [.bl b, .ty "tuple"] s = some (.bl false, s) := rfl
@[simp] theorem isi_bs {b : Bool} {s : Sto} : fIsi [.bl b, .ty "str"] s = some (.bl false, s) := rfl
@[simp] theorem isi_it {i : Int} {s : Sto} : fIsi [.int i, .ty "tuple"] s = some (.bl false, s) := rfl
@[simp] theorem isi_is {i : Int} {s : Sto} : fIsi [.int i, .ty "str"] s = some (.bl false, s) := rfl
@[simp] theorem isi_si {x : Str} {s : Sto} : fIsi [.str x, .ty "int"] s = some (.bl false, s) := rfl
@[simp] theorem isi_st {x : Str} {s : Sto} : fIsi [.str x, .ty "tuple"] s = some (.bl false, s) := rfl
theorem isi_lst {n : Nat} {s : Sto} {xs : List D} (h : lstAt s n = some xs) : fIsi [.obj n, .ty "int"] s = some (.bl false, s) ∧ fIsi [.obj n, .ty "tuple"] s = some (.bl false, s) ∧ fIsi [.obj n, .ty "str"] s = some (.bl false, s) := by
  have h := lstAt_eq h
  refine ⟨?_, ?_, ?_⟩ <;> simp [fIsi, kdOf, h, tyNames, Kd.is, Kd.name]
/-- the first of a pair: an int or something else -/
inductive Fst (s : Sto) : D → Option Int → Prop
  | int (i : Int) : Fst s (.int i) (some i)
  | bl (b : Bool) : Fst s (.bl b) none
  | non : Fst s .non none
  | str (x : Str) : Fst s (.str x) none
  | obj (m : Nat) (xs : List D) : lstAt s m = some xs → Fst s (.obj m) none
/-- the second: digits or something else -/
inductive Snd (s : Sto) : D → Option (List Bool) → Prop
  | txt (l : List Bool) : l.length ≤ 100000 → Snd s (.str (txt l)) (some l)
  | odd (x : Str) : x = "2" ∨ x = "1 " ∨ x = "-1" → Snd s (.str x) none
  | int (i : Int) : Snd s (.int i) none
  | bl (b : Bool) : Snd s (.bl b) none
  | non : Snd s .non none
  | obj (m : Nat) (xs : List D) : lstAt s m = some xs → Snd s (.obj m) none
def goodP (z : Nat) (o : Option Int) (p : Option (List Bool)) : Bool := match o, p with
  | some i, some l => goodB l && ((decide (0 ≤ i) && decide (i < z)) || (i == z && l.isEmpty))
  | _, _ => false
theorem fst_num (A : Ax) {s : Sto} {x : D} {o : Option Int} (h : Fst s x o) : M_is_number A [x] s = some (.ok (.bl o.isSome), s) := by
  cases h with
  | obj m xs h => simp [M_is_number, ds_is_number, startD, truD, (isi_lst h).1]
  | _ => simp [M_is_number, ds_is_number, startD, truD]
theorem snd_bits (A : Ax) {s : Sto} {y : D} {p : Option (List Bool)} (h : Snd s y p) : M_is_bits A [y] s = some (.ok (.bl (match p with | some l => goodB l | none => false)), s) := by
  cases h with
  | txt l h => exact bits_txt A s l h
  | odd x h => exact bits_odd A s h
  | obj m xs h => simp [M_is_bits, ds_is_bits, startD, truD, (isi_lst h).2.2]
  | _ => simp [M_is_bits, ds_is_bits, startD, truD]
theorem ip_pair (A : Ax) {s : Sto} {n : Nat} {t : Tr} (hM : MetreAt A s n t) {x y : D} {o : Option Int} {p : Option (List Bool)} (hx : Fst s x o) (hy : Snd s y p) : M_Metre_is_point A [.obj n, .tup [x, y]] s = some (.ok (.bl (goodP t.sz o p)), s) := by
  have l2 : (2 : Nat) ≤ sizeLine := le_line (by decide)
  have f1 := fFld_obj hM (fl_p t)
  have nx := fst_num A hx
  have by' := snd_bits A hy
  cases hx with
  | int i =>
    cases p with
    | none => simp [M_Metre_is_point, ds_Metre_is_point, startD, truD, l2, nx, by', goodP]
    | some l =>
      cases hy
      cases hg : goodB l with
      | false =>
        simp only [hg] at by'
        simp [M_Metre_is_point, ds_Metre_is_point, startD, truD, l2, nx, by', goodP, hg]
      | true =>
        simp only [hg] at by'
        have q3 := fEq_str (s := s) (lay_txt l) str1
        rw [ne_any l] at q3
        by_cases h0 : 0 ≤ i
        · by_cases h1 : i < t.sz
          · simp [M_Metre_is_point, ds_Metre_is_point, startD, truD, l2, nx, by', goodP, hg, lift1, f1, dChain, fLe, fLt, h0, h1]
          · by_cases h2 : i = t.sz
            · subst h2
              simp [M_Metre_is_point, ds_Metre_is_point, startD, truD, l2, nx, by', goodP, hg, lift1, f1, dChain, fLe, fLt, q3]
            · simp [M_Metre_is_point, ds_Metre_is_point, startD, truD, l2, nx, by', goodP, hg, lift1, f1, dChain, fLe, fLt, h0, h1, h2, q3]
        · have h2 : ¬ i = t.sz := by omega
          simp [M_Metre_is_point, ds_Metre_is_point, startD, truD, l2, nx, by', goodP, hg, lift1, f1, dChain, fLe, fLt, h0, h2, q3]
  | _ => simp [M_Metre_is_point, ds_Metre_is_point, startD, truD, l2, nx, goodP]
end My

namespace My
open PySem L2 PyProof.Rows DV
theorem ne_nil0 {s : Sto} {m k : Nat} (h1 : lstAt s m = some []) (h2 : lstAt s k = some []) : fNe (.obj m) (.obj k) s = some (.bl false, s) := by
  have e1 : toPy s 64 (.obj m) = some (.list []) := by simp only [toPy, h1]; rfl
  have e2 : toPy s 64 (.obj k) = some (.list []) := by simp only [toPy, h2]; rfl
  have h3 : py2 s (.obj m) (.obj k) = some (.list [], .list []) := by
    simp only [py2, e1, e2]
    rfl
  unfold fNe
  rw [h3]
  rfl
theorem ne_nil1 {s : Sto} {m k : Nat} {x : Str} (hx : PyData.canLay0 (.str x) = true) (h1 : lstAt s m = some [.str x]) (h2 : lstAt s k = some []) : fNe (.obj m) (.obj k) s = some (.bl true, s) := by
  have e1 : toPy s 64 (.obj m) = some (.list [.str x]) := by simp only [toPy, h1]; rfl
  have e2 : toPy s 64 (.obj k) = some (.list []) := by simp only [toPy, h2]; rfl
  have h3 : py2 s (.obj m) (.obj k) = some (.list [.str x], .list []) := by
    have c1 : SeqAt.shaped (.list [.str x]) = true := by
      simp [SeqAt.shaped, PyData.canLay0, PyData.canLayAll0, PyData.depth, PyData.depthAll] at hx ⊢
      exact hx
    have c2 : SeqAt.shaped (.list []) = true := rfl
    simp only [py2, e1, e2, c1, c2, Bool.and_self, if_true]
  unfold fNe
  rw [h3]
  rfl
/-- the signs of a text that are no digits -/
theorem signs (A : Ax) {x0 x1 x2 : Option D} {x : Str} {s : Sto} (hx : x.cps.size ≤ 100000) : ∃ s', dLc [4] (iSeqS (dVar 3)) (gN 4) (dTest (dOp fNotIn (dVar 4) (dC (.str "01")))) (dVar 4) [x0, x1, x2, some (.str x), none] s = some (.ok (.obj s.length), s') ∧ Gr s s' ∧
    lstAt s' s.length = some ((x.cps.toList.filter fun c => !(decide (c ∈ ("01" : Str).cps.toList))).map fun c => D.str ⟨#[c]⟩) := by
  obtain ⟨s', yss, e1, e2, e3, e4⟩ := lc_pure (I := ⟨x.cps.toList.map fun c => D.str ⟨#[c]⟩, none⟩) (g := gN 4) (tt := dTest (dOp fNotIn (dVar 4) (dC (.str "01")))) (de := dVar 4) (Δ := [x0, x1, x2, some (.str x), none]) (s := s)
    (fun d ys => ∀ c, d = .str ⟨#[c]⟩ → ys = if decide (c ∈ ("01" : Str).cps.toList) = true then [] else [.str ⟨#[c]⟩]) (fun _ _ => rfl) (fun d s' hd _ => by
    obtain ⟨c, _, rfl⟩ := List.mem_map.mp hd
    have f : fNotIn (.str ⟨#[c]⟩) (.str "01") s' = some (.bl (!(decide (c ∈ ("01" : Str).cps.toList))), s') := by
      simp [fNotIn, orOp, fInS]
    refine ⟨_, rfl, ?_⟩
    by_cases hc : c ∈ ("01" : Str).cps.toList
    · have fd : decide (c ∈ ("01" : Str).cps.toList) = true := decide_eq_true hc
      rw [fd] at f
      refine .inl ⟨s', ?_, Gr.refl _, fun c' e => ?_⟩
      · rw [dTest_eq]
        simp [f, dBl]
      · cases e
        rw [if_pos fd]
    · have fd : decide (c ∈ ("01" : Str).cps.toList) = false := decide_eq_false hc
      rw [fd] at f
      refine .inr ⟨s', .str ⟨#[c]⟩, s', ?_, rfl, Gr.refl _, fun c' e => ?_⟩
      · rw [dTest_eq]
        simp [f, dBl]
      · cases e
        rw [if_neg (by rw [fd]; simp)]) (by rw [List.length_map, Array.length_toList, sizeLine_eq]; omega)
  have e5 : yss = x.cps.toList.map fun c => if decide (c ∈ ("01" : Str).cps.toList) = true then [] else [D.str ⟨#[c]⟩] := All2.map_of e3 fun c _ y q => q c rfl
  have e6 : ∀ l : List Nat, (l.map fun c => if decide (c ∈ ("01" : Str).cps.toList) = true then [] else [D.str ⟨#[c]⟩]).flatten = (l.filter fun c => !(decide (c ∈ ("01" : Str).cps.toList))).map fun c => D.str ⟨#[c]⟩ := by
    intro l
    induction l with
    | nil => rfl
    | cons c r ih =>
      rw [List.map_cons, List.flatten_cons, ih, List.filter_cons]
      by_cases hc : c ∈ ("01" : Str).cps.toList
      · rw [decide_eq_true hc]
        rfl
      · rw [decide_eq_false hc]
        rfl
  rw [e5, e6] at e2
  refine ⟨s', ?_, e4, e2⟩
  have hi : iSeqS (dVar 3) [x0, x1, x2, some (.str x), none] s = some (.ok ⟨x.cps.toList.map fun c => D.str ⟨#[c]⟩, none⟩, s) := rfl
  rw [dLc_eq, mbind_ok, hi]
  simp only [wipeD]
  show (match lcRun _ _ _ _ _ _ [x0, x1, x2, some (.str x), none] _ with | some s' => some (Except.ok (D.obj s.length), s') | none => none) = _
  rw [e1]
end My

namespace My
open PySem L2 PyProof.Rows DV
def bad (x : Str) : List Nat := x.cps.toList.filter fun c => !(decide (c ∈ ("01" : Str).cps.toList))
theorem bad_txt (l : List Bool) : bad (txt l) = [] := by
  unfold bad
  rw [List.filter_eq_nil_iff]
  intro c hc
  simp only [txt, List.mem_map] at hc
  obtain ⟨b, _, rfl⟩ := hc
  cases b <;> decide +kernel
theorem bad_odd {x : Str} (h : x = "2" ∨ x = "1 " ∨ x = "-1") : ∃ c : Nat, bad x = [c] ∧ PyData.canLay0 (.str ⟨#[c]⟩) = true ∧ x.cps.size ≤ 2 := by
  rcases h with rfl | rfl | rfl
  · exact ⟨50, by decide +kernel, by decide +kernel, by decide +kernel⟩
  · exact ⟨32, by decide +kernel, by decide +kernel, by decide +kernel⟩
  · exact ⟨45, by decide +kernel, by decide +kernel, by decide +kernel⟩
def Sg4 : DX := dLc [4] (iSeqS (dVar 3)) (gN 4) (dTest (dOp fNotIn (dVar 4) (dC (.str "01")))) (dVar 4)
def Q4 : DS := (dIfS (dOr (dTest (dOp fNe Sg4 (dLst dNil))) (dTest (dOp fEq (dSl fSl (dVar 3) (dPt (dOp1 fNeg (dC (.int 1)))) dNoPt) (dC (.str "0"))))) (dRet (dC (.bl false))) dNx)
section
variable {x0 x1 x2 : Option D} {s : Sto}
theorem q4_odd (A : Ax) {x : Str} (h : x = "2" ∨ x = "1 " ∨ x = "-1") : ∃ s', Q4 [x0, x1, x2, some (.str x), none] s = some (.rt (.bl false), s') ∧ Gr s s' := by
  obtain ⟨c, h1, h2, h3⟩ := bad_odd h
  obtain ⟨s1, a1, a2, a3⟩ := signs A (x0 := x0) (x1 := x1) (x2 := x2) (x := x) (s := s) (by omega)
  have a3' : lstAt s1 s.length = some [.str ⟨#[c]⟩] := by
    have : x.cps.toList.filter (fun c => !(decide (c ∈ ("01" : Str).cps.toList))) = [c] := h1
    rw [this] at a3
    exact a3
  have n := ne_nil1 (s := s1 ++ [.lst []]) (k := s1.length) h2 (lstAt_app a3') lstAt_new
  refine ⟨s1 ++ [.lst []], ?_, a2.trans Gr.app⟩
  have l0 := ls (Δ := [x0, x1, x2, some (.str x), none]) (da := dNil) (s := s1) (xs := []) rfl (by simp)
  have e : dTest (dOp fNe Sg4 (dLst dNil)) [x0, x1, x2, some (.str x), none] s = some (.ok true, s1 ++ [.lst []]) := te5 (op5 a1 l0 n)
  exact yes5 (ort5 e) rfl
theorem q4_txt (A : Ax) {l : List Bool} (h : l.length ≤ 100000) : ∃ s', Q4 [x0, x1, x2, some (.str (txt l)), none] s = (if goodB l = true then some (.nx [x0, x1, x2, some (.str (txt l)), none], s') else some (.rt (.bl false), s')) ∧ Gr s s' := by
  have hz : (txt l).cps.size = l.length := txt_size l
  obtain ⟨s1, a1, a2, a3⟩ := signs A (x0 := x0) (x1 := x1) (x2 := x2) (x := txt l) (s := s) (by omega)
  have a3' : lstAt s1 s.length = some [] := by
    have := bad_txt l
    unfold bad at this
    rw [this] at a3
    exact a3
  have n := ne_nil0 (s := s1 ++ [.lst []]) (k := s1.length) (lstAt_app a3') lstAt_new
  refine ⟨s1 ++ [.lst []], ?_, a2.trans Gr.app⟩
  have l0 := ls (Δ := [x0, x1, x2, some (.str (txt l)), none]) (da := dNil) (s := s1) (xs := []) rfl (by simp)
  have e : dTest (dOp fNe Sg4 (dLst dNil)) [x0, x1, x2, some (.str (txt l)), none] s = some (.ok false, s1 ++ [.lst []]) := te5 (op5 a1 l0 n)
  have hs : (txt l).length ≤ sizeLine := by rw [txt_size, sizeLine_eq]; omega
  have sl : dSl fSl (dVar 3) (dPt (dOp1 fNeg (dC (.int 1)))) dNoPt [x0, x1, x2, some (.str (txt l)), none] (s1 ++ [.lst []]) = some (.ok (.str (cutS (txt l) (some (-1)) none)), s1 ++ [.lst []]) := by
    simp [dSl, dNoPt, dPt, liftS, fSl, hs, fNeg, lift1]
  rcases List.eq_nil_or_concat l with rfl | ⟨r, b, rfl⟩
  · rw [cutNil] at sl
    have q := fEq_str (s := s1 ++ [.lst []]) (lay_txt []) c0
    rw [en0] at q
    have e2 := te5 (op5 (b := dC (.str "0")) sl rfl q)
    exact no5 ((or5 e).trans e2)
  · rw [List.concat_eq_append] at *
    rw [last_any] at sl
    have q := fEq_str (s := s1 ++ [.lst []]) (lay_txt [b]) c0
    have hb : (txt [b] == ("0" : Str)) = !b := by cases b <;> decide
    rw [hb] at q
    have e2 := te5 (op5 (b := dC (.str "0")) sl rfl q)
    have hg : goodB (r ++ [b]) = b := by cases b <;> simp [goodB]
    rw [hg]
    cases b with
    | true => exact no5 ((or5 e).trans e2)
    | false => exact yes5 ((or5 e).trans e2) rfl
end
end My

namespace My
open PySem L2 PyProof.Rows DV
theorem lip_eq (A : Ax) : ds_u_law_is_point A = dSeq (dIfS (dOr (dNot (dTruth (dCB fIsi (dCons (dVar 1) (dCons (dC (.ty "tuple")) dNil))))) (dTest (dOp fNe (dCB fLen (dCons (dVar 1) dNil)) (dC (.int 2))))) (dRet (dC (.bl false))) dNx)
  (dSeq (dAsg (dVar 1) (gTp 2 (gsCons (gN 2) (gsCons (gN 3) gsNil))))
  (dSeq (dIfS (dOr (dNot (dTruth (dCB fIsi (dCons (dVar 2) (dCons (dC (.ty "int")) dNil))))) (dOr (dTruth (dCB fIsi (dCons (dVar 2) (dCons (dC (.ty "bool")) dNil)))) (dNot (dTruth (dCB fIsi (dCons (dVar 3) (dCons (dC (.ty "str")) dNil))))))) (dRet (dC (.bl false))) dNx)
  (dSeq Q4 (dRet (dOrT (dChain fLe fLt (dC (.int 0)) (dVar 2) (dVar 0)) (dAndT (dOp fEq (dVar 2) (dVar 0)) (dOp fEq (dVar 3) (dC (.str ""))))))))) := rfl
def Q3 : DS := (dIfS (dOr (dNot (dTruth (dCB fIsi (dCons (dVar 2) (dCons (dC (.ty "int")) dNil))))) (dOr (dTruth (dCB fIsi (dCons (dVar 2) (dCons (dC (.ty "bool")) dNil)))) (dNot (dTruth (dCB fIsi (dCons (dVar 3) (dCons (dC (.ty "str")) dNil))))))) (dRet (dC (.bl false))) dNx)
def Q5 : DS := dRet (dOrT (dChain fLe fLt (dC (.int 0)) (dVar 2) (dVar 0)) (dAndT (dOp fEq (dVar 2) (dVar 0)) (dOp fEq (dVar 3) (dC (.str "")))))
theorem q3_bad {s : Sto} {x0 x1 x4 : Option D} {x y : D} {o : Option Int} {p : Option (List Bool)} (hx : Fst s x o) (hy : Snd s y p) (h : o = none ∨ ∀ z : Str, y ≠ .str z) : Q3 [x0, x1, some x, some y, x4] s = some (.rt (.bl false), s) := by
  cases hx with
  | int i =>
    rcases h with h | h
    · cases h
    · cases hy with
      | txt l _ => exact absurd rfl (h _)
      | odd z _ => exact absurd rfl (h _)
      | obj m xs hm => simp [Q3, truD, (isi_lst hm).2.2]
      | _ => simp [Q3, truD]
  | obj m xs hm => simp [Q3, truD, (isi_lst hm).1]
  | _ => simp [Q3, truD]
theorem q3_good {s : Sto} {x0 x1 x4 : Option D} {i : Int} {z : Str} : Q3 [x0, x1, some (.int i), some (.str z), x4] s = some (.nx [x0, x1, some (.int i), some (.str z), x4], s) := by
  simp [Q3, truD]
theorem q5 {s : Sto} {x1 x4 : Option D} {z : Nat} {i : Int} {l : List Bool} : Q5 [some (.int z), x1, some (.int i), some (.str (txt l)), x4] s = some (.rt (.bl ((decide (0 ≤ i) && decide (i < z)) || (i == z && l.isEmpty))), s) := by
  have q3 := fEq_str (s := s) (lay_txt l) str1
  rw [ne_any l] at q3
  by_cases h0 : 0 ≤ i
  · by_cases h1 : i < z
    · simp [Q5, truD, dChain, fLe, fLt, h0, h1]
    · by_cases h2 : i = z
      · subst h2
        simp [Q5, truD, dChain, fLe, fLt, q3]
      · simp [Q5, truD, dChain, fLe, fLt, h0, h1, h2, q3]
  · have h2 : ¬ i = z := by omega
    simp [Q5, truD, dChain, fLe, fLt, h0, h2, q3]
theorem lip_pair (A : Ax) (z : Nat) {s : Sto} {x y : D} {o : Option Int} {p : Option (List Bool)} (hx : Fst s x o) (hy : Snd s y p) : ∃ s', M_u_law_is_point A [.int z, .tup [x, y]] s = some (.ok (.bl (goodP z o p)), s') ∧ Gr s s' := by
  have l2 : (2 : Nat) ≤ sizeLine := le_line (by decide)
  have a1 : dIfS (dOr (dNot (dTruth (dCB fIsi (dCons (dVar 1) (dCons (dC (.ty "tuple")) dNil))))) (dTest (dOp fNe (dCB fLen (dCons (dVar 1) dNil)) (dC (.int 2))))) (dRet (dC (.bl false))) dNx (startD 5 [.int z, .tup [x, y]]) s = some (.nx [some (.int z), some (.tup [x, y]), none, none, none], s) := by
    simp [startD, truD, l2]
  have a2 : dAsg (dVar 1) (gTp 2 (gsCons (gN 2) (gsCons (gN 3) gsNil))) [some (.int z), some (.tup [x, y]), none, none, none] s = some (.nx [some (.int z), some (.tup [x, y]), some x, some y, none], s) := rfl
  have go : ∀ (r : RS), dSeq Q3 (dSeq Q4 Q5) [some (.int z), some (.tup [x, y]), some x, some y, none] s = r → M_u_law_is_point A [.int z, .tup [x, y]] s = finS r := fun r h => by
    unfold M_u_law_is_point
    rw [runFn_fin, lip_eq, seq_nx a1, seq_nx a2]
    exact congrArg finS h
  by_cases hb : o = none ∨ ∀ w : Str, y ≠ .str w
  · refine ⟨s, ?_, Gr.refl _⟩
    rw [go _ (seq_rt (q3_bad hx hy hb))]
    have : goodP z o p = false := by
      rcases hb with rfl | hb
      · rfl
      · cases hy with
        | txt l _ => exact absurd rfl (hb _)
        | odd w _ => exact absurd rfl (hb _)
        | _ => cases o <;> rfl
    rw [this]
    rfl
  · have hb' : ¬ o = none ∧ ¬ ∀ w : Str, y ≠ .str w := not_or.mp hb
    cases hx with
    | int i =>
      cases hy with
      | txt l hl =>
        obtain ⟨s', q, g⟩ := q4_txt A (x0 := some (.int z)) (x1 := some (.tup [.int i, .str (txt l)])) (x2 := some (.int i)) (s := s) hl
        refine ⟨s', ?_, g⟩
        cases hg : goodB l with
        | true =>
          rw [hg, if_pos rfl] at q
          rw [go _ ((seq_nx q3_good).trans ((seq_nx q).trans q5))]
          simp [finS, goodP, hg]
        | false =>
          rw [hg] at q
          rw [go _ ((seq_nx q3_good).trans (seq_rt q))]
          simp [finS, goodP, hg]
      | odd w hw =>
        obtain ⟨s', q, g⟩ := q4_odd A (x0 := some (.int z)) (x1 := some (.tup [.int i, .str w])) (x2 := some (.int i)) (s := s) hw
        refine ⟨s', ?_, g⟩
        rw [go _ ((seq_nx q3_good).trans (seq_rt q))]
        rfl
      | _ => exact absurd (fun w => nofun) hb'.2
    | _ => exact absurd rfl hb'.1
end My

namespace My
open PySem L2 PyProof.Rows DV
def Atm : D → Prop
  | .int _ => True
  | .str _ => True
  | .bl _ => True
  | .non => True
  | _ => False
/-- what the law draws, and whether it is a point -/
inductive Val (z : Nat) (s : Sto) : D → Bool → Prop
  | pair (x y : D) (o : Option Int) (p : Option (List Bool)) : Fst s x o → Snd s y p → Val z s (.tup [x, y]) (goodP z o p)
  | one (x : D) : Val z s (.tup [x]) false
  | three (x y w : D) : Val z s (.tup [x, y, w]) false
  | atom (d : D) : Atm d → Val z s d false
  | lst (m : Nat) (xs : List D) : lstAt s m = some xs → Val z s (.obj m) false
theorem v_ip (A : Ax) {s : Sto} {n : Nat} {t : Tr} (hM : MetreAt A s n t) {d : D} {g : Bool} (h : Val t.sz s d g) : M_Metre_is_point A [.obj n, d] s = some (.ok (.bl g), s) := by
  have l1 : (1 : Nat) ≤ sizeLine := le_line (by decide)
  have l3 : (3 : Nat) ≤ sizeLine := le_line (by decide)
  cases h with
  | pair x y o p h1 h2 => exact ip_pair A hM h1 h2
  | one x => simp [M_Metre_is_point, ds_Metre_is_point, startD, truD, l1]
  | three x y w => simp [M_Metre_is_point, ds_Metre_is_point, startD, truD, l3]
  | atom d h => cases d <;> first | exact h.elim | simp [M_Metre_is_point, ds_Metre_is_point, startD, truD]
  | lst m xs h => simp [M_Metre_is_point, ds_Metre_is_point, startD, truD, (isi_lst h).2.1]
theorem v_lip (A : Ax) (z : Nat) {s : Sto} {d : D} {g : Bool} (h : Val z s d g) : ∃ s', M_u_law_is_point A [.int z, d] s = some (.ok (.bl g), s') ∧ Gr s s' := by
  have l1 : (1 : Nat) ≤ sizeLine := le_line (by decide)
  have l3 : (3 : Nat) ≤ sizeLine := le_line (by decide)
  cases h with
  | pair x y o p h1 h2 => exact lip_pair A z h1 h2
  | one x => exact ⟨s, by simp [M_u_law_is_point, ds_u_law_is_point, startD, truD, l1], Gr.refl _⟩
  | three x y w => exact ⟨s, by simp [M_u_law_is_point, ds_u_law_is_point, startD, truD, l3], Gr.refl _⟩
  | atom d h => exact ⟨s, by cases d <;> first | exact h.elim | simp [M_u_law_is_point, ds_u_law_is_point, startD, truD], Gr.refl _⟩
  | lst m xs h => exact ⟨s, by simp [M_u_law_is_point, ds_u_law_is_point, startD, truD, (isi_lst h).2.1], Gr.refl _⟩
/-! ### level -/
theorem v_level_bad (A : Ax) {s : Sto} {n : Nat} {t : Tr} (hM : MetreAt A s n t) {d : D} (h : Val t.sz s d false) : M_Metre_level A [.obj n, d] s = some (.error ⟨A.c_BadPoint, [("point", d)]⟩, s) := by
  have i := v_ip A hM h
  have mi := mi_ok hM (no_i t)
  simp [M_Metre_level, ds_Metre_level, startD, truD, mi, i, dRaiseF, runFn]
/-- level of a point with any number of digits -/
theorem v_level (A : Ax) {s : Sto} {n : Nat} {t : Tr} (hM : MetreAt A s n t) (i : Int) (l : List Bool) (hl : l.length ≤ 100000) (hg : goodP t.sz (some i) (some l) = true) : ∃ v : Int, M_Metre_level A [.obj n, .tup [.int i, .str (txt l)]] s = some (.ok (.int v), s) ∧ (l ≠ [] → v = dp t + l.length) := by
  have ip := ip_pair A hM (.int i) (.txt l hl)
  rw [hg] at ip
  have mi := mi_ok hM (no_i t)
  have f1 := fFld_obj hM (fl_b t)
  have f2 := fFld_obj hM (fl_d t)
  have q3 := fEq_str (s := s) (lay_txt l) str1
  rw [ne_any l] at q3
  have hb := bd_len t 0
  unfold goodP at hg
  rw [Bool.and_eq_true] at hg
  obtain ⟨_, hg⟩ := hg
  obtain ⟨q, rfl, hq⟩ : ∃ q : Nat, i = q ∧ q ≤ t.sz := by
    refine ⟨i.toNat, ?_, ?_⟩ <;> simp at hg <;> omega
  have ha := at_nat (l := bd t 0 ++ [0]) (q := q) (by simp; omega)
  have z : l.length ≤ sizeLine := by rw [sizeLine_eq]; omega
  generalize hB : (bd t 0 ++ [0]).map natD = B at f1 ha
  cases hl2 : l.isEmpty with
  | true =>
    rw [hl2] at q3
    refine ⟨((bd t 0 ++ [0]).getD q 0 : Nat), by simp [M_Metre_level, ds_Metre_level, startD, truD, mi, ip, lift1, f1, f2, q3, ha], fun h => ?_⟩
    exact absurd (by simpa using hl2) h
  | false =>
    rw [hl2] at q3
    exact ⟨dp t + l.length, by simp [M_Metre_level, ds_Metre_level, startD, truD, mi, ip, lift1, f1, f2, q3, z, txt_size, fAdd, fAddI, orOp], fun _ => rfl⟩
end My

namespace My
open PySem L2 PyProof.Rows DV
/-! ### what repr says of the drawn values -/
def OkT (x : Str) (n : Nat) : Prop := (∀ c ∈ x.cps.toList, c < 1114112) ∧ x.cps.size ≤ n
def okT (x : Str) : Bool := (x.cps.toList.all fun c => decide (c < 1114112)) && decide (x.cps.size ≤ 20)
theorem okT_of {x : Str} (h : okT x = true) : OkT x 20 := by
  unfold okT at h
  rw [Bool.and_eq_true] at h
  exact ⟨fun c hc => of_decide_eq_true (List.all_eq_true.mp h.1 c hc), of_decide_eq_true h.2⟩
theorem OkT.app {x y : Str} {m n : Nat} (h : OkT x m) (k : OkT y n) : OkT (x ++ y) (m + n) := by
  have e : (x ++ y).cps = x.cps ++ y.cps := rfl
  refine ⟨fun c hc => ?_, ?_⟩
  · rw [e, Array.toList_append] at hc
    rcases List.mem_append.mp hc with hc | hc
    · exact h.1 c hc
    · exact k.1 c hc
  · rw [e, Array.size_append]
    have := h.2
    have := k.2
    omega
theorem OkT.lay {x : Str} {n : Nat} (h : OkT x n) : PyData.canLay0 (.str x) = true := by
  unfold PyData.canLay0 PyData.strOk
  rw [Array.all_eq_true']
  intro c hc
  exact decide_eq_true (h.1 c (by simpa using hc))
structure Small (p : PyData) : Prop where
  sh : p.showable = true
  nd : p.hasDict = false
  dp : p.depth ≤ 2
  ok : OkT p.shown 20
def smallB (p : PyData) : Bool := p.showable && !p.hasDict && decide (p.depth ≤ 2) && okT p.shown
theorem small_of {p : PyData} (h : smallB p = true) : Small p := by
  unfold smallB at h
  simp only [Bool.and_eq_true, Bool.not_eq_true', decide_eq_true_eq] at h
  exact ⟨h.1.1.1, h.1.1.2, h.1.2, okT_of h.2⟩
theorem sm_int : ∀ k : Fin 19, smallB (.int ((k.val : Int) - 1)) = true := by decide +kernel
theorem small_int {i : Int} (h1 : -1 ≤ i) (h2 : i ≤ 17) : Small (.int i) := by
  have := small_of (sm_int ⟨(i + 1).toNat, by omega⟩)
  have e : (((i + 1).toNat : Nat) : Int) - 1 = i := by omega
  rw [e] at this
  exact this
def lists : Nat → List (List Bool)
  | 0 => [[]]
  | n + 1 => [] :: ((lists n).map (true :: ·) ++ (lists n).map (false :: ·))
theorem mem_lists : ∀ (n : Nat) (l : List Bool), l.length ≤ n → l ∈ lists n
  | 0, l, h => by
    have : l = [] := List.eq_nil_of_length_eq_zero (by omega)
    subst this
    simp [lists]
  | n + 1, [], _ => by simp [lists]
  | n + 1, b :: r, h => by
    have ih := mem_lists n r (by simpa using h)
    cases b <;> simp [lists, ih]
theorem sm_txt : ((lists 7).all fun l => smallB (.str (txt l))) = true := by decide +kernel
theorem small_txt {l : List Bool} (h : l.length ≤ 7) : Small (.str (txt l)) := small_of (List.all_eq_true.mp sm_txt l (mem_lists 7 l h))
theorem okT_c {x : String} (h : okT (Str.ofString x) = true) : OkT (Str.ofString x) 20 := okT_of h
/-- data that may be shown -/
structure Show (p : PyData) : Prop where
  ok : shOk p = true
  lay : PyData.canLay0 (.str p.shown) = true
theorem show_of {p : PyData} (h1 : p.showable = true) (h2 : p.hasDict = false) (h3 : p.depth ≤ 64) {n : Nat} (h4 : OkT p.shown n) (h5 : n ≤ 1000) : Show p := by
  refine ⟨?_, h4.lay⟩
  have e : decide (p.shown.length ≤ sizeLine) = true := decide_eq_true (le_line (by have := h4.2; show p.shown.cps.size ≤ 1000; omega))
  unfold shOk
  rw [h1, h2, e, decide_eq_true h3]
  rfl
theorem show_small {p : PyData} (h : Small p) : Show p := show_of h.sh h.nd (by have := h.dp; omega) h.ok (by decide)
theorem show_t1 {a : PyData} (ha : Small a) : Show (.tuple [a]) := by
  refine show_of (n := 20 + 20 + 20) ?_ ?_ ?_ ?_ (by decide)
  · simp [PyData.showable, PyData.showableAll, ha.sh]
  · simp [PyData.hasDict, PyData.hasDictAll, ha.nd]
  · simp [PyData.depth, PyData.depthAll]
    have := ha.dp
    omega
  · show OkT (("(" : Str) ++ a.shown ++ (",)" : Str)) _
    exact ((okT_c (by decide +kernel)).app ha.ok).app (okT_c (by decide +kernel))
theorem show_t2 {a b : PyData} (ha : Small a) (hb : Small b) : Show (.tuple [a, b]) := by
  refine show_of (n := 20 + (20 + 20 + 20) + 20) ?_ ?_ ?_ ?_ (by decide)
  · simp [PyData.showable, PyData.showableAll, ha.sh, hb.sh]
  · simp [PyData.hasDict, PyData.hasDictAll, ha.nd, hb.nd]
  · simp [PyData.depth, PyData.depthAll]
    have := ha.dp
    have := hb.dp
    omega
  · show OkT (("(" : Str) ++ (a.shown ++ (", " : Str) ++ b.shown) ++ (")" : Str)) _
    exact ((okT_c (by decide +kernel)).app ((ha.ok.app (okT_c (by decide +kernel))).app hb.ok)).app (okT_c (by decide +kernel))
theorem show_t3 {a b c : PyData} (ha : Small a) (hb : Small b) (hc : Small c) : Show (.tuple [a, b, c]) := by
  refine show_of (n := 20 + (20 + 20 + (20 + 20 + 20)) + 20) ?_ ?_ ?_ ?_ (by decide)
  · simp [PyData.showable, PyData.showableAll, ha.sh, hb.sh, hc.sh]
  · simp [PyData.hasDict, PyData.hasDictAll, ha.nd, hb.nd, hc.nd]
  · simp [PyData.depth, PyData.depthAll]
    have := ha.dp
    have := hb.dp
    have := hc.dp
    omega
  · show OkT (("(" : Str) ++ (a.shown ++ (", " : Str) ++ (b.shown ++ (", " : Str) ++ c.shown)) ++ (")" : Str)) _
    exact ((okT_c (by decide +kernel)).app ((ha.ok.app (okT_c (by decide +kernel))).app ((hb.ok.app (okT_c (by decide +kernel))).app hc.ok))).app (okT_c (by decide +kernel))
theorem show_l2 {a b : PyData} (ha : Small a) (hb : Small b) : Show (.list [a, b]) := by
  refine show_of (n := 20 + 20 + 20 + 20 + 20 + 20) ?_ ?_ ?_ ?_ (by decide)
  · simp [PyData.showable, PyData.showableAll, ha.sh, hb.sh]
  · simp [PyData.hasDict, PyData.hasDictAll, ha.nd, hb.nd]
  · simp [PyData.depth, PyData.depthAll]
    have := ha.dp
    have := hb.dp
    omega
  · show OkT (("[" : Str) ++ ("" : Str) ++ a.shown ++ (", " : Str) ++ b.shown ++ ("]" : Str)) _
    exact (((((okT_c (by decide +kernel)).app (okT_c (by decide +kernel))).app ha.ok).app (okT_c (by decide +kernel))).app hb.ok).app (okT_c (by decide +kernel))
end My

namespace My
open PySem L2 PyProof.Rows DV
theorem pickS (A : Ax) {s : Sto} {n k : Nat} (h : Rnd s n (k + 1)) : ∃ (b : Bool) (s' : Sto), M_u_law_pick A [.obj n, .str "01"] s = some (.ok (.str (txt [b])), s') ∧ Rnd s' n k ∧ Sm n s s' := by
  obtain ⟨v, s', hd, v0, v1, r, sm⟩ := draw A h (m := 2) (by omega) (by omega)
  have l2 : (2 : Nat) ≤ sizeLine := le_line (by decide)
  have ln : fLen [.str "01"] s = some (.int 2, s) := by
    have e : ("01" : Str).length = 2 := rfl
    simp [fLen, e, l2]
  have hv : v = 0 ∨ v = 1 := by omega
  rcases hv with rfl | rfl
  · have f : fIx (.str "01") (.int 0) s' = some (.str (txt [false]), s') := rfl
    exact ⟨false, s', by simp [M_u_law_pick, ds_u_law_pick, startD, ln, hd, f], r, sm⟩
  · have f : fIx (.str "01") (.int 1) s' = some (.str (txt [true]), s') := rfl
    exact ⟨true, s', by simp [M_u_law_pick, ds_u_law_pick, startD, ln, hd, f], r, sm⟩
end My

namespace My
open PySem L2 PyProof.Rows DV
theorem rnd_set {s : Sto} {n st k : Nat} {o : DO} (h : Rnd s st k) (ne : n ≠ st) : Rnd (s.set n o) st k := by
  obtain ⟨a, b, c, e, h1, h2⟩ := h
  refine ⟨a, b, c, ?_, h1, h2⟩
  have q := lstAt_eq e
  unfold lstAt
  rw [List.getElem?_set_ne ne, q]
def PickS (A : Ax) : DX := (dCl (argN 2 (M_u_law_pick A)) (dCons (dVar 0) (dCons (dC (.str "01")) dNil)))
/-- the drawn digits, as a list of signs -/
theorem digits (A : Ax) {s0 : Sto} {st v c : Nat} {x1 x2 x3 x4 : Option D} (h : Rnd s0 st (v + c)) (hv : v ≤ 100) : ∃ (l : List Bool) (s' : Sto), lcRun (rngI 0 v) (gN 5) dYes (PickS A) s0.length (rngI 0 v).its [some (.obj st), x1, x2, x3, x4, none] (s0 ++ [.lst []]) = some s' ∧ l.length = v ∧
    lstAt s' s0.length = some (l.map fun b => D.str (txt [b])) ∧ Rnd s' st c ∧ Sm st s0 s' := by
  have hlt := h.lt
  obtain ⟨s', yss, e1, e2, e3, e4, e5⟩ := lc_gen (I := rngI 0 v) (g := gN 5) (tt := dYes) (de := PickS A) (n := s0.length) (Δ := [some (.obj st), x1, x2, x3, x4, none])
    (fun k s => Rnd s st (k + c) ∧ Sm st s0 s) (fun d ys => ∃ b, ys = [D.str (txt [b])]) (fun _ _ _ => rfl) (fun k d s acc hd ⟨j1, j2⟩ hacc => by
      obtain ⟨b, s3, p1, p2, p3⟩ := pickS A (k := k + c) (j1.mono (by omega))
      refine ⟨_, rfl, .inr ⟨s, .str (txt [b]), s3, rfl, ?_, p3.lst hacc (by omega), ⟨b, rfl⟩, rnd_set p2 (by omega), ?_⟩⟩
      · exact (cl5 (s1 := s) (xs := [.obj st, .str "01"]) rfl).trans ((ag5 rfl).trans p1)
      · refine ⟨by rw [List.length_set]; have := j2.1; have := p3.1; omega, fun i hi ne => ?_⟩
        rw [List.getElem?_set_ne (by omega), (j2.trans p3).2 i hi ne]) (rngI 0 v).its (s0 ++ [.lst []]) [] (fun _ h => h) ⟨by rw [rng_len]; exact h.app, Sm.app⟩ lstAt_new (by rw [rng_len, sizeLine_eq]; simp; omega)
  have key : ∀ (r : List D) (yss : List (List D)), All2 (fun (_ : D) ys => ∃ b, ys = [D.str (txt [b])]) r yss → ∃ l : List Bool, yss.flatten = l.map (fun b => D.str (txt [b])) ∧ l.length = r.length := by
    intro r yss h
    induction h with
    | nil => exact ⟨[], rfl, rfl⟩
    | cons h _ ih =>
      obtain ⟨b, rfl⟩ := h
      obtain ⟨l, h1, h2⟩ := ih
      exact ⟨b :: l, by rw [List.flatten_cons, h1]; rfl, by simp [h2]⟩
  obtain ⟨l, k1, k2⟩ := key _ _ e3
  rw [rng_len] at k2
  rw [k1] at e2
  exact ⟨l, s', e1, k2, e2, by simpa using e4, e5⟩
theorem strs_txt : ∀ l : List Bool, strsOf (l.map fun b => D.str (txt [b])) = some (l.map fun b => txt [b])
  | [] => rfl
  | b :: r => by simp [strsOf, strs_txt r]
theorem app_txt (l r : List Bool) : txt l ++ txt r = txt (l ++ r) := by
  have q : ∀ a b : List Nat, (⟨a.toArray⟩ : Str) ++ ⟨b.toArray⟩ = ⟨(a ++ b).toArray⟩ := fun a b => congrArg Str.mk (by simp)
  unfold txt
  rw [q, List.map_append]
theorem join_txt0 : ∀ l : List Bool, Str.join ("" : Str) (l.map fun b => txt [b]) = txt l
  | [] => rfl
  | [b] => rfl
  | b :: c :: r => by
    have ih := join_txt0 (c :: r)
    show (txt [b] ++ ("" : Str)) ++ Str.join ("" : Str) ((c :: r).map fun b => txt [b]) = _
    rw [ih, e_nil, app_txt, app_txt]
    rfl
theorem join_txt (l : List Bool) : Txt.join ("" : Str) (l.map fun b => txt [b]) = txt l := (StrLaws.glued_eq_join _ _).trans (join_txt0 l)
theorem join_run {s : Sto} {m : Nat} {l : List Bool} (h : lstAt s m = some (l.map fun b => D.str (txt [b]))) (hl : l.length ≤ 1000) : fJoin (.str "") [.obj m] s = some (.str (txt l), s) := by
  have hs : ∀ l : List Bool, (((l.map fun b => txt [b]).map (·.length)).sum) = l.length := by
    intro l
    induction l with
    | nil => rfl
    | cons b r ih =>
      rw [List.map_cons, List.map_cons, List.sum_cons, ih, txt_size]
      simp
      omega
  have j : joinOk "" (l.map fun b => txt [b]) = true := by
    unfold joinOk
    rw [hs]
    have e : ("" : Str).length = 0 := rfl
    rw [e]
    exact decide_eq_true (by simp; omega)
  simp only [fJoin, h, strs_txt, j, if_true, join_txt]
end My

namespace My
open PySem L2 PyProof.Rows DV
/-- the drawn pulses, the drawn digits -/
inductive Pu : D → PyData → Prop
  | int (i : Int) : -1 ≤ i → i ≤ 17 → Pu (.int i) (.int i)
  | bl : Pu (.bl true) (.bool true)
  | non : Pu .non .none
  | str : Pu (.str "0") (.str "0")
inductive Bi (s : Sto) : D → PyData → Prop
  | txt (l : List Bool) : l.length ≤ 7 → Bi s (.str (txt l)) (.str (txt l))
  | odd (x : Str) : x = "2" ∨ x = "1 " ∨ x = "-1" → Bi s (.str x) (.str x)
  | int : Bi s (.int 1) (.int 1)
  | non : Bi s .non .none
  | obj (m : Nat) : lstAt s m = some [.str "1"] → Bi s (.obj m) (.list [.str "1"])
theorem o0 : ("0" : Str) = txt [false] := by decide
theorem Pu.fst {x : D} {a : PyData} (h : Pu x a) (s : Sto) : ∃ o, Fst s x o := by
  cases h with
  | int i _ _ => exact ⟨_, .int i⟩
  | bl => exact ⟨_, .bl true⟩
  | non => exact ⟨_, .non⟩
  | str => exact ⟨_, .str "0"⟩
theorem Pu.snd {x : D} {a : PyData} (h : Pu x a) (s : Sto) : ∃ p, Snd s x p := by
  cases h with
  | int i _ _ => exact ⟨_, .int i⟩
  | bl => exact ⟨_, .bl true⟩
  | non => exact ⟨_, .non⟩
  | str => exact ⟨some [false], by rw [o0]; exact .txt [false] (by simp)⟩
theorem Pu.small {x : D} {a : PyData} (h : Pu x a) : Small a := by
  cases h with
  | int i h1 h2 => exact small_int h1 h2
  | bl => exact small_of (by decide +kernel)
  | non => exact small_of (by decide +kernel)
  | str => exact small_of (by decide +kernel)
theorem Pu.py {x : D} {a : PyData} (h : Pu x a) (s : Sto) (k : Nat) : toPy s (k + 1) x = some a := by cases h <;> rfl
theorem Bi.snd {s : Sto} {x : D} {a : PyData} (h : Bi s x a) : ∃ p, Snd s x p := by
  cases h with
  | txt l h => exact ⟨_, .txt l (by omega)⟩
  | odd x h => exact ⟨_, .odd x h⟩
  | int => exact ⟨_, .int 1⟩
  | non => exact ⟨_, .non⟩
  | obj m h => exact ⟨_, .obj m _ h⟩
theorem Bi.fst {s : Sto} {x : D} {a : PyData} (h : Bi s x a) : ∃ o, Fst s x o := by
  cases h with
  | txt l h => exact ⟨_, .str _⟩
  | odd x h => exact ⟨_, .str x⟩
  | int => exact ⟨_, .int 1⟩
  | non => exact ⟨_, .non⟩
  | obj m h => exact ⟨_, .obj m _ h⟩
theorem Bi.small {s : Sto} {x : D} {a : PyData} (h : Bi s x a) : Small a := by
  cases h with
  | txt l h => exact small_txt h
  | odd x h => rcases h with rfl | rfl | rfl <;> exact small_of (by decide +kernel)
  | int => exact small_of (by decide +kernel)
  | non => exact small_of (by decide +kernel)
  | obj m h => exact small_of (by decide +kernel)
theorem Bi.gr {s s' : Sto} {x : D} {a : PyData} (h : Bi s x a) (g : Gr s s') : Bi s' x a := by
  cases h with
  | obj m h => exact .obj m (g.lst h)
  | txt l h => exact .txt l h
  | odd x h => exact .odd x h
  | int => exact .int
  | non => exact .non
theorem Bi.py {s : Sto} {x : D} {a : PyData} (h : Bi s x a) (k : Nat) : toPy s (k + 2) x = some a := by
  cases h with
  | obj m h => simp only [toPy, h]; rfl
  | _ => rfl
/-- a drawn value that may be shown -/
def Shw (s : Sto) (d : D) : Prop := ∃ p, Show p ∧ ∀ s', Gr s s' → toPy s' 64 d = some p
theorem pairs_shw {s : Sto} {x y : D} {a b : PyData} (h1 : Pu x a) (h2 : Bi s y b) : Shw s (.tup [x, y]) :=
  ⟨.tuple [a, b], show_t2 h1.small h2.small, fun s' g => by
    have e1 := h1.py s' 62
    have e2 := (h2.gr g).py 61
    simp [toPy, omap, e1, e2]⟩
theorem val_of {z : Nat} {s : Sto} {x y d : D} {a b : PyData} {m : Nat} (h1 : Pu x a) (h2 : Bi s y b) (hm : lstAt s m = some [x, y]) (hd : d ∈ (List.replicate 9 [D.tup [x, y]]).flatten ++ [D.obj m, .tup [x], .tup [x, y, .int 0], y, .non, .tup [y, x]]) : (∃ g, Val z s d g) ∧ Shw s d := by
  have e1 : ∀ s' k, toPy s' (k + 1) x = some a := fun s' k => h1.py s' k
  have e2 : ∀ s', Gr s s' → ∀ k, toPy s' (k + 2) y = some b := fun s' g k => (h2.gr g).py k
  obtain ⟨o, f1⟩ := h1.fst s
  obtain ⟨p, f2⟩ := h1.snd s
  obtain ⟨o', f3⟩ := h2.fst
  obtain ⟨p', f4⟩ := h2.snd
  rcases List.mem_append.mp hd with hd | hd
  · have : d = .tup [x, y] := by
      obtain ⟨l, hl, hd⟩ := List.mem_flatten.mp hd
      have := List.eq_of_mem_replicate hl
      subst this
      simpa using hd
    subst this
    exact ⟨⟨_, .pair _ _ _ _ f1 f4⟩, pairs_shw h1 h2⟩
  · simp only [List.mem_cons, List.not_mem_nil, or_false] at hd
    rcases hd with rfl | rfl | rfl | rfl | rfl | rfl
    · exact ⟨⟨_, .lst m _ hm⟩, .list [a, b], show_l2 h1.small h2.small, fun s' g => by
        have q := g.lst hm
        have r1 := e1 s' 62
        have r2 := e2 s' g 61
        simp [toPy, q, omap, r1, r2]⟩
    · exact ⟨⟨_, .one x⟩, .tuple [a], show_t1 h1.small, fun s' g => by
        have r1 := e1 s' 62
        simp [toPy, omap, r1]⟩
    · exact ⟨⟨_, .three x y _⟩, .tuple [a, b, .int 0], show_t3 h1.small h2.small (small_int (by omega) (by omega)), fun s' g => by
        have r1 := e1 s' 62
        have r2 := e2 s' g 61
        have r3 : toPy s' 63 (.int 0) = some (.int 0) := rfl
        simp [toPy, omap, r1, r2, r3]⟩
    · refine ⟨?_, b, show_small h2.small, fun s' g => e2 s' g 62⟩
      cases h2 with
      | obj m' h => exact ⟨_, .lst m' _ h⟩
      | _ => exact ⟨_, .atom _ trivial⟩
    · exact ⟨⟨_, .atom _ trivial⟩, .none, show_small (small_of (by decide +kernel)), fun _ _ => rfl⟩
    · exact ⟨⟨_, .pair _ _ _ _ f3 f2⟩, .tuple [b, a], show_t2 h2.small h1.small, fun s' g => by
        have r1 := e1 s' 62
        have r2 := e2 s' g 61
        simp [toPy, omap, r1, r2]⟩
theorem val_true {z : Nat} {s : Sto} {d : D} (h : Val z s d true) : ∃ i l, d = .tup [.int i, .str (txt l)] ∧ l.length ≤ 100000 ∧ goodP z (some i) (some l) = true := by
  generalize hg : true = g at h
  cases h with
  | pair x y o p h1 h2 =>
    cases h1 with
    | int i =>
      cases h2 with
      | txt l hl => exact ⟨i, l, rfl, hl, by first | exact hg.symm | rfl⟩
      | _ => cases hg
    | _ => cases hg
  | _ => cases hg
theorem Val.gr {z : Nat} {s s' : Sto} {d : D} {g : Bool} (h : Val z s d g) (e : Gr s s') : Val z s' d g := by
  cases h with
  | pair x y o p h1 h2 =>
    refine .pair x y o p ?_ ?_
    · cases h1 with
      | obj m xs h => exact .obj m xs (e.lst h)
      | int i => exact .int i
      | bl b => exact .bl b
      | non => exact .non
      | str x => exact .str x
    · cases h2 with
      | obj m xs h => exact .obj m xs (e.lst h)
      | txt l h => exact .txt l h
      | odd x h => exact .odd x h
      | int i => exact .int i
      | bl b => exact .bl b
      | non => exact .non
  | one x => exact .one x
  | three x y w => exact .three x y w
  | atom d h => exact .atom d h
  | lst m xs h => exact .lst m xs (e.lst h)
end My

namespace My
open PySem L2 PyProof.Rows DV
def P1 (A : Ax) : DS := (dAsg (dCl (argN 2 (M_u_law_pick A)) (dCons (dVar 0) (dCons (dLst (dCons (dC (.int 0)) (dCons (dOp fSub (dVar 1) (dC (.int 1))) (dCons (dVar 1) (dCons (dCl (argN 2 (M_u_law_draw A)) (dCons (dVar 0) (dCons (dVar 1) dNil))) (dCons (dOp1 fNeg (dC (.int 1))) (dCons (dOp fAdd (dVar 1) (dC (.int 1))) (dCons (dC (.bl true)) (dCons (dC .non) (dCons (dC (.str "0")) dNil)))))))))) dNil))) (gN 2))
def P2 (A : Ax) : DS := (dAsg (dBM "str" fJoin (dC (.str "")) (dCons (dLc [5] (iRange1 (dCons (dCl (argN 2 (M_u_law_draw A)) (dCons (dVar 0) (dCons (dC (.int 6)) dNil))) dNil)) (gN 5) dYes (PickS A)) dNil)) (gN 3))
def P3 (A : Ax) : DS := (dAsg (dLst (dCons (dVar 3) (dCons (dOp fAdd (dVar 3) (dC (.str "1"))) (dCons (dOp fAdd (dVar 3) (dC (.str "1"))) (dCons (dOp fAdd (dVar 3) (dC (.str "1"))) (dCons (dC (.str "")) (dCons (dC (.str "2")) (dCons (dOp fAdd (dVar 3) (dC (.str "01"))) (dCons (dC (.int 1)) (dCons (dC .non) (dCons (dLst (dCons (dC (.str "1")) dNil)) (dCons (dC (.str "1 ")) (dCons (dC (.str "-1")) dNil))))))))))))) (gN 4))
def P4 (A : Ax) : DS := (dAsg (dCl (argN 2 (M_u_law_pick A)) (dCons (dVar 0) (dCons (dVar 4) dNil))) (gN 3))
def P5 (A : Ax) : DS := (dAsg (dLst (dCons (dLst (dCons (dVar 2) (dCons (dVar 3) dNil))) (dCons (dTup (dCons (dVar 2) dNil)) (dCons (dTup (dCons (dVar 2) (dCons (dVar 3) (dCons (dC (.int 0)) dNil)))) (dCons (dVar 3) (dCons (dC .non) (dCons (dTup (dCons (dVar 3) (dCons (dVar 2) dNil))) dNil))))))) (gN 4))
def P6 (A : Ax) : DS := (dRet (dCl (argN 2 (M_u_law_pick A)) (dCons (dVar 0) (dCons (dOp fAdd (dOp fMul (dLst (dCons (dTup (dCons (dVar 2) (dCons (dVar 3) dNil))) dNil)) (dC (.int 9))) (dVar 4)) dNil))))
theorem thing_eq (A : Ax) : ds_u_law_thing A = dSeq (P1 A) (dSeq (P2 A) (dSeq (P3 A) (dSeq (P4 A) (dSeq (P5 A) (P6 A))))) := rfl
section
variable {A : Ax} {x2 x3 x4 x5 : Option D} {s : Sto} {st z : Nat}
theorem p1 {k : Nat} (h : Rnd s st (k + 2)) (hz1 : 1 ≤ z) (hz : z ≤ 16) : ∃ (x : D) (a : PyData) (s1 : Sto), P1 A [some (.obj st), some (.int z), x2, x3, x4, x5] s = some (.nx [some (.obj st), some (.int z), some x, x3, x4, x5], s1) ∧ Pu x a ∧ Rnd s1 st k ∧ Sm st s s1 := by
  obtain ⟨v, s1, d1, v0, v1, r1, m1⟩ := draw A (m := z) h (by omega) (by omega)
  have hlt := r1.lt
  have b1 : dOp fSub (dVar 1) (dC (.int 1)) [some (.obj st), some (.int z), x2, x3, x4, x5] s = some (.ok (.int (z - 1)), s) := op5 (x := .int z) (y := .int 1) rfl rfl (by simp [fSub])
  have b2 : dCl (argN 2 (M_u_law_draw A)) (dCons (dVar 0) (dCons (dVar 1) dNil)) [some (.obj st), some (.int z), x2, x3, x4, x5] s = some (.ok (.int v), s1) := (cl5 (s1 := s) (xs := [.obj st, .int z]) rfl).trans ((ag5 rfl).trans d1)
  have b3 : dOp fAdd (dVar 1) (dC (.int 1)) [some (.obj st), some (.int z), x2, x3, x4, x5] s1 = some (.ok (.int (z + 1)), s1) := op5 (x := .int z) (y := .int 1) rfl rfl (by simp [fAdd, fAddI, orOp])
  have l := ls (cn (a := dC (.int 0)) (Δ := [some (.obj st), some (.int z), x2, x3, x4, x5]) rfl (cn b1 (cn (a := dVar 1) (x := .int z) rfl (cn b2 (cn (a := dOp1 fNeg (dC (.int 1))) (x := .int (-1)) rfl (cn b3 (cn (a := dC (.bl true)) rfl (cn (a := dC .non) rfl (cn (a := dC (.str "0")) (r := dNil) rfl rfl))))))))) (by simp)
  obtain ⟨x, s2, q1, q2, q3, q4⟩ := pick A (k := k) (s := s1 ++ [.lst [.int 0, .int (z - 1), .int z, .int v, .int (-1), .int (z + 1), .bl true, .non, .str "0"]]) (j := s1.length) r1.app lstAt_new (by omega) (by simp) (by simp)
  have hp : ∃ a, Pu x a := by
    simp only [List.mem_cons, List.not_mem_nil, or_false] at q2
    rcases q2 with rfl | rfl | rfl | rfl | rfl | rfl | rfl | rfl | rfl
    · exact ⟨_, .int _ (by omega) (by omega)⟩
    · exact ⟨_, .int _ (by omega) (by omega)⟩
    · exact ⟨_, .int _ (by omega) (by omega)⟩
    · exact ⟨_, .int _ (by omega) (by omega)⟩
    · exact ⟨_, .int _ (by omega) (by omega)⟩
    · exact ⟨_, .int _ (by omega) (by omega)⟩
    · exact ⟨_, .bl⟩
    · exact ⟨_, .non⟩
    · exact ⟨_, .str⟩
  obtain ⟨a, ha⟩ := hp
  refine ⟨x, a, s2, ?_, ha, q3, (m1.trans Sm.app).trans q4⟩
  exact asg ((cl5 (cn (x := .obj st) rfl (cn l rfl))).trans ((ag5 rfl).trans q1)) rfl
theorem p2 {k : Nat} {x : D} (h : Rnd s st (k + 6)) : ∃ (l : List Bool) (s1 : Sto), P2 A [some (.obj st), some (.int z), some x, x3, x4, none] s = some (.nx [some (.obj st), some (.int z), some x, some (.str (txt l)), x4, none], s1) ∧ l.length ≤ 5 ∧ Rnd s1 st k ∧ Sm st s s1 := by
  obtain ⟨v, s1, d1, v0, v1, r1, m1⟩ := draw A (m := 6) (k := k + 5) h (by omega) (by omega)
  obtain ⟨n, rfl⟩ : ∃ n : Nat, v = n := ⟨v.toNat, by omega⟩
  obtain ⟨l, s2, e1, e2, e3, e4, e5⟩ := digits A (v := n) (c := k) (x1 := some (.int z)) (x2 := some x) (x3 := x3) (x4 := x4) (r1.mono (by omega)) (by omega)
  have hi : iRange1 (dCons (dCl (argN 2 (M_u_law_draw A)) (dCons (dVar 0) (dCons (dC (.int 6)) dNil))) dNil) [some (.obj st), some (.int z), some x, x3, x4, none] s = some (.ok (rngI 0 n), s1) := range1 (cn ((cl5 (s1 := s) (xs := [.obj st, .int 6]) rfl).trans ((ag5 rfl).trans d1)) rfl) (by omega)
  have lc : dLc [5] (iRange1 (dCons (dCl (argN 2 (M_u_law_draw A)) (dCons (dVar 0) (dCons (dC (.int 6)) dNil))) dNil)) (gN 5) dYes (PickS A) [some (.obj st), some (.int z), some x, x3, x4, none] s = some (.ok (.obj s1.length), s2) := by
    rw [dLc_eq, mbind_ok, hi]
    have e1' : lcRun (rngI 0 n) (gN 5) dYes (PickS A) s1.length (rngI 0 n).its (wipeD [some (.obj st), some (.int z), some x, x3, x4, none] [5]) (s1 ++ [.lst []]) = some s2 := e1
    simp only [e1']
  have j := join_run e3 (by omega)
  refine ⟨l, s2, ?_, by omega, e4, m1.trans e5⟩
  refine asg (d := .str (txt l)) (s1 := s2) ?_ rfl
  unfold dBM
  rw [mbind_ok]
  show mbind (mTy "str" (.str "")) (fun _ => mbind (dCons _ dNil _) fun xs => DV.liftM fJoin (.str "") xs) s = _
  have ty : mTy "str" (.str "") s = some (.ok (), s) := by simp [mTy, tyS]
  rw [mbind_ok, ty]
  show mbind (dCons _ dNil _) (fun xs => DV.liftM fJoin (.str "") xs) s = _
  rw [mbind_ok, cn lc rfl]
  simp [DV.liftM, j]
end
end My

namespace My
open PySem L2 PyProof.Rows DV
section
variable {A : Ax} {x0 x1 x2 x3 x4 x5 : Option D} {s : Sto} {st z : Nat}
theorem add_txt (l r : List Bool) (h : l.length + r.length ≤ 1000) (s : Sto) : fAdd (.str (txt l)) (.str (txt r)) s = some (.str (txt (l ++ r)), s) := by
  have e : (txt l).length + (txt r).length ≤ sizeLine := by rw [txt_size, txt_size]; exact le_line h
  simp [fAdd, fAddI, fAddS, orOp, e, app_txt]
def some12 (l : List Bool) (m : Nat) : List D := [.str (txt l), .str (txt (l ++ [true])), .str (txt (l ++ [true])), .str (txt (l ++ [true])), .str "", .str "2", .str (txt (l ++ [false, true])), .int 1, .non, .obj m, .str "1 ", .str "-1"]
theorem t1 : ("1" : Str) = txt [true] := by decide
theorem t01 : ("01" : Str) = txt [false, true] := by decide
theorem p3 {l : List Bool} (h : l.length ≤ 5) : P3 A [x0, x1, x2, some (.str (txt l)), x4, x5] s = some (.nx [x0, x1, x2, some (.str (txt l)), some (.obj (s.length + 1)), x5], s ++ [.lst [.str "1"]] ++ [.lst (some12 l s.length)]) := by
  have b1 : dOp fAdd (dVar 3) (dC (.str "1")) [x0, x1, x2, some (.str (txt l)), x4, x5] s = some (.ok (.str (txt (l ++ [true]))), s) := op5 (x := .str (txt l)) (y := .str "1") rfl rfl (by rw [t1]; exact add_txt l [true] (by simp; omega) s)
  have b2 : dOp fAdd (dVar 3) (dC (.str "01")) [x0, x1, x2, some (.str (txt l)), x4, x5] s = some (.ok (.str (txt (l ++ [false, true]))), s) := op5 (x := .str (txt l)) (y := .str "01") rfl rfl (by rw [t01]; exact add_txt l [false, true] (by simp; omega) s)
  have b3 := ls (Δ := [x0, x1, x2, some (.str (txt l)), x4, x5]) (s := s) (da := dCons (dC (.str "1")) dNil) (xs := [.str "1"]) rfl (by simp)
  have L := ls (cn (a := dVar 3) (Δ := [x0, x1, x2, some (.str (txt l)), x4, x5]) (s := s) (x := .str (txt l)) rfl (cn b1 (cn b1 (cn b1 (cn (a := dC (.str "")) rfl (cn (a := dC (.str "2")) rfl (cn b2 (cn (a := dC (.int 1)) rfl (cn (a := dC .non) rfl (cn b3 (cn (a := dC (.str "1 ")) rfl (cn (a := dC (.str "-1")) (r := dNil) rfl rfl)))))))))))) (by simp)
  refine (asg L rfl).trans ?_
  simp [some12]
end
end My

namespace My
open PySem L2 PyProof.Rows DV
section
variable {A : Ax} {x0 x1 x2 x3 x4 x5 : Option D} {s : Sto} {st z : Nat}
theorem bi_mem {l : List Bool} {m : Nat} {s : Sto} {d : D} (hl : l.length ≤ 5) (hm : lstAt s m = some [.str "1"]) (hd : d ∈ some12 l m) : ∃ b, Bi s d b := by
  simp only [some12, List.mem_cons, List.not_mem_nil, or_false] at hd
  rcases hd with rfl | rfl | rfl | rfl | rfl | rfl | rfl | rfl | rfl | rfl | rfl | rfl
  · exact ⟨_, .txt l (by omega)⟩
  · exact ⟨_, .txt _ (by simp; omega)⟩
  · exact ⟨_, .txt _ (by simp; omega)⟩
  · exact ⟨_, .txt _ (by simp; omega)⟩
  · exact ⟨.str "", by rw [e_nil]; exact .txt [] (by simp)⟩
  · exact ⟨_, .odd "2" (.inl rfl)⟩
  · exact ⟨_, .txt _ (by simp; omega)⟩
  · exact ⟨_, .int⟩
  · exact ⟨_, .non⟩
  · exact ⟨_, .obj m hm⟩
  · exact ⟨_, .odd "1 " (.inr (.inl rfl))⟩
  · exact ⟨_, .odd "-1" (.inr (.inr rfl))⟩
theorem p4 {k m n : Nat} {l : List Bool} (hl : l.length ≤ 5) (h : Rnd s st (k + 1)) (e : lstAt s m = some (some12 l n)) (ne : m ≠ st) (hn : lstAt s n = some [.str "1"]) (nn : n ≠ st) :
    ∃ (y : D) (b : PyData) (s1 : Sto), P4 A [some (.obj st), x1, x2, x3, some (.obj m), x5] s = some (.nx [some (.obj st), x1, x2, some y, some (.obj m), x5], s1) ∧ Bi s1 y b ∧ Rnd s1 st k ∧ Sm st s s1 := by
  obtain ⟨y, s1, q1, q2, q3, q4⟩ := pick A h e ne (by simp [some12]) (by simp [some12])
  obtain ⟨b, hb⟩ := bi_mem hl (q4.lst hn nn) q2
  exact ⟨y, b, s1, asg ((cl5 (s1 := s) (xs := [.obj st, .obj m]) rfl).trans ((ag5 rfl).trans q1)) rfl, hb, q3, q4⟩
def six (x y : D) (m : Nat) : List D := [.obj m, .tup [x], .tup [x, y, .int 0], y, .non, .tup [y, x]]
theorem p5 {x y : D} : P5 A [x0, x1, some x, some y, x4, x5] s = some (.nx [x0, x1, some x, some y, some (.obj (s.length + 1)), x5], s ++ [.lst [x, y]] ++ [.lst (six x y s.length)]) := by
  have b1 := ls (Δ := [x0, x1, some x, some y, x4, x5]) (s := s) (da := dCons (dVar 2) (dCons (dVar 3) dNil)) (xs := [x, y]) rfl (by simp)
  have L := ls (cn (Δ := [x0, x1, some x, some y, x4, x5]) b1 (cn (tp (da := dCons (dVar 2) dNil) (xs := [x]) rfl (by simp)) (cn (tp (da := dCons (dVar 2) (dCons (dVar 3) (dCons (dC (.int 0)) dNil))) (xs := [x, y, .int 0]) rfl (by simp)) (cn (a := dVar 3) (x := y) rfl (cn (a := dC .non) rfl (cn (tp (da := dCons (dVar 3) (dCons (dVar 2) dNil)) (xs := [y, x]) rfl (by simp)) (r := dNil) rfl)))))) (by simp)
  refine (asg L rfl).trans ?_
  simp [six]
theorem p6 {k m : Nat} {x y : D} {ys : List D} (h : Rnd s st (k + 1)) (e : lstAt s m = some ys) (hy : ys.length ≤ 100) : ∃ (d : D) (s1 : Sto), P6 A [some (.obj st), x1, some x, some y, some (.obj m), x5] s = some (.rt d, s1) ∧ d ∈ (List.replicate 9 [D.tup [x, y]]).flatten ++ ys ∧ Rnd s1 st k ∧ Sm st s s1 := by
  have hlt := h.lt
  have b1 := ls (Δ := [some (.obj st), x1, some x, some y, some (.obj m), x5]) (s := s) (cn (tp (da := dCons (dVar 2) (dCons (dVar 3) dNil)) (xs := [x, y]) rfl (by simp)) (r := dNil) rfl) (by simp)
  have f1 : fMul (.obj s.length) (.int 9) (s ++ [.lst [D.tup [x, y]]]) = some (.obj (s.length + 1), s ++ [.lst [D.tup [x, y]]] ++ [.lst (List.replicate 9 [D.tup [x, y]]).flatten]) := by
    have e1 : lstAt (s ++ [.lst [D.tup [x, y]]]) s.length = some [D.tup [x, y]] := lstAt_new
    have r : repOk 1 9 = true := by
      have : (9 : Nat) ≤ sizeLine := le_line (by decide)
      simp [repOk, this]
    simp only [fMul, orOp, fMulI, fRepL, e1, List.length_cons, List.length_nil, Nat.zero_add, r, if_true]
    simp
  have b2 := op5 (b := dC (.int 9)) (y := .int 9) b1 rfl f1
  generalize hs2 : s ++ [.lst [D.tup [x, y]]] ++ [.lst (List.replicate 9 [D.tup [x, y]]).flatten] = s2 at b2
  have g2 : Gr s s2 := ⟨[.lst [D.tup [x, y]]] ++ [.lst (List.replicate 9 [D.tup [x, y]]).flatten], by rw [← hs2]; simp⟩
  have e1 : lstAt s2 (s.length + 1) = some (List.replicate 9 [D.tup [x, y]]).flatten := by
    rw [← hs2]
    have q : s.length + 1 = (s ++ [DO.lst [D.tup [x, y]]]).length := by simp
    rw [q]
    exact lstAt_new
  have e2 : lstAt s2 m = some ys := g2.lst e
  have zz : (List.replicate 9 [D.tup [x, y]]).flatten.length + ys.length ≤ sizeLine := le_line (by simp; omega)
  have f2 : fAdd (.obj (s.length + 1)) (.obj m) s2 = some (.obj s2.length, s2 ++ [.lst ((List.replicate 9 [D.tup [x, y]]).flatten ++ ys)]) := by
    simp only [fAdd, orOp, fAddI, fAddS, fAddL, e1, e2, zz, if_true]
    rfl
  have b3 := op5 (b := dVar 4) (y := .obj m) b2 rfl f2
  obtain ⟨d, s1, q1, q2, q3, q4⟩ := pick A (k := k) (s := s2 ++ [.lst ((List.replicate 9 [D.tup [x, y]]).flatten ++ ys)]) (j := s2.length) ((h.gr g2).app) lstAt_new (by have := g2.len; omega) (by simp) (by simp; omega)
  refine ⟨d, s1, ?_, q2, q3, ((My.Gr.sm g2).trans Sm.app).trans q4⟩
  have c : dCl (argN 2 (M_u_law_pick A)) (dCons (dVar 0) (dCons (dOp fAdd (dOp fMul (dLst (dCons (dTup (dCons (dVar 2) (dCons (dVar 3) dNil))) dNil)) (dC (.int 9))) (dVar 4)) dNil)) [some (.obj st), x1, some x, some y, some (.obj m), x5] s = some (.ok d, s1) := (cl5 (cn (x := .obj st) rfl (cn b3 rfl))).trans ((ag5 rfl).trans q1)
  unfold P6 dRet sbind
  rw [c]
end
/-- what is drawn -/
theorem thing (A : Ax) {s : Sto} {st z k : Nat} (h : Rnd s st (k + 10)) (hz1 : 1 ≤ z) (hz : z ≤ 16) : ∃ (d : D) (g : Bool) (s' : Sto), M_u_law_thing A [.obj st, .int z] s = some (.ok d, s') ∧ Val z s' d g ∧ Shw s' d ∧ Rnd s' st k ∧ Sm st s s' := by
  obtain ⟨x, a, s1, a1, hx, r1, m1⟩ := p1 (A := A) (x2 := none) (x3 := none) (x4 := none) (x5 := none) (k := k + 8) h hz1 hz
  obtain ⟨l, s2, a2, hl, r2, m2⟩ := p2 (A := A) (z := z) (x3 := none) (x4 := none) (k := k + 2) (x := x) r1
  have a3 := p3 (A := A) (s := s2) (x0 := some (.obj st)) (x1 := some (.int z)) (x2 := some x) (x4 := none) (x5 := none) hl
  have L2 := r2.lt
  generalize hs3 : s2 ++ [.lst [.str "1"]] ++ [.lst (some12 l s2.length)] = s3 at a3
  have g3 : Gr s2 s3 := ⟨[.lst [.str "1"]] ++ [.lst (some12 l s2.length)], by rw [← hs3]; simp⟩
  have e3 : lstAt s3 (s2.length + 1) = some (some12 l s2.length) := by
    rw [← hs3]
    have q : s2.length + 1 = (s2 ++ [DO.lst [D.str "1"]]).length := by simp
    rw [q]
    exact lstAt_new
  have e3' : lstAt s3 s2.length = some [.str "1"] := by rw [← hs3]; exact lstAt_app lstAt_new
  obtain ⟨y, b, s4, a4, hy, r4, m4⟩ := p4 (A := A) (x1 := some (.int z)) (x2 := some x) (x3 := some (.str (txt l))) (x5 := none) (k := k + 1) hl (r2.gr g3) e3 (by omega) e3' (by omega)
  have L4 := r4.lt
  have a5 := p5 (A := A) (s := s4) (x0 := some (.obj st)) (x1 := some (.int z)) (x4 := some (.obj (s2.length + 1))) (x5 := none) (x := x) (y := y)
  generalize hs5 : s4 ++ [.lst [x, y]] ++ [.lst (six x y s4.length)] = s5 at a5
  have g5 : Gr s4 s5 := ⟨[.lst [x, y]] ++ [.lst (six x y s4.length)], by rw [← hs5]; simp⟩
  have e5 : lstAt s5 (s4.length + 1) = some (six x y s4.length) := by
    rw [← hs5]
    have q : s4.length + 1 = (s4 ++ [DO.lst [x, y]]).length := by simp
    rw [q]
    exact lstAt_new
  have e5' : lstAt s5 s4.length = some [x, y] := by rw [← hs5]; exact lstAt_app lstAt_new
  obtain ⟨d, s6, a6, hd, r6, m6⟩ := p6 (A := A) (x1 := some (.int z)) (x5 := none) (k := k) (x := x) (y := y) (r4.gr g5) e5 (by simp [six])
  have hy6 : Bi s6 y b := by
    cases hy with
    | obj m hm => exact .obj m (m6.lst (g5.lst hm) (fun e => by
        subst e
        obtain ⟨a', b', c', q, _⟩ := r4
        rw [q] at hm
        cases hm))
    | txt l h => exact .txt l h
    | odd x h => exact .odd x h
    | int => exact .int
    | non => exact .non
  obtain ⟨⟨g, hv⟩, hs⟩ := val_of (z := z) hx hy6 (m6.lst e5' (by omega)) hd
  refine ⟨d, g, s6, ?_, hv, hs, r6, ((((m1.trans m2).trans (My.Gr.sm g3)).trans m4).trans (My.Gr.sm g5)).trans m6⟩
  refine fn_rt ?_
  show ds_u_law_thing A [some (.obj st), some (.int z), none, none, none, none] s = _
  rw [thing_eq, seq_nx a1, seq_nx a2, seq_nx a3, seq_nx a4, seq_nx a5]
  exact a6
end My

namespace My
open PySem L2 PyProof.Rows DV
abbrev LN : Str := "law.<locals>.<lambda>"
/-! ### what the def that gets the lambda says -/
theorem told_bad (A : Ax) {s s1 : Sto} {d : D} {r : Str} {wk : M D} (hw : wk s = some (.error ⟨A.c_BadPoint, [("point", d)]⟩, s1)) (hr : fRepr [d] s1 = some (.str r, s1)) : M_u_law_told A 0 wk s = some (.ok (.tup [.str "point", .str r]), s1) := by
  have i : fIsiX A.c_BadPoint [A.c_BadPoint] [] [.exc A.c_BadPoint ["point"] [d], .adr A.c_BadPoint] s1 = some (.bl true, s1) := by simp [fIsiX]
  have f : fFldX A.c_BadPoint "point" (.exc A.c_BadPoint ["point"] [d]) s1 = some (d, s1) := by simp [fFldX]
  have e0 : dWk 0 0 wk [some (.adr 0), none, some .non, some .non] s = wk s := by simp [dWk]
  have e1 : dAsg (dWk 0 0 wk) (gN 3) [some (.adr 0), none, some .non, some .non] s = some (.ex ⟨A.c_BadPoint, [("point", d)]⟩ [some (.adr 0), none, some .non, some .non], s1) := by
    unfold dAsg sbind
    rw [e0, hw]
  have e2 : dTryK [A.c_BadPoint] 1 2 (dAsg (dWk 0 0 wk) (gN 3)) [some (.adr 0), none, some .non, some .non] s = some (.nx [some (.adr 0), none, some (.exc A.c_BadPoint ["point"] [d]), some .non], s1) := by
    unfold dTryK
    rw [e1]
    simp
  have l2 : 2 ≤ sizeLine := le_line (by decide)
  refine fn_rt ?_
  unfold ds_u_law_told
  rw [seq_nx (show dAsg _ _ (startD 4 [.adr 0]) s = some (.nx [some (.adr 0), none, some .non, some .non], s) from asg_two), seq_nx e2]
  simp [i, f, hr, truD, lift1, l2, fIsN, isNon]
theorem told_good (A : Ax) {s s1 : Sto} {v : D} {wk : M D} (hw : wk s = some (.ok v, s1)) : M_u_law_told A 0 wk s = some (.ok v, s1) := by
  have e0 : dWk 0 0 wk [some (.adr 0), none, some .non, some .non] s = wk s := by simp [dWk]
  have e1 : dAsg (dWk 0 0 wk) (gN 3) [some (.adr 0), none, some .non, some .non] s = some (.nx [some (.adr 0), none, some .non, some v], s1) := by
    unfold dAsg sbind
    rw [e0, hw]
    rfl
  have e2 : dTryK [A.c_BadPoint] 1 2 (dAsg (dWk 0 0 wk) (gN 3)) [some (.adr 0), none, some .non, some .non] s = some (.nx [some (.adr 0), none, some .non, some v], s1) := by
    unfold dTryK
    rw [e1]
  refine fn_rt ?_
  unfold ds_u_law_told
  rw [seq_nx (show dAsg _ _ (startD 4 [.adr 0]) s = some (.nx [some (.adr 0), none, some .non, some .non], s) from asg_two), seq_nx e2]
  simp [fIsN, isNon, truD]
end My

namespace My
open PySem L2 PyProof.Rows DV
theorem meK5 {C : Addr} {mn : Str} {f : FnD} {a : DX} {dk : DA} {Δ : Dn} {s s1 s2 : Sto} {x z : D} (h1 : a Δ s = some (.ok x, s1)) (h2 : mIns C mn x s1 = some (.ok (), s1)) (h3 : dk Δ s1 = some (.ok [z], s2)) : dMeK C mn 1 [0, 1] f a dk Δ s = f [x, z] s2 := by
  unfold dMeK
  rw [mbind_ok, h1]
  show mbind (mIns C mn x) (fun _ => mbind (dk Δ) fun zs => kwN 1 1 [0, 1] f [x] zs) s1 = _
  rw [mbind_ok, h2]
  show mbind (dk Δ) (fun zs => kwN 1 1 [0, 1] f [x] zs) s1 = _
  rw [mbind_ok, h3]
  rfl
/-- the law's table, its metre, its state -/
structure Hs (A : Ax) (s : Sto) (st n : Nat) (t : Tr) : Prop where
  tab : s[0]? = some (.tab A.pt LN)
  met : MetreAt A s n t
  gt : Good t
  st0 : 0 ≠ st
  stn : n ≠ st
theorem Sm.at {n : Nat} {s s' : Sto} (g : Sm n s s') {i : Nat} {o : DO} (h : s[i]? = some o) (ne : i ≠ n) : s'[i]? = some o := by
  rw [g.2 i (List.getElem?_eq_some_iff.mp h).1 ne]
  exact h
theorem Sm.ins {n m : Nat} {s s' : Sto} {x} (g : Sm n s s') (h : insAt s m = some x) (ne : m ≠ n) : insAt s' m = some x := by
  unfold insAt at h ⊢
  cases e : s[m]? with
  | none => rw [e] at h; cases h
  | some o => rw [g.at e ne]; rw [e] at h; exact h
theorem Hs.gr {A : Ax} {s s' : Sto} {st n : Nat} {t : Tr} (h : Hs A s st n t) (g : Gr s s') : Hs A s' st n t := ⟨gr_at g h.tab, ins_gr g h.met, h.gt, h.st0, h.stn⟩
theorem Hs.sm {A : Ax} {s s' : Sto} {st n : Nat} {t : Tr} (h : Hs A s st n t) (g : Sm st s s') : Hs A s' st n t := ⟨g.at h.tab h.st0, g.ins h.met h.stn, h.gt, h.st0, h.stn⟩
theorem lam5 (A : Ax) {s s1 : Sto} {v : D} {db : DX} {Δ : Dn} (tab : s[0]? = some (.tab A.pt LN)) (h : M_u_law_told A 0 (db Δ) s = some (.ok v, s1)) : dLam A.pt LN (M_u_law_told A) db Δ s = some (.ok v, s1) := by
  unfold dLam
  dsimp only
  rw [tab]
  dsimp only
  rw [if_pos ⟨rfl, rfl⟩]
  exact h
def B1 (A : Ax) : DS := (dAsg (dCl (argN 2 (M_u_law_thing A)) (dCons (dVar 3) (dCons (dVar 8) dNil))) (gN 9))
def B2 (A : Ax) : DS := (dAsg (dCl (argN 2 (M_u_law_is_point A)) (dCons (dVar 8) (dCons (dVar 9) dNil))) (gN 10))
def B3 (A : Ax) : DS := (dIfS (dTest (dOp fNe (dCB fRepr (dCons (dLst (dCons (dMe A.c_Metre "is_point" (argN 2 (M_Metre_is_point A)) (dVar 7) (dCons (dVar 9) dNil)) (dCons (dMeK A.c_Metre "is_point" 1 [0, 1] (M_Metre_is_point A) (dVar 7) (dCons (dVar 9) dNil)) dNil))) dNil)) (dCB fRepr (dCons (dLst (dCons (dVar 10) (dCons (dVar 10) dNil))) dNil)))) (dRet (dC (.bl false))) dNx)
def B4 (A : Ax) : DS := (dAsg (dLam A.pt LN (M_u_law_told A) (dMe A.c_Metre "level" (argN 2 (M_Metre_level A)) (dVar 7) (dCons (dVar 9) dNil))) (gN 11))
def B5 (A : Ax) : DS := (dIfS (dAnd (dNot (dTruth (dVar 10))) (dTest (dOp fNe (dVar 11) (dTup (dCons (dC (.str "point")) (dCons (dCB fRepr (dCons (dVar 9) dNil)) dNil)))))) (dRet (dC (.bl false))) dNx)
def B6 (A : Ax) : DS := (dIfS (dAnd (dTruth (dVar 10)) (dAnd (dTest (dOp fNe (dOp fIx (dVar 9) (dC (.int 1))) (dC (.str "")))) (dTest (dOp fNe (dVar 11) (dOp fAdd (dOp1 (fFld A.c_Metre "depth") (dVar 7)) (dCB fLen (dCons (dOp fIx (dVar 9) (dC (.int 1))) dNil))))))) (dRet (dC (.bl false))) dNx)
theorem ne_same {r : Str} (h : PyData.canLay0 (.str r) = true) (s : Sto) : fNe (.str r) (.str r) s = some (.bl false, s) := by
  rw [fNe_str h h]
  simp
def rB (g : Bool) : Str := (PyData.list [.bool g, .bool g]).shown
theorem rep_B (g : Bool) {s : Sto} {m : Nat} (h : lstAt s m = some [.bl g, .bl g]) : fRepr [.obj m] s = some (.str (rB g), s) := by
  have e : toPy s 64 (.obj m) = some (.list [.bool g, .bool g]) := by simp only [toPy, h]; rfl
  have sb : Small (.bool g) := by cases g <;> exact small_of (by decide +kernel)
  have z := (show_l2 sb sb).ok
  simp only [fRepr, e, z, if_true]
  rfl
theorem lay_B (g : Bool) : PyData.canLay0 (.str (rB g)) = true := by
  have sb : Small (.bool g) := by cases g <;> exact small_of (by decide +kernel)
  exact (show_l2 sb sb).lay
section
variable {A : Ax} {x0 x1 x2 x3 x4 x5 x6 x8 x9 x10 x11 : Option D} {s : Sto} {st n : Nat} {t : Tr} {d : D} {g : Bool}
theorem b3 (h : Hs A s st n t) (hv : Val t.sz s d g) : ∃ s1, B3 A [x0, x1, x2, x3, x4, x5, x6, some (.obj n), x8, some d, some (.bl g), x11] s = some (.nx [x0, x1, x2, x3, x4, x5, x6, some (.obj n), x8, some d, some (.bl g), x11], s1) ∧ Gr s s1 := by
  have i := v_ip A h.met hv
  have mi : mIns A.c_Metre "is_point" (.obj n) s = some (.ok (), s) := mi_ok h.met (no_i t)
  have c1 : dMe A.c_Metre "is_point" (argN 2 (M_Metre_is_point A)) (dVar 7) (dCons (dVar 9) dNil) [x0, x1, x2, x3, x4, x5, x6, some (.obj n), x8, some d, some (.bl g), x11] s = some (.ok (.bl g), s) := (me5 (x := .obj n) (s1 := s) (s2 := s) (xs := [d]) rfl mi rfl).trans ((ag5 rfl).trans i)
  have c2 : dMeK A.c_Metre "is_point" 1 [0, 1] (M_Metre_is_point A) (dVar 7) (dCons (dVar 9) dNil) [x0, x1, x2, x3, x4, x5, x6, some (.obj n), x8, some d, some (.bl g), x11] s = some (.ok (.bl g), s) := (meK5 (x := .obj n) (s1 := s) (s2 := s) (z := d) rfl mi rfl).trans i
  have L1 := ls (cn c1 (cn c2 (r := dNil) rfl)) (by simp)
  have q1 := cb5 (cn L1 (r := dNil) rfl) (rep_B g lstAt_new)
  have L2 := ls (Δ := [x0, x1, x2, x3, x4, x5, x6, some (.obj n), x8, some d, some (.bl g), x11]) (s := s ++ [.lst [.bl g, .bl g]]) (da := dCons (dVar 10) (dCons (dVar 10) dNil)) (xs := [.bl g, .bl g]) rfl (by simp)
  have q2 := cb5 (cn L2 (r := dNil) rfl) (rep_B g lstAt_new)
  exact ⟨_, no5 (te5 (op5 q1 q2 (ne_same (lay_B g) _))), Gr.app.trans Gr.app⟩
theorem shw_rep (h : Shw s d) : ∃ r : Str, PyData.canLay0 (.str r) = true ∧ fRepr [d] s = some (.str r, s) := by
  obtain ⟨p, hp, ht⟩ := h
  have e := ht s (Gr.refl _)
  have z := hp.ok
  exact ⟨p.shown, hp.lay, by simp only [fRepr, e, z, if_true]⟩
/-- what is told of the level -/
def TD (s : Sto) (t : Tr) (d : D) (g : Bool) (w : D) : Prop := (g = false ∧ ∃ r : Str, PyData.canLay0 (.str r) = true ∧ fRepr [d] s = some (.str r, s) ∧ w = .tup [.str "point", .str r]) ∨ (g = true ∧ ∃ (i : Int) (l : List Bool) (v : Int), l.length ≤ 100000 ∧ d = .tup [.int i, .str (txt l)] ∧ w = .int v ∧ (l ≠ [] → v = dp t + l.length))
theorem b4 (h : Hs A s st n t) (hv : Val t.sz s d g) (hs : Shw s d) : ∃ w, B4 A [x0, x1, x2, x3, x4, x5, x6, some (.obj n), x8, some d, x10, x11] s = some (.nx [x0, x1, x2, x3, x4, x5, x6, some (.obj n), x8, some d, x10, some w], s) ∧ TD s t d g w := by
  have mi : mIns A.c_Metre "level" (.obj n) s = some (.ok (), s) := mi_ok h.met (no_l t)
  cases g with
  | false =>
    obtain ⟨r, r1, r2⟩ := shw_rep hs
    have l := v_level_bad A h.met hv
    exact ⟨.tup [.str "point", .str r], asg (lam5 A h.tab (told_bad A ((me5 (x := .obj n) (s1 := s) (s2 := s) (xs := [d]) rfl mi rfl).trans ((ag5 rfl).trans l)) r2)) rfl, .inl ⟨rfl, r, r1, r2, rfl⟩⟩
  | true =>
    obtain ⟨i, l, rfl, hl, hg⟩ := val_true hv
    obtain ⟨v, e1, e2⟩ := v_level A h.met i l hl hg
    exact ⟨.int v, asg (lam5 A h.tab (told_good A ((me5 (x := .obj n) (s1 := s) (s2 := s) (xs := [.tup [.int i, .str (txt l)]]) rfl mi rfl).trans ((ag5 rfl).trans e1)))) rfl, .inr ⟨rfl, i, l, v, hl, rfl, rfl, e2⟩⟩
theorem ne_tup {r : Str} (h : PyData.canLay0 (.str r) = true) (s : Sto) : fNe (.tup [.str "point", .str r]) (.tup [.str "point", .str r]) s = some (.bl false, s) := by
  have e1 : toPy s 64 (.tup [.str "point", .str r]) = some (.tuple [.str "point", .str r]) := rfl
  have lp : PyData.canLay0 (.str "point") = true := by decide +kernel
  have c1 : SeqAt.shaped (.tuple [.str "point", .str r]) = true := by
    have d1 : (PyData.tuple [.str "point", .str r]).canLay0 = true := by
      simp only [PyData.canLay0, PyData.canLayAll0] at h lp ⊢
      simp [h, lp]
    simp only [SeqAt.shaped, d1, PyData.depth, PyData.depthAll]
    rfl
  have h3 : py2 s (.tup [.str "point", .str r]) (.tup [.str "point", .str r]) = some (.tuple [.str "point", .str r], .tuple [.str "point", .str r]) := by
    simp only [py2, e1, c1, Bool.and_self, if_true]
  unfold fNe
  rw [h3]
  have q : PyData.eqv (.tuple [.str "point", .str r]) (.tuple [.str "point", .str r]) = true := by
    simp [PyData.eqv, PyData.eqvAll]
  show some (D.bl (!PyData.eqv (.tuple [.str "point", .str r]) (.tuple [.str "point", .str r])), s) = _
  rw [q]
  rfl
theorem b5 {w : D} (ht : TD s t d g w) : B5 A [x0, x1, x2, x3, x4, x5, x6, some (.obj n), x8, some d, some (.bl g), some w] s = some (.nx [x0, x1, x2, x3, x4, x5, x6, some (.obj n), x8, some d, some (.bl g), some w], s) := by
  rcases ht with ⟨rfl, r, r1, r2, rfl⟩ | ⟨rfl, _⟩
  · have a : dNot (dTruth (dVar 10)) [x0, x1, x2, x3, x4, x5, x6, some (.obj n), x8, some d, some (.bl false), some (.tup [.str "point", .str r])] s = some (.ok true, s) := by simp [truD]
    refine no5 ((andt5 a).trans ?_)
    exact te5 (op5 (a := dVar 11) (x := .tup [.str "point", .str r]) rfl (tp (xs := [.str "point", .str r]) (cn (a := dC (.str "point")) rfl (cn (cb5 (da := dCons (dVar 9) dNil) (xs := [d]) rfl r2) (r := dNil) rfl)) (by simp)) (ne_tup r1 s))
  · have a : dNot (dTruth (dVar 10)) [x0, x1, x2, x3, x4, x5, x6, some (.obj n), x8, some d, some (.bl true), some w] s = some (.ok false, s) := by simp [truD]
    exact no5 (andf5 a)
theorem b6 {w : D} (h : Hs A s st n t) (ht : TD s t d g w) : B6 A [x0, x1, x2, x3, x4, x5, x6, some (.obj n), x8, some d, some (.bl g), some w] s = some (.nx [x0, x1, x2, x3, x4, x5, x6, some (.obj n), x8, some d, some (.bl g), some w], s) := by
  have a : dTruth (dVar 10) [x0, x1, x2, x3, x4, x5, x6, some (.obj n), x8, some d, some (.bl g), some w] s = some (.ok g, s) := tr5 rfl
  rcases ht with ⟨rfl, _⟩ | ⟨rfl, i, l, v, hl, rfl, rfl, hv⟩
  · exact no5 (andf5 a)
  · have f2 := fFld_obj h.met (fl_d t)
    have ix : dOp fIx (dVar 9) (dC (.int 1)) [x0, x1, x2, x3, x4, x5, x6, some (.obj n), x8, some (.tup [.int i, .str (txt l)]), some (.bl true), some (.int v)] s = some (.ok (.str (txt l)), s) := op5 (x := .tup [.int i, .str (txt l)]) (y := .int 1) rfl rfl rfl
    have q := fNe_str (s := s) (lay_txt l) str1
    rw [ne_any l] at q
    have e1 := te5 (op5 (b := dC (.str "")) ix rfl q)
    refine no5 ((andt5 a).trans ?_)
    cases hl2 : l.isEmpty with
    | true =>
      rw [hl2] at e1
      exact andf5 e1
    | false =>
      rw [hl2] at e1
      refine (andt5 e1).trans ?_
      have hv' := hv (fun e => by subst e; cases hl2)
      have ln : fLen [.str (txt l)] s = some (.int l.length, s) := by
        have : l.length ≤ sizeLine := by rw [sizeLine_eq]; omega
        simp [fLen, this, txt_size]
      have fl : dOp1 (fFld A.c_Metre "depth") (dVar 7) [x0, x1, x2, x3, x4, x5, x6, some (.obj n), x8, some (.tup [.int i, .str (txt l)]), some (.bl true), some (.int v)] s = some (.ok (.int (dp t)), s) := by
        rw [dOp1_eq, mbind_ok]
        simp [f2]
      have ad : fAdd (.int (dp t)) (.int l.length) s = some (.int ((dp t : Int) + l.length), s) := by simp [fAdd, fAddI, orOp]
      refine te5 (op5 (a := dVar 11) (x := .int v) rfl (op5 fl (cb5 (cn ix (r := dNil) rfl) ln) ad) ?_)
      rw [hv']
      have z : fNe (.int ((dp t : Int) + l.length)) (.int ((dp t : Int) + l.length)) s = some (.bl false, s) := by
        simp [fNe, py2, toPy, SeqAt.shaped, PyData.canLay0, PyData.depth, PyData.eqv]
      exact z
end
end My

namespace My
open PySem L2 PyProof.Rows DV
def turnB (A : Ax) : DS := dSeq (B1 A) (dSeq (B2 A) (dSeq (B3 A) (dSeq (B4 A) (dSeq (B5 A) (B6 A)))))
/-- the names of the law within a cell -/
inductive LwD (x0 x1 x2 x4 x6 : Option D) (st n z : Nat) : Dn → Prop
  | mk (x5 x9 x10 x11 : Option D) : LwD x0 x1 x2 x4 x6 st n z [x0, x1, x2, some (.obj st), x4, x5, x6, some (.obj n), some (.int z), x9, x10, x11]
theorem Shw.gr {s s' : Sto} {d : D} (h : Shw s d) (g : Gr s s') : Shw s' d := by
  obtain ⟨p, h1, h2⟩ := h
  exact ⟨p, h1, fun s2 g2 => h2 s2 (g.trans g2)⟩
theorem turn_run (A : Ax) {s : Sto} {st n k : Nat} {t : Tr} {x0 x1 x2 x4 x6 : Option D} {Δ : Dn} (hΔ : LwD x0 x1 x2 x4 x6 st n t.sz Δ) (h : Hs A s st n t) (hr : Rnd s st (k + 10)) : ∃ Δ' s', turnB A Δ s = some (.nx Δ', s') ∧ LwD x0 x1 x2 x4 x6 st n t.sz Δ' ∧ Rnd s' st k ∧ Sm st s s' := by
  obtain ⟨x5, x9, x10, x11⟩ := hΔ
  obtain ⟨d, g, s1, e1, hv, hs, r1, m1⟩ := thing A (z := t.sz) hr (sz_pos t) h.gt.sz
  have a1 : B1 A [x0, x1, x2, some (.obj st), x4, x5, x6, some (.obj n), some (.int t.sz), x9, x10, x11] s = some (.nx [x0, x1, x2, some (.obj st), x4, x5, x6, some (.obj n), some (.int t.sz), some d, x10, x11], s1) := asg ((cl5 (s1 := s) (xs := [.obj st, .int t.sz]) rfl).trans ((ag5 rfl).trans e1)) rfl
  obtain ⟨s2, e2, g2⟩ := v_lip A t.sz hv
  have a2 : B2 A [x0, x1, x2, some (.obj st), x4, x5, x6, some (.obj n), some (.int t.sz), some d, x10, x11] s1 = some (.nx [x0, x1, x2, some (.obj st), x4, x5, x6, some (.obj n), some (.int t.sz), some d, some (.bl g), x11], s2) := asg ((cl5 (s1 := s1) (xs := [.int t.sz, d]) rfl).trans ((ag5 rfl).trans e2)) rfl
  have H2 := (h.sm m1).gr g2
  obtain ⟨s3, a3, g3⟩ := b3 (A := A) (x0 := x0) (x1 := x1) (x2 := x2) (x3 := some (.obj st)) (x4 := x4) (x5 := x5) (x6 := x6) (x8 := some (.int t.sz)) (x11 := x11) H2 (hv.gr g2)
  have H3 := H2.gr g3
  obtain ⟨w, a4, ht⟩ := b4 (A := A) (x0 := x0) (x1 := x1) (x2 := x2) (x3 := some (.obj st)) (x4 := x4) (x5 := x5) (x6 := x6) (x8 := some (.int t.sz)) (x10 := some (.bl g)) (x11 := x11) H3 ((hv.gr g2).gr g3) ((hs.gr g2).gr g3)
  have a5 := b5 (A := A) (x0 := x0) (x1 := x1) (x2 := x2) (x3 := some (.obj st)) (x4 := x4) (x5 := x5) (x6 := x6) (x8 := some (.int t.sz)) (n := n) ht
  have a6 := b6 (A := A) (x0 := x0) (x1 := x1) (x2 := x2) (x3 := some (.obj st)) (x4 := x4) (x5 := x5) (x6 := x6) (x8 := some (.int t.sz)) H3 ht
  refine ⟨_, s3, ?_, .mk x5 (some d) (some (.bl g)) (some w), (r1.gr g2).gr g3, (m1.trans (My.Gr.sm g2)).trans (My.Gr.sm g3)⟩
  unfold turnB
  rw [seq_nx a1, seq_nx a2, seq_nx a3, seq_nx a4, seq_nx a5]
  exact a6
/-! ### the long point -/
def longL (k : Nat) : List Bool := (List.replicate k [false, true]).flatten
theorem long_succ (k : Nat) : longL (k + 1) = longL k ++ [false, true] := by
  unfold longL
  rw [List.replicate_succ', List.flatten_append]
  simp
theorem long_len : ∀ k, (longL k).length = 2 * k
  | 0 => rfl
  | k + 1 => by rw [long_succ, List.length_append, long_len k]; simp; omega
theorem fold_rep (a : Array Nat) : ∀ (k : Nat) (acc : Array Nat), (List.replicate k a).foldl (· ++ ·) acc = acc ++ (List.replicate k a.toList).flatten.toArray
  | 0, acc => by simp
  | k + 1, acc => by
    rw [List.replicate_succ, List.foldl_cons, fold_rep a k, List.replicate_succ, List.flatten_cons]
    apply Array.ext'
    simp
theorem mul_txt (k : Nat) : Txt.mul ("01" : Str) ((k + 1 : Nat) : Int) = txt (longL (k + 1)) := by
  have e2 : (txt (longL (k + 1))).cps = (List.replicate (k + 1) [48, 49]).flatten.toArray := by
    have : ∀ n, (longL n).map (fun b => if b = true then 49 else 48) = (List.replicate n [48, 49]).flatten := by
      intro n
      induction n with
      | zero => rfl
      | succ n ih =>
        unfold longL at ih ⊢
        rw [List.replicate_succ, List.flatten_cons, List.map_append, ih, List.replicate_succ, List.flatten_cons]
        rfl
    unfold txt
    rw [this]
  unfold Txt.mul
  rw [if_neg (by omega)]
  cases k with
  | zero =>
    rw [if_pos (by decide)]
    decide +kernel
  | succ k =>
    have l2 : ("01" : Str).length = 2 := rfl
    rw [if_neg (by rw [l2]; simp; omega)]
    have e3 : ("01" : Str).cps = #[48, 49] := by decide +kernel
    rw [fold_rep, e3]
    show (⟨_⟩ : Str) = _
    have e4 : (((k + 1 + 1 : Nat) : Int)).toNat = k + 1 + 1 := Int.toNat_natCast _
    rw [e4]
    have : (txt (longL (k + 1 + 1))) = ⟨(txt (longL (k + 1 + 1))).cps⟩ := rfl
    rw [this, e2]
    simp
theorem good_long (k : Nat) : goodB (longL (k + 1)) = true := by
  rw [long_succ]
  simp [goodB]
def E1 (A : Ax) : DS := (dAsg (dOp fRepS (dC (.str "01")) (dOp fAdd (dC (.int 1)) (dCl (argN 2 (M_u_law_draw A)) (dCons (dVar 3) (dCons (dC (.int 3000)) dNil))))) (gN 6))
def E2 (A : Ax) : DS := (dIfS (dOr (dTest (dOp fNe (dMeK A.c_Metre "level" 1 [0, 1] (M_Metre_level A) (dVar 7) (dCons (dTup (dCons (dOp fSub (dVar 8) (dC (.int 1))) (dCons (dVar 6) dNil))) dNil)) (dOp fAdd (dOp1 (fFld A.c_Metre "depth") (dVar 7)) (dCB fLen (dCons (dVar 6) dNil))))) (dTruth (dMe A.c_Metre "is_point" (argN 2 (M_Metre_is_point A)) (dVar 7) (dCons (dTup (dCons (dC (.int 0)) (dCons (dOp fAdd (dVar 6) (dC (.str "0"))) dNil))) dNil)))) (dRet (dC (.bl false))) dNx)
section
variable {A : Ax} {x0 x1 x2 x3 x4 x5 x6 x8 x9 x10 x11 : Option D} {s : Sto} {st n : Nat} {t : Tr}
theorem e1 {k : Nat} {x7 : Option D} (h : Rnd s st (k + 1)) : ∃ (m : Nat) (s1 : Sto), E1 A [x0, x1, x2, some (.obj st), x4, x5, x6, x7, x8, x9, x10, x11] s = some (.nx [x0, x1, x2, some (.obj st), x4, x5, some (.str (txt (longL (m + 1)))), x7, x8, x9, x10, x11], s1) ∧ m < 3000 ∧ Rnd s1 st k ∧ Sm st s s1 := by
  obtain ⟨v, s1, d1, v0, v1, r1, m1⟩ := draw A (m := 3000) h (by omega) (by omega)
  obtain ⟨m, rfl⟩ : ∃ m : Nat, v = m := ⟨v.toNat, by omega⟩
  have q : dCl (argN 2 (M_u_law_draw A)) (dCons (dVar 3) (dCons (dC (.int 3000)) dNil)) [x0, x1, x2, some (.obj st), x4, x5, x6, x7, x8, x9, x10, x11] s = some (.ok (.int m), s1) := (cl5 (s1 := s) (xs := [.obj st, .int 3000]) rfl).trans ((ag5 rfl).trans d1)
  have ad : fAdd (.int 1) (.int m) s1 = some (.int ((m + 1 : Nat) : Int), s1) := by
    have : (1 : Int) + m = ((m + 1 : Nat) : Int) := by omega
    simp [fAdd, fAddI, orOp, this]
  have q2 := op5 (a := dC (.int 1)) (x := .int 1) rfl q ad
  have rp : fRepS (.str "01") (.int ((m + 1 : Nat) : Int)) s1 = some (.str (txt (longL (m + 1))), s1) := by
    have l2 : ("01" : Str).length ≤ 16 := by decide
    have c : ("01" : Str).length ≤ 16 ∧ -(2 ^ 63) ≤ ((m + 1 : Nat) : Int) ∧ ((m + 1 : Nat) : Int) ≤ 1048576 := ⟨l2, by omega, by omega⟩
    simp only [fRepS]
    rw [if_pos c, mul_txt]
  exact ⟨m, s1, asg (op5 (a := dC (.str "01")) (x := .str "01") rfl q2 rp) rfl, by omega, r1, m1⟩
theorem e2 {m : Nat} (h : Hs A s st n t) (hm : m < 3000) : E2 A [x0, x1, x2, x3, x4, x5, some (.str (txt (longL (m + 1)))), some (.obj n), some (.int t.sz), x9, x10, x11] s = some (.nx [x0, x1, x2, x3, x4, x5, some (.str (txt (longL (m + 1)))), some (.obj n), some (.int t.sz), x9, x10, x11], s) := by
  have ll := long_len (m + 1)
  generalize hL : longL (m + 1) = L at ll
  have hg : goodB L = true := by rw [← hL]; exact good_long m
  have z0 := sz_pos t
  have gp : goodP t.sz (some ((t.sz : Int) - 1)) (some L) = true := by
    have a1 : decide ((0 : Int) ≤ (t.sz : Int) - 1) = true := decide_eq_true (by omega)
    have a2 : decide ((t.sz : Int) - 1 < t.sz) = true := decide_eq_true (by omega)
    show (goodB L && ((decide ((0 : Int) ≤ (t.sz : Int) - 1) && decide ((t.sz : Int) - 1 < t.sz)) || (((t.sz : Int) - 1) == t.sz && L.isEmpty))) = true
    rw [hg, a1, a2]
    rfl
  obtain ⟨v, q1, q2⟩ := v_level A h.met ((t.sz : Int) - 1) L (by omega) gp
  have q2' := q2 (fun e => by rw [e] at ll; simp at ll)
  have mi : mIns A.c_Metre "level" (.obj n) s = some (.ok (), s) := mi_ok h.met (no_l t)
  have mp : mIns A.c_Metre "is_point" (.obj n) s = some (.ok (), s) := mi_ok h.met (no_i t)
  have f2 := fFld_obj h.met (fl_d t)
  have sb : dOp fSub (dVar 8) (dC (.int 1)) [x0, x1, x2, x3, x4, x5, some (.str (txt L)), some (.obj n), some (.int t.sz), x9, x10, x11] s = some (.ok (.int ((t.sz : Int) - 1)), s) := op5 (x := .int t.sz) (y := .int 1) rfl rfl (by simp [fSub])
  have lv : dMeK A.c_Metre "level" 1 [0, 1] (M_Metre_level A) (dVar 7) (dCons (dTup (dCons (dOp fSub (dVar 8) (dC (.int 1))) (dCons (dVar 6) dNil))) dNil) [x0, x1, x2, x3, x4, x5, some (.str (txt L)), some (.obj n), some (.int t.sz), x9, x10, x11] s = some (.ok (.int v), s) := (meK5 (x := .obj n) (s1 := s) (s2 := s) rfl mi (cn (tp (cn sb (cn (a := dVar 6) (x := .str (txt L)) rfl (r := dNil) rfl)) (by simp)) (r := dNil) rfl)).trans q1
  have fl : dOp1 (fFld A.c_Metre "depth") (dVar 7) [x0, x1, x2, x3, x4, x5, some (.str (txt L)), some (.obj n), some (.int t.sz), x9, x10, x11] s = some (.ok (.int (dp t)), s) := by
    rw [dOp1_eq, mbind_ok]
    simp [f2]
  have ln : fLen [.str (txt L)] s = some (.int L.length, s) := by
    have : L.length ≤ sizeLine := by rw [sizeLine_eq]; omega
    simp [fLen, this, txt_size]
  have ad : fAdd (.int (dp t)) (.int L.length) s = some (.int ((dp t : Int) + L.length), s) := by simp [fAdd, fAddI, orOp]
  have z : fNe (.int ((dp t : Int) + L.length)) (.int ((dp t : Int) + L.length)) s = some (.bl false, s) := by
    simp [fNe, py2, toPy, SeqAt.shaped, PyData.canLay0, PyData.depth, PyData.eqv]
  rw [q2'] at lv
  have t1 := te5 (op5 lv (op5 fl (cb5 (da := dCons (dVar 6) dNil) (xs := [.str (txt L)]) rfl ln) ad) z)
  refine no5 ((or5 t1).trans ?_)
  have as : fAdd (.str (txt L)) (.str "0") s = some (.str (txt (L ++ [false])), s) := by
    have e : (txt L).length + (txt [false]).length ≤ sizeLine := by rw [txt_size, txt_size, sizeLine_eq]; simp; omega
    rw [o0]
    simp [fAdd, fAddI, fAddS, orOp, e, app_txt]
  have ap : dOp fAdd (dVar 6) (dC (.str "0")) [x0, x1, x2, x3, x4, x5, some (.str (txt L)), some (.obj n), some (.int t.sz), x9, x10, x11] s = some (.ok (.str (txt (L ++ [false]))), s) := op5 (x := .str (txt L)) (y := .str "0") rfl rfl as
  have ip := ip_pair A h.met (.int 0) (.txt (L ++ [false]) (by simp; omega))
  have gf : goodP t.sz (some 0) (some (L ++ [false])) = false := by simp [goodP, goodB]
  rw [gf] at ip
  exact tr5 ((me5 (x := .obj n) (s1 := s) (s2 := s) rfl mp (cn (tp (cn (a := dC (.int 0)) rfl (cn ap (r := dNil) rfl)) (by simp)) (r := dNil) rfl)).trans ((ag5 rfl).trans ip))
end
end My

namespace My
open PySem L2 PyProof.Rows DV
def V1 (A : Ax) : DS := (dAsg (dCl (argN 2 (M_u_law_begin A)) (dCons (dVar 2) (dCons (dVar 1) dNil))) (gN 3))
def V2 (A : Ax) : DS := (dAsg (dCl (argN 1 (M_u_law_tree A)) (dCons (dVar 3) dNil)) (gN 4))
def V3 (A : Ax) : DS := (dAsg (dTup (dCons (dMk A.c_Metre (argN 2 (M_Metre_uu_init_ A)) (dCons (dVar 4) dNil)) (dCons (dCl (argN 1 (M_u_law_size A 6)) (dCons (dVar 4) dNil)) dNil))) (gTp 2 (gsCons (gN 7) (gsCons (gN 8) gsNil))))
def V4 (A : Ax) : DS := (dFor (iRange1 (dCons (dC (.int 8)) dNil)) (gN 5) (turnB A))
def cellB (A : Ax) : DS := dSeq (V1 A) (dSeq (V2 A) (dSeq (V3 A) (dSeq (V4 A) (dSeq (E1 A) (E2 A)))))
theorem ds_law_eq (A : Ax) : ds_law A = dSeq (dFor (iEnum (dCons (dSl fSl (dOrT (dVar 0) (dLst (dCons (dC (.int 5)) dNil))) dNoPt (dPt (dC (.int 8)))) dNil)) (gTp 2 (gsCons (gN 1) (gsCons (gN 2) gsNil))) (cellB A)) (dRet (dC (.bl true))) := rfl
section
variable {A : Ax} {x0 x1 x2 x3 x4 x5 x6 x7 x8 x9 x10 x11 : Option D} {s : Sto}
theorem pow18 : powOk 10 18 = true := by decide
theorem begin_run (A : Ax) (s : Sto) (c : Int) (k : Nat) (h : k < 100) : ∃ a b : Int, M_u_law_begin A [.int c, .int k] s = some (.ok (.obj s.length), s ++ [.lst [.int a, .int b, .int 0]]) := by
  have l3 : 3 ≤ sizeLine := le_line (by decide)
  have m : mulOk 977 k = true := by unfold mulOk; simp
  have q : ∀ i j : Int, fMaxA [.int i, .int j] s = some (.int (maxI i j), s) := fun i j => rfl
  refine ⟨maxI 0 (c - 10 ^ (18 : Int).toNat), c + 977 * k, ?_⟩
  simp [M_u_law_begin, ds_u_law_begin, startD, fSub, fPow, pow18, q, fAdd, fAddI, orOp, fMul, fMulI, m, l3]
theorem v1 {c : Int} {k : Nat} (h : k < 100) : ∃ s1, V1 A [x0, some (.int k), some (.int c), x3, x4, x5, x6, x7, x8, x9, x10, x11] s = some (.nx [x0, some (.int k), some (.int c), some (.obj s.length), x4, x5, x6, x7, x8, x9, x10, x11], s1) ∧ Gr s s1 ∧ Rnd s1 s.length 100000 := by
  obtain ⟨a, b, hb⟩ := begin_run A s c k h
  exact ⟨_, by simp [V1, hb], Gr.app, ⟨a, b, 0, lstAt_new, Int.le_refl _, by decide⟩⟩
theorem v2 {st k : Nat} (h : Rnd s st (k + 600)) : ∃ (t : Tr) (s1 : Sto), V2 A [x0, x1, x2, some (.obj st), x4, x5, x6, x7, x8, x9, x10, x11] s = some (.nx [x0, x1, x2, some (.obj st), some t.d, x5, x6, x7, x8, x9, x10, x11], s1) ∧ Good t ∧ Rnd s1 st k ∧ Sm st s s1 := by
  obtain ⟨t, s1, h1, h2, h3, h4⟩ := tree A h
  exact ⟨t, s1, by simp [V2, h1], h2, h3, h4⟩
theorem v3 {t : Tr} (g : Good t) : ∃ s1, V3 A [x0, x1, x2, x3, some t.d, x5, x6, x7, x8, x9, x10, x11] s = some (.nx [x0, x1, x2, x3, some t.d, x5, x6, some (.obj s.length), some (.int t.sz), x9, x10, x11], s1) ∧ Gr s s1 ∧ MetreAt A s1 s.length t := by
  have l2 : 2 ≤ sizeLine := le_line (by decide)
  obtain ⟨s1, h1, h2, h3⟩ := make A g s
  obtain ⟨s2, h4, h5⟩ := size A 6 t s1 (by have := g.ht; omega) (by have := g.ht; omega)
  exact ⟨s2, by simp [V3, h1, h4, l2], h2.trans h5, ins_gr h5 h3⟩
end
theorem gr_old {s s' : Sto} (h1 : s.length ≤ s'.length) (h2 : ∀ i, i < s.length → s'[i]? = s[i]?) : Gr s s' := by
  refine ⟨s'.drop s.length, ?_⟩
  apply List.ext_getElem?
  intro i
  by_cases h : i < s.length
  · rw [h2 i h, List.getElem?_append_left h]
  · rw [List.getElem?_append_right (by omega), List.getElem?_drop]
    congr 1
    omega
theorem old_gr {s s' : Sto} (h : Gr s s') {i : Nat} (hi : i < s.length) : s'[i]? = s[i]? := by
  obtain ⟨l, rfl⟩ := h
  exact List.getElem?_append_left hi
inductive CD (x0 : Option D) : Dn → Prop
  | mk (x1 x2 x3 x4 x5 x6 x7 x8 x9 x10 x11 : Option D) : CD x0 [x0, x1, x2, x3, x4, x5, x6, x7, x8, x9, x10, x11]
theorem rng_len8 : (rngI 0 8).its.length = 8 := rfl
theorem cell_turn (A : Ax) (s0 : Sto) (tab : s0[0]? = some (.tab A.pt LN)) {x0 : Option D} {Δ : Dn} (hΔ : CD x0 Δ) (i : Nat) (c : Int) (hi : i < 100) : ∃ Δ' s', cellB A ((Δ.set 1 (some (.int i))).set 2 (some (.int c))) s0 = some (.nx Δ', s') ∧ CD x0 Δ' ∧ Gr s0 s' := by
  obtain ⟨x1, x2, x3, x4, x5, x6, x7, x8, x9, x10, x11⟩ := hΔ
  have l0 : 0 < s0.length := (List.getElem?_eq_some_iff.mp tab).1
  obtain ⟨s1, a1, g1, r1⟩ := v1 (A := A) (s := s0) (c := c) (k := i) (x0 := x0) (x3 := x3) (x4 := x4) (x5 := x5) (x6 := x6) (x7 := x7) (x8 := x8) (x9 := x9) (x10 := x10) (x11 := x11) hi
  have L1 := r1.lt
  obtain ⟨t, s2, a2, g, r2, m2⟩ := v2 (A := A) (s := s1) (st := s0.length) (k := 81) (x0 := x0) (x1 := some (.int i)) (x2 := some (.int c)) (x4 := x4) (x5 := x5) (x6 := x6) (x7 := x7) (x8 := x8) (x9 := x9) (x10 := x10) (x11 := x11) (r1.mono (by decide))
  have L2 := r2.lt
  obtain ⟨s3, a3, g3, M3⟩ := v3 (A := A) (s := s2) (x0 := x0) (x1 := some (.int i)) (x2 := some (.int c)) (x3 := some (.obj s0.length)) (x5 := x5) (x6 := x6) (x7 := x7) (x8 := x8) (x9 := x9) (x10 := x10) (x11 := x11) g
  have H3 : Hs A s3 s0.length s2.length t := ⟨gr_at g3 (m2.at (gr_at g1 tab) (by omega)), M3, g, by omega, by omega⟩
  obtain ⟨Δ4, s4, q1, q2, q3, q4⟩ := for_gen (I := rngI 0 8) (g := gN 5) (b := turnB A)
    (fun r Δ s => LwD x0 (some (.int i)) (some (.int c)) (some t.d) x6 s0.length s2.length t.sz Δ ∧ Rnd s s0.length (r.length * 10 + 1) ∧ Hs A s s0.length s2.length t ∧ Sm s0.length s3 s) (fun _ _ _ _ => rfl) (fun d r Δ s ⟨h1, h2, h3, h4⟩ => by
      have h1' : LwD x0 (some (.int i)) (some (.int c)) (some t.d) x6 s0.length s2.length t.sz (Δ.set 5 (some d)) := by
        cases h1
        exact .mk _ _ _ _
      obtain ⟨Δ2, s', w1, w2, w3, w4⟩ := turn_run A h1' h3 (k := r.length * 10 + 1) (h2.mono (by rw [List.length_cons]; omega))
      exact ⟨_, s, rfl, Δ2, s', w1, w2, w3, h3.sm w4, h4.trans w4⟩) (rngI 0 8).its _ s3 ⟨.mk x5 x9 x10 x11, (r2.gr g3).mono (by rw [rng_len8]; decide), H3, Sm.refl _ _⟩
  obtain ⟨q3b, q3c⟩ := q4
  obtain ⟨y5, y9, y10, y11⟩ := q2
  obtain ⟨m, s5, a5, hm, r5, m5⟩ := e1 (A := A) (s := s4) (st := s0.length) (k := 0) (x0 := x0) (x1 := some (.int i)) (x2 := some (.int c)) (x4 := some t.d) (x5 := y5) (x6 := x6) (x7 := some (.obj s2.length)) (x8 := some (.int t.sz)) (x9 := y9) (x10 := y10) (x11 := y11) (q3.mono (by simp))
  have a6 := e2 (A := A) (s := s5) (m := m) (x0 := x0) (x1 := some (.int i)) (x2 := some (.int c)) (x3 := some (.obj s0.length)) (x4 := some t.d) (x5 := y5) (x9 := y9) (x10 := y10) (x11 := y11) (q3b.sm m5) hm
  have M := q3c.trans m5
  refine ⟨_, s5, ?_, CD.mk (some (.int i)) (some (.int c)) (some (.obj s0.length)) (some t.d) y5 (some (.str (txt (longL (m + 1))))) (some (.obj s2.length)) (some (.int t.sz)) y9 y10 y11, gr_old (by have := g1.len; have := m2.1; have := g3.len; have := M.1; omega) fun j hj => ?_⟩
  · show cellB A [x0, some (.int i), some (.int c), x3, x4, x5, x6, x7, x8, x9, x10, x11] s0 = _
    unfold cellB
    rw [seq_nx a1, seq_nx a2, seq_nx a3]
    have a4 : V4 A [x0, some (.int i), some (.int c), some (.obj s0.length), some t.d, x5, x6, some (.obj s2.length), some (.int t.sz), x9, x10, x11] s3 = some (.nx _, s4) := for_of (range1 (k := 8) (s1 := s3) rfl (by decide)) q1
    rw [seq_nx a4, seq_nx a5]
    exact a6
  · rw [M.2 j (by have := g1.len; have := m2.1; have := g3.len; omega) (by omega), old_gr g3 (by have := g1.len; have := m2.1; omega), m2.2 j (by have := g1.len; omega) (by omega), old_gr g1 hj]
theorem enum_mem : ∀ (xs : List D) (k : Nat) (d : D), d ∈ enumD k xs → ∃ (i : Nat) (x : D), i < k + xs.length ∧ x ∈ xs ∧ d = .tup [.int i, x]
  | [], _, _, h => by cases h
  | x :: r, k, d, h => by
    rw [enumD] at h
    rcases List.mem_cons.mp h with rfl | h
    · exact ⟨k, x, by simp, by simp, rfl⟩
    · obtain ⟨i, y, h1, h2, h3⟩ := enum_mem r (k + 1) d h
      exact ⟨i, y, by simp at h1 ⊢; omega, by simp [h2], h3⟩
def AllI (xs : List D) : Prop := xs.length ≤ 63 ∧ ∀ x ∈ xs, ∃ c : Int, x = .int c
theorem cut_all {xs : List D} (h : AllI xs) : AllI (DV.cutD xs none (some 8)) := by
  unfold DV.cutD
  refine ⟨?_, fun x hx => h.2 x (List.mem_of_mem_drop (List.mem_of_mem_take hx))⟩
  rw [List.length_take, List.length_drop]
  have := h.1
  omega
theorem law_true (A : Ax) : AllTrueT A.pt LN (M_law A) := by
  intro ns hns
  have hN : AllI (ns.map D.int) := ⟨by simpa using hns, fun x hx => by
    obtain ⟨c, _, rfl⟩ := List.mem_map.mp hx
    exact ⟨c, rfl⟩⟩
  have hst : startD 12 [D.fz (ns.map D.int)] = [some (.fz (ns.map D.int)), none, none, none, none, none, none, none, none, none, none, none] := rfl
  have first : ∃ (m : Nat) (s : Sto) (xs : List D), AllI xs ∧ lstAt s m = some xs ∧ s[0]? = some (.tab A.pt LN) ∧ iEnum (dCons (dSl fSl (dOrT (dVar 0) (dLst (dCons (dC (.int 5)) dNil))) dNoPt (dPt (dC (.int 8)))) dNil) (startD 12 [D.fz (ns.map D.int)]) [.tab A.pt LN] = some (.ok ⟨enumD 0 xs, some (m, xs)⟩, s) := by
    rw [hst]
    cases ns with
    | nil =>
      refine ⟨2, [.tab A.pt LN, .lst [.int 5], .lst (DV.cutD [.int 5] none (some 8))], DV.cutD [.int 5] none (some 8), cut_all ⟨by decide, fun x hx => ⟨5, by simpa using hx⟩⟩, rfl, rfl, ?_⟩
      have l1 : 1 ≤ sizeLine := le_line (by decide)
      have e : lstAt [.tab A.pt LN, DO.lst [D.int 5], DO.lst (DV.cutD [.int 5] none (some 8))] 2 = some (DV.cutD [.int 5] none (some 8)) := rfl
      have e0 : lstAt [.tab A.pt LN, DO.lst [D.int 5]] 1 = some [D.int 5] := rfl
      simp [dSl, dNoPt, dPt, liftS, fSl, truD, l1, e, e0]
    | cons n r =>
      refine ⟨1, [.tab A.pt LN, .lst (DV.cutD ((n :: r).map D.int) none (some 8))], DV.cutD ((n :: r).map D.int) none (some 8), cut_all hN, rfl, rfl, ?_⟩
      have e : lstAt [.tab A.pt LN, DO.lst (DV.cutD (D.int n :: r.map D.int) none (some 8))] 1 = some (DV.cutD (D.int n :: r.map D.int) none (some 8)) := rfl
      simp [dSl, dNoPt, dPt, liftS, fSl, truD, e]
  obtain ⟨m, s, xs, h1, h2, h0, h3⟩ := first
  obtain ⟨Δ', s', q1, q2, q3, q4⟩ := for_gen (I := ⟨enumD 0 xs, some (m, xs)⟩) (g := gTp 2 (gsCons (gN 1) (gsCons (gN 2) gsNil))) (b := cellB A)
    (fun r Δ s => CD (some (.fz (ns.map D.int))) Δ ∧ lstAt s m = some xs ∧ s[0]? = some (.tab A.pt LN) ∧ ∀ d ∈ r, ∃ (i : Nat) (c : Int), i < 100 ∧ d = .tup [.int i, .int c])
    (fun r Δ s ⟨_, h, _⟩ => still_of h) (fun d r Δ s ⟨a1, a2, a0, a3⟩ => by
      obtain ⟨i, c, hi, rfl⟩ := a3 d (by simp)
      obtain ⟨Δ2, s2, b1, b2, b3⟩ := cell_turn A s a0 a1 i c hi
      exact ⟨_, s, rfl, Δ2, s2, b1, b2, b3.lst a2, gr_at b3 a0, fun d hd => a3 d (by simp [hd])⟩) (enumD 0 xs) (startD 12 [D.fz (ns.map D.int)]) s ⟨by rw [hst]; exact .mk _ _ _ _ _ _ _ _ _ _ _, h2, h0, fun d hd => by
        obtain ⟨i, x, e1, e2, e3⟩ := enum_mem xs 0 d hd
        obtain ⟨c, rfl⟩ := h1.2 x e2
        exact ⟨i, c, by have := h1.1; omega, e3⟩⟩
  refine ⟨s', ?_⟩
  refine fn_rt ?_
  rw [ds_law_eq, seq_nx (for_of h3 q1)]
  rfl
end My

namespace My
open PySem L2 PyProof.Rows DV
theorem all_mk {l : PySem.W.OpenLaw} {w : World} {K : PySem.W.Frag} {h : Heap} {mg : Str → Option Value} {fa ct pt f23 f1 f2 f3 f4 f5 f6 f7 f8 f9 f10 f11 f12 f13 f14 f15 f16 f17 f18 f19 f20 f21 f22 C_Metre C_BadPoint C_RhythmError o_DOTS : Addr} (X : K.In h) (G : h.Ns mainGlobals mg) (hfa : mg "law" = some (.ref fa)) (own : LamX.OwnTab K fa h)
    {od1 an1 od2 an2 od3 an3 od4 an4 od5 an5 od6 an6 od7 an7 od8 an8 od9 an9 od10 an10 od11 an11 od12 an12 od13 an13 od14 an14 od15 an15 od16 an16 od17 an17 od18 an18 od19 an19 od20 an20 od21 an21 od22 an22 od23 an23 : Option Addr} {sl1 sl2 sl3 sl4 sl5 sl6 sl7 sl8 sl9 sl10 sl11 sl12 sl13 sl14 sl15 sl16 sl17 sl18 sl19 sl20 sl21 sl22 sl23 : Array (Option Value)} {oc1 kV1 dc1 pm1 cd1 ct1 oc2 kV2 dc2 pm2 cd2 ct2 oc3 kV3 dc3 pm3 cd3 ct3 oc4 kV4 dc4 pm4 cd4 ct4 oc5 kV5 dc5 pm5 cd5 ct5 oc6 kV6 dc6 pm6 cd6 ct6 oc7 kV7 dc7 pm7 cd7 ct7 oc8 kV8 dc8 pm8 cd8 ct8 oc9 kV9 dc9 pm9 cd9 ct9 oc10 kV10 dc10 pm10 cd10 ct10 oc11 kV11 dc11 pm11 cd11 ct11 oc12 kV12 dc12 pm12 cd12 ct12 oc13 kV13 dc13 pm13 cd13 ct13 oc14 kV14 dc14 pm14 cd14 ct14 oc15 kV15 dc15 pm15 cd15 ct15 oc16 kV16 dc16 pm16 cd16 ct16 oc17 kV17 dc17 pm17 cd17 ct17 oc18 kV18 dc18 pm18 cd18 ct18 oc19 kV19 dc19 pm19 cd19 ct19 oc20 kV20 dc20 pm20 cd20 ct20 oc21 kV21 dc21 pm21 cd21 ct21 oc22 kV22 dc22 pm22 ct22 oc23 kV23 dc23 pm23 cd23 ct23 : Value}
    {odc : Option Addr} {vsc : Array Value} {slc : Array (Option Value)} {file : Str} {tf tg tt : Tok} {flags text : Int} {inF : Bool}
    {nm_BadPoint qn_BadPoint : Str} {N_BadPoint : Addr} {bs_BadPoint bm_BadPoint su_BadPoint : List Value} {sn_BadPoint : List Str} {ab_BadPoint : Bool} {co_BadPoint : Option Bool} {dd_BadPoint : Option Addr} {k0_BadPoint k1_BadPoint k2_BadPoint k3_BadPoint k5_BadPoint : Option Value}
    {tk_MOST_DEEP tk_MOST_PULSES : Tok}
    {es_DOTS : Array DictEntry} {n_DOTS : Nat}
    (aC_Metre : PySem.W.nsIn K mainGlobals "Metre" = some (some (.ref C_Metre)))
    (pg_Metre : PySem.W.plainGet K C_Metre Str.empty = true)
    (hd_Metre : PySem.W.hasDictIn K C_Metre = true)
    (po_Metre : PySem.W.plainOver K C_Metre = true)
    (sa_Metre : PySem.W.findIn K (.ref C_Metre) "__setattr__" = some (some (.builtin "object.__setattr__")))
    (mk_Metre : PySem.W.makesIn K C_Metre = true)
    (kc_Metre : PySem.W.keepIn K (.ref C_Metre) = true)
    (n_Metre_tree : PySem.W.findIn K (.ref C_Metre) "tree" = some none)
    (n_Metre_borders : PySem.W.findIn K (.ref C_Metre) "borders" = some none)
    (n_Metre_pulses : PySem.W.findIn K (.ref C_Metre) "pulses" = some none)
    (n_Metre_depth : PySem.W.findIn K (.ref C_Metre) "depth" = some none)
    (aC_BadPoint : PySem.W.nsIn K mainGlobals "BadPoint" = some (some (.ref C_BadPoint)))
    (sb_BadPoint : PySem.W.subIn K (.ref C_BadPoint) (.type "BaseException") = some true)
    (ty_BadPoint : PySem.W.typeIn K (.ref C_BadPoint) = some (.type "type"))
    (aC_RhythmError : PySem.W.nsIn K mainGlobals "RhythmError" = some (some (.ref C_RhythmError)))
    (sb_RhythmError : PySem.W.subIn K (.ref C_RhythmError) (.type "BaseException") = some true)
    (ty_RhythmError : PySem.W.typeIn K (.ref C_RhythmError) = some (.type "type"))
    (eg_BadPoint : PySem.W.findIn K (.ref C_BadPoint) "__getattribute__" = some (some (.builtin "BaseException.__getattribute__")))
    (ek_BadPoint : PySem.W.findIn K (.ref C_BadPoint) "__getattr__" = some none)
    (ed_BadPoint : PySem.W.hasDictIn K C_BadPoint = true)
    (ea_BadPoint : PySem.W.findIn K (.ref C_BadPoint) "__class__" = some (some (.builtin "object.__class__")))
    (em_BadPoint : PySem.W.mroIn K C_BadPoint (.type "object") = some true)
    (jn : PySem.W.specialIn K (.builtin "object.__class__") "__get__" = some (some (.builtin "getset_descriptor.__get__")))
    (jt : PySem.W.takesIn K (.builtin "object.__class__") = some true)
    (xi_BadPoint : PySem.W.isClsIn K C_BadPoint = true)
    (xs_BadPoint : PySem.W.subIn K (.ref C_BadPoint) (.ref C_BadPoint) = some true)
    (xi_RhythmError : PySem.W.isClsIn K C_RhythmError = true)
    (xs_RhythmError : PySem.W.subIn K (.ref C_RhythmError) (.ref C_RhythmError) = some true)
    (ed_RhythmError : PySem.W.hasDictIn K C_RhythmError = true)
    (xb_RhythmError_BadPoint : PySem.W.subIn K (.ref C_BadPoint) (.ref C_RhythmError) = some true)
    (z_bool : PySem.W.nsIn K mainGlobals "bool" = some none)
    (z_enumerate : PySem.W.nsIn K mainGlobals "enumerate" = some none)
    (z_int : PySem.W.nsIn K mainGlobals "int" = some none)
    (z_isinstance : PySem.W.nsIn K mainGlobals "isinstance" = some none)
    (z_len : PySem.W.nsIn K mainGlobals "len" = some none)
    (z_max : PySem.W.nsIn K mainGlobals "max" = some none)
    (z_range : PySem.W.nsIn K mainGlobals "range" = some none)
    (z_repr : PySem.W.nsIn K mainGlobals "repr" = some none)
    (z_str : PySem.W.nsIn K mainGlobals "str" = some none)
    (z_sum : PySem.W.nsIn K mainGlobals "sum" = some none)
    (z_tuple : PySem.W.nsIn K mainGlobals "tuple" = some none)
    (g_DOTS : PySem.W.nsIn K mainGlobals "DOTS" = some (some (.ref o_DOTS)))
    (l_DOTS : K.lookup o_DOTS = some ⟨.type "dict", none, .dict es_DOTS n_DOTS, #[]⟩)
    (e_DOTS : kdB es_DOTS.toList kv_DOTS = true)
    (s_DOTS : (o_DOTS == sysModules) = false)
    (g_MOST_DEEP : PySem.W.nsIn K mainGlobals "MOST_DEEP" = some (some (.int 4 tk_MOST_DEEP)))
    (g_MOST_PULSES : PySem.W.nsIn K mainGlobals "MOST_PULSES" = some (some (.int 16 tk_MOST_PULSES)))
    (lC_BadPoint : K.lookup C_BadPoint = some (excClassObj nm_BadPoint qn_BadPoint C_BadPoint N_BadPoint bs_BadPoint bm_BadPoint true sn_BadPoint su_BadPoint ab_BadPoint co_BadPoint dd_BadPoint k0_BadPoint k1_BadPoint k2_BadPoint k3_BadPoint k5_BadPoint "ValueError.__new__"))
    (vC_BadPoint : PySem.HandSPX.refsVE bm_BadPoint = true)
    (aC2_BadPoint : PySem.W.findIn K (.ref C_BadPoint) "__setattr__" = some (some (.builtin "object.__setattr__")))
    (kC_BadPoint : PySem.W.keepIn K (.ref C_BadPoint) = true)
    (iC_BadPoint : PySem.W.findIn K (.ref C_BadPoint) "__init__" = some (some (.ref f23)))
    (tC_BadPoint : PySem.W.typeIn K (.ref f23) = some (.type "function"))
    (nC_BadPoint : PySem.W.findIn K (.ref C_BadPoint) "point" = some none)
    (bs_RhythmError : PySem.W.specialIn K (.ref C_RhythmError) "__getattribute__" = some (some (.builtin "type.__getattribute__")))
    (br_RhythmError : PySem.W.readsIn K C_RhythmError (.type "type") = true)
    (bf_RhythmError : PySem.W.findCls K (.ref C_RhythmError) (.type "type") "__init__" = some (.val (.builtin "ValueError.__init__")))
    (a1 : PySem.W.nsIn K mainGlobals "is_number" = some (some (.ref f1)))
    (l1 : K.lookup f1 = some ⟨oc1, od1, .func (PySem.W.fnOf "is_number" "is_number" (defArgs s_is_number) (defBody s_is_number) (defScope s_is_number) .none kV1 dc1 pm1 an1 cd1 ct1), sl1⟩)
    (c1 : PySem.W.codeIn K cd1 "is_number" = true)
    (k1 : PySem.W.keepIn K (.ref f1) = true)
    (a2 : PySem.W.nsIn K mainGlobals "dots_of" = some (some (.ref f2)))
    (l2 : K.lookup f2 = some ⟨oc2, od2, .func (PySem.W.fnOf "dots_of" "dots_of" (defArgs s_dots_of) (defBody s_dots_of) (defScope s_dots_of) .none kV2 dc2 pm2 an2 cd2 ct2), sl2⟩)
    (c2 : PySem.W.codeIn K cd2 "dots_of" = true)
    (k2 : PySem.W.keepIn K (.ref f2) = true)
    (a3 : PySem.W.nsIn K mainGlobals "_pulses" = some (some (.ref f3)))
    (l3 : K.lookup f3 = some ⟨oc3, od3, .func (PySem.W.fnOf "_pulses" "_pulses" (defArgs s_u_pulses) (defBody s_u_pulses) (defScope s_u_pulses) .none kV3 dc3 pm3 an3 cd3 ct3), sl3⟩)
    (c3 : PySem.W.codeIn K cd3 "_pulses" = true)
    (k3 : PySem.W.keepIn K (.ref f3) = true)
    (a4 : PySem.W.nsIn K mainGlobals "is_tree" = some (some (.ref f4)))
    (l4 : K.lookup f4 = some ⟨oc4, od4, .func (PySem.W.fnOf "is_tree" "is_tree" (defArgs s_is_tree) (defBody s_is_tree) (defScope s_is_tree) .none kV4 dc4 pm4 an4 cd4 ct4), sl4⟩)
    (c4 : PySem.W.codeIn K cd4 "is_tree" = true)
    (k4 : PySem.W.keepIn K (.ref f4) = true)
    (a5 : PySem.W.nsIn K mainGlobals "_nodes" = some (some (.ref f5)))
    (l5 : K.lookup f5 = some ⟨oc5, od5, .func (PySem.W.fnOf "_nodes" "_nodes" (defArgs s_u_nodes) (defBody s_u_nodes) (defScope s_u_nodes) .none kV5 dc5 pm5 an5 cd5 ct5), sl5⟩)
    (c5 : PySem.W.codeIn K cd5 "_nodes" = true)
    (k5 : PySem.W.keepIn K (.ref f5) = true)
    (a6 : PySem.W.nsIn K mainGlobals "_borders" = some (some (.ref f6)))
    (l6 : K.lookup f6 = some ⟨oc6, od6, .func (PySem.W.fnOf "_borders" "_borders" (defArgs s_u_borders) (defBody s_u_borders) (defScope s_u_borders) .none kV6 dc6 pm6 an6 cd6 ct6), sl6⟩)
    (c6 : PySem.W.codeIn K cd6 "_borders" = true)
    (k6 : PySem.W.keepIn K (.ref f6) = true)
    (a7 : PySem.W.findIn K (.ref C_Metre) "__init__" = some (some (.ref f7)))
    (i7 : PySem.W.isFn K (.ref f7) = true)
    (l7 : K.lookup f7 = some ⟨oc7, od7, .func (PySem.W.fnOf "__init__" "Metre.__init__" (defArgs s_Metre_uu_init_) (defBody s_Metre_uu_init_) (defScope s_Metre_uu_init_) .none kV7 dc7 pm7 an7 cd7 ct7), sl7⟩)
    (c7 : PySem.W.codeIn K cd7 "Metre.__init__" = true)
    (k7 : PySem.W.keepIn K (.ref f7) = true)
    (a8 : PySem.W.nsIn K mainGlobals "is_bits" = some (some (.ref f8)))
    (l8 : K.lookup f8 = some ⟨oc8, od8, .func (PySem.W.fnOf "is_bits" "is_bits" (defArgs s_is_bits) (defBody s_is_bits) (defScope s_is_bits) .none kV8 dc8 pm8 an8 cd8 ct8), sl8⟩)
    (c8 : PySem.W.codeIn K cd8 "is_bits" = true)
    (k8 : PySem.W.keepIn K (.ref f8) = true)
    (a9 : PySem.W.findIn K (.ref C_Metre) "is_point" = some (some (.ref f9)))
    (i9 : PySem.W.isFn K (.ref f9) = true)
    (l9 : K.lookup f9 = some ⟨oc9, od9, .func (PySem.W.fnOf "is_point" "Metre.is_point" (defArgs s_Metre_is_point) (defBody s_Metre_is_point) (defScope s_Metre_is_point) .none kV9 dc9 pm9 an9 cd9 ct9), sl9⟩)
    (c9 : PySem.W.codeIn K cd9 "Metre.is_point" = true)
    (k9 : PySem.W.keepIn K (.ref f9) = true)
    (a10 : PySem.W.findIn K (.ref C_Metre) "level" = some (some (.ref f10)))
    (i10 : PySem.W.isFn K (.ref f10) = true)
    (l10 : K.lookup f10 = some ⟨oc10, od10, .func (PySem.W.fnOf "level" "Metre.level" (defArgs s_Metre_level) (defBody s_Metre_level) (defScope s_Metre_level) .none kV10 dc10 pm10 an10 cd10 ct10), sl10⟩)
    (c10 : PySem.W.codeIn K cd10 "Metre.level" = true)
    (k10 : PySem.W.keepIn K (.ref f10) = true)
    (a11 : PySem.W.nsIn K mainGlobals "_law_begin" = some (some (.ref f11)))
    (l11 : K.lookup f11 = some ⟨oc11, od11, .func (PySem.W.fnOf "_law_begin" "_law_begin" (defArgs s_u_law_begin) (defBody s_u_law_begin) (defScope s_u_law_begin) .none kV11 dc11 pm11 an11 cd11 ct11), sl11⟩)
    (c11 : PySem.W.codeIn K cd11 "_law_begin" = true)
    (k11 : PySem.W.keepIn K (.ref f11) = true)
    (a12 : PySem.W.nsIn K mainGlobals "_law_draw" = some (some (.ref f12)))
    (l12 : K.lookup f12 = some ⟨oc12, od12, .func (PySem.W.fnOf "_law_draw" "_law_draw" (defArgs s_u_law_draw) (defBody s_u_law_draw) (defScope s_u_law_draw) .none kV12 dc12 pm12 an12 cd12 ct12), sl12⟩)
    (c12 : PySem.W.codeIn K cd12 "_law_draw" = true)
    (k12 : PySem.W.keepIn K (.ref f12) = true)
    (a13 : PySem.W.nsIn K mainGlobals "_law_pick" = some (some (.ref f13)))
    (l13 : K.lookup f13 = some ⟨oc13, od13, .func (PySem.W.fnOf "_law_pick" "_law_pick" (defArgs s_u_law_pick) (defBody s_u_law_pick) (defScope s_u_law_pick) .none kV13 dc13 pm13 an13 cd13 ct13), sl13⟩)
    (c13 : PySem.W.codeIn K cd13 "_law_pick" = true)
    (k13 : PySem.W.keepIn K (.ref f13) = true)
    (a14 : PySem.W.nsIn K mainGlobals "_law_size" = some (some (.ref f14)))
    (l14 : K.lookup f14 = some ⟨oc14, od14, .func (PySem.W.fnOf "_law_size" "_law_size" (defArgs s_u_law_size) (defBody s_u_law_size) (defScope s_u_law_size) .none kV14 dc14 pm14 an14 cd14 ct14), sl14⟩)
    (c14 : PySem.W.codeIn K cd14 "_law_size" = true)
    (k14 : PySem.W.keepIn K (.ref f14) = true)
    (a15 : PySem.W.nsIn K mainGlobals "_law_is_value" = some (some (.ref f15)))
    (l15 : K.lookup f15 = some ⟨oc15, od15, .func (PySem.W.fnOf "_law_is_value" "_law_is_value" (defArgs s_u_law_is_value) (defBody s_u_law_is_value) (defScope s_u_law_is_value) .none kV15 dc15 pm15 an15 cd15 ct15), sl15⟩)
    (c15 : PySem.W.codeIn K cd15 "_law_is_value" = true)
    (k15 : PySem.W.keepIn K (.ref f15) = true)
    (a16 : PySem.W.nsIn K mainGlobals "_law_wild" = some (some (.ref f16)))
    (l16 : K.lookup f16 = some ⟨oc16, od16, .func (PySem.W.fnOf "_law_wild" "_law_wild" (defArgs s_u_law_wild) (defBody s_u_law_wild) (defScope s_u_law_wild) .none kV16 dc16 pm16 an16 cd16 ct16), sl16⟩)
    (c16 : PySem.W.codeIn K cd16 "_law_wild" = true)
    (k16 : PySem.W.keepIn K (.ref f16) = true)
    (a17 : PySem.W.nsIn K mainGlobals "_law_fits" = some (some (.ref f17)))
    (l17 : K.lookup f17 = some ⟨oc17, od17, .func (PySem.W.fnOf "_law_fits" "_law_fits" (defArgs s_u_law_fits) (defBody s_u_law_fits) (defScope s_u_law_fits) .none kV17 dc17 pm17 an17 cd17 ct17), sl17⟩)
    (c17 : PySem.W.codeIn K cd17 "_law_fits" = true)
    (k17 : PySem.W.keepIn K (.ref f17) = true)
    (a18 : PySem.W.nsIn K mainGlobals "_law_tree" = some (some (.ref f18)))
    (l18 : K.lookup f18 = some ⟨oc18, od18, .func (PySem.W.fnOf "_law_tree" "_law_tree" (defArgs s_u_law_tree) (defBody s_u_law_tree) (defScope s_u_law_tree) .none kV18 dc18 pm18 an18 cd18 ct18), sl18⟩)
    (c18 : PySem.W.codeIn K cd18 "_law_tree" = true)
    (k18 : PySem.W.keepIn K (.ref f18) = true)
    (a19 : PySem.W.nsIn K mainGlobals "_law_told" = some (some (.ref f19)))
    (l19 : K.lookup f19 = some ⟨oc19, od19, .func (PySem.W.fnOf "_law_told" "_law_told" (defArgs s_u_law_told) (defBody s_u_law_told) (defScope s_u_law_told) .none kV19 dc19 pm19 an19 cd19 ct19), sl19⟩)
    (c19 : PySem.W.codeIn K cd19 "_law_told" = true)
    (k19 : PySem.W.keepIn K (.ref f19) = true)
    (a20 : PySem.W.nsIn K mainGlobals "_law_thing" = some (some (.ref f20)))
    (l20 : K.lookup f20 = some ⟨oc20, od20, .func (PySem.W.fnOf "_law_thing" "_law_thing" (defArgs s_u_law_thing) (defBody s_u_law_thing) (defScope s_u_law_thing) .none kV20 dc20 pm20 an20 cd20 ct20), sl20⟩)
    (c20 : PySem.W.codeIn K cd20 "_law_thing" = true)
    (k20 : PySem.W.keepIn K (.ref f20) = true)
    (a21 : PySem.W.nsIn K mainGlobals "_law_is_point" = some (some (.ref f21)))
    (l21 : K.lookup f21 = some ⟨oc21, od21, .func (PySem.W.fnOf "_law_is_point" "_law_is_point" (defArgs s_u_law_is_point) (defBody s_u_law_is_point) (defScope s_u_law_is_point) .none kV21 dc21 pm21 an21 cd21 ct21), sl21⟩)
    (c21 : PySem.W.codeIn K cd21 "_law_is_point" = true)
    (k21 : PySem.W.keepIn K (.ref f21) = true)
    (a22 : PySem.W.nsIn K mainGlobals "law" = some (some (.ref f22)))
    (l22 : K.lookup f22 = some ⟨oc22, od22, .func (PySem.W.fnOf "law" "law" (defArgs s_law) (defBody s_law) (defScope s_law) .none kV22 dc22 pm22 an22 (.ref ct) ct22), sl22⟩)
    (c22 : PySem.W.codeIn K (.ref ct) "law" = true)
    (lct : K.lookup ct = some ⟨.type "code", odc, .fields vsc, slc⟩)
    (v11 : vsc[11]? = some (.ref pt))
    (w11 : vsc.getD 11 .none = .ref pt)
    (w18 : vsc.getD 18 .none = .str file tf)
    (w7 : vsc.getD 7 .none = .int flags tg)
    (w9 : vsc.getD 9 .none = .bool inF)
    (w10 : vsc.getD 10 .none = .int text tt)
    (nep : ct ≠ pt)
    (noK : K.lookup pt = none)
    (k22 : PySem.W.keepIn K (.ref f22) = true)
    (l23 : K.lookup f23 = some ⟨oc23, od23, .func (PySem.W.fnOf "__init__" "BadPoint.__init__" (defArgs s_x_BadPoint) (defBody s_x_BadPoint) (defScope s_x_BadPoint) .none kV23 dc23 pm23 an23 cd23 ct23), sl23⟩)
    (c23 : PySem.W.codeIn K cd23 "BadPoint.__init__" = true)
    (k23 : PySem.W.keepIn K (.ref f23) = true)
    : ∃ (fd : FuncData) (fM : FnD) (c p : Addr) (lq : Str), AllTrueT p lq fM ∧ (∀ (s : Shared) (v : Value), BindsTo s fd ⟨[v], []⟩ [("_law_script", v)]) ∧ h.get? p = some { cls := .none, data := .fields #[] } ∧ K.lookup p = none ∧ PySem.W.CodeHd h c p ∧ ∀ base : Heap, K.In base → base.Ns mainGlobals mg → LamX.TabB base mg c p → FnG l.prog w K mg base 14 fa fd ["_law_script"] fM := by
  have e := hfa.symm.trans (PySem.W.mg_of X G a22)
  cases e
  have F1 := fun_mk (st := s_is_number) l1 c1 k1
  have b1 := F1.binds (ps := ["thing"]) fun _ _ _ _ _ _ us hl => match us, hl with | [_], _ => rfl
  have F2 := fun_mk (st := s_dots_of) l2 c2 k2
  have b2 := F2.binds (ps := ["length"]) fun _ _ _ _ _ _ us hl => match us, hl with | [_], _ => rfl
  have F3 := fun_mk (st := s_u_pulses) l3 c3 k3
  have b3 := F3.binds (ps := ["thing", "depth"]) fun _ _ _ _ _ _ us hl => match us, hl with | [_, _], _ => rfl
  have F4 := fun_mk (st := s_is_tree) l4 c4 k4
  have b4 := F4.binds (ps := ["thing"]) fun _ _ _ _ _ _ us hl => match us, hl with | [_], _ => rfl
  have F5 := fun_mk (st := s_u_nodes) l5 c5 k5
  have b5 := F5.binds (ps := ["tree", "begin", "depth"]) fun _ _ _ _ _ _ us hl => match us, hl with | [_, _, _], _ => rfl
  have F6 := fun_mk (st := s_u_borders) l6 c6 k6
  have b6 := F6.binds (ps := ["tree"]) fun _ _ _ _ _ _ us hl => match us, hl with | [_], _ => rfl
  have F7 := fun_mk (st := s_Metre_uu_init_) l7 c7 k7
  have b7 := F7.binds (ps := ["self", "tree"]) fun _ _ _ _ _ _ us hl => match us, hl with | [_, _], _ => rfl
  have F8 := fun_mk (st := s_is_bits) l8 c8 k8
  have b8 := F8.binds (ps := ["thing"]) fun _ _ _ _ _ _ us hl => match us, hl with | [_], _ => rfl
  have F9 := fun_mk (st := s_Metre_is_point) l9 c9 k9
  have b9 := F9.binds (ps := ["self", "thing"]) fun _ _ _ _ _ _ us hl => match us, hl with | [_, _], _ => rfl
  have F10 := fun_mk (st := s_Metre_level) l10 c10 k10
  have b10 := F10.binds (ps := ["self", "point"]) fun _ _ _ _ _ _ us hl => match us, hl with | [_, _], _ => rfl
  have F11 := fun_mk (st := s_u_law_begin) l11 c11 k11
  have b11 := F11.binds (ps := ["_law_cell", "_law_turn"]) fun _ _ _ _ _ _ us hl => match us, hl with | [_, _], _ => rfl
  have F12 := fun_mk (st := s_u_law_draw) l12 c12 k12
  have b12 := F12.binds (ps := ["_law_state", "_law_size_here"]) fun _ _ _ _ _ _ us hl => match us, hl with | [_, _], _ => rfl
  have F13 := fun_mk (st := s_u_law_pick) l13 c13 k13
  have b13 := F13.binds (ps := ["_law_state", "_law_items"]) fun _ _ _ _ _ _ us hl => match us, hl with | [_, _], _ => rfl
  have F14 := fun_mk (st := s_u_law_size) l14 c14 k14
  have b14 := F14.binds (ps := ["_law_tree_here"]) fun _ _ _ _ _ _ us hl => match us, hl with | [_], _ => rfl
  have F15 := fun_mk (st := s_u_law_is_value) l15 c15 k15
  have b15 := F15.binds (ps := ["_law_size_here"]) fun _ _ _ _ _ _ us hl => match us, hl with | [_], _ => rfl
  have F16 := fun_mk (st := s_u_law_wild) l16 c16 k16
  have b16 := F16.binds (ps := ["_law_state", "_law_deep"]) fun _ _ _ _ _ _ us hl => match us, hl with | [_, _], _ => rfl
  have F17 := fun_mk (st := s_u_law_fits) l17 c17 k17
  have b17 := F17.binds (ps := ["_law_tree_here"]) fun _ _ _ _ _ _ us hl => match us, hl with | [_], _ => rfl
  have F18 := fun_mk (st := s_u_law_tree) l18 c18 k18
  have b18 := F18.binds (ps := ["_law_state"]) fun _ _ _ _ _ _ us hl => match us, hl with | [_], _ => rfl
  have F19 := fun_mk (st := s_u_law_told) l19 c19 k19
  have b19 := F19.binds (ps := ["_law_work"]) fun _ _ _ _ _ _ us hl => match us, hl with | [_], _ => rfl
  have F20 := fun_mk (st := s_u_law_thing) l20 c20 k20
  have b20 := F20.binds (ps := ["_law_state", "_law_size_here"]) fun _ _ _ _ _ _ us hl => match us, hl with | [_, _], _ => rfl
  have F21 := fun_mk (st := s_u_law_is_point) l21 c21 k21
  have b21 := F21.binds (ps := ["_law_size_here", "_law_value"]) fun _ _ _ _ _ _ us hl => match us, hl with | [_, _], _ => rfl
  have F22 := fun_mk (st := s_law) l22 c22 k22
  have b22 := F22.binds (ps := ["_law_script"]) fun _ _ _ _ _ _ us hl => match us, hl with | [_], _ => rfl
  have F23 := fun_mk (st := s_x_BadPoint) l23 c23 k23
  have b23 := F23.binds (ps := ["self", "point"]) fun _ _ _ _ _ _ us hl => match us, hl with | [_, _], _ => rfl
  have T : Tx K mg { ct := ct, pt := pt, fx_BadPoint := f23, dx_BadPoint := PySem.W.fnOf "__init__" "BadPoint.__init__" (defArgs s_x_BadPoint) (defBody s_x_BadPoint) (defScope s_x_BadPoint) .none kV23 dc23 pm23 an23 cd23 ct23, f_is_number := f1, f_dots_of := f2, f_u_pulses := f3, f_is_tree := f4, f_u_nodes := f5, f_u_borders := f6, f_Metre_uu_init_ := f7, f_is_bits := f8, f_Metre_is_point := f9, f_Metre_level := f10, f_u_law_begin := f11, f_u_law_draw := f12, f_u_law_pick := f13, f_u_law_size := f14, f_u_law_is_value := f15, f_u_law_wild := f16, f_u_law_fits := f17, f_u_law_tree := f18, f_u_law_told := f19, f_u_law_thing := f20, f_u_law_is_point := f21, f_law := fa, c_Metre := C_Metre, c_BadPoint := C_BadPoint, c_RhythmError := C_RhythmError, o_DOTS := o_DOTS, d_is_number := PySem.W.fnOf "is_number" "is_number" (defArgs s_is_number) (defBody s_is_number) (defScope s_is_number) .none kV1 dc1 pm1 an1 cd1 ct1, d_dots_of := PySem.W.fnOf "dots_of" "dots_of" (defArgs s_dots_of) (defBody s_dots_of) (defScope s_dots_of) .none kV2 dc2 pm2 an2 cd2 ct2, d_u_pulses := PySem.W.fnOf "_pulses" "_pulses" (defArgs s_u_pulses) (defBody s_u_pulses) (defScope s_u_pulses) .none kV3 dc3 pm3 an3 cd3 ct3, d_is_tree := PySem.W.fnOf "is_tree" "is_tree" (defArgs s_is_tree) (defBody s_is_tree) (defScope s_is_tree) .none kV4 dc4 pm4 an4 cd4 ct4, d_u_nodes := PySem.W.fnOf "_nodes" "_nodes" (defArgs s_u_nodes) (defBody s_u_nodes) (defScope s_u_nodes) .none kV5 dc5 pm5 an5 cd5 ct5, d_u_borders := PySem.W.fnOf "_borders" "_borders" (defArgs s_u_borders) (defBody s_u_borders) (defScope s_u_borders) .none kV6 dc6 pm6 an6 cd6 ct6, d_Metre_uu_init_ := PySem.W.fnOf "__init__" "Metre.__init__" (defArgs s_Metre_uu_init_) (defBody s_Metre_uu_init_) (defScope s_Metre_uu_init_) .none kV7 dc7 pm7 an7 cd7 ct7, d_is_bits := PySem.W.fnOf "is_bits" "is_bits" (defArgs s_is_bits) (defBody s_is_bits) (defScope s_is_bits) .none kV8 dc8 pm8 an8 cd8 ct8, d_Metre_is_point := PySem.W.fnOf "is_point" "Metre.is_point" (defArgs s_Metre_is_point) (defBody s_Metre_is_point) (defScope s_Metre_is_point) .none kV9 dc9 pm9 an9 cd9 ct9, d_Metre_level := PySem.W.fnOf "level" "Metre.level" (defArgs s_Metre_level) (defBody s_Metre_level) (defScope s_Metre_level) .none kV10 dc10 pm10 an10 cd10 ct10, d_u_law_begin := PySem.W.fnOf "_law_begin" "_law_begin" (defArgs s_u_law_begin) (defBody s_u_law_begin) (defScope s_u_law_begin) .none kV11 dc11 pm11 an11 cd11 ct11, d_u_law_draw := PySem.W.fnOf "_law_draw" "_law_draw" (defArgs s_u_law_draw) (defBody s_u_law_draw) (defScope s_u_law_draw) .none kV12 dc12 pm12 an12 cd12 ct12, d_u_law_pick := PySem.W.fnOf "_law_pick" "_law_pick" (defArgs s_u_law_pick) (defBody s_u_law_pick) (defScope s_u_law_pick) .none kV13 dc13 pm13 an13 cd13 ct13, d_u_law_size := PySem.W.fnOf "_law_size" "_law_size" (defArgs s_u_law_size) (defBody s_u_law_size) (defScope s_u_law_size) .none kV14 dc14 pm14 an14 cd14 ct14, d_u_law_is_value := PySem.W.fnOf "_law_is_value" "_law_is_value" (defArgs s_u_law_is_value) (defBody s_u_law_is_value) (defScope s_u_law_is_value) .none kV15 dc15 pm15 an15 cd15 ct15, d_u_law_wild := PySem.W.fnOf "_law_wild" "_law_wild" (defArgs s_u_law_wild) (defBody s_u_law_wild) (defScope s_u_law_wild) .none kV16 dc16 pm16 an16 cd16 ct16, d_u_law_fits := PySem.W.fnOf "_law_fits" "_law_fits" (defArgs s_u_law_fits) (defBody s_u_law_fits) (defScope s_u_law_fits) .none kV17 dc17 pm17 an17 cd17 ct17, d_u_law_tree := PySem.W.fnOf "_law_tree" "_law_tree" (defArgs s_u_law_tree) (defBody s_u_law_tree) (defScope s_u_law_tree) .none kV18 dc18 pm18 an18 cd18 ct18, d_u_law_told := PySem.W.fnOf "_law_told" "_law_told" (defArgs s_u_law_told) (defBody s_u_law_told) (defScope s_u_law_told) .none kV19 dc19 pm19 an19 cd19 ct19, d_u_law_thing := PySem.W.fnOf "_law_thing" "_law_thing" (defArgs s_u_law_thing) (defBody s_u_law_thing) (defScope s_u_law_thing) .none kV20 dc20 pm20 an20 cd20 ct20, d_u_law_is_point := PySem.W.fnOf "_law_is_point" "_law_is_point" (defArgs s_u_law_is_point) (defBody s_u_law_is_point) (defScope s_u_law_is_point) .none kV21 dc21 pm21 an21 cd21 ct21, d_law := PySem.W.fnOf "law" "law" (defArgs s_law) (defBody s_law) (defScope s_law) .none kV22 dc22 pm22 an22 (.ref ct) ct22 } := {
    F_is_number := F1
    b_is_number := b1
    m_is_number := PySem.W.mg_of X G a1
    F_dots_of := F2
    b_dots_of := b2
    m_dots_of := PySem.W.mg_of X G a2
    F_u_pulses := F3
    b_u_pulses := b3
    m_u_pulses := PySem.W.mg_of X G a3
    F_is_tree := F4
    b_is_tree := b4
    m_is_tree := PySem.W.mg_of X G a4
    F_u_nodes := F5
    b_u_nodes := b5
    m_u_nodes := PySem.W.mg_of X G a5
    F_u_borders := F6
    b_u_borders := b6
    m_u_borders := PySem.W.mg_of X G a6
    F_Metre_uu_init_ := F7
    b_Metre_uu_init_ := b7
    F_is_bits := F8
    b_is_bits := b8
    m_is_bits := PySem.W.mg_of X G a8
    F_Metre_is_point := F9
    b_Metre_is_point := b9
    me_Metre_is_point := ⟨a9, i9, k9⟩
    F_Metre_level := F10
    b_Metre_level := b10
    me_Metre_level := ⟨a10, i10, k10⟩
    F_u_law_begin := F11
    b_u_law_begin := b11
    m_u_law_begin := PySem.W.mg_of X G a11
    F_u_law_draw := F12
    b_u_law_draw := b12
    m_u_law_draw := PySem.W.mg_of X G a12
    F_u_law_pick := F13
    b_u_law_pick := b13
    m_u_law_pick := PySem.W.mg_of X G a13
    F_u_law_size := F14
    b_u_law_size := b14
    m_u_law_size := PySem.W.mg_of X G a14
    F_u_law_is_value := F15
    b_u_law_is_value := b15
    m_u_law_is_value := PySem.W.mg_of X G a15
    F_u_law_wild := F16
    b_u_law_wild := b16
    m_u_law_wild := PySem.W.mg_of X G a16
    F_u_law_fits := F17
    b_u_law_fits := b17
    m_u_law_fits := PySem.W.mg_of X G a17
    F_u_law_tree := F18
    b_u_law_tree := b18
    m_u_law_tree := PySem.W.mg_of X G a18
    F_u_law_told := F19
    b_u_law_told := b19
    m_u_law_told := PySem.W.mg_of X G a19
    F_u_law_thing := F20
    b_u_law_thing := b20
    m_u_law_thing := PySem.W.mg_of X G a20
    F_u_law_is_point := F21
    b_u_law_is_point := b21
    m_u_law_is_point := PySem.W.mg_of X G a21
    F_law := F22
    b_law := b22
    m_law := PySem.W.mg_of X G a22
    kb_Metre_is_point_1_thing := kb_of (fun s us ws l1 l2 => match us, ws, l1, l2 with | [_], [_], _, _ => .of_eq rfl) (by decide) rfl
    kb_Metre_level_1_point := kb_of (fun s us ws l1 l2 => match us, ws, l1, l2 with | [_], [_], _, _ => .of_eq rfl) (by decide) rfl
    cl_Metre := ⟨pg_Metre, hd_Metre, po_Metre, sa_Metre⟩
    mc_Metre := PySem.W.mg_of X G aC_Metre
    mk_Metre := ⟨mk_Metre, a7, i7, kc_Metre⟩
    n_Metre_tree := n_Metre_tree
    n_Metre_borders := n_Metre_borders
    n_Metre_pulses := n_Metre_pulses
    n_Metre_depth := n_Metre_depth
    xi_BadPoint := xi_BadPoint
    xt_BadPoint := ty_BadPoint
    xi_RhythmError := xi_RhythmError
    xt_RhythmError := ty_RhythmError
    xm_BadPoint := PySem.W.mg_of X G aC_BadPoint
    xm_RhythmError := PySem.W.mg_of X G aC_RhythmError
    oc_BadPoint := ⟨⟨_, _, _, _, _, _, _, _, _, _, _, _, _, _, _, lC_BadPoint, vC_BadPoint⟩, aC2_BadPoint, sb_BadPoint, ty_BadPoint, kC_BadPoint⟩
    xa_BadPoint := iC_BadPoint
    xt2_BadPoint := tC_BadPoint
    xb_BadPoint := b23
    xF_BadPoint := F23
    xn_BadPoint := nC_BadPoint
    bi_RhythmError := ⟨bs_RhythmError, br_RhythmError, bf_RhythmError⟩
    xf_BadPoint_point := ⟨⟨eg_BadPoint, ek_BadPoint, sb_BadPoint, ed_BadPoint⟩, nC_BadPoint⟩
    cd_law := rfl
    ix_BadPoint_BadPoint := ⟨⟨eg_BadPoint, ek_BadPoint, sb_BadPoint, ed_BadPoint, ea_BadPoint, jn, jt, em_BadPoint⟩, kit1 xi_BadPoint ty_BadPoint xs_BadPoint xs_BadPoint⟩
    ix_RhythmError_BadPoint := ⟨⟨eg_BadPoint, ek_BadPoint, sb_BadPoint, ed_BadPoint, ea_BadPoint, jn, jt, em_BadPoint⟩, kit1 xi_RhythmError ty_RhythmError xs_RhythmError xb_RhythmError_BadPoint⟩
    xx_RhythmError_BadPoint := exm1 sb_RhythmError ed_RhythmError ty_RhythmError xb_RhythmError_BadPoint
    z_bool := PySem.W.mg_none_of X G z_bool
    z_enumerate := PySem.W.mg_none_of X G z_enumerate
    z_int := PySem.W.mg_none_of X G z_int
    z_isinstance := PySem.W.mg_none_of X G z_isinstance
    z_len := PySem.W.mg_none_of X G z_len
    z_max := PySem.W.mg_none_of X G z_max
    z_range := PySem.W.mg_none_of X G z_range
    z_repr := PySem.W.mg_none_of X G z_repr
    z_str := PySem.W.mg_none_of X G z_str
    z_sum := PySem.W.mg_none_of X G z_sum
    z_tuple := PySem.W.mg_none_of X G z_tuple
    g_DOTS := PySem.W.mg_of X G g_DOTS
    k_DOTS := ⟨⟨es_DOTS, n_DOTS, l_DOTS, e_DOTS⟩, s_DOTS⟩
    g_MOST_DEEP := ⟨_, PySem.W.mg_of X G g_MOST_DEEP⟩
    g_MOST_PULSES := ⟨_, PySem.W.mg_of X G g_MOST_PULSES⟩
  }
  have tab := own ct pt _ _ _ _ _ _ l22 rfl rfl lct v11
  exact ⟨_, _, ct, pt, "law.<locals>.<lambda>", law_true _, fun s v => .of_eq rfl, tab, noK, ⟨_, vsc, file, tf, flags, tg, inF, text, tt, X _ _ lct, rfl, rfl, v11, w11, w18, w7, w9, w10, nep⟩, fun base _ _ TB => ok_law T TB⟩

end My
open PySem L2 PyProof.Rows DV
set_option maxRecDepth 100000 in
set_option maxHeartbeats 0 in
theorem PySem.Challenge.cw_barscribe_k03_points_judged_holds : PySem.Challenge.rw_barscribe_k03_points_judged.Holds := by
  w_on; o_law; k_head; (case hw => w_witness2)
  k_fill
  refine DV.walk_topT (l := PySem.Challenge.rw_barscribe_k03_points_judged) (k := 14) (x := "_law_script") rfl rfl ⟨⟨rfl, by decide, by decide⟩, rfl⟩ (by decide +kernel) (fun w h Y => PySem.W.km_in_of Y) ?F
  case F =>
    intro w mg fa h KX G hmg own
    refine' My.all_mk KX G hmg own ?aC_Metre ?pg_Metre ?hd_Metre ?po_Metre ?sa_Metre ?mk_Metre ?kc_Metre ?n_Metre_tree ?n_Metre_borders ?n_Metre_pulses ?n_Metre_depth ?aC_BadPoint ?sb_BadPoint ?ty_BadPoint ?aC_RhythmError ?sb_RhythmError ?ty_RhythmError ?eg_BadPoint ?ek_BadPoint ?ed_BadPoint ?ea_BadPoint ?em_BadPoint ?jn ?jt ?xi_BadPoint ?xs_BadPoint ?xi_RhythmError ?xs_RhythmError ?ed_RhythmError ?xb_RhythmError_BadPoint ?z_bool ?z_enumerate ?z_int ?z_isinstance ?z_len ?z_max ?z_range ?z_repr ?z_str ?z_sum ?z_tuple ?g_DOTS ?l_DOTS ?e_DOTS ?s_DOTS ?g_MOST_DEEP ?g_MOST_PULSES ?lC_BadPoint ?vC_BadPoint ?aC2_BadPoint ?kC_BadPoint ?iC_BadPoint ?tC_BadPoint ?nC_BadPoint ?bs_RhythmError ?br_RhythmError ?bf_RhythmError ?a1 ?l1 ?c1 ?k1 ?a2 ?l2 ?c2 ?k2 ?a3 ?l3 ?c3 ?k3 ?a4 ?l4 ?c4 ?k4 ?a5 ?l5 ?c5 ?k5 ?a6 ?l6 ?c6 ?k6 ?a7 ?i7 ?l7 ?c7 ?k7 ?a8 ?l8 ?c8 ?k8 ?a9 ?i9 ?l9 ?c9 ?k9 ?a10 ?i10 ?l10 ?c10 ?k10 ?a11 ?l11 ?c11 ?k11 ?a12 ?l12 ?c12 ?k12 ?a13 ?l13 ?c13 ?k13 ?a14 ?l14 ?c14 ?k14 ?a15 ?l15 ?c15 ?k15 ?a16 ?l16 ?c16 ?k16 ?a17 ?l17 ?c17 ?k17 ?a18 ?l18 ?c18 ?k18 ?a19 ?l19 ?c19 ?k19 ?a20 ?l20 ?c20 ?k20 ?a21 ?l21 ?c21 ?k21 ?a22 ?l22 ?c22 ?lct ?v11 ?w11 ?w18 ?w7 ?w9 ?w10 ?nep ?noK ?k22 ?l23 ?c23 ?k23
    (case aC_Metre => k_is)
    (case pg_Metre => k_is)
    (case hd_Metre => k_is)
    (case po_Metre => k_is)
    (case sa_Metre => k_is)
    (case mk_Metre => k_is)
    (case kc_Metre => k_is)
    (case n_Metre_tree => k_is)
    (case n_Metre_borders => k_is)
    (case n_Metre_pulses => k_is)
    (case n_Metre_depth => k_is)
    (case aC_BadPoint => k_is)
    (case sb_BadPoint => k_is)
    (case ty_BadPoint => k_is)
    (case aC_RhythmError => k_is)
    (case sb_RhythmError => k_is)
    (case ty_RhythmError => k_is)
    (case eg_BadPoint => k_is)
    (case ek_BadPoint => k_is)
    (case ed_BadPoint => k_is)
    (case ea_BadPoint => k_is)
    (case em_BadPoint => k_is)
    (case jn => k_is)
    (case jt => k_is)
    (case xi_BadPoint => k_is)
    (case xs_BadPoint => k_is)
    (case xi_RhythmError => k_is)
    (case xs_RhythmError => k_is)
    (case ed_RhythmError => k_is)
    (case xb_RhythmError_BadPoint => k_is)
    (case z_bool => k_is)
    (case z_enumerate => k_is)
    (case z_int => k_is)
    (case z_isinstance => k_is)
    (case z_len => k_is)
    (case z_max => k_is)
    (case z_range => k_is)
    (case z_repr => k_is)
    (case z_str => k_is)
    (case z_sum => k_is)
    (case z_tuple => k_is)
    (case g_DOTS => k_is)
    (case l_DOTS => k_is)
    (case e_DOTS => decide +kernel)
    (case s_DOTS => decide)
    (case g_MOST_DEEP => k_is)
    (case g_MOST_PULSES => k_is)
    (case lC_BadPoint => k_is)
    (case vC_BadPoint => rfl)
    (case aC2_BadPoint => k_is)
    (case kC_BadPoint => k_is)
    (case iC_BadPoint => k_is)
    (case tC_BadPoint => k_is)
    (case nC_BadPoint => k_is)
    (case bs_RhythmError => k_is)
    (case br_RhythmError => k_is)
    (case bf_RhythmError => k_is)
    (case a1 => k_is)
    (case l1 => k_is)
    (case c1 => k_is)
    (case k1 => k_is)
    (case a2 => k_is)
    (case l2 => k_is)
    (case c2 => k_is)
    (case k2 => k_is)
    (case a3 => k_is)
    (case l3 => k_is)
    (case c3 => k_is)
    (case k3 => k_is)
    (case a4 => k_is)
    (case l4 => k_is)
    (case c4 => k_is)
    (case k4 => k_is)
    (case a5 => k_is)
    (case l5 => k_is)
    (case c5 => k_is)
    (case k5 => k_is)
    (case a6 => k_is)
    (case l6 => k_is)
    (case c6 => k_is)
    (case k6 => k_is)
    (case a7 => k_is)
    (case i7 => k_is)
    (case l7 => k_is)
    (case c7 => k_is)
    (case k7 => k_is)
    (case a8 => k_is)
    (case l8 => k_is)
    (case c8 => k_is)
    (case k8 => k_is)
    (case a9 => k_is)
    (case i9 => k_is)
    (case l9 => k_is)
    (case c9 => k_is)
    (case k9 => k_is)
    (case a10 => k_is)
    (case i10 => k_is)
    (case l10 => k_is)
    (case c10 => k_is)
    (case k10 => k_is)
    (case a11 => k_is)
    (case l11 => k_is)
    (case c11 => k_is)
    (case k11 => k_is)
    (case a12 => k_is)
    (case l12 => k_is)
    (case c12 => k_is)
    (case k12 => k_is)
    (case a13 => k_is)
    (case l13 => k_is)
    (case c13 => k_is)
    (case k13 => k_is)
    (case a14 => k_is)
    (case l14 => k_is)
    (case c14 => k_is)
    (case k14 => k_is)
    (case a15 => k_is)
    (case l15 => k_is)
    (case c15 => k_is)
    (case k15 => k_is)
    (case a16 => k_is)
    (case l16 => k_is)
    (case c16 => k_is)
    (case k16 => k_is)
    (case a17 => k_is)
    (case l17 => k_is)
    (case c17 => k_is)
    (case k17 => k_is)
    (case a18 => k_is)
    (case l18 => k_is)
    (case c18 => k_is)
    (case k18 => k_is)
    (case a19 => k_is)
    (case l19 => k_is)
    (case c19 => k_is)
    (case k19 => k_is)
    (case a20 => k_is)
    (case l20 => k_is)
    (case c20 => k_is)
    (case k20 => k_is)
    (case a21 => k_is)
    (case l21 => k_is)
    (case c21 => k_is)
    (case k21 => k_is)
    (case a22 => k_is)
    (case l22 => k_is)
    (case c22 => k_is)
    (case lct => k_is)
    (case v11 => rfl)
    (case w11 => rfl)
    (case w18 => rfl)
    (case w7 => rfl)
    (case w9 => rfl)
    (case w10 => rfl)
    (case nep => k_ne)
    (case noK => first | kernel_rfl | rfl)
    (case k22 => k_is)
    (case l23 => k_is)
    (case c23 => k_is)
    (case k23 => k_is)
