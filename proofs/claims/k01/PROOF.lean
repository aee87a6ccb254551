import PyProof.Rows.All
import Wide.All
import OpenK.AllK
import Wide.FinOn
import HandS.ForMost
import HandS.ForExc
import HandS.Walk
import HandS.IsInst
import HandS.TupAny
import HandS.CallSlots
import HandS.Deep
import HandS.Conv
import HandS.Style
import HandS.Flow
import HandS.Zip
import PySem.Challenge.RW_homefrees_k01_operations_recognized
set_option Elab.async false
set_option linter.all false
set_option maxRecDepth 100000
set_option maxHeartbeats 2000000
namespace Dn
open PySem PySem.Spec PyProof.Rows L2
/-! Values as trees: tuples are data, what may change stands in a store. -/
inductive D where
  | non | bl (b : Bool) | int (i : Int) | str (x : Str) | tup (xs : List D) | rol (xs : List D) | ref (i : Nat) | adr (a : Addr)
/-- what stands in the store -/
inductive Ob where
  | lst (xs : List D)
  | ins (C : Addr) (fs : List (Str × D))
  | dk (kvs : List (Key × D))
  | dt (kvs : List (List Key × D))
abbrev Sto := List Ob
/-- an object that never changes -/
def Hard : HO → Prop
  | .tup _ => True
  | .frz _ _ => True
  | _ => False
/-- a list that nothing changes -/
def RoL (K : PySem.W.Frag) (H : Hp) (a : Addr) (vs : List V) : Prop := (∃ o, H a = some (.frz o (.lst vs))) ∨ (SqL K (fun _ => none) a vs)
theorem RoL.sq {K : PySem.W.Frag} {H : Hp} {a : Addr} {vs : List V} (h : RoL K H a vs) : SqL K H a vs := by
  rcases h with ⟨o, h⟩ | h
  · exact .inl (.inr ⟨o, h⟩)
  · rcases h with (h | ⟨o, h⟩) | h
    · cases h
    · cases h
    · exact .inr h
mutual
inductive RD (K : PySem.W.Frag) (μ : List Addr) (H : Hp) : D → V → Prop where
  | non : RD K μ H .non .non
  | bl (b : Bool) : RD K μ H (.bl b) (.bl b)
  | int (i : Int) : RD K μ H (.int i) (.int i)
  | str (x : Str) : RD K μ H (.str x) (.str x)
  | tup {a : Addr} {vs : List V} {ds : List D} (h : SqT K H a vs) (r : RDs K μ H ds vs) : RD K μ H (.tup ds) (.ref a)
  | rol {a : Addr} {vs : List V} {ds : List D} (h : RoL K H a vs) (r : RDs K μ H ds vs) : RD K μ H (.rol ds) (.ref a)
  | ref {i : Nat} {a : Addr} (h : μ[i]? = some a) : RD K μ H (.ref i) (.ref a)
  | adr (a : Addr) : RD K μ H (.adr a) (.ref a)
inductive RDs (K : PySem.W.Frag) (μ : List Addr) (H : Hp) : List D → List V → Prop where
  | nil : RDs K μ H [] []
  | cons {d : D} {v : V} {ds : List D} {vs : List V} (h : RD K μ H d v) (t : RDs K μ H ds vs) : RDs K μ H (d :: ds) (v :: vs)
end
/-- hard objects stay -/
def Stay (H H' : Hp) : Prop := ∀ b o, H b = some o → Hard o → H' b = some o
theorem Stay.refl (H : Hp) : Stay H H := fun _ _ h _ => h
theorem Stay.trans {H H1 H2 : Hp} (a : Stay H H1) (b : Stay H1 H2) : Stay H H2 := fun c o h z => b c o (a c o h z) z
theorem Stay.sqT {K : PySem.W.Frag} {H H' : Hp} {a : Addr} {xs : List V} (e : Stay H H') (h : SqT K H a xs) : SqT K H' a xs := by
  rcases h with (h | ⟨o, h⟩) | h
  · exact .inl (.inl (e _ _ h trivial))
  · exact .inl (.inr ⟨o, e _ _ h trivial⟩)
  · exact .inr h
theorem Stay.roL {K : PySem.W.Frag} {H H' : Hp} {a : Addr} {xs : List V} (e : Stay H H') (h : RoL K H a xs) : RoL K H' a xs := by
  rcases h with ⟨o, h⟩ | h
  · exact .inl ⟨o, e _ _ h trivial⟩
  · exact .inr h
mutual
theorem RD.mono {K : PySem.W.Frag} {μ μ' : List Addr} {H H' : Hp} (p : μ <+: μ') (s : Stay H H') : ∀ {d : D} {v : V}, RD K μ H d v → RD K μ' H' d v
  | _, _, .non => .non
  | _, _, .bl b => .bl b
  | _, _, .int i => .int i
  | _, _, .str x => .str x
  | _, _, .tup h r => .tup (s.sqT h) (RDs.mono p s r)
  | _, _, .rol h r => .rol (s.roL h) (RDs.mono p s r)
  | _, _, .ref h => .ref (by
      obtain ⟨t, rfl⟩ := p
      rw [List.getElem?_append_left (List.getElem?_eq_some_iff.mp h).1]; exact h)
  | _, _, .adr a => .adr a
theorem RDs.mono {K : PySem.W.Frag} {μ μ' : List Addr} {H H' : Hp} (p : μ <+: μ') (s : Stay H H') : ∀ {d : List D} {v : List V}, RDs K μ H d v → RDs K μ' H' d v
  | _, _, .nil => .nil
  | _, _, .cons h t => .cons (RD.mono p s h) (RDs.mono p s t)
end
theorem RDs.length {K : PySem.W.Frag} {μ : List Addr} {H : Hp} : ∀ {d : List D} {v : List V}, RDs K μ H d v → d.length = v.length
  | _, _, .nil => rfl
  | _, _, .cons _ t => by simp [RDs.length t]
theorem RDs.get {K : PySem.W.Frag} {μ : List Addr} {H : Hp} : ∀ {ds : List D} {vs : List V} {i : Nat} {d : D}, RDs K μ H ds vs → ds[i]? = some d → ∃ v, vs[i]? = some v ∧ RD K μ H d v
  | _, _, _, _, .nil, e => by simp at e
  | _, _, 0, _, .cons r _, e => by simp at e; subst e; exact ⟨_, rfl, r⟩
  | _, _, i + 1, d, .cons _ t, e => by
    obtain ⟨u, h1, h2⟩ := RDs.get (i := i) (d := d) t (by simpa using e)
    exact ⟨u, by simpa using h1, h2⟩
theorem RDs.append {K : PySem.W.Frag} {μ : List Addr} {H : Hp} : ∀ {ds es : List D} {vs ws : List V}, RDs K μ H ds vs → RDs K μ H es ws → RDs K μ H (ds ++ es) (vs ++ ws)
  | _, _, _, _, .nil, s => s
  | _, _, _, _, .cons r t, s => .cons r (RDs.append t s)
theorem RDs.take {K : PySem.W.Frag} {μ : List Addr} {H : Hp} : ∀ {ds : List D} {vs : List V} (n : Nat), RDs K μ H ds vs → RDs K μ H (ds.take n) (vs.take n)
  | _, _, 0, _ => .nil
  | _, _, _ + 1, .nil => .nil
  | _, _, n + 1, .cons r t => .cons r (RDs.take n t)
theorem RDs.drop {K : PySem.W.Frag} {μ : List Addr} {H : Hp} : ∀ {ds : List D} {vs : List V} (n : Nat), RDs K μ H ds vs → RDs K μ H (ds.drop n) (vs.drop n)
  | _, _, 0, r => r
  | _, _, _ + 1, .nil => .nil
  | _, _, n + 1, .cons _ t => RDs.drop n t
theorem RDs.set {K : PySem.W.Frag} {μ : List Addr} {H : Hp} {d : D} {v : V} (r : RD K μ H d v) : ∀ {ds : List D} {vs : List V} (i : Nat), RDs K μ H ds vs → RDs K μ H (ds.set i d) (vs.set i v)
  | _, _, _, .nil => .nil
  | _, _, 0, .cons _ t => .cons r t
  | _, _, i + 1, .cons q t => .cons q (RDs.set r i t)

/-- what the store tells of the heap -/
def ObR (K : PySem.W.Frag) (μ : List Addr) (H : Hp) (a : Addr) : Ob → Prop
  | .lst ds => ∃ vs, H a = some (.lst vs) ∧ RDs K μ H ds vs
  | .ins C fs => ∃ dx gs, H a = some (.ins C dx gs) ∧ gs.map (·.1) = fs.map (·.1) ∧ RDs K μ H (fs.map (·.2)) (gs.map (·.2))
  | .dk kvs => ∃ ws, H a = some (.dK ws) ∧ ws.map (·.1) = kvs.map (·.1) ∧ RDs K μ H (kvs.map (·.2)) (ws.map (·.2))
  | .dt kvs => ∃ ws, H a = some (.dT ws) ∧ ws.map (·.1) = kvs.map (·.1) ∧ RDs K μ H (kvs.map (·.2)) (ws.map (·.2))
structure RS (K : PySem.W.Frag) (μ : List Addr) (S : Sto) (H : Hp) : Prop where
  len : μ.length = S.length
  nd : μ.Nodup
  ob : ∀ (i : Nat) (a : Addr) (o : Ob), μ[i]? = some a → S[i]? = some o → ObR K μ H a o
/-- a later state -/
structure Nx (μ μ' : List Addr) (H H' : Hp) : Prop where
  pre : μ <+: μ'
  keep : ∀ b o, H b = some o → b ∉ μ → H' b = some o
  new : ∀ a ∈ μ', a ∈ μ ∨ H a = none
  hard : Stay H H'
  dom : ∀ b, H' b = none → H b = none
theorem Nx.refl (μ : List Addr) (H : Hp) : Nx μ μ H H := ⟨List.prefix_refl _, fun _ _ h _ => h, fun _ h => .inl h, .refl _, fun _ h => h⟩
theorem Nx.trans {μ μ1 μ2 : List Addr} {H H1 H2 : Hp} (a : Nx μ μ1 H H1) (b : Nx μ1 μ2 H1 H2) : Nx μ μ2 H H2 where
  pre := a.pre.trans b.pre
  keep := fun c o h hc => b.keep c o (a.keep c o h hc) fun z => by
    rcases a.new c z with z | z
    · exact hc z
    · rw [h] at z; cases z
  new := fun c hc => by
    rcases b.new c hc with z | z
    · exact a.new c z
    · exact .inr (a.dom c z)
  hard := a.hard.trans b.hard
  dom := fun c h => a.dom c (b.dom c h)
/-- a new hard object -/
theorem Nx.hardNew {μ : List Addr} {H : Hp} {p : Addr} {o : HO} (hp : H p = none) : Nx μ μ H (upd H p o) where
  pre := List.prefix_refl _
  keep := fun b u h _ => by rw [upd_ne (ne_of_none h hp)]; exact h
  new := fun _ h => .inl h
  hard := fun b u h _ => by rw [upd_ne (ne_of_none h hp)]; exact h
  dom := fun b h => by
    by_cases e : b = p
    · rw [e]; exact hp
    · rw [upd_ne e] at h; exact h
/-- a new object of the store -/
theorem Nx.new1 {μ : List Addr} {H : Hp} {p : Addr} {o : HO} (hp : H p = none) : Nx μ (μ ++ [p]) H (upd H p o) where
  pre := List.prefix_append _ _
  keep := fun b u h _ => by rw [upd_ne (ne_of_none h hp)]; exact h
  new := fun b h => by
    rcases List.mem_append.mp h with h | h
    · exact .inl h
    · rw [List.mem_singleton.mp h]; exact .inr hp
  hard := fun b u h _ => by rw [upd_ne (ne_of_none h hp)]; exact h
  dom := fun b h => by
    by_cases e : b = p
    · rw [e]; exact hp
    · rw [upd_ne e] at h; exact h
/-- an object of the store is changed -/
theorem Nx.put {μ : List Addr} {H : Hp} {p : Addr} {o u : HO} (hm : p ∈ μ) (hp : H p = some u) (hu : ¬ Hard u) : Nx μ μ H (upd H p o) where
  pre := List.prefix_refl _
  keep := fun b w h hb => by rw [upd_ne (fun e => hb (by rw [e]; exact hm))]; exact h
  new := fun _ h => .inl h
  hard := fun b w h hw => by
    by_cases e : b = p
    · subst e; rw [hp] at h; cases h; exact absurd hw hu
    · rw [upd_ne e]; exact h
  dom := fun b h => by
    by_cases e : b = p
    · rw [e, upd_same] at h; cases h
    · rw [upd_ne e] at h; exact h
theorem ObR.mono {K : PySem.W.Frag} {μ μ' : List Addr} {H H' : Hp} {a : Addr} (p : μ <+: μ') (s : Stay H H') (k : ∀ o, H a = some o → H' a = some o) : ∀ {o : Ob}, ObR K μ H a o → ObR K μ' H' a o
  | .lst _, ⟨vs, h, r⟩ => ⟨vs, k _ h, r.mono p s⟩
  | .ins _ _, ⟨dx, gs, h, e, r⟩ => ⟨dx, gs, k _ h, e, r.mono p s⟩
  | .dk _, ⟨gs, h, e, r⟩ => ⟨gs, k _ h, e, r.mono p s⟩
  | .dt _, ⟨gs, h, e, r⟩ => ⟨gs, k _ h, e, r.mono p s⟩
theorem RS.at {K : PySem.W.Frag} {μ : List Addr} {S : Sto} {H : Hp} (r : RS K μ S H) {i : Nat} {o : Ob} (e : S[i]? = some o) : ∃ a, μ[i]? = some a ∧ ObR K μ H a o := by
  have hi : i < μ.length := by rw [r.len]; exact (List.getElem?_eq_some_iff.mp e).1
  exact ⟨μ[i], List.getElem?_eq_getElem hi, r.ob i _ o (List.getElem?_eq_getElem hi) e⟩
theorem RS.atA {K : PySem.W.Frag} {μ : List Addr} {S : Sto} {H : Hp} (r : RS K μ S H) {i : Nat} {a : Addr} (e : μ[i]? = some a) : ∃ o, S[i]? = some o ∧ ObR K μ H a o := by
  have hi : i < S.length := by rw [← r.len]; exact (List.getElem?_eq_some_iff.mp e).1
  exact ⟨S[i], List.getElem?_eq_getElem hi, r.ob i a _ e (List.getElem?_eq_getElem hi)⟩
theorem ObR.some {K : PySem.W.Frag} {μ : List Addr} {H : Hp} {a : Addr} : ∀ {o : Ob}, ObR K μ H a o → ∃ u, H a = some u ∧ ¬ Hard u
  | .lst _, ⟨vs, h, _⟩ => ⟨_, h, fun z => z⟩
  | .ins _ _, ⟨dx, gs, h, _⟩ => ⟨_, h, fun z => z⟩
  | .dk _, ⟨gs, h, _⟩ => ⟨_, h, fun z => z⟩
  | .dt _, ⟨gs, h, _⟩ => ⟨_, h, fun z => z⟩
/-- the store's addresses are taken -/
theorem RS.taken {K : PySem.W.Frag} {μ : List Addr} {S : Sto} {H : Hp} (r : RS K μ S H) {a : Addr} (h : a ∈ μ) : ∃ u, H a = some u ∧ ¬ Hard u := by
  obtain ⟨i, hi⟩ := List.getElem?_of_mem h
  obtain ⟨o, _, q⟩ := r.atA hi
  exact q.some
theorem RS.hardNew {K : PySem.W.Frag} {μ : List Addr} {S : Sto} {H : Hp} {p : Addr} {o : HO} (r : RS K μ S H) (hp : H p = none) : RS K μ S (upd H p o) where
  len := r.len
  nd := r.nd
  ob := fun i a u h1 h2 => (r.ob i a u h1 h2).mono (List.prefix_refl _) (Nx.hardNew (μ := μ) hp).hard fun w h => by rw [upd_ne (ne_of_none h hp)]; exact h
theorem RS.new1 {K : PySem.W.Frag} {μ : List Addr} {S : Sto} {H : Hp} {p : Addr} {o : Ob} {w : HO} (r : RS K μ S H) (hp : H p = none) (ho : ObR K (μ ++ [p]) (upd H p w) p o) : RS K (μ ++ [p]) (S ++ [o]) (upd H p w) where
  len := by simp [r.len]
  nd := by
    refine List.nodup_append.mpr ⟨r.nd, List.nodup_cons.mpr ⟨by simp, List.nodup_nil⟩, fun a ha b hb e => ?_⟩
    rw [List.mem_singleton.mp hb] at e
    subst e
    obtain ⟨u, h, _⟩ := r.taken ha
    rw [hp] at h; cases h
  ob := fun i a u h1 h2 => by
    by_cases hi : i < μ.length
    · rw [List.getElem?_append_left hi] at h1
      rw [List.getElem?_append_left (by rw [← r.len]; exact hi)] at h2
      exact (r.ob i a u h1 h2).mono (List.prefix_append _ _) (Nx.hardNew (μ := μ) hp).hard fun w h => by rw [upd_ne (ne_of_none h hp)]; exact h
    · rw [List.getElem?_append_right (Nat.le_of_not_lt hi)] at h1
      rw [List.getElem?_append_right (by rw [← r.len]; exact Nat.le_of_not_lt hi)] at h2
      rw [← r.len] at h2
      have e0 : i - μ.length = 0 := by
        cases q : i - μ.length with
        | zero => rfl
        | succ n => rw [q] at h1; simp at h1
      rw [e0] at h1 h2
      simp at h1 h2
      subst h1 h2
      exact ho
theorem RS.put {K : PySem.W.Frag} {μ : List Addr} {S : Sto} {H : Hp} {i : Nat} {p : Addr} {o : Ob} {w : HO} (r : RS K μ S H) (hi : μ[i]? = some p) (ho : ObR K μ (upd H p w) p o) : RS K μ (S.set i o) (upd H p w) where
  len := by simp [r.len]
  nd := r.nd
  ob := fun j a u h1 h2 => by
    by_cases hj : i = j
    · subst hj
      rw [hi] at h1; cases h1
      rw [List.getElem?_set_self (by rw [← r.len]; exact (List.getElem?_eq_some_iff.mp hi).1)] at h2
      cases h2
      exact ho
    · rw [List.getElem?_set_ne hj] at h2
      have ne : a ≠ p := fun e => by
        subst e
        obtain ⟨l1, e1⟩ := List.getElem?_eq_some_iff.mp hi
        obtain ⟨l2, e2⟩ := List.getElem?_eq_some_iff.mp h1
        exact hj ((List.getElem_inj r.nd).mp (e1.trans e2.symm))
      obtain ⟨x, hx, nh⟩ := r.taken (List.mem_of_getElem? hi)
      exact (r.ob j a u h1 h2).mono (List.prefix_refl _) (Nx.put (μ := μ) (List.mem_of_getElem? hi) hx nh).hard fun w h => by rw [upd_ne ne]; exact h
end Dn

set_option Elab.async false
set_option linter.all false
set_option maxRecDepth 100000
set_option maxHeartbeats 2000000
namespace Dn
open PySem PySem.Spec PyProof.Rows L2
/-! Results, judgements. -/
inductive R (α : Type) where
  | ok (a : α) (S : Sto) | exc (c : Addr) (fs : List (Str × D)) (S : Sto) | stuck
def R.bind {α β : Type} (r : R α) (f : α → Sto → R β) : R β := match r with
  | .ok a S => f a S
  | .exc c fs S => .exc c fs S
  | .stuck => .stuck
abbrev Ev := List (Option D)
abbrev ME := Ev → Sto → R D
abbrev MB := Ev → Sto → R Bool
abbrev ML := Ev → Sto → R (List D)
abbrev MG := D → Ev → Sto → R Ev
abbrev MGs := List D → Ev → Sto → R Ev
inductive F where
  | nx (ρ : Ev) (S : Sto) | rt (d : D) (S : Sto) | bk (ρ : Ev) (S : Sto) | ct (ρ : Ev) (S : Sto) | ex (c : Addr) (fs : List (Str × D)) (ρ : Ev) (S : Sto) | stuck
abbrev MS := Ev → Sto → F
def R.to {α : Type} (r : R α) (ρ : Ev) (f : α → Sto → F) : F := match r with
  | .ok a S => f a S
  | .exc c fs S => .ex c fs ρ S
  | .stuck => .stuck

/-- what is told of a state -/
structure Gx where
  K : PySem.W.Frag
  W : WX
  pin : List Addr → Hp → Prop
  pinK : ∀ μ μ' H H', Nx μ μ' H H' → pin μ H → pin μ' H'
/-- where one stands -/
structure Fx where
  X : Cx
  W : WX
  tk : Takes X W
  pin : List Addr → Hp → Prop
  pinK : ∀ μ μ' H H', Nx μ μ' H H' → pin μ H → pin μ' H'
abbrev Fx.g (G : Fx) : Gx := ⟨G.X.K, G.W, G.pin, G.pinK⟩
def RE (K : PySem.W.Frag) (μ : List Addr) (H : Hp) (ρ : Ev) (σ : L2.St) : Prop := ρ.length = σ.length ∧ ∀ (i : Nat) (d : D), ρ[i]? = some (some d) → ∃ v, σ[i]? = some (some v) ∧ RD K μ H d v
theorem RE.mono {K : PySem.W.Frag} {μ μ' : List Addr} {H H' : Hp} {ρ : Ev} {σ : L2.St} (r : RE K μ H ρ σ) (n : Nx μ μ' H H') : RE K μ' H' ρ σ :=
  ⟨r.1, fun i d e => let ⟨v, h1, h2⟩ := r.2 i d e; ⟨v, h1, h2.mono n.pre n.hard⟩⟩
theorem RE.set {K : PySem.W.Frag} {μ : List Addr} {H : Hp} {ρ : Ev} {σ : L2.St} {d : D} {v : V} (r : RE K μ H ρ σ) (i : Nat) (h : RD K μ H d v) : RE K μ H (ρ.set i (some d)) (σ.set i (some v)) := by
  refine ⟨by simp [r.1], fun j e q => ?_⟩
  by_cases hj : i = j
  · subst hj
    by_cases hl : i < ρ.length
    · rw [List.getElem?_set_self hl] at q
      cases q
      exact ⟨v, by rw [List.getElem?_set_self (by rw [← r.1]; exact hl)], h⟩
    · rw [List.getElem?_eq_none (by simpa using hl)] at q; cases q
  · rw [List.getElem?_set_ne hj] at q
    rw [List.getElem?_set_ne hj]
    exact r.2 j e q
/-- the state and what is told of it -/
structure At (G : Gx) (μ : List Addr) (H : Hp) (ρ : Ev) (σ : L2.St) (S : Sto) : Prop where
  re : RE G.K μ H ρ σ
  rs : RS G.K μ S H
  pin : G.pin μ H
theorem At.nx {G : Gx} {μ μ' : List Addr} {H H' : Hp} {ρ : Ev} {σ : L2.St} {S S' : Sto} (a : At G μ H ρ σ S) (n : Nx μ μ' H H') (r : RS G.K μ' S' H') : At G μ' H' ρ σ S' :=
  ⟨a.re.mono n, r, G.pinK _ _ _ _ n a.pin⟩
/-- an exception's own dict -/
structure XD (K : PySem.W.Frag) (μ : List Addr) (H : Hp) (d : Addr) (fs : List (Str × D)) : Prop where
  ex : ∃ vs, H d = some (.xd vs) ∧ vs.map (·.1) = fs.map (·.1) ∧ RDs K μ H (fs.map (·.2)) (vs.map (·.2))
/-- what is wanted behind -/
def Po {α β : Type} (G : Gx) (Rel : List Addr → Hp → α → β → Prop) (μ : List Addr) (H : Hp) (σ : L2.St) (Q : β → Hp → Prop) : R α → Prop
  | .ok a S => ∀ μ' H' b, Nx μ μ' H H' → RS G.K μ' S H' → Rel μ' H' a b → Q b H'
  | .exc c fs S => ∀ μ' H' d, Nx μ μ' H H' → RS G.K μ' S H' → XD G.K μ' H' d fs → G.W (.ref c) (some d) σ H'
  | .stuck => False
abbrev relD (G : Gx) : List Addr → Hp → D → V → Prop := fun μ H => RD G.K μ H
abbrev relB : List Addr → Hp → Bool → Bool → Prop := fun _ _ a b => a = b
abbrev relDs (G : Gx) : List Addr → Hp → List D → List V → Prop := fun μ H => RDs G.K μ H
theorem Po.nx {α β : Type} {G : Gx} {Rel : List Addr → Hp → α → β → Prop} {μ μ' : List Addr} {H H' : Hp} {σ : L2.St} {Q : β → Hp → Prop} (n : Nx μ μ' H H') : ∀ {r : R α}, Po G Rel μ H σ Q r → Po G Rel μ' H' σ Q r
  | .ok _ _, h => fun μ2 H2 b n2 r2 q => h μ2 H2 b (n.trans n2) r2 q
  | .exc _ _ _, h => fun μ2 H2 d n2 r2 q => h μ2 H2 d (n.trans n2) r2 q
  | .stuck, h => h
/-- one thing behind another -/
theorem Po.bind {α β γ δ : Type} {G : Gx} {Rel : List Addr → Hp → α → β → Prop} {Rel' : List Addr → Hp → γ → δ → Prop} {μ : List Addr} {H : Hp} {σ : L2.St} {Q : δ → Hp → Prop} {f : α → Sto → R γ} :
    ∀ {r : R α}, Po G Rel' μ H σ Q (r.bind f) → Po G Rel μ H σ (fun b H1 => ∃ a μ1 S1, Nx μ μ1 H H1 ∧ RS G.K μ1 S1 H1 ∧ Rel μ1 H1 a b ∧ Po G Rel' μ1 H1 σ Q (f a S1)) r
  | .ok a S1, h => fun μ1 H1 b n r q => ⟨a, μ1, S1, n, r, q, Po.nx n h⟩
  | .exc _ _ _, h => fun μ1 H1 d n r q => h μ1 H1 d n r q
  | .stuck, h => h.elim
/-- the readings -/
def tE (G : Gx) (m : ME) : TE := fun σ H Q => ∃ ρ μ S, At G μ H ρ σ S ∧ Po G (relD G) μ H σ Q (m ρ S)
def tB (G : Gx) (m : MB) : TT := fun σ H Q => ∃ ρ μ S, At G μ H ρ σ S ∧ Po G relB μ H σ Q (m ρ S)
def tA (G : Gx) (m : ML) : TA := fun σ H Q => ∃ ρ μ S, At G μ H ρ σ S ∧ Po G (relDs G) μ H σ Q (m ρ S)
/-- nothing but the slots at ts may have changed -/
def Off (ts : List Nat) (σ σ' : L2.St) : Prop := σ'.length = σ.length ∧ ∀ i, i ∉ ts → σ'[i]? = σ[i]?
theorem Off.refl (ts : List Nat) (σ : L2.St) : Off ts σ σ := ⟨rfl, fun _ _ => rfl⟩
theorem Off.trans {ts ts' : List Nat} {σ σ1 σ2 : L2.St} (a : Off ts σ σ1) (b : Off ts' σ1 σ2) : Off (ts ++ ts') σ σ2 :=
  ⟨b.1.trans a.1, fun i h => by
    rw [List.mem_append, not_or] at h
    exact (b.2 i h.2).trans (a.2 i h.1)⟩
def PoG (G : Gx) (ts : List Nat) (μ : List Addr) (H : Hp) (σ : L2.St) (Q : L2.St → Hp → Prop) : R Ev → Prop
  | .ok ρ S => ∀ μ' H' σ', Nx μ μ' H H' → RS G.K μ' S H' → RE G.K μ' H' ρ σ' → Off ts σ σ' → Q σ' H'
  | .exc _ _ _ => False
  | .stuck => False
def tG (G : Gx) (ts : List Nat) (m : MG) : TG := fun v σ H Q => ∃ d ρ μ S, At G μ H ρ σ S ∧ RD G.K μ H d v ∧ PoG G ts μ H σ Q (m d ρ S)
def tGs (G : Gx) (ts : List Nat) (m : MGs) : TGs := fun vs σ H Q => ∃ ds ρ μ S, At G μ H ρ σ S ∧ RDs G.K μ H ds vs ∧ PoG G ts μ H σ Q (m ds ρ S)
/-- what is wanted behind a statement -/
def PoS (G : Gx) (μ : List Addr) (H : Hp) (E : Ends) : F → Prop
  | .nx ρ S => ∀ μ' H' σ', Nx μ μ' H H' → RS G.K μ' S H' → RE G.K μ' H' ρ σ' → E.nx σ' H'
  | .bk ρ S => ∀ μ' H' σ', Nx μ μ' H H' → RS G.K μ' S H' → RE G.K μ' H' ρ σ' → E.bk σ' H'
  | .ct ρ S => ∀ μ' H' σ', Nx μ μ' H H' → RS G.K μ' S H' → RE G.K μ' H' ρ σ' → E.ct σ' H'
  | .rt d S => ∀ μ' H' v, Nx μ μ' H H' → RS G.K μ' S H' → RD G.K μ' H' d v → E.rt v H'
  | .ex c fs ρ S => ∀ μ' H' σ' d, Nx μ μ' H H' → RS G.K μ' S H' → RE G.K μ' H' ρ σ' → XD G.K μ' H' d fs → G.W (.ref c) (some d) σ' H'
  | .stuck => False
theorem PoS.nx {G : Gx} {μ μ' : List Addr} {H H' : Hp} {E : Ends} (n : Nx μ μ' H H') : ∀ {r : F}, PoS G μ H E r → PoS G μ' H' E r
  | .nx _ _, h => fun μ2 H2 b n2 r2 q => h μ2 H2 b (n.trans n2) r2 q
  | .bk _ _, h => fun μ2 H2 b n2 r2 q => h μ2 H2 b (n.trans n2) r2 q
  | .ct _ _, h => fun μ2 H2 b n2 r2 q => h μ2 H2 b (n.trans n2) r2 q
  | .rt _ _, h => fun μ2 H2 b n2 r2 q => h μ2 H2 b (n.trans n2) r2 q
  | .ex _ _ _ _, h => fun μ2 H2 b d n2 r2 q => h μ2 H2 b d (n.trans n2) r2 q
  | .stuck, h => h
theorem Po.to {α β : Type} {G : Gx} {Rel : List Addr → Hp → α → β → Prop} {μ : List Addr} {H : Hp} {σ : L2.St} {ρ : Ev} {E : Ends} {f : α → Sto → F} (re : RE G.K μ H ρ σ) :
    ∀ {r : R α}, PoS G μ H E (r.to ρ f) → Po G Rel μ H σ (fun b H1 => ∃ a μ1 S1, Nx μ μ1 H H1 ∧ RS G.K μ1 S1 H1 ∧ Rel μ1 H1 a b ∧ PoS G μ1 H1 E (f a S1)) r
  | .ok a S1, h => fun μ1 H1 b n r q => ⟨a, μ1, S1, n, r, q, PoS.nx n h⟩
  | .exc _ _ _, h => fun μ1 H1 d n r q => h μ1 H1 σ d n r (re.mono n) q
  | .stuck, h => h.elim
def tS (G : Gx) (m : MS) : TS := fun E σ H => ∃ ρ μ S, At G μ H ρ σ S ∧ PoS G μ H E (m ρ S)
/-- the judgements -/
abbrev SE (G : Fx) (e : Expr) (m : ME) : Prop := PE G.X e (tE G.g m)
abbrev SB (G : Fx) (e : Expr) (m : MB) : Prop := PT G.X e (tB G.g m)
abbrev SA (G : Fx) (es : List Expr) (m : ML) : Prop := PA G.X es (tA G.g m)
abbrev SG (G : Fx) (ts : List Nat) (e : Expr) (m : MG) : Prop := PG G.X e (tG G.g ts m)
abbrev SGs (G : Fx) (ts : List Nat) (es : List Expr) (m : MGs) : Prop := PGs G.X es (tGs G.g ts m)
abbrev SS (G : Fx) (st : Stmt) (m : MS) : Prop := PS G.X st (tS G.g m)
abbrev SSs (G : Fx) (st : List Stmt) (m : MS) : Prop := PSs G.X st (tS G.g m)
/-- from a reading that is asked less -/
theorem pe_imp {X : Cx} {e : Expr} {t t' : TE} (h : PE X e t) (i : ∀ σ H Q, t' σ H Q → t σ H Q) : PE X e t' := ⟨fun p s σ H Q I q => h.run p s σ H Q I (i _ _ _ q)⟩
theorem pt_imp {X : Cx} {e : Expr} {t t' : TT} (h : PT X e t) (i : ∀ σ H Q, t' σ H Q → t σ H Q) : PT X e t' := ⟨fun p s σ H Q I q => h.run p s σ H Q I (i _ _ _ q)⟩
theorem pw_imp {X : Cx} {e : Expr} {t t' : TT} (h : PW X e t) (i : ∀ σ H Q, t' σ H Q → t σ H Q) : PW X e t' := ⟨fun w p s σ H Q I q => h.run w p s σ H Q I (i _ _ _ q)⟩
theorem pa_imp {X : Cx} {e : List Expr} {t t' : TA} (h : PA X e t) (i : ∀ σ H Q, t' σ H Q → t σ H Q) : PA X e t' := ⟨fun pos p s σ H Q I q => h.run pos p s σ H Q I (i _ _ _ q)⟩
theorem ps_imp {X : Cx} {e : Stmt} {t t' : TS} (h : PS X e t) (i : ∀ D σ H, t' D σ H → t D σ H) : PS X e t' := ⟨fun p s σ H D I q => h.run p s σ H D I (i _ _ _ q)⟩
theorem pss_imp {X : Cx} {e : List Stmt} {t t' : TS} (h : PSs X e t) (i : ∀ D σ H, t' D σ H → t D σ H) : PSs X e t' := ⟨fun p s σ H D I q => h.run p s σ H D I (i _ _ _ q)⟩
theorem pg_imp {X : Cx} {e : Expr} {t t' : TG} (h : PG X e t) (i : ∀ v σ H Q, t' v σ H Q → t v σ H Q) : PG X e t' := ⟨fun p s σ H v u Q I r q => h.run p s σ H v u Q I r (i _ _ _ _ q)⟩
theorem pgs_imp {X : Cx} {e : List Expr} {t t' : TGs} (h : PGs X e t) (i : ∀ v σ H Q, t' v σ H Q → t v σ H Q) : PGs X e t' := ⟨fun p s σ H v u Q I r q => h.run p s σ H v u Q I r (i _ _ _ _ q)⟩

section
variable {G : Fx} {a b c e : Expr} {es : List Expr} {ma mb mc : ME} {pos : Pos}
/-! names, constants -/
def mVar (i : Nat) : ME := fun ρ S => match ρ[i]? with
  | some (some d) => .ok d S
  | _ => .stuck
def mC (d : D) : ME := fun _ S => .ok d S
theorem se_var (i : Nat) {x : Str} (hN : G.X.N[i]? = some x := by rfl) (hv : Vis G.X.env.scope x := by first | exact Or.inl rfl | exact Or.inr (Or.inl rfl) | exact Or.inr (Or.inr rfl)) (hd : (x == ("__debug__" : Str)) = false := by decide)
    (hcd : (x == ("__classdict__" : Str)) = false := by decide) : SE G (.Name x pos) (mVar i) := by
  refine pe_imp (pe_var hN hv hd hcd) fun σ H Q h => ?_
  obtain ⟨ρ, μ, S, at', q⟩ := h
  unfold mVar at q
  cases e : ρ[i]? with
  | none => rw [e] at q; exact q.elim
  | some o =>
    cases o with
    | none => rw [e] at q; exact q.elim
    | some d =>
      rw [e] at q
      obtain ⟨v, hv, r⟩ := at'.re.2 i d e
      exact ⟨v, hv, q μ H v (Nx.refl μ H) at'.rs r⟩
theorem se_C {d : D} {v : V} (h : PE G.X e (tC v)) (r : ∀ μ H, RD G.X.K μ H d v) : SE G e (mC d) := by
  refine pe_imp h fun σ H Q h => ?_
  obtain ⟨ρ, μ, S, at', q⟩ := h
  exact q μ H v (Nx.refl μ H) at'.rs (r μ H)
/-! two things, one behind the other -/
def m2 (f : D → D → Sto → R D) (ma mb : ME) : ME := fun ρ S => (ma ρ S).bind fun x S1 => (mb ρ S1).bind fun y S2 => f x y S2
/-- what an operation by values does -/
def OpS (G : Fx) (r : R2) (f : D → D → Sto → R D) : Prop := ∀ (μ : List Addr) (H : Hp) (σ : L2.St) (S : Sto) (x y : D) (v u : V) (Q : VK), RS G.X.K μ S H → RD G.X.K μ H x v → RD G.X.K μ H y u → Po G.g (relD G.g) μ H σ Q (f x y S) → r v u H Q
theorem tE_2 {f : D → D → Sto → R D} {R : V → V → Hp → Prop} {σ : L2.St} {H : Hp} {Q : VK} (h : tE G.g (m2 f ma mb) σ H Q)
    (k : ∀ (μ : List Addr) (H : Hp) (S : Sto) (x y : D) (v u : V), RS G.X.K μ S H → RD G.X.K μ H x v → RD G.X.K μ H y u → Po G.g (relD G.g) μ H σ Q (f x y S) → R v u H) :
    tE G.g ma σ H fun v H1 => tE G.g mb σ H1 fun u H2 => R v u H2 := by
  obtain ⟨ρ, μ, S, at', q⟩ := h
  refine ⟨ρ, μ, S, at', ?_⟩
  have q1 := Po.bind (Rel := relD G.g) q
  revert q1
  cases ma ρ S with
  | stuck => exact fun q1 => q1
  | exc c fs S1 => exact fun q1 => q1
  | ok x S1 =>
    intro q1 μ1 H1 v n1 r1 d1
    obtain ⟨x, μ1', S1', n1', r1', d1', q2⟩ := q1 μ1 H1 v n1 r1 d1
    refine ⟨ρ, μ1', S1', at'.nx n1' r1', ?_⟩
    have q3 := Po.bind (Rel := relD G.g) q2
    revert q3
    cases mb ρ S1' with
    | stuck => exact fun q3 => q3
    | exc c fs S2 => exact fun q3 => q3
    | ok y S2 =>
      intro q3 μ2 H2 u n2 r2 d2
      obtain ⟨y, μ2', S2', n2', r2', d2', q4⟩ := q3 μ2 H2 u n2 r2 d2
      exact k μ2' H2 S2' x y v u r2' (d1'.mono n2'.pre n2'.hard) d2' q4
theorem se_op {op : Operator} {r : R2} {f : D → D → Sto → R D} (ho : OpR G.X (binaryOp op) r) (hf : OpS G r f) (ha : SE G a ma) (hb : SE G b mb) : SE G (.BinOp a op b pos) (m2 f ma mb) :=
  pe_imp (pe_op ho ha hb) fun σ H Q h => tE_2 h fun μ H S x y v u r1 d1 d2 q => hf μ H σ S x y v u Q r1 d1 d2 q
theorem se_cmp {op : CmpOp} {r : R2} {f : D → D → Sto → R D} (ho : OpR G.X (compareOp op) r) (hf : OpS G r f) (ha : SE G a ma) (hb : SE G b mb) (hm : behindInMarks op b = false) : SE G (.Compare a [op] [b] pos) (m2 f ma mb) :=
  pe_imp (pe_cmpR ho ha hb hm) fun σ H Q h => tE_2 h fun μ H S x y v u r1 d1 d2 q => hf μ H σ S x y v u Q r1 d1 d2 q
end
end Dn

set_option Elab.async false
set_option linter.all false
set_option maxRecDepth 100000
set_option maxHeartbeats 2000000
namespace Dn
open PySem PySem.Spec PyProof.Rows L2
section
variable {G : Fx} {μ : List Addr} {H : Hp} {σ : L2.St} {S : Sto} {Q : VK} {p : Addr} {ds : List D} {vs : List V} {d : D} {v : V}
theorem Po.same (rs : RS G.X.K μ S H) (rd : RD G.X.K μ H d v) (q : Po G.g (relD G.g) μ H σ Q (.ok d S)) : Q v H := q μ H v (Nx.refl μ H) rs rd
theorem Po.newL (rs : RS G.X.K μ S H) (hp : H p = none) (rd : RDs G.X.K μ H ds vs) (q : Po G.g (relD G.g) μ H σ Q (.ok (.ref S.length) (S ++ [.lst ds]))) : Q (.ref p) (upd H p (.lst vs)) := by
  have n : Nx μ (μ ++ [p]) H (upd H p (.lst vs)) := Nx.new1 hp
  exact q _ _ _ n (rs.new1 hp ⟨vs, upd_same, rd.mono n.pre n.hard⟩) (.ref (by simp [← rs.len]))
theorem Po.newT (rs : RS G.X.K μ S H) (hp : H p = none) (rd : RDs G.X.K μ H ds vs) (q : Po G.g (relD G.g) μ H σ Q (.ok (.tup ds) S)) : Q (.ref p) (upd H p (.tup vs)) := by
  have n : Nx μ μ H (upd H p (.tup vs)) := Nx.hardNew hp
  exact q _ _ _ n (rs.hardNew hp) (.tup (SqT.of upd_same) (rd.mono n.pre n.hard))
/-- what a list of the store is -/
theorem RS.lst {K : PySem.W.Frag} {i : Nat} {a : Addr} {xs : List D} (rs : RS K μ S H) (h : μ[i]? = some a) (e : S[i]? = some (.lst xs)) : ∃ vs, H a = some (.lst vs) ∧ RDs K μ H xs vs := rs.ob i a _ h e
end
/-! ## + -/
def addD : D → D → Sto → R D
  | .int i, .int j, S => .ok (.int (i + j)) S
  | .str a, .str b, S => if a.length + b.length ≤ sizeLine then .ok (.str (a ++ b)) S else .stuck
  | .tup xs, .tup ys, S => if xs.length + ys.length ≤ sizeLine then .ok (.tup (xs ++ ys)) S else .stuck
  | .ref i, .ref j, S => match S[i]?, S[j]? with
    | some (.lst xs), some (.lst ys) => if xs.length + ys.length ≤ sizeLine then .ok (.ref S.length) (S ++ [.lst (xs ++ ys)]) else .stuck
    | _, _ => .stuck
  | _, _, _ => .stuck
def rAddD (K : PySem.W.Frag) : R2 := fun x y H Q => (rI0 fun i j => .int (i + j)) x y H Q ∨ ((∃ i j, x = .str i ∧ y = .str j ∧ i.length + j.length ≤ sizeLine ∧ Q (.str (i ++ j)) H) ∨ (rCatA K x y H Q ∨ rCat x y H Q))
theorem op_addD {X : Cx} : OpR X (binaryOp .Add) (rAddD X.K) := op_add.or (op_add_str.or (op_catA.or op_cat))
theorem add_ok {G : Fx} : OpS G (rAddD G.X.K) addD := by
  intro μ H σ S x y v u Q rs r1 r2 q
  cases r1 <;> cases r2 <;> first | exact q.elim | skip
  case int.int i j => exact .inl ⟨i, j, rfl, rfl, q.same rs (.int _)⟩
  case str.str i j =>
    simp only [addD] at q
    split at q
    · rename_i h
      exact .inr (.inl ⟨i, j, rfl, rfl, h, q.same rs (.str _)⟩)
    · exact q.elim
  case tup.tup a vs xs h1 d1 b ws ys h2 d2 =>
    simp only [addD] at q
    split at q
    · rename_i h
      rw [d1.length, d2.length] at h
      refine .inr (.inr (.inl ⟨a, b, vs, ws, rfl, rfl, h1, h2, h, fun e => ?_, fun _ e => ?_, fun _ _ p hp => q.newT rs hp (d1.append d2)⟩))
      · subst e
        cases d1
        exact q.same rs (.tup h2 d2)
      · subst e
        cases d2
        rw [List.append_nil] at q
        exact q.same rs (.tup h1 d1)
    · exact q.elim
  case ref.ref i a h1 j b h2 =>
    simp only [addD] at q
    split at q
    · rename_i xs ys e1 e2
      split at q
      · rename_i h
        obtain ⟨vs, g1, d1⟩ := rs.lst h1 e1
        obtain ⟨ws, g2, d2⟩ := rs.lst h2 e2
        rw [d1.length, d2.length] at h
        exact .inr (.inr (.inr ⟨a, b, vs, ws, rfl, rfl, g1, g2, h, fun p hp => q.newL rs hp (d1.append d2)⟩))
      · exact q.elim
    · exact q.elim
/-! ## ints -/
def intD (c : Int → Int → Bool) (g : Int → Int → Int) : D → D → Sto → R D
  | .int i, .int j, S => if c i j then .ok (.int (g i j)) S else .stuck
  | _, _, _ => .stuck
theorem int_ok {G : Fx} {C : Int → Int → Prop} {c : Int → Int → Bool} {g : Int → Int → Int} (hc : ∀ i j, c i j = true → C i j) : OpS G (rI C fun i j => .int (g i j)) (intD c g) := by
  intro μ H σ S x y v u Q rs r1 r2 q
  cases r1 <;> cases r2 <;> first | exact q.elim | skip
  case int.int i j =>
    simp only [intD] at q
    split at q
    · rename_i h
      exact ⟨i, j, rfl, rfl, hc i j h, q.same rs (.int _)⟩
    · exact q.elim
def int0D (g : Int → Int → Int) : D → D → Sto → R D
  | .int i, .int j, S => .ok (.int (g i j)) S
  | _, _, _ => .stuck
theorem int0_ok {G : Fx} {g : Int → Int → Int} : OpS G (rI0 fun i j => .int (g i j)) (int0D g) := by
  intro μ H σ S x y v u Q rs r1 r2 q
  cases r1 <;> cases r2 <;> first | exact q.elim | skip
  case int.int i j => exact ⟨i, j, rfl, rfl, q.same rs (.int _)⟩
def icmpD (g : Int → Int → Bool) : D → D → Sto → R D
  | .int i, .int j, S => .ok (.bl (g i j)) S
  | _, _, _ => .stuck
theorem icmp_ok {G : Fx} {g : Int → Int → Bool} : OpS G (rI0 fun i j => .bl (g i j)) (icmpD g) := by
  intro μ H σ S x y v u Q rs r1 r2 q
  cases r1 <;> cases r2 <;> first | exact q.elim | skip
  case int.int i j => exact ⟨i, j, rfl, rfl, q.same rs (.bl _)⟩
def cMul (i j : Int) : Bool := (decide (-(2 ^ 64) < i) && decide (i < 2 ^ 64)) || (decide (-(2 ^ 64) < j) && decide (j < 2 ^ 64))
theorem cMul_ok : ∀ i j, cMul i j = true → CMul i j := by
  intro i j h
  simp only [cMul, Bool.or_eq_true, Bool.and_eq_true, decide_eq_true_eq] at h
  exact h
def cDiv (_ j : Int) : Bool := decide (0 < j) && decide (j < 1073741824)
theorem cDiv_ok : ∀ i j, cDiv i j = true → CDiv i j := by
  intro i j h
  simp only [cDiv, Bool.and_eq_true, decide_eq_true_eq] at h
  exact h
def cMod (_ j : Int) : Bool := decide (0 < j)
theorem cMod_ok : ∀ (i j : Int), cMod i j = true → (fun _ j => 0 < j) i j := by
  intro i j h
  simpa [cMod] using h
def cPow (i j : Int) : Bool := decide (0 ≤ j) && (decide (j ≤ 1000000) && decide (i.natAbs < 2 ^ 64))
theorem cPow_ok : ∀ i j, cPow i j = true → CPow i j := by
  intro i j h
  simp only [cPow, Bool.and_eq_true, decide_eq_true_eq] at h
  exact h
/-! ## * -/
def mulD : D → D → Sto → R D
  | .int i, .int j, S => if cMul i j then .ok (.int (i * j)) S else .stuck
  | .ref i, .int k, S => match S[i]? with
    | some (.lst xs) => if -(2 ^ 63) ≤ k ∧ k < 2 ^ 63 ∧ xs.length * k.toNat ≤ sizeLine then .ok (.ref S.length) (S ++ [.lst (List.replicate k.toNat xs).flatten]) else .stuck
    | _ => .stuck
  | _, _, _ => .stuck
/-! ## equality of data -/
def mapO {α β : Type} (f : α → Option β) : List α → Option (List β)
  | [] => some []
  | x :: xs => match f x with
    | some y => (mapO f xs).map (y :: ·)
    | none => none
def pd (S : Sto) : Nat → D → Option PyData
  | _, .non => some .none
  | _, .bl b => some (.bool b)
  | _, .int i => some (.int i)
  | _, .str x => some (.str x)
  | n + 1, .tup xs => (mapO (pd S n) xs).map .tuple
  | n + 1, .rol xs => (mapO (pd S n) xs).map .list
  | n + 1, .ref i => match S[i]? with
    | some (.lst xs) => (mapO (pd S n) xs).map .list
    | _ => none
  | 0, .tup _ => none
  | 0, .rol _ => none
  | 0, .ref _ => none
  | _, .adr _ => none
theorem mapO_some {α β : Type} {f : α → Option β} : ∀ {xs : List α} {ys : List β}, mapO f xs = some ys → Paired (fun x y => f x = some y) xs ys
  | [], ys, h => by cases h; exact .nil
  | x :: xs, ys, h => by
    unfold mapO at h
    cases e : f x with
    | none => rw [e] at h; cases h
    | some y =>
      rw [e] at h
      simp only [Option.map_eq_some_iff] at h
      obtain ⟨zs, e1, rfl⟩ := h
      exact .cons e (mapO_some e1)
theorem dpAll_of {K : PySem.W.Frag} {μ : List Addr} {H : Hp} {f : D → Option PyData} (h : ∀ {d v e}, f d = some e → RD K μ H d v → Dp K H v e) :
    ∀ {ds : List D} {es : List PyData} {vs : List V}, Paired (fun x y => f x = some y) ds es → RDs K μ H ds vs → DpAll K H vs es
  | _, _, _, .nil, .nil => .nil
  | _, _, _, .cons q t, .cons r u => .cons (h q r) (dpAll_of h t u)
theorem pd_ok {K : PySem.W.Frag} {μ : List Addr} {S : Sto} {H : Hp} (rs : RS K μ S H) : ∀ {n : Nat} {d : D} {v : V} {e : PyData}, pd S n d = some e → RD K μ H d v → Dp K H v e := by
  intro n
  induction n with
  | zero =>
    intro d v e h r
    cases r <;> simp only [pd] at h <;> first | (cases h; done) | (injection h with h; subst h; constructor)
  | succ n ih =>
    intro d v e h r
    cases r with
    | non => simp only [pd] at h; injection h with h; subst h; constructor
    | bl b => simp only [pd] at h; injection h with h; subst h; constructor
    | int i => simp only [pd] at h; injection h with h; subst h; constructor
    | str x => simp only [pd] at h; injection h with h; subst h; constructor
    | tup h1 r1 =>
      simp only [pd, Option.map_eq_some_iff] at h
      obtain ⟨es, h2, rfl⟩ := h
      exact .tup h1 (dpAll_of (fun q r => ih q r) (mapO_some h2) r1)
    | rol h1 r1 =>
      simp only [pd, Option.map_eq_some_iff] at h
      obtain ⟨es, h2, rfl⟩ := h
      exact .lst h1.sq (dpAll_of (fun q r => ih q r) (mapO_some h2) r1)
    | @ref i a h1 =>
      simp only [pd] at h
      split at h
      · rename_i xs e1
        simp only [Option.map_eq_some_iff] at h
        obtain ⟨es, h2, rfl⟩ := h
        obtain ⟨vs, g, r1⟩ := rs.lst h1 e1
        exact .lst (SqL.of g) (dpAll_of (fun q r => ih q r) (mapO_some h2) r1)
      · cases h
    | adr a => simp only [pd] at h; cases h
def eqD (neg : Bool) (x y : D) (S : Sto) : R D := match pd S 65 x, pd S 65 y with
  | some d, some e => if SeqAt.shaped d && SeqAt.shaped e then .ok (.bl (if neg then !PyData.eqv d e else PyData.eqv d e)) S else .stuck
  | _, _ => .stuck
theorem eq_ok {G : Fx} : OpS G (rEqD G.X.K) (eqD false) := by
  intro μ H σ S x y v u Q rs r1 r2 q
  unfold eqD at q
  split at q
  · rename_i d e h1 h2
    split at q
    · rename_i h
      simp only [Bool.and_eq_true] at h
      exact ⟨d, e, pd_ok rs h1 r1, pd_ok rs h2 r2, h.1, h.2, q.same rs (.bl _)⟩
    · exact q.elim
  · exact q.elim
theorem ne_ok {G : Fx} : OpS G (rNeD G.X.K) (eqD true) := by
  intro μ H σ S x y v u Q rs r1 r2 q
  unfold eqD at q
  split at q
  · rename_i d e h1 h2
    split at q
    · rename_i h
      simp only [Bool.and_eq_true] at h
      exact ⟨d, e, pd_ok rs h1 r1, pd_ok rs h2 r2, h.1, h.2, q.same rs (.bl _)⟩
    · exact q.elim
  · exact q.elim
/-! ## in -/
def inD (neg : Bool) (x y : D) (S : Sto) : R D := match pd S 65 x, pd S 65 y with
  | some d, some (.list es) => if SeqAt.shaped d && SeqAt.shaped (.list es) then .ok (.bl (if neg then !es.any fun z => PyData.eqv z d else es.any fun z => PyData.eqv z d)) S else .stuck
  | _, _ => .stuck
theorem in_ok {G : Fx} : OpS G (rInD G.X.K) (inD false) := by
  intro μ H σ S x y v u Q rs r1 r2 q
  unfold inD at q
  split at q
  · rename_i d es h1 h2
    split at q
    · rename_i h
      simp only [Bool.and_eq_true] at h
      exact ⟨d, es, pd_ok rs h1 r1, pd_ok rs h2 r2, h.1, h.2, q.same rs (.bl _)⟩
    · exact q.elim
  · exact q.elim
theorem notIn_ok {G : Fx} : OpS G (rNotInD G.X.K) (inD true) := by
  intro μ H σ S x y v u Q rs r1 r2 q
  unfold inD at q
  split at q
  · rename_i d es h1 h2
    split at q
    · rename_i h
      simp only [Bool.and_eq_true] at h
      exact ⟨d, es, pd_ok rs h1 r1, pd_ok rs h2 r2, h.1, h.2, q.same rs (.bl _)⟩
    · exact q.elim
  · exact q.elim
/-! ## is -/
def isND (neg : Bool) (x y : D) (S : Sto) : R D := match x, y with
  | .non, .non => .ok (.bl (!neg)) S
  | _, .non => .ok (.bl neg) S
  | .bl a, .bl b => .ok (.bl (if neg then !decide (a = b) else decide (a = b))) S
  | _, _ => .stuck
def rIsX : R2 := fun x y H Q => (y = .non ∧ Q (.bl (decide (x = .non))) H) ∨ rIsB x y H Q
def rIsNX : R2 := fun x y H Q => (y = .non ∧ Q (.bl (!decide (x = .non))) H) ∨ rNotB x y H Q
theorem op_isX {X : Cx} : OpR X (compareOp .Is) rIsX := op_isN.or op_isBl
theorem op_isNX {X : Cx} : OpR X (compareOp .IsNot) rIsNX := op_notN.or op_notBl
theorem is_ok {G : Fx} : OpS G rIsX (isND false) := by
  intro μ H σ S x y v u Q rs r1 r2 q
  cases r2 <;> cases r1 <;> first | exact q.elim | exact .inl ⟨rfl, Po.same rs (.bl _) q⟩ | skip
  case bl.bl a b => exact .inr ⟨_, _, rfl, rfl, Po.same rs (.bl _) q⟩
theorem isNot_ok {G : Fx} : OpS G rIsNX (isND true) := by
  intro μ H σ S x y v u Q rs r1 r2 q
  cases r2 <;> cases r1 <;> first | exact q.elim | exact .inl ⟨rfl, Po.same rs (.bl _) q⟩ | skip
  case bl.bl a b => exact .inr ⟨_, _, rfl, rfl, Po.same rs (.bl _) q⟩
/-! ## items -/
def itemD : D → D → Sto → R D
  | .tup xs, .int k, S => match atI xs k with
    | some d => .ok d S
    | none => .stuck
  | .rol xs, .int k, S => match atI xs k with
    | some d => .ok d S
    | none => .stuck
  | .ref i, .int k, S => match S[i]? with
    | some (.lst xs) => match atI xs k with
      | some d => .ok d S
      | none => .stuck
    | _ => .stuck
  | _, _, _ => .stuck
theorem RDs.atI {K : PySem.W.Frag} {μ : List Addr} {H : Hp} {ds : List D} {vs : List V} {k : Int} {d : D} (r : RDs K μ H ds vs) (h : L2.atI ds k = some d) : ∃ v, L2.atI vs k = some v ∧ RD K μ H d v := by
  unfold L2.atI at h ⊢
  rw [r.length] at h
  cases e : ixN vs.length k with
  | none => rw [e] at h; cases h
  | some j =>
    rw [e] at h
    exact r.get h
theorem item_ok {G : Fx} : OpS G (rIx G.X.K) itemD := by
  intro μ H σ S x y v u Q rs r1 r2 q
  cases r1 <;> cases r2 <;> first | exact q.elim | skip
  case tup.int a vs xs h1 d1 k =>
    simp only [itemD] at q
    split at q
    · rename_i d h
      obtain ⟨w, e, r⟩ := d1.atI h
      exact .inr (.inl ⟨a, vs, k, w, rfl, rfl, h1, e, q.same rs r⟩)
    · exact q.elim
  case rol.int a vs xs h1 d1 k =>
    simp only [itemD] at q
    split at q
    · rename_i d h
      obtain ⟨w, e, r⟩ := d1.atI h
      exact .inl ⟨a, vs, k, w, rfl, rfl, h1.sq, e, q.same rs r⟩
    · exact q.elim
  case ref.int i a h1 k =>
    simp only [itemD] at q
    split at q
    · rename_i xs e1
      obtain ⟨vs, g, d1⟩ := rs.lst h1 e1
      split at q
      · rename_i d h
        obtain ⟨w, e, r⟩ := d1.atI h
        exact .inl ⟨a, vs, k, w, rfl, rfl, SqL.of g, e, q.same rs r⟩
      · exact q.elim
    · exact q.elim
/-! ## slices -/
def cutD (xs : List D) (lo hi : Option Int) : List D := (xs.drop (HT.sIx xs.length 0 lo)).take (HT.sIx xs.length xs.length hi - HT.sIx xs.length 0 lo)
def sliceD (x : D) (lo hi : Option Int) (S : Sto) : R D := match x with
  | .tup xs => .ok (.tup (cutD xs lo hi)) S
  | .rol xs => .ok (.ref S.length) (S ++ [.lst (cutD xs lo hi)])
  | .ref i => match S[i]? with
    | some (.lst xs) => .ok (.ref S.length) (S ++ [.lst (cutD xs lo hi)])
    | _ => .stuck
  | _ => .stuck
theorem RDs.cut {K : PySem.W.Frag} {μ : List Addr} {H : Hp} {ds : List D} {vs : List V} (r : RDs K μ H ds vs) (lo hi : Option Int) : RDs K μ H (cutD ds lo hi) (cutV vs lo hi) := by
  unfold cutD cutV
  rw [r.length]
  exact (r.drop _).take _
def rSlX (K : PySem.W.Frag) : V → Option Int → Option Int → Hp → VK → Prop := fun x lo hi H Q => rSlA K x lo hi H Q ∨ rSlL K x lo hi H Q
theorem sl_X {X : Cx} : SlR X (rSlX X.K) := sl_tupA.or sl_list
theorem slice_ok {G : Fx} {μ : List Addr} {H : Hp} {σ : L2.St} {S : Sto} {x : D} {v : V} {lo hi : Option Int} {Q : VK} (rs : RS G.X.K μ S H) (r1 : RD G.X.K μ H x v) (q : Po G.g (relD G.g) μ H σ Q (sliceD x lo hi S)) : rSlX G.X.K v lo hi H Q := by
  cases r1 <;> first | exact q.elim | skip
  case tup a vs xs h1 d1 =>
    refine .inl ⟨a, vs, rfl, h1, fun hw => ?_, fun _ p hp => Po.newT rs hp (d1.cut lo hi) q⟩
    have e : cutD xs lo hi = xs := by
      unfold cutD
      rw [d1.length, hw.1, hw.2]
      simp [← d1.length]
    have q' : Po G.g (relD G.g) μ H σ Q (.ok (.tup (cutD xs lo hi)) S) := q
    rw [e] at q'
    exact q'.same rs (.tup h1 d1)
  case rol a vs xs h1 d1 => exact .inr ⟨a, vs, rfl, h1.sq, fun p hp => Po.newL rs hp (d1.cut lo hi) q⟩
  case ref i a h1 =>
    simp only [sliceD] at q
    split at q
    · rename_i xs e1
      obtain ⟨vs, g, d1⟩ := rs.lst h1 e1
      exact .inr ⟨a, vs, rfl, SqL.of g, fun p hp => Po.newL rs hp (d1.cut lo hi) q⟩
    · exact q.elim
end Dn

set_option Elab.async false
set_option linter.all false
set_option maxRecDepth 100000
set_option maxHeartbeats 2000000
namespace Dn
open PySem PySem.Spec PyProof.Rows L2
section
variable {G : Fx} {a b c e o : Expr} {es : List Expr} {ma mb mc : ME} {mA : ML} {pos p : Pos} {x : Str}
/-- one thing, then what is made of it -/
def m1 (f : D → Sto → R D) (ma : ME) : ME := fun ρ S => (ma ρ S).bind fun x S1 => f x S1
theorem po_1 {α β γ δ : Type} {Rel : List Addr → Hp → α → β → Prop} {Rel' : List Addr → Hp → γ → δ → Prop} {μ : List Addr} {H : Hp} {σ : L2.St} {ρ : Ev} {S : Sto} {Q : δ → Hp → Prop} {Rr : β → Hp → Prop} {f : α → Sto → R γ} {r : R α} (at' : At G.g μ H ρ σ S)
    (q : Po G.g Rel' μ H σ Q (r.bind f)) (k : ∀ (μ' : List Addr) (H' : Hp) (S : Sto) (x : α) (v : β), Nx μ μ' H H' → At G.g μ' H' ρ σ S → Rel μ' H' x v → Po G.g Rel' μ' H' σ Q (f x S) → Rr v H') : Po G.g Rel μ H σ Rr r := by
  have q1 := Po.bind (Rel := Rel) q
  revert q1
  cases r with
  | stuck => exact fun q1 => q1
  | exc c fs S1 => exact fun q1 => q1
  | ok x S1 =>
    intro q1 μ1 H1 v n1 r1 d1
    obtain ⟨x, μ1', S1', n1', r1', d1', q2⟩ := q1 μ1 H1 v n1 r1 d1
    exact k μ1' H1 S1' x v n1' (at'.nx n1' r1') d1' q2
theorem tE_1 {f : D → Sto → R D} {Rr : V → Hp → Prop} {σ : L2.St} {H : Hp} {Q : VK} (h : tE G.g (m1 f ma) σ H Q)
    (k : ∀ (μ : List Addr) (H : Hp) (S : Sto) (x : D) (v : V), RS G.X.K μ S H → RD G.X.K μ H x v → Po G.g (relD G.g) μ H σ Q (f x S) → Rr v H) : tE G.g ma σ H Rr := by
  obtain ⟨ρ, μ, S, at', q⟩ := h
  exact ⟨ρ, μ, S, at', po_1 at' q fun μ H S x v _ a d q => k μ H S x v a.rs d q⟩
/-! arguments, displays -/
def mNil : ML := fun _ S => .ok [] S
def mCons (ma : ME) (mr : ML) : ML := fun ρ S => (ma ρ S).bind fun x S1 => (mr ρ S1).bind fun xs S2 => .ok (x :: xs) S2
theorem sa_nil : SA G [] mNil := pa_imp pa_nil fun σ H Q h => by
  obtain ⟨ρ, μ, S, at', q⟩ := h
  exact q μ H [] (Nx.refl μ H) at'.rs .nil
theorem sa_cons {mr : ML} (ha : SE G e ma) (hr : SA G es mr) (hs : starEach (e :: es) G.X.env = (false, eval e G.X.env) :: starEach es G.X.env := by rfl) : SA G (e :: es) (mCons ma mr) := pa_imp (pa_cons ha hr hs) fun σ H Q h => by
  obtain ⟨ρ, μ, S, at', q⟩ := h
  refine ⟨ρ, μ, S, at', po_1 at' q fun μ1 H1 S1 x v _ a1 d1 q1 => ?_⟩
  refine ⟨ρ, μ1, S1, a1, po_1 (Rel := relDs G.g) a1 q1 fun μ2 H2 S2 xs vs n a2 d2 q2 => ?_⟩
  exact q2 μ2 H2 (v :: vs) (Nx.refl μ2 H2) a2.rs (.cons (d1.mono n.pre n.hard) d2)
/-- from arguments -/
def mL (f : List D → Sto → R D) (ml : ML) : ME := fun ρ S => (ml ρ S).bind fun xs S1 => f xs S1
theorem tA_1 {f : List D → Sto → R D} {Rr : List V → Hp → Prop} {σ : L2.St} {H : Hp} {Q : VK} (h : tE G.g (mL f mA) σ H Q)
    (k : ∀ (μ : List Addr) (H : Hp) (S : Sto) (x : List D) (v : List V), RS G.X.K μ S H → RDs G.X.K μ H x v → Po G.g (relD G.g) μ H σ Q (f x S) → Rr v H) : tA G.g mA σ H Rr := by
  obtain ⟨ρ, μ, S, at', q⟩ := h
  exact ⟨ρ, μ, S, at', po_1 at' q fun μ H S x v _ a d q => k μ H S x v a.rs d q⟩
def tupD (xs : List D) (S : Sto) : R D := if xs.length ≤ sizeLine then .ok (.tup xs) S else .stuck
def lstD (xs : List D) (S : Sto) : R D := if xs.length ≤ sizeLine then .ok (.ref S.length) (S ++ [.lst xs]) else .stuck
theorem se_tup {x1} (h : SA G es mA) : SE G (.Tuple es x1 pos) (mL tupD mA) := pe_imp (pe_tup h) fun σ H Q h => tA_1 h fun μ H S xs vs rs r q => by
  unfold tupD at q
  split at q
  · rename_i hl
    exact ⟨by rw [← r.length]; exact hl, fun p hp => Po.newT rs hp r q⟩
  · exact q.elim
theorem se_lst (h : SA G es mA) : SE G (.List es pos) (mL lstD mA) := pe_imp (pe_lst h) fun σ H Q h => tA_1 h fun μ H S xs vs rs r q => by
  unfold lstD at q
  split at q
  · rename_i hl
    exact ⟨by rw [← r.length]; exact hl, fun p hp => Po.newL rs hp r q⟩
  · exact q.elim
/-! items, slices -/
theorem se_ix (ha : SE G a ma) (hb : SE G b mb) (hs : PlainIx b := by exact fun _ _ => rfl) : SE G (.Subscript a b pos) (m2 itemD ma mb) :=
  pe_imp (pe_ix ix_seq ha hb hs) fun σ H Q h => tE_2 h fun μ H S x y v u r1 d1 d2 q => item_ok μ H σ S x y v u Q r1 d1 d2 q
abbrev MO := Ev → Sto → R (Option Int)
def tO (G : Gx) (m : MO) : TO := fun σ H Q => ∃ ρ μ S, At G μ H ρ σ S ∧ Po G (fun _ _ (x y : Option Int) => x = y) μ H σ Q (m ρ S)
abbrev SO (G : Fx) (e : Option Expr) (m : MO) : Prop := PO G.X e (tO G.g m)
theorem po_imp {X : Cx} {e : Option Expr} {t t' : TO} (h : PO X e t) (i : ∀ σ H Q, t' σ H Q → t σ H Q) : PO X e t' := ⟨fun p s σ H Q I q => h.run p s σ H Q I (i _ _ _ q)⟩
def mNo : MO := fun _ S => .ok none S
def mYo (ma : ME) : MO := fun ρ S => (ma ρ S).bind fun d S1 => match d with
  | .int i => .ok (some i) S1
  | _ => .stuck
theorem so_no : SO G none mNo := po_imp po_none fun σ H Q h => by
  obtain ⟨ρ, μ, S, at', q⟩ := h
  exact q μ H none (Nx.refl μ H) at'.rs rfl
theorem so_yes (ha : SE G e ma) : SO G (some e) (mYo ma) := po_imp (po_some ha) fun σ H Q h => by
  obtain ⟨ρ, μ, S, at', q⟩ := h
  refine ⟨ρ, μ, S, at', po_1 at' q fun μ1 H1 S1 x v _ a1 d1 q1 => ?_⟩
  cases d1 <;> first | exact q1.elim | skip
  case int i => exact ⟨i, rfl, q1 μ1 H1 (some i) (Nx.refl μ1 H1) a1.rs rfl⟩
def mSl (ma : ME) (ml mh : MO) : ME := fun ρ S => (ma ρ S).bind fun x S1 => (ml ρ S1).bind fun lo S2 => (mh ρ S2).bind fun hi S3 => sliceD x lo hi S3
theorem se_slice {lo hi : Option Expr} {ml mh : MO} {p2 : Pos} (ha : SE G a ma) (hl : SO G lo ml) (hh : SO G hi mh) : SE G (.Subscript a (.Slice lo hi none p2) pos) (mSl ma ml mh) := pe_imp (pe_slice sl_X ha hl hh) fun σ H Q h => by
  obtain ⟨ρ, μ, S, at', q⟩ := h
  refine ⟨ρ, μ, S, at', po_1 at' q fun μ1 H1 S1 x v _ a1 d1 q1 => ?_⟩
  refine ⟨ρ, μ1, S1, a1, po_1 (Rel := fun _ _ (x y : Option Int) => x = y) a1 q1 fun μ2 H2 S2 lo lo' n2 a2 e2 q2 => ?_⟩
  refine ⟨ρ, μ2, S2, a2, po_1 (Rel := fun _ _ (x y : Option Int) => x = y) a2 q2 fun μ3 H3 S3 hi hi' n3 a3 e3 q3 => ?_⟩
  subst e2 e3
  exact slice_ok a3.rs ((d1.mono n2.pre n2.hard).mono n3.pre n3.hard) q3
/-! tests -/
def truD (S : Sto) : D → Option Bool
  | .non => some false
  | .bl b => some b
  | .int i => some (i != 0)
  | .str y => if y.length ≤ sizeLine then some ((y.length : Int) != 0) else none
  | .tup xs => some (!xs.isEmpty)
  | .rol xs => some (!xs.isEmpty)
  | .ref i => match S[i]? with
    | some (.lst xs) => some (!xs.isEmpty)
    | _ => none
  | .adr _ => none
theorem RDs.empty {K : PySem.W.Frag} {μ : List Addr} {H : Hp} {ds : List D} {vs : List V} (r : RDs K μ H ds vs) : ds.isEmpty = vs.isEmpty := by cases r <;> rfl
theorem tru_ok' {K : PySem.W.Frag} {μ : List Addr} {H : Hp} {S : Sto} {d : D} {v : V} {k : Bool} (rs : RS K μ S H) (r : RD K μ H d v) (h : truD S d = some k) : TruV K v H k := by
  cases r with
  | non => simp only [truD] at h; injection h with h; exact h.symm
  | bl b => simp only [truD] at h; injection h with h; exact h.symm
  | int i => simp only [truD] at h; injection h with h; exact h.symm
  | str y =>
    simp only [truD] at h
    split at h
    · injection h with h; exact ⟨by assumption, h.symm⟩
    · cases h
  | tup h1 r1 => simp only [truD] at h; injection h with h; exact .inr (.inl ⟨_, h1, by rw [← h, r1.empty]⟩)
  | rol h1 r1 => simp only [truD] at h; injection h with h; exact .inl ⟨_, h1.sq, by rw [← h, r1.empty]⟩
  | ref h1 =>
    simp only [truD] at h
    split at h
    · rename_i xs e1
      obtain ⟨vs, g, r1⟩ := rs.lst h1 e1
      injection h with h
      exact .inl ⟨vs, SqL.of g, by rw [← h, r1.empty]⟩
    · cases h
  | adr a => simp only [truD] at h; cases h
def mT (ma : ME) : MB := fun ρ S => (ma ρ S).bind fun d S1 => match truD S1 d with
  | some b => .ok b S1
  | none => .stuck
theorem tB_1 {σ : L2.St} {H : Hp} {Q : Bool → Hp → Prop} (h : tB G.g (mT ma) σ H Q) : tE G.g ma σ H fun v H1 => ∃ k, TruV G.X.K v H1 k ∧ Q k H1 := by
  obtain ⟨ρ, μ, S, at', q⟩ := h
  refine ⟨ρ, μ, S, at', po_1 at' q fun μ1 H1 S1 x v _ a1 d1 q1 => ?_⟩
  revert q1
  cases e : truD S1 x with
  | none => exact fun q1 => q1.elim
  | some k => exact fun q1 => ⟨k, tru_ok' a1.rs d1 e, q1 μ1 H1 k (Nx.refl μ1 H1) a1.rs rfl⟩
/-- an expression by its value's truth -/
theorem sb_val (ha : SE G a ma) (he : ∀ whole, isTrue a G.X.env whole = (do let v ← whole; standAt a.pos; holding [v] (truthy v)) := by intro _; rfl) : SB G a (mT ma) := pt_imp (pt_truth ha he) fun σ H Q h => tB_1 h
/-- a comparison's answer is a bool -/
def mTb (ma : ME) : MB := fun ρ S => (ma ρ S).bind fun d S1 => match d with
  | .bl b => .ok b S1
  | _ => .stuck
theorem tB_b {σ : L2.St} {H : Hp} {Q : Bool → Hp → Prop} (h : tB G.g (mTb ma) σ H Q) : tE G.g ma σ H fun v H1 => ∃ k, v = .bl k ∧ Q k H1 := by
  obtain ⟨ρ, μ, S, at', q⟩ := h
  refine ⟨ρ, μ, S, at', po_1 at' q fun μ1 H1 S1 x v _ a1 d1 q1 => ?_⟩
  cases d1 <;> first | exact q1.elim | skip
  case bl k => exact ⟨k, rfl, q1 μ1 H1 k (Nx.refl μ1 H1) a1.rs rfl⟩
theorem sb_cmp {op : CmpOp} {r : R2} {f : D → D → Sto → R D} (ho : OpR G.X (compareOp op) r) (hf : OpS G r f) (ha : SE G a ma) (hb : SE G b mb) (hm : behindInMarks op b = false) : SB G (.Compare a [op] [b] pos) (mTb (m2 f ma mb)) :=
  pt_imp (pt_cmpR ho ha hb hm) fun σ H Q h => tE_2 (tE_of_b h) fun μ H S x y v u r1 d1 d2 q => hf μ H σ S x y v u _ r1 d1 d2 q
where
  tE_of_b {σ : L2.St} {H : Hp} {Q : Bool → Hp → Prop} {m : ME} (h : tB G.g (mTb m) σ H Q) : tE G.g m σ H fun v H1 => ∃ k, v = .bl k ∧ Q k H1 := tB_b h
def mChain (f g : D → D → Sto → R D) (ma mb mc : ME) : ME := fun ρ S => (ma ρ S).bind fun x S1 => (mb ρ S1).bind fun y S2 => (f x y S2).bind fun z S3 => match z with
  | .bl true => (mc ρ S3).bind fun w S4 => g y w S4
  | .bl false => .ok (.bl false) S3
  | _ => .stuck
theorem tE_chain {r r' : R2} {f g : D → D → Sto → R D} (hf : OpS G r f) (hg : OpS G r' g) {σ : L2.St} {H : Hp} {Q : VK} (h : tE G.g (mChain f g ma mb mc) σ H Q) : tChain r r' (tE G.g ma) (tE G.g mb) (tE G.g mc) σ H Q := by
  obtain ⟨ρ, μ, S, at', q⟩ := h
  refine ⟨ρ, μ, S, at', po_1 at' q fun μ1 H1 S1 x v _ a1 d1 q1 => ?_⟩
  refine ⟨ρ, μ1, S1, a1, po_1 a1 q1 fun μ2 H2 S2 y u n2 a2 d2 q2 => ?_⟩
  refine hf μ2 H2 σ S2 x y v u _ a2.rs (d1.mono n2.pre n2.hard) d2 (po_1 a2 q2 fun μ3 H3 S3 z w n3 a3 d3 q3 => ?_)
  cases d3 <;> first | exact q3.elim | skip
  case bl k =>
    refine ⟨k, rfl, ?_⟩
    cases k with
    | true => exact ⟨ρ, μ3, S3, a3, po_1 a3 q3 fun μ4 H4 S4 z w n4 a4 d4 q4 => hg μ4 H4 σ S4 y z u w Q a4.rs ((d2.mono n3.pre n3.hard).mono n4.pre n4.hard) d4 q4⟩
    | false => exact q3 μ3 H3 _ (Nx.refl μ3 H3) a3.rs (.bl _)
/-- a op b op' c -/
theorem se_chain {op op' : CmpOp} {r r' : R2} {f g : D → D → Sto → R D} (ho : OpR G.X (compareOp op) r) (hf : OpS G r f) (ho' : OpR G.X (compareOp op') r') (hg : OpS G r' g) (ha : SE G a ma) (hb : SE G b mb) (hc : SE G c mc)
    (hm : lastMarks [op, op'] [b, c] = false := by with_unfolding_all rfl) : SE G (.Compare a [op, op'] [b, c] pos) (mChain f g ma mb mc) := pe_imp (pe_chain ho ho' ha hb hc hm) fun σ H Q h => tE_chain hf hg h
theorem sb_chain {op op' : CmpOp} {r r' : R2} {f g : D → D → Sto → R D} (ho : OpR G.X (compareOp op) r) (hf : OpS G r f) (ho' : OpR G.X (compareOp op') r') (hg : OpS G r' g) (ha : SE G a ma) (hb : SE G b mb) (hc : SE G c mc)
    (hm : lastMarks [op, op'] [b, c] = false := by with_unfolding_all rfl) : SB G (.Compare a [op, op'] [b, c] pos) (mTb (mChain f g ma mb mc)) := pt_imp (pt_chain ho ho' ha hb hc hm) fun σ H Q h => tE_chain hf hg (tB_b h)
/-! and, or, not -/
def mNot (ma : MB) : MB := fun ρ S => (ma ρ S).bind fun b S1 => .ok (!b) S1
def mAnd (ma mb : MB) : MB := fun ρ S => (ma ρ S).bind fun b S1 => if b then mb ρ S1 else .ok false S1
def mOr (ma mb : MB) : MB := fun ρ S => (ma ρ S).bind fun b S1 => if b then .ok true S1 else mb ρ S1
variable {ta tb : MB} {rest : List Expr}
theorem sb_not (ha : SB G a ta) : SB G (.UnaryOp .Not a pos) (mNot ta) := pt_imp (pt_not ha) fun σ H Q h => by
  obtain ⟨ρ, μ, S, at', q⟩ := h
  refine ⟨ρ, μ, S, at', po_1 (Rel := relB) at' q fun μ1 H1 S1 x v _ a1 d1 q1 => ?_⟩
  subst d1
  exact q1 μ1 H1 _ (Nx.refl μ1 H1) a1.rs rfl
abbrev SW (G : Fx) (e : Expr) (m : MB) : Prop := PW G.X e (tB G.g m)
theorem sw_and1 (ha : SB G a ta) : SW G (.BoolOp .And [a] pos) ta := pw_and1 ha
theorem sw_or1 (ha : SB G a ta) : SW G (.BoolOp .Or [a] pos) ta := pw_or1 ha
theorem sw_and (ha : SB G a ta) (hb : SW G (.BoolOp .And (b :: rest) pos) tb) : SW G (.BoolOp .And (a :: b :: rest) pos) (mAnd ta tb) := pw_imp (pw_and ha hb) fun σ H Q h => by
  obtain ⟨ρ, μ, S, at', q⟩ := h
  refine ⟨ρ, μ, S, at', po_1 (Rel := relB) at' q fun μ1 H1 S1 x v _ a1 d1 q1 => ?_⟩
  subst d1
  cases x with
  | true => exact ⟨ρ, μ1, S1, a1, q1⟩
  | false => exact q1 μ1 H1 false (Nx.refl μ1 H1) a1.rs rfl
theorem sw_or (ha : SB G a ta) (hb : SW G (.BoolOp .Or (b :: rest) pos) tb) : SW G (.BoolOp .Or (a :: b :: rest) pos) (mOr ta tb) := pw_imp (pw_or ha hb) fun σ H Q h => by
  obtain ⟨ρ, μ, S, at', q⟩ := h
  refine ⟨ρ, μ, S, at', po_1 (Rel := relB) at' q fun μ1 H1 S1 x v _ a1 d1 q1 => ?_⟩
  subst d1
  cases x with
  | true => exact q1 μ1 H1 true (Nx.refl μ1 H1) a1.rs rfl
  | false => exact ⟨ρ, μ1, S1, a1, q1⟩
theorem sb_w (h : SW G e ta) : SB G e ta := h.pt
/-- x and y, as a value -/
def mAndV (ma mb : ME) : ME := fun ρ S => (ma ρ S).bind fun d S1 => match truD S1 d with
  | some true => mb ρ S1
  | some false => .ok d S1
  | none => .stuck
def mOrV (ma mb : ME) : ME := fun ρ S => (ma ρ S).bind fun d S1 => match truD S1 d with
  | some true => .ok d S1
  | some false => mb ρ S1
  | none => .stuck
theorem se_one {op} (ha : SE G a ma) : SE G (.BoolOp op [a] pos) ma := pe_one ha
theorem se_and (ha : SE G a ma) (hb : SE G (.BoolOp .And (b :: rest) pos) mb) : SE G (.BoolOp .And (a :: b :: rest) pos) (mAndV ma mb) := pe_imp (pe_andT ha hb) fun σ H Q h => by
  obtain ⟨ρ, μ, S, at', q⟩ := h
  refine ⟨ρ, μ, S, at', po_1 at' q fun μ1 H1 S1 x v _ a1 d1 q1 => ?_⟩
  revert q1
  cases e : truD S1 x with
  | none => exact fun q1 => q1.elim
  | some k =>
    refine fun q1 => ⟨k, tru_ok' a1.rs d1 e, ?_⟩
    cases k with
    | true => exact ⟨ρ, μ1, S1, a1, q1⟩
    | false => exact q1 μ1 H1 v (Nx.refl μ1 H1) a1.rs d1
theorem se_or (ha : SE G a ma) (hb : SE G (.BoolOp .Or (b :: rest) pos) mb) : SE G (.BoolOp .Or (a :: b :: rest) pos) (mOrV ma mb) := pe_imp (pe_orT ha hb) fun σ H Q h => by
  obtain ⟨ρ, μ, S, at', q⟩ := h
  refine ⟨ρ, μ, S, at', po_1 at' q fun μ1 H1 S1 x v _ a1 d1 q1 => ?_⟩
  revert q1
  cases e : truD S1 x with
  | none => exact fun q1 => q1.elim
  | some k =>
    refine fun q1 => ⟨k, tru_ok' a1.rs d1 e, ?_⟩
    cases k with
    | false => exact ⟨ρ, μ1, S1, a1, q1⟩
    | true => exact q1 μ1 H1 v (Nx.refl μ1 H1) a1.rs d1
/-- not x, as a value -/
def notD (d : D) (S : Sto) : R D := match d with
  | .bl b => .ok (.bl (!b)) S
  | _ => .stuck
theorem se_not (ha : SE G a ma) : SE G (.UnaryOp .Not a pos) (m1 notD ma) := pe_imp (pe_not ha) fun σ H Q h => tE_1 h fun μ H S x v rs r q => by
  cases r <;> first | exact q.elim | skip
  case bl b => exact ⟨b, rfl, Po.same rs (.bl _) q⟩
def negD (d : D) (S : Sto) : R D := match d with
  | .int i => .ok (.int (-i)) S
  | _ => .stuck
theorem se_neg (ha : SE G a ma) : SE G (.UnaryOp .USub a pos) (m1 negD ma) := pe_imp (pe_un un_neg ha) fun σ H Q h => tE_1 h fun μ H S x v rs r q => by
  cases r <;> first | exact q.elim | skip
  case int i => exact ⟨i, rfl, Po.same rs (.int _) q⟩
def mIf (tc : MB) (ma mb : ME) : ME := fun ρ S => (tc ρ S).bind fun b S1 => if b then ma ρ S1 else mb ρ S1
theorem se_if {tc : MB} (hc : SB G c tc) (ha : SE G a ma) (hb : SE G b mb) : SE G (.IfExp c a b pos) (mIf tc ma mb) := pe_imp (pe_ifExp hc ha hb) fun σ H Q h => by
  obtain ⟨ρ, μ, S, at', q⟩ := h
  refine ⟨ρ, μ, S, at', po_1 (Rel := relB) at' q fun μ1 H1 S1 x v _ a1 d1 q1 => ?_⟩
  subst d1
  cases x with
  | true => exact ⟨ρ, μ1, S1, a1, q1⟩
  | false => exact ⟨ρ, μ1, S1, a1, q1⟩
/-! constants -/
theorem se_int {i : Int} {j} : SE G (.Constant (.int i) j pos) (mC (.int i)) := se_C pe_int fun _ _ => .int i
theorem se_bl {i : Bool} {j} : SE G (.Constant (.bool i) j pos) (mC (.bl i)) := se_C pe_bl fun _ _ => .bl i
theorem se_non {j} : SE G (.Constant .none j pos) (mC .non) := se_C pe_non fun _ _ => .non
theorem se_str {i : Str} {j} : SE G (.Constant (.str i) j pos) (mC (.str i)) := se_C pe_str fun _ _ => .str i
/-! built-in calls by values -/
def CallS (G : Fx) (r : List V → Hp → VK → Prop) (f : List D → Sto → R D) : Prop := ∀ (μ : List Addr) (H : Hp) (σ : L2.St) (S : Sto) (xs : List D) (vs : List V) (Q : VK), RS G.X.K μ S H → RDs G.X.K μ H xs vs → Po G.g (relD G.g) μ H σ Q (f xs S) → r vs H Q
theorem se_callB {id : String} {r : List V → Hp → VK → Prop} {f : List D → Sto → R D} (hc : CallR G.X (.builtin id) r) (hf : CallS G r f) (hg : Gl G.X x) (hm : G.X.mg x = none) (hv : bootBuiltins x = some (.builtin id)) (ha : SA G (e :: es) mA) (hn : x ≠ "__name__" := by decide) (hdb : (x == ("__debug__" : Str)) = false := by decide)
    (he : starEach (e :: es) G.X.env = (false, eval e G.X.env) :: starEach es G.X.env := by rfl) (hpl : (backTo pos (starEach es G.X.env)).any (·.1) = false := by rfl) : SE G (.Call (.Name x p) (e :: es) [] pos) (mL f mA) :=
  pe_imp (pe_callB hc hg hm hv ha hn hdb he hpl) fun σ H Q h => tA_1 h fun μ H S xs vs rs r q => hf μ H σ S xs vs Q rs r q
theorem se_callTy {T : String} {r : List V → Hp → VK → Prop} {f : List D → Sto → R D} (hc : CallR G.X (.type T) r) (hf : CallS G r f) (hg : Gl G.X x) (hm : G.X.mg x = none) (hv : bootBuiltins x = some (.type T)) (ha : SA G (e :: es) mA) (hn : x ≠ "__name__" := by decide) (hdb : (x == ("__debug__" : Str)) = false := by decide)
    (he : starEach (e :: es) G.X.env = (false, eval e G.X.env) :: starEach es G.X.env := by rfl) (hpl : (backTo pos (starEach es G.X.env)).any (·.1) = false := by rfl) : SE G (.Call (.Name x p) (e :: es) [] pos) (mL f mA) :=
  pe_imp (pe_callTy hc hg hm hv ha hn hdb he hpl) fun σ H Q h => tA_1 h fun μ H S xs vs rs r q => hf μ H σ S xs vs Q rs r q
end
end Dn

set_option Elab.async false
set_option linter.all false
set_option maxRecDepth 100000
set_option maxHeartbeats 2000000
namespace Dn
open PySem PySem.Spec PyProof.Rows L2
section
variable {G : Fx} {a b c e o : Expr} {es : List Expr} {ma mb mc : ME} {mA : ML} {pos p : Pos} {x : Str} {st : Stmt} {rest body : List Stmt} {ms mr : MS}
/-! ## statements -/
def sSkip : MS := fun ρ S => .nx ρ S
def F.seq (r : F) (k : Ev → Sto → F) : F := match r with
  | .nx ρ S => k ρ S
  | r => r
def sSeq (m k : MS) : MS := fun ρ S => (m ρ S).seq k
theorem ss_nil : SSs G [] sSkip := pss_imp pss_nil fun E σ H h => by
  obtain ⟨ρ, μ, S, at', q⟩ := h
  exact q μ H σ (Nx.refl μ H) at'.rs at'.re
theorem tS_seq {E : Ends} {σ : L2.St} {H : Hp} (h : tS G.g (sSeq ms mr) E σ H) : tSeq (tS G.g ms) (tS G.g mr) E σ H := by
  obtain ⟨ρ, μ, S, at', q⟩ := h
  refine ⟨ρ, μ, S, at', ?_⟩
  unfold sSeq F.seq at q
  revert q
  cases ms ρ S with
  | nx ρ1 S1 => exact fun q μ1 H1 σ1 n r e => ⟨ρ1, μ1, S1, ⟨e, r, G.pinK _ _ _ _ n at'.pin⟩, q.nx n⟩
  | rt d S1 => exact fun q => q
  | bk ρ1 S1 => exact fun q => q
  | ct ρ1 S1 => exact fun q => q
  | ex c fs ρ1 S1 => exact fun q => q
  | stuck => exact fun q => q
theorem ss_cons (h1 : SS G st ms) (h2 : SSs G rest mr) : SSs G (st :: rest) (sSeq ms mr) := pss_imp (pss_cons h1 h2) fun E σ H h => tS_seq h
theorem ss_one (h1 : SS G st ms) : SSs G [st] ms := pss_one h1
theorem ss_pass : SS G (.Pass pos) sSkip := ps_imp ps_pass fun E σ H h => by
  obtain ⟨ρ, μ, S, at', q⟩ := h
  exact q μ H σ (Nx.refl μ H) at'.rs at'.re
def sBreak : MS := fun ρ S => .bk ρ S
def sCont : MS := fun ρ S => .ct ρ S
theorem ss_break : SS G (.Break pos) sBreak := ps_imp ps_break fun E σ H h => by
  obtain ⟨ρ, μ, S, at', q⟩ := h
  exact q μ H σ (Nx.refl μ H) at'.rs at'.re
theorem ss_continue : SS G (.Continue pos) sCont := ps_imp ps_continue fun E σ H h => by
  obtain ⟨ρ, μ, S, at', q⟩ := h
  exact q μ H σ (Nx.refl μ H) at'.rs at'.re
theorem ss_doc {z j pos'} : SS G (.Expr (.Constant (.str z) j pos) pos') sSkip := ps_imp ps_doc fun E σ H h => by
  obtain ⟨ρ, μ, S, at', q⟩ := h
  exact q μ H σ (Nx.refl μ H) at'.rs at'.re
/-- from an expression's result to a statement's -/
theorem po_to {α β : Type} {Rel : List Addr → Hp → α → β → Prop} {μ : List Addr} {H : Hp} {σ : L2.St} {ρ : Ev} {S : Sto} {E : Ends} {Rr : β → Hp → Prop} {f : α → Sto → F} {r : R α} (at' : At G.g μ H ρ σ S)
    (q : PoS G.g μ H E (r.to ρ f)) (k : ∀ (μ' : List Addr) (H' : Hp) (S : Sto) (x : α) (v : β), Nx μ μ' H H' → At G.g μ' H' ρ σ S → Rel μ' H' x v → PoS G.g μ' H' E (f x S) → Rr v H') : Po G.g Rel μ H σ Rr r := by
  have q1 := Po.to (Rel := Rel) at'.re q
  revert q1
  cases r with
  | stuck => exact fun q1 => q1
  | exc c fs S1 => exact fun q1 => q1
  | ok x S1 =>
    intro q1 μ1 H1 v n1 r1 d1
    obtain ⟨x, μ1', S1', n1', r1', d1', q2⟩ := q1 μ1 H1 v n1 r1 d1
    exact k μ1' H1 S1' x v n1' (at'.nx n1' r1') d1' q2
def sRet (ma : ME) : MS := fun ρ S => (ma ρ S).to ρ fun d S1 => .rt d S1
theorem ss_ret (ha : SE G a ma) : SS G (.Return (some a) pos) (sRet ma) := ps_imp (ps_ret ha) fun E σ H h => by
  obtain ⟨ρ, μ, S, at', q⟩ := h
  exact ⟨ρ, μ, S, at', po_to at' q fun μ1 H1 S1 x v n a1 d1 q1 => q1 μ1 H1 v (Nx.refl μ1 H1) a1.rs d1⟩
def sRetN : MS := fun _ S => .rt .non S
theorem ss_retN : SS G (.Return none pos) sRetN := ps_imp ps_retN fun E σ H h => by
  obtain ⟨ρ, μ, S, at', q⟩ := h
  exact q μ H _ (Nx.refl μ H) at'.rs .non
def sExpr (ma : ME) : MS := fun ρ S => (ma ρ S).to ρ fun _ S1 => .nx ρ S1
theorem ss_expr (ha : SE G a ma) (hs : swapsWith a none pos.line G.X.env = pure false := by rfl) : SS G (.Expr a pos) (sExpr ma) := ps_imp (ps_expr ha hs) fun E σ H h => by
  obtain ⟨ρ, μ, S, at', q⟩ := h
  exact ⟨ρ, μ, S, at', po_to at' q fun μ1 H1 S1 x v n a1 d1 q1 => q1 μ1 H1 σ (Nx.refl μ1 H1) a1.rs a1.re⟩
def sIf (tc : MB) (m k : MS) : MS := fun ρ S => (tc ρ S).to ρ fun b S1 => if b then m ρ S1 else k ρ S1
theorem ss_if {tc : MB} {B1 B2 : List Stmt} {m k : MS} (hc : SB G c tc) (h1 : SSs G B1 m) (h2 : SSs G B2 k) : SS G (.If c B1 B2 pos) (sIf tc m k) := ps_imp (ps_if hc h1 h2) fun E σ H h => by
  obtain ⟨ρ, μ, S, at', q⟩ := h
  refine ⟨ρ, μ, S, at', po_to (Rel := relB) at' q fun μ1 H1 S1 x v n a1 d1 q1 => ?_⟩
  subst d1
  cases x with
  | true => exact ⟨ρ, μ1, S1, a1, q1⟩
  | false => exact ⟨ρ, μ1, S1, a1, q1⟩
/-! ## targets -/
def gN (i : Nat) : MG := fun d ρ S => .ok (ρ.set i (some d)) S
theorem sg_name (i : Nat) {y : Str} (hN : G.X.N.Nodup) (hi : G.X.N[i]? = some y := by rfl) (hx : Loc G.X.env.scope y := by first | exact Or.inl rfl | exact Or.inr rfl) (hf : G.X.fn y = true ∨ G.X.env.scope.names.lookup y = some .local := by first | exact .inl rfl | exact .inr rfl) : SG G [i] (.Name y pos) (gN i) :=
  pg_imp (pg_name hN hi hx hf) fun v σ H Q h => by
    obtain ⟨d, ρ, μ, S, at', r, q⟩ := h
    exact q μ H _ (Nx.refl μ H) at'.rs (at'.re.set i r) ⟨by simp, fun j hj => by rw [List.getElem?_set_ne (fun z => hj (by simp [z]))]⟩
def gs0 : MGs := fun ds ρ S => match ds with
  | [] => .ok ρ S
  | _ => .stuck
def gsC (g : MG) (gs : MGs) : MGs := fun ds ρ S => match ds with
  | d :: r => (g d ρ S).bind fun ρ1 S1 => gs r ρ1 S1
  | [] => .stuck
theorem sgs_nil : SGs G [] [] gs0 := pgs_imp pgs_nil fun vs σ H Q h => by
  obtain ⟨ds, ρ, μ, S, at', r, q⟩ := h
  cases r with
  | nil => exact ⟨rfl, q μ H σ (Nx.refl μ H) at'.rs at'.re (Off.refl _ _)⟩
  | cons _ _ => exact q.elim
theorem sgs_cons {g : MG} {gs : MGs} {ts us : List Nat} (h1 : SG G ts e g) (h2 : SGs G us es gs)
    (hs : (assignEach (e :: es) G.X.env).map (·.2) = assign e G.X.env :: (assignEach es G.X.env).map (·.2) := by rfl) : SGs G (ts ++ us) (e :: es) (gsC g gs) := pgs_imp (pgs_cons h1 h2 hs) fun vs σ H Q h => by
  obtain ⟨ds, ρ, μ, S, at', r, q⟩ := h
  cases r with
  | nil => exact q.elim
  | @cons d v ds vs r1 r2 =>
    refine ⟨v, vs, rfl, d, ρ, μ, S, at', r1, ?_⟩
    simp only [gsC] at q
    revert q
    cases g d ρ S with
    | stuck => exact fun q => q
    | exc c fs S1 => exact fun q => q
    | ok ρ1 S1 =>
      intro q μ1 H1 σ1 n1 rs1 re1 o1
      refine ⟨ds, ρ1, μ1, S1, ⟨re1, rs1, G.pinK _ _ _ _ n1 at'.pin⟩, r2.mono n1.pre n1.hard, ?_⟩
      have q' : PoG G.g (ts ++ us) μ H σ Q (gs ds ρ1 S1) := q
      revert q'
      cases gs ds ρ1 S1 with
      | stuck => exact fun q => q
      | exc c fs S1 => exact fun q => q
      | ok ρ2 S2 => exact fun q μ2 H2 σ2 n2 rs2 re2 o2 => q μ2 H2 σ2 (n1.trans n2) rs2 re2 (o1.trans o2)
def gT (n : Nat) (gs : MGs) : MG := fun d ρ S => match d with
  | .tup ds => if ds.length = n then gs ds ρ S else .stuck
  | _ => .stuck
theorem sg_tup {gs : MGs} {ts : List Nat} {k n : Nat} (hc : G.X.calm = true) (h : SGs G ts es gs) (hn : (assignEach es G.X.env).length = n := by rfl) (hst : (assignEach es G.X.env).findIdx? (·.1) = none := by rfl) : SG G ts (.Tuple es k pos) (gT n gs) :=
  pg_imp (pg_tup hc h hn hst) fun v σ H Q h => by
    obtain ⟨d, ρ, μ, S, at', r, q⟩ := h
    cases r <;> first | exact q.elim | skip
    case tup a vs ds h1 r1 =>
      simp only [gT] at q
      split at q
      · rename_i hl
        exact ⟨a, vs, rfl, h1, by rw [← r1.length]; exact hl, ds, ρ, μ, S, at', r1, q⟩
      · exact q.elim
def sAsg (ma : ME) (g : MG) : MS := fun ρ S => (ma ρ S).to ρ fun d S1 => match g d ρ S1 with
  | .ok ρ2 S2 => .nx ρ2 S2
  | _ => .stuck
theorem tS_asg {g : MG} {ts : List Nat} {E : Ends} {σ : L2.St} {H : Hp} (h : tS G.g (sAsg ma g) E σ H) : tAsg (tE G.g ma) (tG G.g ts g) E σ H := by
  obtain ⟨ρ, μ, S, at', q⟩ := h
  refine ⟨ρ, μ, S, at', po_to at' q fun μ1 H1 S1 d v n a1 d1 q1 => ?_⟩
  refine ⟨d, ρ, μ1, S1, a1, d1, ?_⟩
  revert q1
  cases g d ρ S1 with
  | stuck => exact fun q => q
  | exc c fs S2 => exact fun q => q
  | ok ρ2 S2 => exact fun q μ2 H2 σ2 n2 rs2 re2 o2 => q μ2 H2 σ2 n2 rs2 re2
theorem ss_asg {tg : Expr} {g : MG} {ts : List Nat} (ha : SE G a ma) (hg : SG G ts tg g) (hs : swapsWithSole [tg] a pos.line G.X.env = pure false := by rfl) (hw : swappedStores [tg] a G.X.env = pure none := by rfl)
    (h1 : (assignEach [tg] G.X.env).map (·.2) = [assign tg G.X.env] := by rfl) : SS G (.Assign [tg] a pos) (sAsg ma g) := ps_imp (ps_asg ha hg hs hw h1) fun E σ H h => tS_asg h
/-- name = e -/
def sSet (ma : ME) (i : Nat) : MS := fun ρ S => (ma ρ S).to ρ fun d S1 => .nx (ρ.set i (some d)) S1
theorem ss_set (i : Nat) {y : Str} {pos' : Pos} (ha : SE G a ma) (hN : G.X.N.Nodup) (hi : G.X.N[i]? = some y := by rfl) (hx : Loc G.X.env.scope y := by first | exact Or.inl rfl | exact Or.inr rfl) (hs : swapsWith a (some (.Name y pos')) pos.line G.X.env = pure false := by rfl)
    (hf : G.X.fn y = true ∨ G.X.env.scope.names.lookup y = some .local := by first | exact .inl rfl | exact .inr rfl) : SS G (.Assign [.Name y pos'] a pos) (sSet ma i) := ps_imp (ps_set hN hi hx ha hs hf) fun E σ H h => by
  obtain ⟨ρ, μ, S, at', q⟩ := h
  exact ⟨ρ, μ, S, at', po_to at' q fun μ1 H1 S1 d v n a1 d1 q1 => q1 μ1 H1 _ (Nx.refl μ1 H1) a1.rs (a1.re.set i d1)⟩
/-- o[i] = e -/
def putD (o i : D) (S : Sto) (d : D) : Option Sto := match o, i with
  | .ref r, .int k => match S[r]? with
    | some (.lst xs) => match ixN xs.length k with
      | some j => some (S.set r (.lst (xs.set j d)))
      | none => none
    | _ => none
  | _, _ => none
def gSub (mo mi : ME) : MG := fun d ρ S => (mo ρ S).bind fun o S1 => (mi ρ S1).bind fun i S2 => match putD o i S2 d with
  | some S3 => .ok ρ S3
  | none => .stuck
theorem nf_ok {α β : Type} {Rel : List Addr → Hp → α → β → Prop} {μ : List Addr} {H : Hp} {σ : L2.St} {ρ : Ev} {S : Sto} {ts : List Nat} {Q : L2.St → Hp → Prop} {Rr : β → Hp → Prop} {f : α → Sto → R Ev} {r : R α} (at' : At G.g μ H ρ σ S)
    (q : PoG G.g ts μ H σ Q (r.bind f)) (k : ∀ (μ' : List Addr) (H' : Hp) (S : Sto) (x : α) (v : β), Nx μ μ' H H' → At G.g μ' H' ρ σ S → Rel μ' H' x v → PoG G.g ts μ' H' σ Q (f x S) → Rr v H') : Po G.g Rel μ H σ Rr r := by
  revert q
  cases r with
  | stuck => exact fun q => q
  | exc c fs S1 => exact fun q => q.elim
  | ok x S1 =>
    intro q μ1 H1 v n1 r1 d1
    refine k μ1 H1 S1 x v n1 (at'.nx n1 r1) d1 ?_
    have q' : PoG G.g ts μ H σ Q (f x S1) := q
    revert q'
    cases f x S1 with
    | stuck => exact fun q => q
    | exc c fs S1 => exact fun q => q
    | ok ρ2 S2 => exact fun q μ2 H2 σ2 n2 rs2 re2 o2 => q μ2 H2 σ2 (n1.trans n2) rs2 re2 o2
theorem sg_sub {i : Expr} {mo mi : ME} (ho : SE G o mo) (hi : SE G i mi)
    (ha : ∀ v, assign (.Subscript o i pos) G.X.env v = (do
      let ov ← holding [v] (eval o G.X.env)
      let iv ← holding [v, ov] (eval i G.X.env)
      standAt pos
      holding [v, ov, iv] (setItem ov iv v)
      release [v, ov, iv] []) := by intro _; rfl) : SG G [] (.Subscript o i pos) (gSub mo mi) := pg_imp (pg_sub ho hi set_list ha) fun v σ H Q h => by
  obtain ⟨d, ρ, μ, S, at', r, q⟩ := h
  refine ⟨ρ, μ, S, at', nf_ok at' q fun μ1 H1 S1 ov u n1 a1 d1 q1 => ?_⟩
  refine ⟨ρ, μ1, S1, a1, nf_ok (Rel := relD G.g) a1 q1 fun μ2 H2 S2 iv w n2 a2 d2 q2 => ?_⟩
  have d1' := d1.mono n2.pre n2.hard
  have r' := (r.mono n1.pre n1.hard).mono n2.pre n2.hard
  cases d1' <;> cases d2 <;> first | exact q2.elim | skip
  case ref.int j p hj k =>
    simp only [putD] at q2
    cases e : S2[j]? with
    | none => simp only [e] at q2; exact q2.elim
    | some ob =>
      cases ob with
      | ins C fs => simp only [e] at q2; exact q2.elim
      | dk kvs => simp only [e] at q2; exact q2.elim
      | dt kvs => simp only [e] at q2; exact q2.elim
      | lst xs =>
        obtain ⟨vs, g, rv⟩ := a2.rs.lst hj e
        simp only [e] at q2
        cases e2 : ixN xs.length k with
        | none => simp only [e2] at q2; exact q2.elim
        | some m =>
          simp only [e2] at q2
          have hm := List.mem_of_getElem? hj
          have nx : Nx μ2 μ2 H2 (upd H2 p (.lst (vs.set m v))) := Nx.put hm g fun z => z
          refine ⟨p, vs, k, m, rfl, rfl, g, by rw [← rv.length]; exact e2, ?_⟩
          exact q2 μ2 _ σ nx (a2.rs.put hj ⟨_, upd_same, (RDs.set r' m rv).mono nx.pre nx.hard⟩) (a2.re.mono nx) (Off.refl _ _)
/-! ## walks -/
structure Wk where
  n : Nat
  get : Nat → Sto → Option D
  fin : Sto → Bool
abbrev MI := Ev → Sto → R Wk
structure RI (K : PySem.W.Frag) (μ₀ : List Addr) (H₀ : Hp) (it : Wk) (J : It) : Prop where
  go : ∀ (μ : List Addr) (H : Hp) (S : Sto) (k : Nat) (d : D), Nx μ₀ μ H₀ H → RS K μ S H → k < it.n → it.get k S = some d → J.go k H ∧ ∀ x H', J.yld k H x H' → Nx μ μ H H' ∧ RS K μ S H' ∧ RD K μ H' d x
  stop : ∀ (μ : List Addr) (H : Hp) (S : Sto), Nx μ₀ μ H₀ H → RS K μ S H → it.fin S = true → J.stop it.n H
def tI (G : Gx) (m : MI) : TI := fun σ H Rr => ∃ ρ μ S, At G μ H ρ σ S ∧ Po G (fun μ H it J => RI G.K μ H it J) μ H σ Rr (m ρ S)
abbrev SI (G : Fx) (tg e : Expr) (m : MI) : Prop := PI G.X tg e (tI G.g m)
theorem pi_imp {X : Cx} {tg e : Expr} {t t' : TI} (h : PI X tg e t) (i : ∀ σ H Q, t' σ H Q → t σ H Q) : PI X tg e t' := ⟨fun p s σ H Q I q => h.run p s σ H Q I (i _ _ _ q)⟩
def forF (it : Wk) (tg : MG) (body : MS) : Nat → Ev → Sto → F
  | 0, ρ, S => if it.fin S then .nx ρ S else .stuck
  | r + 1, ρ, S => match it.get (it.n - (r + 1)) S with
    | none => .stuck
    | some d => match tg d ρ S with
      | .ok ρ1 S1 => match body ρ1 S1 with
        | .nx ρ2 S2 => forF it tg body r ρ2 S2
        | .ct ρ2 S2 => forF it tg body r ρ2 S2
        | .bk ρ2 S2 => .nx ρ2 S2
        | .rt d S2 => .rt d S2
        | .ex c fs ρ2 S2 => .ex c fs ρ2 S2
        | .stuck => .stuck
      | _ => .stuck
def sFor (mi : MI) (tg : MG) (body : MS) : MS := fun ρ S => (mi ρ S).to ρ fun it S1 => forF it tg body it.n ρ S1
theorem tS_for {mi : MI} {g : MG} {ts : List Nat} {mb : MS} {E : Ends} {σ : L2.St} {H : Hp} (h : tS G.g (sFor mi g mb) E σ H) : tFor (tI G.g mi) (tG G.g ts g) (tS G.g mb) E σ H := by
  obtain ⟨ρ, μ, S, at', q⟩ := h
  refine ⟨ρ, μ, S, at', po_to (Rel := fun μ H it J => RI G.X.K μ H it J) at' q fun μ1 H1 S1 it J n1 a1 ri q1 => ?_⟩
  refine ⟨fun i m σ H => ∃ ρ μ S, m = it.n - i ∧ i ≤ it.n ∧ At G.g μ H ρ σ S ∧ Nx μ1 μ H1 H ∧ PoS G.g μ H E (forF it g mb (it.n - i) ρ S), ⟨it.n, ρ, μ1, S1, by simp, Nat.zero_le _, a1, Nx.refl _ _, by simpa using q1⟩, ?_⟩
  rintro i m σ2 H2 ⟨ρ2, μ2, S2, rfl, hi, a2, n2, q2⟩
  by_cases hlt : i < it.n
  · obtain ⟨r, hr⟩ : ∃ r, it.n - i = r + 1 := ⟨it.n - i - 1, by omega⟩
    have hk : it.n - (r + 1) = i := by omega
    rw [hr] at q2
    simp only [forF] at q2
    rw [hk] at q2
    cases e : it.get i S2 with
    | none => rw [e] at q2; exact q2.elim
    | some d =>
      rw [e] at q2
      obtain ⟨hgo, hy⟩ := ri.go μ2 H2 S2 i d n2 a2.rs hlt e
      refine .inr ⟨hgo, fun σ' H' => ∃ ρ μ S, At G.g μ H' ρ σ' S ∧ Nx μ1 μ H1 H' ∧ PoS G.g μ H' E (forF it g mb r ρ S), fun σ' H' ⟨ρ', μ', S', a', n', q'⟩ => ⟨r, by omega, ρ', μ', S', by omega, hlt, a', n', by rw [show it.n - (i + 1) = r by omega]; exact q'⟩, fun x H' y => ?_⟩
      obtain ⟨n3, rs3, rd3⟩ := hy x H' y
      have a3 := a2.nx n3 rs3
      refine ⟨d, ρ2, μ2, S2, a3, rd3, ?_⟩
      simp only at q2
      revert q2
      cases g d ρ2 S2 with
      | stuck => exact fun q => q
      | exc c fs S3 => exact fun q => q
      | ok ρ3 S3 =>
        intro q2 μ4 H4 σ4 n4 rs4 re4 o4
        have a4 : At G.g μ4 H4 ρ3 σ4 S3 := ⟨re4, rs4, G.pinK _ _ _ _ n4 a3.pin⟩
        refine ⟨ρ3, μ4, S3, a4, ?_⟩
        simp only at q2
        revert q2
        have n14 : Nx μ1 μ4 H1 H4 := (n2.trans n3).trans n4
        have n24 : Nx μ2 μ4 H2 H4 := n3.trans n4
        cases mb ρ3 S3 with
        | stuck => exact fun q => q
        | nx ρ5 S5 => exact fun q μ5 H5 σ5 n5 rs5 re5 => ⟨ρ5, μ5, S5, ⟨re5, rs5, G.pinK _ _ _ _ n5 a4.pin⟩, n14.trans n5, (q.nx n24).nx n5⟩
        | ct ρ5 S5 => exact fun q μ5 H5 σ5 n5 rs5 re5 => ⟨ρ5, μ5, S5, ⟨re5, rs5, G.pinK _ _ _ _ n5 a4.pin⟩, n14.trans n5, (q.nx n24).nx n5⟩
        | bk ρ5 S5 => exact fun q μ5 H5 σ5 n5 rs5 re5 => q μ5 H5 σ5 (n24.trans n5) rs5 re5
        | rt d5 S5 => exact fun q μ5 H5 v5 n5 rs5 rd5 => q μ5 H5 v5 (n24.trans n5) rs5 rd5
        | ex c fs ρ5 S5 => exact fun q μ5 H5 σ5 d5 n5 rs5 re5 x5 => q μ5 H5 σ5 d5 (n24.trans n5) rs5 re5 x5
  · have e : i = it.n := by omega
    subst e
    simp only [Nat.sub_self, forF] at q2
    split at q2
    · rename_i hf
      exact .inl ⟨ri.stop μ2 H2 S2 n2 a2.rs hf, q2 μ2 H2 σ2 (Nx.refl _ _) a2.rs a2.re⟩
    · exact q2.elim
theorem ss_for {tg iter : Expr} {mi : MI} {g : MG} {ts : List Nat} {mb : MS} (hp : PassesOwn (model G.X.prog G.X.w) G.X.A G.X.env G.X.xe) (hc : G.X.calm = true) (hi : SI G tg iter mi) (hg : SG G ts tg g) (hb : SSs G body mb)
    (hs : ∀ z, foldedSetIterable iter G.X.env z = pure z := by intro _; rfl) : SS G (.For tg iter body [] pos) (sFor mi g mb) := ps_imp (ps_for hp hc hi hg hb hs) fun E σ H h => tS_for h
/-! the things that are walked -/
def itT (ds : List D) : Wk := ⟨ds.length, fun k _ => ds[k]?, fun _ => true⟩
def lenL (S : Sto) (i : Nat) : Option Nat := match S[i]? with
  | some (.lst xs) => some xs.length
  | _ => none
def itL (i n : Nat) : Wk := ⟨n, fun k S => match S[i]? with
  | some (.lst xs) => if xs.length = n then xs[k]? else none
  | _ => none, fun S => lenL S i == some n⟩
def itR (lo : Int) (n : Nat) : Wk := ⟨n, fun k _ => some (.int (lo + (k : Nat))), fun _ => true⟩
theorem ri_tup {K : PySem.W.Frag} {μ : List Addr} {H : Hp} {a : Addr} {vs : List V} {ds : List D} (h : SqT K H a vs) (r : RDs K μ H ds vs) : RI K μ H (itT ds) (Itt K a) where
  go := fun μ1 H1 S k d n rs hk e => by
    obtain ⟨v, hv, rv⟩ := r.get (show ds[k]? = some d from e)
    have h1 := n.hard.sqT h
    refine ⟨⟨vs, v, h1, hv⟩, fun x H' y => ?_⟩
    obtain ⟨rfl, hy⟩ := y
    have e2 := hy vs h1
    rw [hv] at e2; cases e2
    exact ⟨Nx.refl _ _, rs, rv.mono n.pre n.hard⟩
  stop := fun μ1 H1 S n rs _ => ⟨vs, n.hard.sqT h, by rw [← r.length]; exact Nat.le_refl _⟩
theorem ri_rol {K : PySem.W.Frag} {μ : List Addr} {H : Hp} {a : Addr} {vs : List V} {ds : List D} (h : RoL K H a vs) (r : RDs K μ H ds vs) : RI K μ H (itT ds) (Itl K a) where
  go := fun μ1 H1 S k d n rs hk e => by
    obtain ⟨v, hv, rv⟩ := r.get (show ds[k]? = some d from e)
    have h1 := (n.hard.roL h).sq
    refine ⟨⟨vs, v, h1, hv⟩, fun x H' y => ?_⟩
    obtain ⟨rfl, hy⟩ := y
    have e2 := hy vs h1
    rw [hv] at e2; cases e2
    exact ⟨Nx.refl _ _, rs, rv.mono n.pre n.hard⟩
  stop := fun μ1 H1 S n rs _ => ⟨vs, (n.hard.roL h).sq, by rw [← r.length]; exact Nat.le_refl _⟩
theorem Nx.at {μ μ' : List Addr} {H H' : Hp} {i : Nat} {a : Addr} (n : Nx μ μ' H H') (h : μ[i]? = some a) : μ'[i]? = some a := by
  obtain ⟨t, rfl⟩ := n.pre
  rw [List.getElem?_append_left (List.getElem?_eq_some_iff.mp h).1]; exact h
theorem ri_lst {K : PySem.W.Frag} {μ : List Addr} {H : Hp} {a : Addr} {i m : Nat} (h : μ[i]? = some a) : RI K μ H (itL i m) (Itl K a) where
  go := fun μ1 H1 S k d n rs hk e => by
    simp only [itL] at e
    split at e
    · rename_i xs e1
      split at e
      · obtain ⟨vs, g, r⟩ := rs.lst (n.at h) e1
        obtain ⟨v, hv, rv⟩ := r.get e
        refine ⟨⟨vs, v, SqL.of g, hv⟩, fun x H' y => ?_⟩
        obtain ⟨rfl, hy⟩ := y
        have e2 := hy vs (SqL.of g)
        rw [hv] at e2; cases e2
        exact ⟨Nx.refl _ _, rs, rv⟩
      · cases e
    · cases e
  stop := fun μ1 H1 S n rs e => by
    simp only [itL, lenL, beq_iff_eq] at e
    split at e
    · rename_i xs e1
      obtain ⟨vs, g, r⟩ := rs.lst (n.at h) e1
      injection e with e
      exact ⟨vs, SqL.of g, by rw [← r.length, e]; exact Nat.le_refl _⟩
    · cases e
theorem ri_rng {K : PySem.W.Frag} {μ : List Addr} {H : Hp} {lo : Int} {n : Nat} : RI K μ H (itR lo n) (L2.Itr lo n) where
  go := fun μ1 H1 S k d n rs hk e => by
    refine ⟨hk, fun x H' y => ?_⟩
    obtain ⟨rfl, rfl⟩ := y
    cases e
    exact ⟨Nx.refl _ _, rs, .int _⟩
  stop := fun _ _ _ _ _ _ => Nat.le_refl _
/-- list or tuple -/
def walkD (S : Sto) : D → Option Wk
  | .tup ds => some (itT ds)
  | .rol ds => some (itT ds)
  | .ref i => match lenL S i with
    | some n => some (itL i n)
    | none => none
  | _ => none
end
end Dn

set_option Elab.async false
set_option linter.all false
set_option maxRecDepth 100000
set_option maxHeartbeats 2000000
namespace Dn
open PySem PySem.Spec PyProof.Rows L2 RZ
section
variable {G : Fx} {a b c e o : Expr} {es : List Expr} {ma mb mc : ME} {mA : ML} {pos p : Pos} {x : Str} {tg : Expr}
/-! ## what is walked -/
def iSeq (K : PySem.W.Frag) (tl : TE) : TI := fun σ H R => tl σ H fun v H1 => (∃ q, v = .ref q ∧ (∃ ws, SqL K H1 q ws) ∧ R (Itl K q) H1) ∨ (∃ q, v = .ref q ∧ (∃ ws, SqT K H1 q ws) ∧ R (Itt K q) H1)
theorem pi_seq {X : Cx} {l : Expr} {tl : TE} (hl : PE X l tl) : PI X tg l (iSeq X.K tl) := by
  refine ⟨fun pp st ss HH RR J hq => thn (hl.run pp st ss HH _ J hq) fun vv s1 hv => ?_⟩
  obtain ⟨y, H1, I1, r1, q1⟩ := hv
  have fr : ∀ c ∈ [s1.heap.objs.size], FpOk X pp H1 c := fun c hc => by
    rw [List.mem_singleton.mp hc]
    exact I1.fpOk (Nat.le_refl _) (I1.hok.fresh (Nat.le_refl _))
  rcases q1 with ⟨q, rfl, ⟨ws, hw⟩, fin⟩ | ⟨q, rfl, ⟨ws, hw⟩, fin⟩
  · cases r1
    obtain ⟨its, _, pl, _⟩ := I1.list hw
    exact wpAny_pyIter_list pl.isList ⟨_, [s1.heap.objs.size], _, _, H1, rfl, I1.kept (t' := s1.toks) (fun _ _ e => Heap.get?_push_of_some _ e), turn_list q _, ⟨_, Heap.get?_push_size _ rfl, rfl, rfl⟩, fr, fin⟩
  · cases r1
    obtain ⟨its, _, pl, _⟩ := I1.tuple hw
    exact wpAny_pyIter_tuple (show s1.heap.IsTuple q its.toArray from pl) ⟨_, [s1.heap.objs.size], _, _, H1, rfl, I1.kept (t' := s1.toks) (fun _ _ e => Heap.get?_push_of_some _ e), turn_tuple q _, ⟨_, Heap.get?_push_size _ rfl, rfl, rfl⟩, fr, fin⟩
def mI (ma : ME) : MI := fun ρ S => (ma ρ S).bind fun d S1 => match walkD S1 d with
  | some it => .ok it S1
  | none => .stuck
theorem lenL_some {S : Sto} {i n : Nat} (h : lenL S i = some n) : ∃ xs, S[i]? = some (.lst xs) ∧ xs.length = n := by
  unfold lenL at h
  split at h
  · injection h with h; exact ⟨_, by assumption, h⟩
  · cases h
theorem si_seq (ha : SE G a ma) : SI G tg a (mI ma) := pi_imp (pi_seq ha) fun σ H Rr h => by
  obtain ⟨ρ, μ, S, at', q⟩ := h
  refine ⟨ρ, μ, S, at', po_1 (Rel' := fun μ H it J => RI G.X.K μ H it J) at' q fun μ1 H1 S1 d v n1 a1 d1 q1 => ?_⟩
  cases d1 <;> first | exact q1.elim | skip
  case tup q vs ds h1 r1 => exact .inr ⟨q, rfl, ⟨_, h1⟩, q1 μ1 H1 _ (Nx.refl _ _) a1.rs (ri_tup h1 r1)⟩
  case rol q vs ds h1 r1 => exact .inl ⟨q, rfl, ⟨_, h1.sq⟩, q1 μ1 H1 _ (Nx.refl _ _) a1.rs (ri_rol h1 r1)⟩
  case ref i q h1 =>
    simp only [walkD] at q1
    cases e : lenL S1 i with
    | none => rw [e] at q1; exact q1.elim
    | some n =>
      rw [e] at q1
      obtain ⟨xs, e1, _⟩ := lenL_some e
      obtain ⟨vs, g, _⟩ := a1.rs.lst h1 e1
      exact .inl ⟨q, rfl, ⟨_, SqL.of g⟩, q1 μ1 H1 _ (Nx.refl _ _) a1.rs (ri_lst h1)⟩
def rngI (lo hi : Int) : Option Wk := if -(2 ^ 62) ≤ lo ∧ lo < 2 ^ 62 ∧ -(2 ^ 62) ≤ hi ∧ hi < 2 ^ 62 then some (itR lo (hi - lo).toNat) else none
def rng1 (ds : List D) : Option Wk := match ds with
  | [.int j] => rngI 0 j
  | _ => none
def rng2 (ds : List D) : Option Wk := match ds with
  | [.int i, .int j] => rngI i j
  | _ => none
def mIA (f : List D → Sto → Option Wk) (mA : ML) : MI := fun ρ S => (mA ρ S).bind fun ds S1 => match f ds S1 with
  | some it => .ok it S1
  | none => .stuck
theorem tI_A {f : List D → Sto → Option Wk} {σ : L2.St} {H : Hp} {Rr : It → Hp → Prop} {R0 : List V → Hp → Prop} (h : tI G.g (mIA f mA) σ H Rr)
    (k : ∀ (μ : List Addr) (H : Hp) (S : Sto) (ds : List D) (vs : List V) (it : Wk), RS G.X.K μ S H → RDs G.X.K μ H ds vs → f ds S = some it → (∀ J, RI G.X.K μ H it J → Rr J H) → R0 vs H) : tA G.g mA σ H R0 := by
  obtain ⟨ρ, μ, S, at', q⟩ := h
  refine ⟨ρ, μ, S, at', po_1 (Rel := relDs G.g) (Rel' := fun μ H it J => RI G.X.K μ H it J) at' q fun μ1 H1 S1 ds vs n1 a1 d1 q1 => ?_⟩
  cases e : f ds S1 with
  | none => rw [e] at q1; exact q1.elim
  | some it =>
    rw [e] at q1
    exact k μ1 H1 S1 ds vs it a1.rs d1 e fun J hJ => q1 μ1 H1 J (Nx.refl _ _) a1.rs hJ
theorem rngI_some {lo hi : Int} {it : Wk} (h : rngI lo hi = some it) : (-(2 ^ 62) ≤ lo ∧ lo < 2 ^ 62 ∧ -(2 ^ 62) ≤ hi ∧ hi < 2 ^ 62) ∧ it = itR lo (hi - lo).toNat := by
  unfold rngI at h
  split at h
  · injection h with h; exact ⟨by assumption, h.symm⟩
  · cases h
theorem si_range1 (hg : Gl G.X "range") (hm : G.X.mg "range" = none) (ha : SA G [a] mA) (hs : starEach [a] G.X.env = [(false, eval a G.X.env)] := by rfl) : SI G tg (.Call (.Name "range" p) [a] [] pos) (mIA (fun ds _ => rng1 ds) mA) :=
  pi_imp (pi_range1 hg hm ha hs) fun σ H Rr h => tI_A h fun μ H S ds vs it rs r e k => by
    unfold rng1 at e
    split at e
    · rename_i j
      cases r with
      | cons r1 r2 =>
        cases r1; cases r2
        obtain ⟨hb, rfl⟩ := rngI_some e
        exact ⟨j, rfl, hb.2.2.1, hb.2.2.2, by have := k _ (ri_rng (lo := 0) (n := (j - 0).toNat)); simpa using this⟩
    · cases e
theorem si_range2 (hg : Gl G.X "range") (hm : G.X.mg "range" = none) (ha : SA G [a, b] mA) (hs : starEach [a, b] G.X.env = [(false, eval a G.X.env), (false, eval b G.X.env)] := by rfl) (hs2 : starEach [b] G.X.env = [(false, eval b G.X.env)] := by rfl) :
    SI G tg (.Call (.Name "range" p) [a, b] [] pos) (mIA (fun ds _ => rng2 ds) mA) :=
  pi_imp (pi_range2 hg hm ha hs hs2) fun σ H Rr h => tI_A h fun μ H S ds vs it rs r e k => by
    unfold rng2 at e
    split at e
    · rename_i i j
      cases r with
      | cons r1 r2 =>
        cases r1
        cases r2 with
        | cons r1 r2 =>
          cases r1; cases r2
          obtain ⟨hb, rfl⟩ := rngI_some e
          exact ⟨i, j, rfl, hb, k _ ri_rng⟩
    · cases e
/-! zip of two tuples -/
def itZT (xs ys : List D) : Wk := ⟨min xs.length ys.length, fun k _ => match xs[k]?, ys[k]? with
  | some x, some y => some (.tup [x, y])
  | _, _ => none, fun _ => true⟩
theorem ri_zipT {K : PySem.W.Frag} {μ : List Addr} {H : Hp} {p q : Addr} {vs ws : List V} {ds es : List D} (h : SqT K H p vs) (r : RDs K μ H ds vs) (h' : SqT K H q ws) (r' : RDs K μ H es ws) : RI K μ H (itZT ds es) (ItzT K p q) where
  go := fun μ1 H1 S k d n rs hk e => by
    have g1 := n.hard.sqT h
    have g2 := n.hard.sqT h'
    simp only [itZT] at e
    split at e
    · rename_i x y ex ey
      injection e with e
      subst e
      obtain ⟨v, hv, rv⟩ := r.get ex
      obtain ⟨w, hw, rw'⟩ := r'.get ey
      refine ⟨⟨vs, ws, v, w, g1, g2, hv, hw⟩, fun z H' yy => ?_⟩
      obtain ⟨T, x', y', rfl, hT, rfl, f1, f2⟩ := yy
      have e1 := f1 vs g1
      have e2 := f2 ws g2
      rw [hv] at e1; cases e1
      rw [hw] at e2; cases e2
      have nx : Nx μ1 μ1 H1 (upd H1 T (.tup [v, w])) := Nx.hardNew hT
      exact ⟨nx, rs.hardNew hT, .tup (SqT.of upd_same) (.cons ((rv.mono n.pre n.hard).mono nx.pre nx.hard) (.cons ((rw'.mono n.pre n.hard).mono nx.pre nx.hard) .nil))⟩
    · cases e
  stop := fun μ1 H1 S n rs _ => ⟨vs, ws, n.hard.sqT h, n.hard.sqT h', by
    have l1 := r.length
    have l2 := r'.length
    show vs.length ≤ min ds.length es.length ∨ ws.length ≤ min ds.length es.length
    omega⟩
def itZL (i j n m : Nat) : Wk := ⟨min n m, fun k S => match S[i]?, S[j]? with
  | some (.lst xs), some (.lst ys) => if xs.length = n ∧ ys.length = m then (match xs[k]?, ys[k]? with
    | some x, some y => some (.tup [x, y])
    | _, _ => none) else none
  | _, _ => none, fun S => lenL S i == some n && lenL S j == some m⟩
theorem ri_zipL {K : PySem.W.Frag} {μ : List Addr} {H : Hp} {p q : Addr} {i j n m : Nat} (h : μ[i]? = some p) (h' : μ[j]? = some q) : RI K μ H (itZL i j n m) (Itz K p q) where
  go := fun μ1 H1 S k d nx rs hk e => by
    simp only [itZL] at e
    split at e
    · rename_i xs ys e1 e2
      split at e
      · obtain ⟨vs, g1, r⟩ := rs.lst (nx.at h) e1
        obtain ⟨ws, g2, r'⟩ := rs.lst (nx.at h') e2
        split at e
        · rename_i x y ex ey
          injection e with e
          subst e
          obtain ⟨v, hv, rv⟩ := r.get ex
          obtain ⟨w, hw, rw'⟩ := r'.get ey
          refine ⟨⟨vs, ws, v, w, SqL.of g1, SqL.of g2, hv, hw⟩, fun z H' yy => ?_⟩
          obtain ⟨T, x', y', rfl, hT, rfl, f1, f2⟩ := yy
          have e1 := f1 vs (SqL.of g1)
          have e2 := f2 ws (SqL.of g2)
          rw [hv] at e1; cases e1
          rw [hw] at e2; cases e2
          have n3 : Nx μ1 μ1 H1 (upd H1 T (.tup [v, w])) := Nx.hardNew hT
          exact ⟨n3, rs.hardNew hT, .tup (SqT.of upd_same) (.cons (rv.mono n3.pre n3.hard) (.cons (rw'.mono n3.pre n3.hard) .nil))⟩
        · cases e
      · cases e
    · cases e
  stop := fun μ1 H1 S nx rs e => by
    simp only [itZL, Bool.and_eq_true, beq_iff_eq] at e
    obtain ⟨xs, e1, l1⟩ := lenL_some e.1
    obtain ⟨ys, e2, l2⟩ := lenL_some e.2
    obtain ⟨vs, g1, r⟩ := rs.lst (nx.at h) e1
    obtain ⟨ws, g2, r'⟩ := rs.lst (nx.at h') e2
    refine ⟨vs, ws, SqL.of g1, SqL.of g2, ?_⟩
    have l3 := r.length
    have l4 := r'.length
    show vs.length ≤ min n m ∨ ws.length ≤ min n m
    omega
def zipI (ds : List D) (S : Sto) : Option Wk := match ds with
  | [.tup xs, .tup ys] => some (itZT xs ys)
  | [.ref i, .ref j] => match lenL S i, lenL S j with
    | some n, some m => some (itZL i j n m)
    | _, _ => none
  | _ => none
theorem si_zip {elts : List Expr} {kk : Nat} {tpos : Pos} (hg : Gl G.X "zip") (hm : G.X.mg "zip" = none) (ha : SA G [a, b] mA) (hs : starEach [a, b] G.X.env = (false, eval a G.X.env) :: starEach [b] G.X.env := by rfl)
    (hpl : (backTo pos (starEach [b] G.X.env)).any (·.1) = false := by rfl) : SI G (.Tuple elts kk tpos) (.Call (.Name "zip" p) [a, b] [] pos) (mIA zipI mA) :=
  pi_imp (pi_zipA hg hm ha hs hpl) fun σ H Rr h => tI_A h fun μ H S ds vs it rs r e k => by
    unfold zipI at e
    split at e
    · rename_i xs ys
      injection e with e
      subst e
      cases r with
      | cons r1 r2 =>
        cases r1 with
        | @tup p1 v1 _ h1 d1 =>
          cases r2 with
          | cons r1 r2 =>
            cases r2
            cases r1 with
            | @tup p2 v2 _ h2 d2 => exact ⟨p1, p2, v1, v2, rfl, .inr ⟨h1, h2, k _ (ri_zipT h1 d1 h2 d2)⟩⟩
    · rename_i i j
      split at e
      · rename_i n m e1 e2
        injection e with e
        subst e
        obtain ⟨xs, f1, _⟩ := lenL_some e1
        obtain ⟨ys, f2, _⟩ := lenL_some e2
        cases r with
        | cons r1 r2 =>
          cases r1 with
          | ref h1 =>
            cases r2 with
            | cons r1 r2 =>
              cases r2
              cases r1 with
              | ref h2 =>
                obtain ⟨vs, g1, _⟩ := rs.lst h1 f1
                obtain ⟨ws, g2, _⟩ := rs.lst h2 f2
                exact ⟨_, _, vs, ws, rfl, .inl ⟨SqL.of g1, SqL.of g2, k _ (ri_zipL h1 h2)⟩⟩
      · cases e
    · cases e
/-! ## comprehensions -/
def wipeE (ρ : Ev) : List Nat → Ev
  | [] => ρ
  | v :: vs => (wipeE ρ vs).set v none
theorem RE.unset {K : PySem.W.Frag} {μ : List Addr} {H : Hp} {ρ : Ev} {σ : L2.St} (r : RE K μ H ρ σ) (i : Nat) : RE K μ H (ρ.set i none) (σ.set i none) := by
  refine ⟨by simp [r.1], fun j d q => ?_⟩
  by_cases hj : i = j
  · subst hj
    by_cases hl : i < ρ.length
    · rw [List.getElem?_set_self hl] at q; cases q
    · rw [List.getElem?_eq_none (by simpa using hl)] at q; cases q
  · rw [List.getElem?_set_ne hj] at q
    rw [List.getElem?_set_ne hj]
    exact r.2 j d q
theorem RE.wipe {K : PySem.W.Frag} {μ : List Addr} {H : Hp} {ρ : Ev} {σ : L2.St} (r : RE K μ H ρ σ) : ∀ vs : List Nat, RE K μ H (wipeE ρ vs) (L2.wipe σ vs)
  | [] => r
  | v :: vs => (RE.wipe r vs).unset v
theorem wipe_out {σ : L2.St} {i : Nat} : ∀ {vs : List Nat}, i ∉ vs → (L2.wipe σ vs)[i]? = σ[i]?
  | [], _ => rfl
  | v :: vs, h => by
    rw [List.mem_cons, not_or] at h
    show ((L2.wipe σ vs).set v none)[i]? = _
    rw [List.getElem?_set_ne (fun z => h.1 z.symm)]
    exact wipe_out h.2
theorem wipe_in {σ : L2.St} {i : Nat} : ∀ {vs : List Nat}, i ∈ vs → (L2.wipe σ vs)[i]? = if i < σ.length then some none else none
  | v :: vs, h => by
    show ((L2.wipe σ vs).set v none)[i]? = _
    by_cases hv : v = i
    · subst hv
      split
      · rw [List.getElem?_set_self (by rw [wipe_length]; assumption)]
      · rw [List.getElem?_eq_none (by rw [List.length_set, wipe_length]; omega)]
    · rw [List.getElem?_set_ne hv]
      refine wipe_in ?_
      rcases List.mem_cons.mp h with z | z
      · exact absurd z.symm hv
      · exact z
theorem Off.wipe {ts vs : List Nat} {σ σ' : L2.St} (o : Off ts (L2.wipe σ vs) σ') (h : ∀ i ∈ ts, i ∈ vs) : L2.wipe σ' vs = L2.wipe σ vs := by
  have hl : σ'.length = σ.length := by rw [o.1, wipe_length]
  apply List.ext_getElem?
  intro i
  by_cases hi : i ∈ vs
  · rw [wipe_in hi, wipe_in hi, hl]
  · rw [wipe_out hi, o.2 i fun z => hi (h i z)]
def R.bindN {α β : Type} (r : R α) (f : α → Sto → R β) : R β := match r with
  | .ok a S => f a S
  | _ => .stuck
def lcF (it : Wk) (tg : MG) (tt : MB) (te : ME) (own : List Nat) (id : Nat) (ρ : Ev) : Nat → Sto → R Unit
  | 0, S => if it.fin S then .ok () S else .stuck
  | r + 1, S => match it.get (it.n - (r + 1)) S with
    | none => .stuck
    | some d => (tg d (wipeE ρ own) S).bindN fun ρ1 S1 => (tt ρ1 S1).bindN fun b S2 => if b then (te ρ1 S2).bindN fun y S3 => (match S3[id]? with
        | some (.lst acc) => if acc.length < sizeLine then lcF it tg tt te own id ρ r (S3.set id (.lst (acc ++ [y]))) else .stuck
        | _ => .stuck) else lcF it tg tt te own id ρ r S2
def mLc (mi : MI) (tg : MG) (tt : MB) (te : ME) (own : List Nat) : ME := fun ρ S => (mi ρ S).bind fun it S1 => (lcF it tg tt te own S1.length ρ it.n (S1 ++ [.lst []])).bindN fun _ S2 => .ok (.ref S1.length) S2
/-- within a comprehension's block -/
abbrev Gx.blk (g : Gx) : Gx := ⟨g.K, fun _ _ _ _ => False, g.pin, g.pinK⟩
abbrev Fx.blk (G : Fx) (s : Shared) (H : Hp) (scope : Scope) (cenv : Env) (fp : List Addr) : Fx := ⟨G.X.blk s H scope cenv fp, fun _ _ _ _ => False, takes0, G.pin, G.pinK⟩
theorem tE_lc {mi : MI} {g : MG} {tt : MB} {te : ME} {own ts : List Nat} {σ : L2.St} {H : Hp} {Q : VK} (hts : ∀ i ∈ ts, i ∈ own) (h : tE G.g (mLc mi g tt te own) σ H Q) :
    tLc (tI G.g mi) (tG G.g.blk ts g) (tB G.g.blk tt) (tE G.g.blk te) own σ H Q := by
  obtain ⟨ρ, μ, S, at', q⟩ := h
  refine ⟨ρ, μ, S, at', po_1 (Rel := fun μ H it J => RI G.X.K μ H it J) at' q fun μ1 H1 S1 it J n1 a1 ri q1 => ?_⟩
  intro A hA
  have nA : Nx μ1 (μ1 ++ [A]) H1 (upd H1 A (.lst [])) := Nx.new1 hA
  have rA : RS G.X.K (μ1 ++ [A]) (S1 ++ [.lst []]) (upd H1 A (.lst [])) := a1.rs.new1 hA ⟨[], upd_same, .nil⟩
  have eA : (μ1 ++ [A])[S1.length]? = some A := by simp [← a1.rs.len]
  refine ⟨fun i m H => ∃ μ S, m = it.n - i ∧ i ≤ it.n ∧ At G.g μ H ρ σ S ∧ Nx (μ1 ++ [A]) μ (upd H1 A (.lst [])) H ∧ Po G.g (relD G.g) μ H σ Q ((lcF it g tt te own S1.length ρ (it.n - i) S).bindN fun _ S2 => .ok (.ref S1.length) S2),
    ⟨it.n, _, _, by simp, Nat.zero_le _, a1.nx nA rA, Nx.refl _ _, Po.nx nA (by simpa using q1)⟩, ?_⟩
  rintro i m H2 ⟨μ2, S2, rfl, hi, a2, n2, q2⟩
  by_cases hlt : i < it.n
  · obtain ⟨r, hr⟩ : ∃ r, it.n - i = r + 1 := ⟨it.n - i - 1, by omega⟩
    have hk : it.n - (r + 1) = i := by omega
    rw [hr] at q2
    simp only [lcF] at q2
    rw [hk] at q2
    cases e : it.get i S2 with
    | none => rw [e] at q2; exact q2.elim
    | some d =>
      rw [e] at q2
      obtain ⟨hgo, hy⟩ := ri.go μ2 H2 S2 i d (nA.trans n2) a2.rs hlt e
      refine .inr ⟨hgo, fun H' => ∃ μ S, At G.g μ H' ρ σ S ∧ Nx (μ1 ++ [A]) μ (upd H1 A (.lst [])) H' ∧ Po G.g (relD G.g) μ H' σ Q ((lcF it g tt te own S1.length ρ r S).bindN fun _ S2 => .ok (.ref S1.length) S2),
        fun H' ⟨μ', S', a', n', q'⟩ => ⟨r, by omega, μ', S', by omega, hlt, a', n', by rw [show it.n - (i + 1) = r by omega]; exact q'⟩, fun x H3 y => ?_⟩
      obtain ⟨n3, rs3, rd3⟩ := hy x H3 y
      have a3 := a2.nx n3 rs3
      refine ⟨d, wipeE ρ own, μ2, S2, ⟨a3.re.wipe own, a3.rs, a3.pin⟩, rd3, ?_⟩
      simp only at q2
      revert q2
      cases g d (wipeE ρ own) S2 with
      | stuck => exact fun q => q
      | exc c fs S3 => exact fun q => q
      | ok ρ4 S4 =>
        intro q2 μ4 H4 σ4 n4 rs4 re4 o4
        refine ⟨o4.wipe hts, ?_⟩
        have n24 : Nx μ2 μ4 H2 H4 := n3.trans n4
        have a4 : At G.g μ4 H4 ρ σ S4 := a2.nx n24 rs4
        have q4 := Po.nx n24 q2
        simp only [R.bindN] at q4
        refine ⟨ρ4, μ4, S4, ⟨re4, rs4, a4.pin⟩, ?_⟩
        revert q4
        cases tt ρ4 S4 with
        | stuck => exact fun q => q
        | exc c fs S5 => exact fun q => q.elim
        | ok b5 S5 =>
          intro q4 μ5 H5 b n5 rs5 eb
          subst eb
          have a5 : At G.g μ5 H5 ρ σ S5 := a4.nx n5 rs5
          have q5 := Po.nx n5 q4
          cases b5 with
          | false => exact ⟨μ5, S5, a5, ((n2.trans n3).trans n4).trans n5, q5⟩
          | true =>
            refine ⟨ρ4, μ5, S5, ⟨re4.mono n5, rs5, a5.pin⟩, ?_⟩
            simp only [if_true] at q5
            revert q5
            cases te ρ4 S5 with
            | stuck => exact fun q => q
            | exc c fs S6 => exact fun q => q.elim
            | ok y S6 =>
              intro q5 μ6 H6 v6 n6 rs6 rd6
              have q6 := Po.nx n6 q5
              simp only at q6
              have n26 : Nx (μ1 ++ [A]) μ6 (upd H1 A (.lst [])) H6 := (((n2.trans n3).trans n4).trans n5).trans n6
              have h6 := n26.at eA
              cases e6 : S6[S1.length]? with
              | none => simp only [e6] at q6; exact q6.elim
              | some ob =>
                cases ob with
                | ins C fs => simp only [e6] at q6; exact q6.elim
                | dk kvs => simp only [e6] at q6; exact q6.elim
                | dt kvs => simp only [e6] at q6; exact q6.elim
                | lst acc =>
                  simp only [e6] at q6
                  obtain ⟨ws, g6, r6⟩ := RS.lst (K := G.X.K) rs6 h6 e6
                  by_cases hz : acc.length < sizeLine
                  · simp only [if_pos hz] at q6
                    have n7 : Nx μ6 μ6 H6 (upd H6 A (.lst (ws ++ [v6]))) := Nx.put (List.mem_of_getElem? h6) g6 fun z => z
                    have rs7 : RS G.X.K μ6 (S6.set S1.length (.lst (acc ++ [y]))) (upd H6 A (.lst (ws ++ [v6]))) :=
                      RS.put (K := G.X.K) rs6 h6 ⟨_, upd_same, (r6.append (.cons rd6 .nil)).mono n7.pre n7.hard⟩
                    exact ⟨ws, g6, by rw [← r6.length]; exact hz, μ6, _, (a5.nx n6 rs6).nx n7 rs7, n26.trans n7, Po.nx n7 q6⟩
                  · simp only [if_neg hz] at q6; exact q6.elim
  · have e : i = it.n := by omega
    subst e
    simp only [Nat.sub_self, lcF] at q2
    split at q2
    · rename_i hf
      exact .inl ⟨ri.stop μ2 H2 S2 (nA.trans n2) a2.rs hf, q2 μ2 H2 _ (Nx.refl _ _) a2.rs (.ref (n2.at eA))⟩
    · exact q2.elim
def tYesM : MB := fun _ S => .ok true S
abbrev STs (G : Fx) (ifs : List Expr) (m : MB) : Prop := PTs G.X ifs (tB G.g m)
theorem sts_nil : STs G [] tYesM := ⟨fun p s σ H Q I h => by
  obtain ⟨ρ, μ, S, at', q⟩ := h
  exact pts_nil.run p s σ H Q I (q μ H true (Nx.refl _ _) at'.rs rfl)⟩
theorem sts_one {tc : MB} (h : SB G c tc) : STs G [c] tc := pts_one h
theorem se_lc {elt iter : Expr} {ifs : List Expr} {scope : Scope} {own : List (Str × Nat)} {mi : MI} {g : MG} {tt : MB} {te : ME} {ts : List Nat} (hc : G.X.calm = true) (hN : G.X.N.Nodup) (hi : SI G tg iter mi) (ok : BlkOk G.X.N G.X.env.scope scope own)
    (hg : ∀ (s : Shared) (H : Hp) (C : Addr) (cl : List (Str × Addr)) (fp : List Addr), SG (G.blk s H scope (compEnvC scope cl C G.X.env) fp) ts tg g) (ht : ∀ (s : Shared) (H : Hp) (C : Addr) (cl : List (Str × Addr)) (fp : List Addr), STs (G.blk s H scope (compEnvC scope cl C G.X.env) fp) ifs tt)
    (he : ∀ (s : Shared) (H : Hp) (C : Addr) (cl : List (Str × Addr)) (fp : List Addr), SE (G.blk s H scope (compEnvC scope cl C G.X.env) fp) elt te) (hts : ∀ i ∈ ts, i ∈ own.map (·.2)) (hs : ∀ z, foldedSetIterable iter G.X.env z = pure z := by intro _; rfl) :
    SE G (.ListComp elt [⟨tg, iter, ifs, 0⟩] scope pos) (mLc mi g tt te (own.map (·.2))) := 
  pe_imp (pe_lc hc hN hi ok hg ht he hs) fun σ H Q h => tE_lc hts h
end
end Dn

set_option Elab.async false
set_option linter.all false
set_option maxRecDepth 100000
set_option maxHeartbeats 2000000
namespace Dn
open PySem PySem.Spec PyProof.Rows L2 RZ
section
variable {G : Fx} {a b c e o : Expr} {es : List Expr} {ma mb mc : ME} {mA : ML} {pos p : Pos} {x : Str} {tg : Expr}
def rMulD : R2 := fun x y H Q => (rI CMul fun i j => .int (i * j)) x y H Q ∨ rRep x y H Q
theorem op_mulD {X : Cx} : OpR X (binaryOp .Mult) rMulD := op_mul.or op_rep
theorem RDs.rep {K : PySem.W.Frag} {μ : List Addr} {H : Hp} {ds : List D} {vs : List V} (r : RDs K μ H ds vs) : ∀ n : Nat, RDs K μ H (List.replicate n ds).flatten (List.replicate n vs).flatten
  | 0 => .nil
  | n + 1 => by
    rw [List.replicate_succ, List.replicate_succ, List.flatten_cons, List.flatten_cons]
    exact r.append (RDs.rep r n)
theorem mul_ok {G : Fx} : OpS G rMulD mulD := by
  intro μ H σ S x y v u Q rs r1 r2 q
  cases r1 <;> cases r2 <;> first | exact q.elim | skip
  case int.int i j =>
    simp only [mulD] at q
    split at q
    · rename_i h
      exact .inl ⟨i, j, rfl, rfl, cMul_ok i j h, q.same rs (.int _)⟩
    · exact q.elim
  case ref.int i a h1 k =>
    simp only [mulD] at q
    split at q
    · rename_i xs e1
      split at q
      · rename_i h
        obtain ⟨vs, g, d⟩ := rs.lst h1 e1
        exact .inr ⟨a, k, vs, rfl, rfl, g, h.1, h.2.1, by rw [← d.length]; exact h.2.2, fun p hp => q.newL rs hp (d.rep _)⟩
      · exact q.elim
    · exact q.elim
theorem units65 {k : Nat} {A : Around} (r : Room k A) : A.units + 65 < cLine := by have := r.un; omega
/-! ## built-ins by values -/
def lenD (ds : List D) (S : Sto) : R D := match ds with
  | [.tup xs] => .ok (.int xs.length) S
  | [.rol xs] => .ok (.int xs.length) S
  | [.str y] => if y.length ≤ sizeLine then .ok (.int y.length) S else .stuck
  | [.ref i] => match lenL S i with
    | some n => .ok (.int n) S
    | none => .stuck
  | _ => .stuck
theorem len_ok : CallS G (fun xs H Q => ∃ x n, xs = [x] ∧ LenV G.X.K x H n ∧ Q (.int n) H) lenD := by
  intro μ H σ S xs vs Q rs r q
  unfold lenD at q
  split at q
  · cases r with
    | cons r1 r2 =>
      cases r2
      cases r1 with
      | tup h1 d1 => exact ⟨_, _, rfl, .inr ⟨_, h1, d1.length⟩, Po.same rs (.int _) q⟩
  · cases r with
    | cons r1 r2 =>
      cases r2
      cases r1 with
      | rol h1 d1 => exact ⟨_, _, rfl, .inl ⟨_, h1.sq, d1.length⟩, Po.same rs (.int _) q⟩
  · cases r with
    | cons r1 r2 =>
      cases r2
      cases r1 with
      | str y =>
        split at q
        · exact ⟨_, _, rfl, ⟨by assumption, rfl⟩, Po.same rs (.int _) q⟩
        · exact q.elim
  · rename_i i
    cases r with
    | cons r1 r2 =>
      cases r2
      cases r1 with
      | ref h1 =>
        split at q
        · rename_i n e1
          obtain ⟨ys, f, rfl⟩ := lenL_some e1
          obtain ⟨ws, g, d⟩ := rs.lst h1 f
          exact ⟨_, _, rfl, .inl ⟨ws, SqL.of g, d.length⟩, Po.same rs (.int _) q⟩
        · exact q.elim
  · exact q.elim
def intC (ds : List D) (S : Sto) : R D := match ds with
  | [.int i] => .ok (.int i) S
  | [.bl k] => .ok (.int (if k then 1 else 0)) S
  | _ => .stuck
theorem int1_ok : CallS G (fun xs H Q => (∃ i, xs = [.int i] ∧ Q (.int i) H) ∨ ∃ k, xs = [.bl k] ∧ Q (.int (if k then 1 else 0)) H) intC := by
  intro μ H σ S xs vs Q rs r q
  unfold intC at q
  split at q
  · cases r with
    | cons r1 r2 => cases r2; cases r1; exact .inl ⟨_, rfl, Po.same rs (.int _) q⟩
  · cases r with
    | cons r1 r2 => cases r2; cases r1; exact .inr ⟨_, rfl, Po.same rs (.int _) q⟩
  · exact q.elim
def strC (ds : List D) (S : Sto) : R D := match ds with
  | [.int i] => if i.natAbs.log2 < 1920 then .ok (.str (toString i)) S else .stuck
  | _ => .stuck
theorem str1_ok : CallS G (fun xs H Q => ∃ i, xs = [.int i] ∧ i.natAbs.log2 < 1920 ∧ Q (.str (toString i)) H) strC := by
  intro μ H σ S xs vs Q rs r q
  unfold strC at q
  split at q
  · split at q
    · cases r with
      | cons r1 r2 => cases r2; cases r1; exact ⟨_, rfl, by assumption, Po.same rs (.str _) q⟩
    · exact q.elim
  · exact q.elim
/-- the items of a list or a tuple -/
def seqD (S : Sto) : D → Option (List D)
  | .tup xs => some xs
  | .rol xs => some xs
  | .ref i => match S[i]? with
    | some (.lst xs) => some xs
    | _ => none
  | _ => none
theorem seq_ok {K : PySem.W.Frag} {μ : List Addr} {S : Sto} {H : Hp} {d : D} {v : V} {xs : List D} (rs : RS K μ S H) (r : RD K μ H d v) (h : seqD S d = some xs) : ∃ q ws, v = .ref q ∧ (SqL K H q ws ∨ SqT K H q ws) ∧ RDs K μ H xs ws := by
  cases r <;> simp only [seqD] at h <;> first | (cases h; done) | skip
  case tup q ws ds h1 r1 => cases h; exact ⟨q, ws, rfl, .inr h1, r1⟩
  case rol q ws ds h1 r1 => cases h; exact ⟨q, ws, rfl, .inl h1.sq, r1⟩
  case ref i q h1 =>
    split at h
    · rename_i ys e1
      cases h
      obtain ⟨ws, g, d⟩ := rs.lst h1 e1
      exact ⟨q, ws, rfl, .inl (SqL.of g), d⟩
    · cases h
def lstC (ds : List D) (S : Sto) : R D := match ds with
  | [d] => match seqD S d with
    | some xs => .ok (.ref S.length) (S ++ [.lst xs])
    | none => .stuck
  | _ => .stuck
theorem list1_ok : CallS G (fun xs H Q => ∃ p ys, xs = [.ref p] ∧ (SqL G.X.K H p ys ∨ SqT G.X.K H p ys) ∧ ∀ l, H l = none → Q (.ref l) (upd H l (.lst ys))) lstC := by
  intro μ H σ S xs vs Q rs r q
  unfold lstC at q
  split at q
  · split at q
    · rename_i d ys e1
      cases r with
      | cons r1 r2 =>
        cases r2
        obtain ⟨q', ws, rfl, h1, d1⟩ := seq_ok rs r1 e1
        exact ⟨q', ws, rfl, h1, fun l hl => Po.newL rs hl d1 q⟩
    · exact q.elim
  · exact q.elim
def tupC (ds : List D) (S : Sto) : R D := match ds with
  | [d] => match seqD S d with
    | some xs => .ok (.tup xs) S
    | none => .stuck
  | _ => .stuck
theorem tuple1_ok : CallS G (fun xs H Q => ∃ p ys, xs = [.ref p] ∧ ((SqL G.X.K H p ys ∧ ∀ l, H l = none → Q (.ref l) (upd H l (.tup ys))) ∨ (SqT G.X.K H p ys ∧ Q (.ref p) H))) tupC := by
  intro μ H σ S xs vs Q rs r q
  unfold tupC at q
  split at q
  · split at q
    · rename_i d ys e1
      cases r with
      | cons r1 r2 =>
        cases r2
        obtain ⟨q', ws, rfl, h1, d1⟩ := seq_ok rs r1 e1
        rcases h1 with h1 | h1
        · exact ⟨q', ws, rfl, .inl ⟨h1, fun l hl => Po.newT rs hl d1 q⟩⟩
        · exact ⟨q', ws, rfl, .inr ⟨h1, Po.same rs (.tup h1 d1) q⟩⟩
    · exact q.elim
  · exact q.elim
def boolsOf : List D → Option (List Bool) := mapO fun d => match d with
  | .bl b => some b
  | _ => none
theorem bools_ok {K : PySem.W.Frag} {μ : List Addr} {H : Hp} : ∀ {ds : List D} {bs : List Bool} {vs : List V}, boolsOf ds = some bs → RDs K μ H ds vs → vs = bs.map V.bl
  | [], bs, vs, h, r => by cases h; cases r; rfl
  | d :: ds, bs, vs, h, r => by
    unfold boolsOf mapO at h
    cases r with
    | cons r1 r2 =>
      cases r1 <;> first | (cases h; done) | skip
      case bl b =>
        simp only [Option.map_eq_some_iff] at h
        obtain ⟨cs, e1, rfl⟩ := h
        rw [bools_ok (ds := ds) e1 r2]; rfl
def allC (ds : List D) (S : Sto) : R D := match ds with
  | [.ref i] => match S[i]? with
    | some (.lst xs) => match boolsOf xs with
      | some bs => .ok (.bl (bs.all id)) S
      | none => .stuck
    | _ => .stuck
  | _ => .stuck
theorem all_ok : CallS G (rAll G.X.K) allC := by
  intro μ H σ S xs vs Q rs r q
  unfold allC at q
  split at q
  · split at q
    · split at q
      · rename_i i _ ys e1 _ bs e2
        cases r with
        | cons r1 r2 =>
          cases r2
          cases r1 with
          | ref h1 =>
            obtain ⟨ws, g, d⟩ := rs.lst h1 e1
            have ew := bools_ok e2 d
            subst ew
            exact ⟨_, bs, rfl, SqL.of g, Po.same rs (.bl _) q⟩
      · exact q.elim
    · exact q.elim
  · exact q.elim
def max2C (ds : List D) (S : Sto) : R D := match ds with
  | [.int i, .int j] => .ok (.int (if j > i then j else i)) S
  | _ => .stuck
theorem max2_ok : CallS G (fun xs H Q => ∃ i j, xs = [.int i, .int j] ∧ Q (.int (if j > i then j else i)) H) max2C := by
  intro μ H σ S xs vs Q rs r q
  unfold max2C at q
  split at q
  · cases r with
    | cons r1 r2 =>
      cases r1
      cases r2 with
      | cons r1 r2 => cases r1; cases r2; exact ⟨_, _, rfl, Po.same rs (.int _) q⟩
  · exact q.elim
def min2C (ds : List D) (S : Sto) : R D := match ds with
  | [.int i, .int j] => .ok (.int (if j < i then j else i)) S
  | _ => .stuck
theorem min2_ok : CallS G (fun xs H Q => ∃ i j, xs = [.int i, .int j] ∧ Q (.int (if j < i then j else i)) H) min2C := by
  intro μ H σ S xs vs Q rs r q
  unfold min2C at q
  split at q
  · cases r with
    | cons r1 r2 =>
      cases r1
      cases r2 with
      | cons r1 r2 => cases r1; cases r2; exact ⟨_, _, rfl, Po.same rs (.int _) q⟩
  · exact q.elim
/-! isinstance with a built-in class -/
def tyD (S : Sto) : D → Option String
  | .non => some "NoneType"
  | .bl _ => some "bool"
  | .int _ => some "int"
  | .str _ => some "str"
  | .tup _ => some "tuple"
  | .rol _ => some "list"
  | .ref i => match S[i]? with
    | some (.lst _) => some "list"
    | some (.dk _) => some "dict"
    | some (.dt _) => some "dict"
    | _ => none
  | .adr _ => none
theorem roL_ty {K : PySem.W.Frag} {H : Hp} {q : Addr} {vs : List V} (h : RoL K H q vs) : TyX K H (.ref q) (.type "list") := by
  rcases h with ⟨o, h⟩ | h
  · exact .base (.frz h)
  · rcases h with (h | ⟨o, h⟩) | ⟨o, its, n, hk, hc, _⟩
    · cases h
    · cases h
    · exact .kList hk hc
theorem sqT_ty {K : PySem.W.Frag} {H : Hp} {q : Addr} {vs : List V} (h : SqT K H q vs) : TyX K H (.ref q) (.type "tuple") := by
  rcases h with (h | ⟨o, h⟩) | ⟨o, its, n, hk, hc, _⟩
  · exact .base (.tup h)
  · exact .fTuple h
  · exact .kTuple hk hc
theorem ty_ok {K : PySem.W.Frag} {μ : List Addr} {S : Sto} {H : Hp} {d : D} {v : V} {t : String} (rs : RS K μ S H) (r : RD K μ H d v) (h : tyD S d = some t) : TyX K H v (.type t) := by
  cases r <;> simp only [tyD] at h <;> first | (cases h; done) | skip
  case non => cases h; exact .base .non
  case bl b => cases h; exact .base (.bl b)
  case int i => cases h; exact .base (.int i)
  case str y => cases h; exact .base (.str y)
  case tup q vs ds h1 _ => cases h; exact sqT_ty h1
  case rol q vs ds h1 _ => cases h; exact roL_ty h1
  case ref i q h1 =>
    split at h
    · rename_i ys e1
      cases h
      obtain ⟨ws, g, _⟩ := rs.lst h1 e1
      exact .base (.lst g)
    · rename_i kvs e1
      cases h
      obtain ⟨ws, g, _⟩ := rs.ob i q _ h1 e1
      exact .base (.dK g)
    · rename_i kvs e1
      cases h
      obtain ⟨ws, g, _⟩ := rs.ob i q _ h1 e1
      exact .base (.dT g)
    · cases h
/-- the answer, for the classes that programs ask of -/
def isT (t T : String) : Bool := t == T || (t == "bool" && T == "int")
def isKnown (t T : String) : Bool := ["NoneType", "bool", "int", "str", "tuple", "list", "dict"].contains t && ["int", "bool", "str", "tuple", "list", "dict"].contains T
theorem kitB_is : ∀ t ∈ ["NoneType", "bool", "int", "str", "tuple", "list", "dict"], ∀ T ∈ ["int", "bool", "str", "tuple", "list", "dict"], kitB t T = some (isT t T) := by decide +kernel
def isiD (T : String) (d : D) (S : Sto) : R D := match tyD S d with
  | some t => if isKnown t T then .ok (.bl (isT t T)) S else .stuck
  | none => .stuck
theorem se_isi {T : String} {z : Str} {p2 : Pos} (hg : Gl G.X "isinstance") (hm : G.X.mg "isinstance" = none) (hg2 : Gl G.X z) (hm2 : G.X.mg z = none) (hv2 : bootBuiltins z = some (.type T)) (ha : SE G a ma) (hn : z ≠ "__name__" := by decide) (hdb : (z == ("__debug__" : Str)) = false := by decide)
    (he : starEach [a, .Name z p2] G.X.env = (false, eval a G.X.env) :: starEach [.Name z p2] G.X.env := by rfl) (he2 : starEach [.Name z p2] G.X.env = (false, eval (.Name z p2) G.X.env) :: starEach [] G.X.env := by rfl) (hpl : (backTo pos (starEach [.Name z p2] G.X.env)).any (·.1) = false := by rfl) :
    SE G (.Call (.Name "isinstance" p) [a, .Name z p2] [] pos) (m1 (isiD T) ma) :=
  pe_imp (pe_callB call_isi hg hm (by decide +kernel) (pa_cons ha (pa_cons (pe_bltn (v := .ty T) hg2 hm2 hv2 rfl hn hdb) pa_nil he2) he) (by decide) (by decide) he hpl) fun σ H Q h => tE_1 h fun μ H S d v rs r q => by
    unfold isiD at q
    split at q
    · rename_i t e1
      split at q
      · rename_i hk
        simp only [isKnown, Bool.and_eq_true, List.contains_iff_mem] at hk
        exact ⟨v, .ty T, .type t, .type T, isT t T, rfl, .ty T, ty_ok rs r e1, kit_ty (kitB_is t hk.1 T hk.2), Po.same rs (.bl _) q⟩
      · exact q.elim
    · exact q.elim
/-! methods of built-in values -/
def tyIs (T : String) (S : Sto) : D → Bool
  | .str _ => T == "str"
  | .int _ => T == "int"
  | .rol _ => T == "list"
  | .ref i => match S[i]? with
    | some (.lst _) => T == "list"
    | some (.dk _) => T == "dict"
    | some (.dt _) => T == "dict"
    | _ => false
  | _ => false
theorem tyIs_ok {K : PySem.W.Frag} {μ : List Addr} {S : Sto} {H : Hp} {d : D} {v : V} {T : String} (rs : RS K μ S H) (r : RD K μ H d v) (h : tyIs T S d = true) : tyV K T v H := by
  cases r <;> simp only [tyIs] at h <;> first | (cases h; done) | skip
  case str y => exact beq_iff_eq.mp h
  case int y => exact beq_iff_eq.mp h
  case rol q ws ds h1 r1 => exact .inl ⟨beq_iff_eq.mp h, _, h1.sq⟩
  case ref i q h1 =>
    split at h
    · rename_i ys e1
      obtain ⟨ws, g, _⟩ := rs.lst h1 e1
      exact .inl ⟨beq_iff_eq.mp h, _, SqL.of g⟩
    · rename_i kvs e1
      obtain ⟨ws, g, _⟩ := rs.ob i q _ h1 e1
      exact .inr (.inr (.inl ⟨beq_iff_eq.mp h, .inl ⟨_, g⟩⟩))
    · rename_i kvs e1
      obtain ⟨ws, g, _⟩ := rs.ob i q _ h1 e1
      exact .inr (.inr (.inl ⟨beq_iff_eq.mp h, .inr ⟨_, g⟩⟩))
    · cases h
def mMeth (T : String) (f : D → List D → Sto → R D) (mo : ME) (ml : ML) : ME := fun ρ S => (mo ρ S).bind fun o S1 => if tyIs T S1 o then (ml ρ S1).bind fun ds S2 => f o ds S2 else .stuck
def MethS (G : Fx) (r : V → List V → Hp → VK → Prop) (f : D → List D → Sto → R D) : Prop := ∀ (μ : List Addr) (H : Hp) (σ : L2.St) (S : Sto) (d : D) (v : V) (xs : List D) (vs : List V) (Q : VK), RS G.X.K μ S H → RD G.X.K μ H d v → RDs G.X.K μ H xs vs → Po G.g (relD G.g) μ H σ Q (f d xs S) → r v vs H Q
theorem tE_bm {T : String} {f : D → List D → Sto → R D} {r : V → List V → Hp → VK → Prop} (hf : MethS G r f) {σ : L2.St} {H : Hp} {Q : VK} (h : tE G.g (mMeth T f ma mA) σ H Q) : tBM G.X.K T r (tE G.g ma) (tA G.g mA) σ H Q := by
  obtain ⟨ρ, μ, S, at', q⟩ := h
  refine ⟨ρ, μ, S, at', po_1 at' q fun μ1 H1 S1 d v _ a1 d1 q1 => ?_⟩
  split at q1
  · rename_i ht
    refine ⟨tyIs_ok a1.rs d1 ht, ρ, μ1, S1, a1, po_1 (Rel := relDs G.g) a1 q1 fun μ2 H2 S2 xs vs n a2 d2 q2 => ?_⟩
    exact hf μ2 H2 σ S2 d v xs vs Q a2.rs (d1.mono n.pre n.hard) d2 q2
  · exact q1.elim
theorem se_bm {T : String} {name : Str} {id : String} {r : V → List V → Hp → VK → Prop} {f : D → List D → Sto → R D} {apos : Pos} (pa : PlainAttrs T) (slot : Slot T name id) (hty : typeOf (.builtin id) = pure (.type "method_descriptor")) (hm : MtR G.X id r) (hf : MethS G r f) (ho : SE G o ma) (ha : SA G (e :: es) mA)
    (hbase : attributeBase o name G.X.env (eval o G.X.env) = eval o G.X.env := by rfl)
    (hfew : ((backTo pos (starEach (e :: es) G.X.env)).all (fun x => !x.1) && (backToKw pos (keywordEach [] G.X.env)).all (fun x => x.1.isSome) && decide ((e :: es).length + ([] : List Keyword).length + (if ([] : List Keyword).isEmpty then 0 else 1) < 30)) = true := by rfl)
    (hline : (apos.endLine == pos.line) = true := by rfl) (hs : starEach (e :: es) G.X.env = (false, eval e G.X.env) :: starEach es G.X.env := by rfl) (hplain : (backTo pos (starEach es G.X.env)).any (·.1) = false := by rfl) :
    SE G (.Call (.Attribute o name apos) (e :: es) [] pos) (mMeth T f ma mA) :=
  pe_imp (pe_bm pa slot hty hm ho ha hbase hfew hline hs hplain) fun σ H Q h => tE_bm hf h
theorem put_ok {μ : List Addr} {H : Hp} {σ : L2.St} {S : Sto} {Q : VK} {i : Nat} {q : Addr} {u w : HO} {ob : Ob} {d : D} {v : V} (rs : RS G.X.K μ S H) (hi : μ[i]? = some q) (hq : H q = some u) (hu : ¬ Hard u) (ho : ObR G.X.K μ (upd H q w) q ob) (rd : RD G.X.K μ (upd H q w) d v)
    (h : Po G.g (relD G.g) μ H σ Q (.ok d (S.set i ob))) : Q v (upd H q w) := h μ _ v (Nx.put (List.mem_of_getElem? hi) hq hu) (rs.put hi ho) rd
def appD (o : D) (ds : List D) (S : Sto) : R D := match o, ds with
  | .ref i, [d] => match S[i]? with
    | some (.lst xs) => if xs.length < sizeLine then .ok .non (S.set i (.lst (xs ++ [d]))) else .stuck
    | _ => .stuck
  | _, _ => .stuck
theorem app_ok : MethS G rAppend appD := by
  intro μ H σ S d v xs vs Q rs r1 r2 q
  unfold appD at q
  split at q
  · split at q
    · split at q
      · rename_i i d1 _ ys e1 hl
        cases r1 with
        | ref h1 =>
          cases r2 with
          | @cons _ v1 _ _ rd rn =>
            cases rn
            obtain ⟨ws, g, dd⟩ := rs.lst h1 e1
            have nx : Nx μ μ H (upd H _ (.lst (ws ++ [v1]))) := Nx.put (List.mem_of_getElem? h1) g fun z => z
            exact ⟨_, ws, _, rfl, rfl, g, by rw [← dd.length]; exact hl, put_ok (ob := .lst (ys ++ [d1])) rs h1 g (fun z => z) ⟨_, upd_same, (dd.append (.cons rd .nil)).mono nx.pre nx.hard⟩ .non q⟩
      · exact q.elim
    · exact q.elim
  · exact q.elim
theorem se_append {apos : Pos} (ho : SE G o ma) (ha : SA G [e] mA) (hbase : attributeBase o "append" G.X.env (eval o G.X.env) = eval o G.X.env := by rfl)
    (hfew : ((backTo pos (starEach [e] G.X.env)).all (fun x => !x.1) && (backToKw pos (keywordEach [] G.X.env)).all (fun x => x.1.isSome) && decide (([e] : List Expr).length + ([] : List Keyword).length + (if ([] : List Keyword).isEmpty then 0 else 1) < 30)) = true := by rfl)
    (hline : (apos.endLine == pos.line) = true := by rfl) (hs : starEach [e] G.X.env = (false, eval e G.X.env) :: starEach [] G.X.env := by rfl) (hplain : (backTo pos (starEach [] G.X.env)).any (·.1) = false := by rfl) :
    SE G (.Call (.Attribute o "append" apos) [e] [] pos) (mMeth "list" appD ma mA) := se_bm PySem.F.plainAttrs_list PySem.F.slot_list_append PySem.F.type_list_append mt_append app_ok ho ha hbase hfew hline hs hplain
/-! dict displays that are empty -/
def mDk : ME := fun _ S => .ok (.ref S.length) (S ++ [.dk []])
def mDt : ME := fun _ S => .ok (.ref S.length) (S ++ [.dt []])
theorem se_dk : SE G (.Dict [] [] pos) mDk := pe_imp pe_dnewK fun σ H Q h => by
  obtain ⟨ρ, μ, S, at', q⟩ := h
  intro d hd
  exact q _ _ _ (Nx.new1 hd) (at'.rs.new1 hd ⟨[], upd_same, rfl, .nil⟩) (.ref (by simp [← at'.rs.len]))
theorem se_dt : SE G (.Dict [] [] pos) mDt := pe_imp pe_dnewT fun σ H Q h => by
  obtain ⟨ρ, μ, S, at', q⟩ := h
  intro d hd
  exact q _ _ _ (Nx.new1 hd) (at'.rs.new1 hd ⟨[], upd_same, rfl, .nil⟩) (.ref (by simp [← at'.rs.len]))
end
/-! ## own defs -/
/-- what a def's mirror tells of it -/
def PoF (K : PySem.W.Frag) (μ : List Addr) (H : Hp) (Q : VK) (E : XK) : R D → Prop
  | .ok d S => ∀ μ' H' v, Nx μ μ' H H' → RS K μ' S H' → RD K μ' H' d v → Q v H'
  | .exc c fs S => ∀ μ' H' d, Nx μ μ' H H' → RS K μ' S H' → XD K μ' H' d fs → E (.ref c) (some d) H'
  | .stuck => False
def spD (K : PySem.W.Frag) (f : List D → Sto → R D) (n : Nat) : Sp := fun vs H Q E => ∃ ds μ S, vs.length = n ∧ RS K μ S H ∧ RDs K μ H ds vs ∧ PoF K μ H Q E (f ds S)
def fnD (m : MS) (n : Nat) (ds : List D) (S : Sto) : R D := match m (ds.map some ++ List.replicate (n - ds.length) none) S with
  | .nx _ S1 => .ok .non S1
  | .rt d S1 => .ok d S1
  | .ex c fs _ S1 => .exc c fs S1
  | _ => .stuck
/-- a def's own state -/
abbrev fxOf (P : Program) (w : World) (K : PySem.W.Frag) (mg : Str → Option Value) (base : Heap) (N : List Str) (qual : Str) (scope : Scope) (f : Addr) (cd : Value) (A : Around) (outer : List Env) (s : Shared) (H : Hp) (E : XK) : Fx :=
  ⟨cxOf (L2.CX P w) P w K mg base N qual scope f cd A outer s H E, fun cls d _ H => E cls d H, takes_of rfl rfl rfl rfl, fun _ _ => True, fun _ _ _ _ _ _ => trivial⟩
theorem RE.start {K : PySem.W.Frag} {μ : List Addr} {H : Hp} {ds : List D} {vs : List V} (r : RDs K μ H ds vs) (N : List Str) : RE K μ H (ds.map some ++ List.replicate (N.length - ds.length) none) (L2.start N vs) := by
  have hl := r.length
  refine ⟨by unfold L2.start; simp [hl], fun i d e => ?_⟩
  unfold L2.start
  by_cases hi : i < ds.length
  · rw [List.getElem?_append_left (by simpa using hi), List.getElem?_map] at e
    cases q : ds[i]? with
    | none => rw [q] at e; cases e
    | some d' =>
      rw [q] at e
      simp only [Option.map_some, Option.some.injEq] at e
      subst e
      obtain ⟨v, hv, rv⟩ := r.get q
      exact ⟨v, by rw [List.getElem?_append_left (by simpa [← hl] using hi), List.getElem?_map, hv]; rfl, rv⟩
  · rw [List.getElem?_append_right (by simpa using hi), List.getElem?_replicate] at e
    split at e <;> cases e
theorem fn_ok {P : Program} {w : World} {K : PySem.W.Frag} {mg : Str → Option Value} {base : Heap} {x qual : Str} {st : Stmt} {f : Addr} {fd : FuncData} {N ps : List Str} {k : Nat} {m : MS} (F : Fun K x qual st f fd) (S : FnScope N ps (defScope st))
    (hb : ∀ (cdv : Value) (A : Around) (outer : List Env) (s : Shared) (H : Hp) (E : XK), Room k (A.deeper (envOfC qual (defScope st) s.heap.objs.size f cdv)) → SSs (fxOf P w K mg base N qual (defScope st) f cdv A outer s H E) (defBody st) m) :
    FnOk P w K mg base (L2.CX P w) (k + 1) f fd ps (spD K (fnD m N.length) ps.length) := by
  refine F.okX S (fun vs H Q E h => ?_) (fun cdv A outer s H vs Q E hr h => ⟨_, hb cdv A outer s H E hr, ?_⟩)
  · obtain ⟨_, _, _, h, _⟩ := h
    exact h
  · obtain ⟨ds, μ, S, _, rs, rd, q⟩ := h
    refine ⟨_, μ, S, ⟨RE.start rd N, rs, trivial⟩, ?_⟩
    unfold fnD at q
    revert q
    cases m (ds.map some ++ List.replicate (N.length - ds.length) none) S with
    | nx ρ1 S1 => exact fun q μ1 H1 σ1 n r e => q μ1 H1 .non n r .non
    | rt d S1 => exact fun q μ1 H1 v n r e => q μ1 H1 v n r e
    | ex c fs ρ1 S1 => exact fun q μ1 H1 σ1 d n r e x => q μ1 H1 d n r x
    | bk ρ1 S1 => exact fun q => q.elim
    | ct ρ1 S1 => exact fun q => q.elim
    | stuck => exact fun q => q.elim
section
variable {G : Fx} {e : Expr} {es : List Expr} {mA : ML} {pos p : Pos} {x : Str} {k n : Nat} {f : Addr} {fd : FuncData} {ps : List Str} {m : List D → Sto → R D}
theorem po_fn {μ : List Addr} {H : Hp} {σ : L2.St} {Q : VK} : ∀ {r : R D}, Po G.g (relD G.g) μ H σ Q r → PoF G.X.K μ H Q (WE G.W σ) r
  | .ok _ _, h => h
  | .exc _ _ _, h => h
  | .stuck, h => h
/-- f(e, ..) of an own def -/
theorem se_call (F : FnOk G.X.prog G.X.w G.X.K G.X.mg G.X.base (L2.CX G.X.prog G.X.w) k f fd ps (spD G.X.K m n)) (hr : Room k G.X.A) (hg : Gl G.X x) (hm : G.X.mg x = some (.ref f)) (hk : PySem.W.keepIn G.X.K (.ref f) = true) (hb : Binds G.X.K fd ps []) (ha : SA G (e :: es) mA)
    (hl : (e :: es).length = n := by rfl) (hdb : (x == ("__debug__" : Str)) = false := by decide) (he : starEach (e :: es) G.X.env = (false, eval e G.X.env) :: starEach es G.X.env := by rfl) (hpl : (backTo pos (starEach es G.X.env)).any (·.1) = false := by rfl) :
    SE G (.Call (.Name x p) (e :: es) [] pos) (mL (fun ds S => if ds.length = n then m ds S else .stuck) mA) :=
  pe_imp (pe_callS F hr hg hm hk hb (passAt G.tk) ha hdb he hpl) fun σ H Q h => tA_1 h fun μ H S ds vs rs r q => by
    split at q
    · rename_i hn
      exact ⟨ds, μ, S, by rw [← r.length]; exact hn, rs, r, po_fn q⟩
    · exact q.elim
/-- f(k = v): every argument by its name -/
def mKw (gV : List D → List D → List D) (m : List D → Sto → R D) (n : Nat) (mA mK : ML) : ME := fun ρ S => (mA ρ S).bind fun ds S1 => (mK ρ S1).bind fun ks S2 => if (gV ds ks).length = n then m (gV ds ks) S2 else .stuck
abbrev SK (G : Fx) (kws : List Keyword) (m : ML) : Prop := PK G.X kws (tA G.g m)
theorem sk_nil : SK G [] mNil := ⟨fun pos p s σ H Q I h => by
  obtain ⟨ρ, μ, S, at', q⟩ := h
  exact pk_nil.run pos p s σ H Q I (q μ H [] (Nx.refl μ H) at'.rs .nil)⟩
theorem sk_cons {nm : Option Str} {kp : Pos} {kws : List Keyword} {ma : ME} {mr : ML} (ha : SE G e ma) (hr : SK G kws mr) : SK G (⟨nm, e, kp⟩ :: kws) (mCons ma mr) := ⟨fun pos p s σ H Q I h => (pk_cons (nm := nm) (kpos := kp) ha hr).run pos p s σ H Q I (by
  obtain ⟨ρ, μ, S, at', q⟩ := h
  refine ⟨ρ, μ, S, at', po_1 at' q fun μ1 H1 S1 x v _ a1 d1 q1 => ?_⟩
  refine ⟨ρ, μ1, S1, a1, po_1 (Rel := relDs G.g) a1 q1 fun μ2 H2 S2 xs vs n a2 d2 q2 => ?_⟩
  exact q2 μ2 H2 (v :: vs) (Nx.refl μ2 H2) a2.rs (.cons (d1.mono n.pre n.hard) d2))⟩
/-- how keywords bind -/
structure KwB (K : PySem.W.Frag) (fd : FuncData) (ps ks : List Str) (g : List Value → List Value → List Value) (gV : List V → List V → List V) (gD : List D → List D → List D) : Prop where
  b : KBinds K fd ps ks g gV
  d : ∀ {μ : List Addr} {H : Hp} {ds : List D} {vs : List V} {es : List D} {ws : List V}, RDs K μ H ds vs → RDs K μ H es ws → RDs K μ H (gD ds es) (gV vs ws)
variable {ks : List Str} {g : List Value → List Value → List Value} {gV : List V → List V → List V} {gD : List D → List D → List D} {kws : List Keyword} {mK : ML}
theorem run_fnkS {pins : List (Addr × Obj)} {σ : L2.St} {H : Hp} {s : Shared} {Q : VK} {us ws : List Value} {vs zs : List V} {sp : Sp} (F : FnOk G.X.prog G.X.w G.X.K G.X.mg G.X.base (L2.CX G.X.prog G.X.w) k f fd ps sp) (hr : Room k G.X.A) (hb : KBinds G.X.K fd ps ks g gV)
    (I : Inv G.X pins σ H s) (r : Vals vs us) (rz : Vals zs ws) (h : sp (gV vs zs) H Q (WE G.W σ)) : wpAny (model G.X.prog G.X.w) G.X.A (call (.ref f) us (ks.zip ws)) (EP G.X pins σ Q) G.X.xe s := by
  have rr := hb.rel r rz
  have hlen : (g us ws).length = ps.length := by rw [← rr.length, F.len _ _ _ _ h]
  refine wpAny_call (codeAny_mono (F.run G.X.A G.X.stack s H ⟨us, ks.zip ws⟩ (g us ws) (gV vs zs) Q (WE G.W σ) hr I.env0 (hb.to s us ws I.kIn hlen) rr h) fun res s2 hres => ?_)
  match res, hres with
  | .error z, hz => exact passAt G.tk σ pins H s z s2 I hz
  | .ok (.ret _), hz => exact I.after hz
  | .ok .next, hz => exact hz.elim
  | .ok .brk, hz => exact hz.elim
  | .ok .cont, hz => exact hz.elim
theorem se_callKw (F : FnOk G.X.prog G.X.w G.X.K G.X.mg G.X.base (L2.CX G.X.prog G.X.w) k f fd ps (spD G.X.K m n)) (hr : Room k G.X.A) (hg : Gl G.X x) (hm : G.X.mg x = some (.ref f)) (hk : PySem.W.keepIn G.X.K (.ref f) = true) (hb : KwB G.X.K fd ps ks g gV gD) (hkw : SK G kws mK)
    (hall : (backToKw pos (keywordEach kws G.X.env)).all (·.1.isSome) = true := by rfl) (hks : (backToKw pos (keywordEach kws G.X.env)).filterMap (·.1) = ks := by rfl) (hdb : (x == ("__debug__" : Str)) = false := by decide)
    (hpl : ((backTo pos (starEach [] G.X.env)).any (·.1) || (backToKw pos (keywordEach kws G.X.env)).any (·.1.isNone)) = false := by rfl) :
    SE G (.Call (.Name x p) [] kws pos) (mKw gD m n mNil mK) := ⟨fun pins s σ H Q I h => by
  obtain ⟨ρ, μ, S, at', q⟩ := h
  refine wpAny_Call_Name_kw (ld_glob I hg hm ?_ hdb)
  refine PySem.W.callWith_KW0 (h₀ := G.X.base) I.ok.mod.kin hk hall ?_ hpl
  refine thn (hkw.run pos pins s σ H _ I ⟨ρ, μ, S, at', po_1 (Rel := relDs G.g) at' q fun μ1 H1 S1 ks1 ws1 n1 a1 d1 q1 => (?_ : spD G.X.K m n (gV [] ws1) H1 Q (WE G.W σ))⟩) fun ws s1 ⟨zs, H1, I1, rz, q1⟩ => ⟨I1.kIn, ?_⟩
  · have q2 : Po G.g (relD G.g) μ1 H1 σ Q (if (gD [] ks1).length = n then m (gD [] ks1) S1 else .stuck) := q1
    split at q2
    · rename_i hn
      have rd := hb.d (.nil) d1
      exact ⟨gD [] ks1, μ1, S1, by rw [← rd.length]; exact hn, a1.rs, rd, po_fn q2⟩
    · exact q2.elim
  · rw [hks]
    exact run_fnkS F hr hb.b I1 .nil rz q1⟩
end
end Dn

set_option Elab.async false
set_option linter.all false
set_option maxRecDepth 100000
set_option maxHeartbeats 2000000
namespace Dn
open PySem PySem.Spec PyProof.Rows L2 RZ
/-! what stands in the written part -/
def kD (K : PySem.W.Frag) : Nat → Value → Option D
  | _, .none => some .non
  | _, .bool b => some (.bl b)
  | _, .int i _ => some (.int i)
  | _, .str x _ => some (.str x)
  | n + 1, .ref a => match K.lookup a with
    | some o => match o.cls, o.dict, o.data with
      | .type t, none, .seq its _ => if its.size ≤ sizeLine then (if t = "tuple" then (mapO (kD K n) its.toList).map .tup else if t = "list" then (mapO (kD K n) its.toList).map .rol else none) else none
      | _, _, _ => none
    | none => none
  | _, _ => none
theorem kDs_of {K : PySem.W.Frag} {f : Value → Option D} (h : ∀ {v d}, f v = some d → ∃ V, RelV V v ∧ ∀ μ H, RD K μ H d V) : ∀ {us : List Value} {ds : List D}, Paired (fun x y => f x = some y) us ds → ∃ vs, Vals vs us ∧ ∀ μ H, RDs K μ H ds vs
  | _, _, .nil => ⟨[], .nil, fun _ _ => .nil⟩
  | _, _, .cons q t => by
    obtain ⟨V, r, g⟩ := h q
    obtain ⟨vs, rs, gs⟩ := kDs_of h t
    exact ⟨V :: vs, .cons r rs, fun μ H => .cons (g μ H) (gs μ H)⟩
theorem kD_ok {K : PySem.W.Frag} : ∀ {n : Nat} {v : Value} {d : D}, kD K n v = some d → ∃ V, RelV V v ∧ ∀ μ H, RD K μ H d V := by
  intro n
  induction n with
  | zero =>
    intro v d h
    cases v <;> simp only [kD] at h <;> first | (cases h; done) | (cases h; first | exact ⟨.non, rfl, fun _ _ => .non⟩ | exact ⟨.bl _, rfl, fun _ _ => .bl _⟩ | exact ⟨.int _, ⟨_, rfl⟩, fun _ _ => .int _⟩ | exact ⟨.str _, ⟨_, rfl⟩, fun _ _ => .str _⟩)
  | succ n ih =>
    intro v d h
    cases v <;> simp only [kD] at h <;> first | (cases h; done) | (cases h; first | exact ⟨.non, rfl, fun _ _ => .non⟩ | exact ⟨.bl _, rfl, fun _ _ => .bl _⟩ | exact ⟨.int _, ⟨_, rfl⟩, fun _ _ => .int _⟩ | exact ⟨.str _, ⟨_, rfl⟩, fun _ _ => .str _⟩) | skip
    case ref a =>
      split at h
      · rename_i o e1
        split at h
        · rename_i t its m h1 h2 h3
          split at h
          · rename_i hz
            split at h
            · rename_i ht
              simp only [Option.map_eq_some_iff] at h
              obtain ⟨ds, h4, rfl⟩ := h
              obtain ⟨vs, r, g⟩ := kDs_of (fun q => ih q) (mapO_some h4)
              exact ⟨.ref a, rfl, fun μ H => .tup (.inr ⟨o, its, m, e1, by rw [h1, ht], h3, hz, r⟩) (g μ H)⟩
            · split at h
              · rename_i ht
                simp only [Option.map_eq_some_iff] at h
                obtain ⟨ds, h4, rfl⟩ := h
                obtain ⟨vs, r, g⟩ := kDs_of (fun q => ih q) (mapO_some h4)
                exact ⟨.ref a, rfl, fun μ H => .rol (.inr (.inr ⟨o, its, m, e1, by rw [h1, ht], h2, h3, hz, r⟩)) (g μ H)⟩
              · cases h
          · cases h
        · cases h
      · cases h
/-- a written dict whose keys are texts -/
def kTab (K : PySem.W.Frag) : List DictEntry → Option (List (Str × D)) := mapO fun e => match e.key with
  | .str x _ => (kD K 6 e.val).map fun d => (x, d)
  | _ => none
theorem kTab_ok {K : PySem.W.Frag} {z : Str} : ∀ {es : List DictEntry} {tab : List (Str × D)}, kTab K es = some tab →
    match es.find? (fun d => Value.isStrOf z d.key) with
    | some e => ∃ d V, tab.lookup z = some d ∧ RelV V e.val ∧ ∀ μ H, RD K μ H d V
    | none => tab.lookup z = none
  | [], tab, h => by cases h; rfl
  | e :: es, tab, h => by
    unfold kTab mapO at h
    split at h
    · rename_i p hp
      simp only [Option.map_eq_some_iff] at h
      obtain ⟨r, h1, rfl⟩ := h
      split at hp
      · rename_i x t ek
        simp only [Option.map_eq_some_iff] at hp
        obtain ⟨d, hd, rfl⟩ := hp
        rw [List.find?_cons, ek]
        by_cases hx : z = x
        · subst hx
          have : Value.isStrOf z (.str z t) = true := by simp [Value.isStrOf]
          rw [this]
          obtain ⟨V, r1, g⟩ := kD_ok hd
          exact ⟨d, V, by simp [List.lookup], r1, g⟩
        · have : Value.isStrOf z (.str x t) = false := by simp [Value.isStrOf]; exact fun q => hx q.symm
          rw [this]
          have ih := kTab_ok (z := z) (es := es) h1
          have e2 : ((x, d) :: r).lookup z = r.lookup z := by
            have : (z == x) = false := by simp [hx]
            simp [List.lookup, this]
          rw [e2]
          exact ih
      · cases hp
    · cases h
/-- the facts of a written dict -/
structure KTab (K : PySem.W.Frag) (w : World) (a : Addr) (tab : List (Str × D)) : Prop where
  ex : ∃ es n, K.lookup a = some ⟨.type "dict", none, .dict es n, #[]⟩ ∧ PySem.W.KeysLit w.params es.toList ∧ kTab K es.toList = some tab
  low : (a == sysModules) = false
def kgetD (tab : List (Str × D)) (d : D) (S : Sto) : R D := match d with
  | .str z => match tab.lookup z with
    | some d => .ok d S
    | none => .ok .non S
  | _ => .stuck
section
variable {G : Fx} {e : Expr} {ma : ME} {cpos apos p : Pos} {x : Str} {a : Addr} {tab : List (Str × D)}
theorem se_kget (hg : Gl G.X x) (hm : G.X.mg x = some (.ref a)) (T : KTab G.X.K G.X.w a tab) (ha : SE G e ma) (m : M1 G.X (.Name x p) "get" apos e cpos) (hdb : (x == ("__debug__" : Str)) = false := by decide) :
    SE G (.Call (.Attribute (.Name x p) "get" apos) [e] [] cpos) (m1 (kgetD tab) ma) := ⟨fun pins s σ H Q I h => by
  obtain ⟨es, n, hl, hk, ht⟩ := T.ex
  have mo := PySem.W.mapOf_K (prog := G.X.prog) (w := G.X.w) I.kIn hl hk
  refine wpAny_Call_method m.base m.few m.line PySem.F.plainAttrs_dict PySem.F.slot_dict_get PySem.F.type_dict_get (ld_glob I hg hm ?_ hdb)
  refine ⟨mo.typeIs, fun b q => ⟨_, by cases q; exact I.kIn a _ hl, rfl⟩, ?_⟩
  rw [m.trees]
  have h' : tE G.g ma σ H fun v H1 => ∃ z V, v = .str z ∧ RelV V ((findBy Value.isStrOf es z).getD .none) ∧ Q V H1 := tE_1 h fun μ H S d v rs r q => by
    cases r <;> first | exact q.elim | skip
    case str z =>
      have kt := kTab_ok (z := z) ht
      have ef : findBy Value.isStrOf es z = (es.toList.find? (fun d => Value.isStrOf z d.key)).map (·.val) := by
        obtain ⟨l⟩ := es
        unfold findBy
        rw [List.find?_toArray]
      simp only [kgetD] at q
      suffices key : ∃ V, RelV V ((findBy Value.isStrOf es z).getD Value.none) ∧ Q V H from let ⟨V, h1, h2⟩ := key; ⟨z, V, rfl, h1, h2⟩
      rw [ef]
      revert kt
      cases List.find? (fun d => Value.isStrOf z d.key) es.toList with
      | none =>
        intro kt
        have kt' : tab.lookup z = none := kt
        rw [kt'] at q
        exact ⟨.non, rfl, Po.same rs .non q⟩
      | some en =>
        intro kt
        obtain ⟨d, V, e1, r1, g⟩ := kt
        rw [e1] at q
        exact ⟨V, r1, Po.same rs (g μ H) q⟩
  refine wpAny_dict_get1 (knd := strKind G.X.prog G.X.w) T.low (thn (ha.run pins s σ H _ I h') fun u s1 hu => ?_)
  obtain ⟨v, H1, I1, rv, z, V, rfl, rV, q⟩ := hu
  obtain ⟨t, rfl⟩ := rv
  exact ⟨z, _, strKind_is _ _ z t, PySem.W.mapOf_K (prog := G.X.prog) (w := G.X.w) I1.kIn hl hk, V, H1, I1.tok _, rV, q⟩⟩
/-- a module's constant -/
theorem se_glob {u : Value} {d : D} {pos : Pos} (hg : Gl G.X x) (hm : G.X.mg x = some u) (hk : kD G.X.K 6 u = some d) (hd : (x == ("__debug__" : Str)) = false := by decide) : SE G (.Name x pos) (mC d) := by
  obtain ⟨V, r, g⟩ := kD_ok hk
  exact se_C (pe_glob hg hm r hd) fun μ H => g μ H
end
/-! how keywords bind -/
section
variable {K : PySem.W.Frag}
theorem Fun.kw {x qual : Str} {st : Stmt} {f : Addr} {fd : FuncData} {ps ks : List Str} {g : List Value → List Value → List Value} {gV : List V → List V → List V} {gD : List D → List D → List D} (F : Fun K x qual st f fd)
    (h : ∀ (kV doc pm : Value) (an : Option Addr) (cdv ct : Value) (us ws : List Value), (g us ws).length = ps.length → bindArgs (PySem.W.fnOf x qual (defArgs st) (defBody st) (defScope st) .none kV doc pm an cdv ct) ⟨us, ks.zip ws⟩ = pure (ps.zip (g us ws)))
    (hV : ∀ {vs : List V} {us : List Value} {zs : List V} {ws : List Value}, Vals vs us → Vals zs ws → Vals (gV vs zs) (g us ws))
    (hD : ∀ {μ : List Addr} {H : Hp} {ds : List D} {vs : List V} {es : List D} {ws : List V}, RDs K μ H ds vs → RDs K μ H es ws → RDs K μ H (gD ds es) (gV vs ws)) : KwB K fd ps ks g gV gD := by
  obtain ⟨oc, od, kV, doc, pm, an, cdv, ct, osl, rfl, lk, hcd⟩ := F.ex
  exact ⟨⟨fun s us ws _ hl => .of_eq (h kV doc pm an cdv ct us ws hl), hV⟩, hD⟩
end
/-! the end of a law -/
theorem PoF.yes {K : PySem.W.Frag} {μ : List Addr} {H : Hp} {E : XK} {r : R D} (h : ∃ S, r = .ok (.bl true) S) : PoF K μ H (fun v _ => v = .bl true) E r := by
  obtain ⟨S, rfl⟩ := h
  intro μ' H' v n rs rd
  cases rd
  rfl
theorem RDs.ints {K : PySem.W.Frag} {μ : List Addr} {H : Hp} : ∀ ns : List Int, RDs K μ H (ns.map D.int) (ns.map V.int)
  | [] => .nil
  | n :: ns => .cons (.int n) (RDs.ints ns)
theorem script_rol {K : PySem.W.Frag} {H : Hp} {a : Addr} {vs : List V} (hO : Only H) (h : SqL K H a vs) : RoL K H a vs := by
  rcases h with (h | ⟨o, h⟩) | h
  · rcases hO a with q | ⟨o, xs, q⟩
    · rw [h] at q; cases q
    · rw [h] at q; cases q
  · exact .inl ⟨o, h⟩
  · exact .inr (.inr h)
/-- the law's promise, from its mirror -/
theorem sp_law {K : PySem.W.Frag} {m : List D → Sto → R D} (hm : ∀ ns : List Int, ns.length ≤ 63 → ∃ S, m [.rol (ns.map D.int)] [] = .ok (.bl true) S) (H : Hp) (a : Addr) (ns : List Int) (hl : ns.length ≤ 63) (hO : Only H) (h : SqL K H a (ns.map V.int)) (E : XK) :
    spD K m 1 [.ref a] H (fun v _ => v = .bl true) E :=
  ⟨[.rol (ns.map D.int)], [], [], rfl, ⟨rfl, List.nodup_nil, fun i a o h => by simp at h⟩, .cons (.rol (script_rol hO h) (RDs.ints ns)) .nil, PoF.yes (hm ns hl)⟩
end Dn

set_option Elab.async false
set_option linter.all false
set_option maxRecDepth 100000
set_option maxHeartbeats 2000000
namespace Dn
open PySem PySem.Spec PyProof.Rows L2 RZ
section
variable {G : Fx} {a b c e o : Expr} {es : List Expr} {ma mb mc : ME} {mA : ML} {pos p : Pos} {x y : Str} {tg : Expr}
/-- name = [.. for ..] on one line -/
theorem ss_setLc (i : Nat) {py spos : Pos} {elt iter : Expr} {ifs : List Expr} {scope : Scope} {own : List (Str × Nat)} {mi : MI} {g : MG} {tt : MB} {te : ME} {ts : List Nat} (hc : G.X.calm = true) (hN : G.X.N.Nodup) (hi : SI G tg iter mi) (ok : BlkOk G.X.N G.X.env.scope scope own)
    (hg : ∀ (s : Shared) (H : Hp) (C : Addr) (cl : List (Str × Addr)) (fp : List Addr), SG (G.blk s H scope (compEnvC scope cl C G.X.env) fp) ts tg g) (ht : ∀ (s : Shared) (H : Hp) (C : Addr) (cl : List (Str × Addr)) (fp : List Addr), STs (G.blk s H scope (compEnvC scope cl C G.X.env) fp) ifs tt)
    (he : ∀ (s : Shared) (H : Hp) (C : Addr) (cl : List (Str × Addr)) (fp : List Addr), SE (G.blk s H scope (compEnvC scope cl C G.X.env) fp) elt te) (hts : ∀ i ∈ ts, i ∈ own.map (·.2))
    (hy : G.X.N[i]? = some y := by rfl) (hyl : G.X.env.scope.names.lookup y = some .local := by rfl) (hsw : swapsWith (.ListComp elt [⟨tg, iter, ifs, 0⟩] scope pos) (some (.Name y py)) spos.line G.X.env = pure true := by exact sw_true rfl rfl rfl (by decide +kernel)) (hs : ∀ z, foldedSetIterable iter G.X.env z = pure z := by intro _; rfl) :
    SS G (.Assign [.Name y py] (.ListComp elt [⟨tg, iter, ifs, 0⟩] scope pos) spos) (sSet (mLc mi g tt te (own.map (·.2))) i) :=
  ps_imp (ps_setLc hc hN hy hyl hsw hi ok hg ht he hs) fun E σ H h => tE_lc hts (by
    obtain ⟨ρ, μ, S, at', q⟩ := h
    refine ⟨ρ, μ, S, at', po_to at' q fun μ1 H1 S1 d v n a1 d1 q1 => ?_⟩
    exact q1 μ1 H1 _ (Nx.refl μ1 H1) a1.rs (a1.re.set i d1))
/-- a, b = e1, e2 -/
def sPar (ml : ML) (i j : Nat) : MS := fun ρ S => (ml ρ S).to ρ fun ds S1 => match ds with
  | [d, e] => .nx ((ρ.set i (some d)).set j (some e)) S1
  | _ => .stuck
theorem ss_par (i j : Nat) {px py pt : Pos} {kt k2 : Nat} {pt2 : Pos} (hc : G.X.calm = true) (hN : G.X.N.Nodup) (ha : SA G [a, b] mA) (hi : G.X.N[i]? = some x := by rfl) (hj : G.X.N[j]? = some y := by rfl) (hij : i ≠ j := by decide)
    (hx : G.X.env.scope.names.lookup x = some .local := by rfl) (hy : G.X.env.scope.names.lookup y = some .local := by rfl) (hw : swappedStores [.Tuple [.Name x px, .Name y py] kt pt] (.Tuple [a, b] k2 pt2) G.X.env = pure (some [x, y]) := by rfl)
    (hs : swapsWithSole [.Tuple [.Name x px, .Name y py] kt pt] (.Tuple [a, b] k2 pt2) pos.line G.X.env = pure false := by rfl) :
    SS G (.Assign [.Tuple [.Name x px, .Name y py] kt pt] (.Tuple [a, b] k2 pt2) pos) (sPar mA i j) :=
  ps_imp (ps_par hc hN hi hj hij hx hy ha hw hs) fun E σ H h => by
    obtain ⟨ρ, μ, S, at', q⟩ := h
    refine ⟨ρ, μ, S, at', po_to (Rel := relDs G.g) at' q fun μ1 H1 S1 ds vs n a1 d1 q1 => ?_⟩
    match ds, vs, d1, q1 with
    | [d, e], [v, w], .cons r1 (.cons r2 .nil), q1 => exact ⟨v, w, rfl, q1 μ1 H1 _ (Nx.refl μ1 H1) a1.rs ((a1.re.set i r1).set j r2)⟩
    | [], _, .nil, q1 => exact q1.elim
    | [d], _, .cons r1 .nil, q1 => exact q1.elim
    | d :: e :: f :: r, _, .cons r1 (.cons r2 (.cons r3 r4)), q1 => exact q1.elim
end
end Dn
namespace Dn
open PySem PySem.Spec PyProof.Rows L2 RZ
/-! ## a def of the text, with its mirror, to be called -/
def BindsOk (x : Str) (st : Stmt) (ps : List Str) : Prop := ∀ (kV doc pm : Value) (an : Option Addr) (cdv ct : Value) (us : List Value), us.length = ps.length → bindArgs (PySem.W.fnOf x x (defArgs st) (defBody st) (defScope st) .none kV doc pm an cdv ct) ⟨us, []⟩ = pure (ps.zip us)
def KwOk (x : Str) (st : Stmt) (ps ks : List Str) (g : List Value → List Value → List Value) : Prop := ∀ (kV doc pm : Value) (an : Option Addr) (cdv ct : Value) (us ws : List Value), (g us ws).length = ps.length → bindArgs (PySem.W.fnOf x x (defArgs st) (defBody st) (defScope st) .none kV doc pm an cdv ct) ⟨us, ks.zip ws⟩ = pure (ps.zip (g us ws))
structure Cal (P : Program) (w : World) (K : PySem.W.Frag) (mg : Str → Option Value) (base : Heap) (x : Str) (st : Stmt) (k : Nat) (ps : List Str) (m : List D → Sto → R D) : Prop where
  ex : ∃ (a : Addr) (fd : FuncData), Fun K x x st a fd ∧ mg x = some (.ref a) ∧ FnOk P w K mg base (L2.CX P w) k a fd ps (spD K m ps.length)
section
variable {G : Fx} {e : Expr} {es : List Expr} {mA mK : ML} {pos p : Pos} {x : Str} {k j n : Nat} {st : Stmt} {ps : List Str} {m : List D → Sto → R D}
def callD (n : Nat) (m : List D → Sto → R D) (ds : List D) (S : Sto) : R D := if ds.length = n then m ds S else .stuck
theorem se_callC (C : Cal G.X.prog G.X.w G.X.K G.X.mg G.X.base x st k ps m) (b : BindsOk x st ps) (hr : Room j G.X.A) (hj : k ≤ j) (hg : Gl G.X x) (ha : SA G (e :: es) mA)
    (hdb : (x == ("__debug__" : Str)) = false := by decide) (he : starEach (e :: es) G.X.env = (false, eval e G.X.env) :: starEach es G.X.env := by rfl) (hpl : (backTo pos (starEach es G.X.env)).any (·.1) = false := by rfl) :
    SE G (.Call (.Name x p) (e :: es) [] pos) (mL (callD ps.length m) mA) := by
  obtain ⟨a, fd, F, hm, ok⟩ := C.ex
  refine pe_imp (pe_callS ok (hr.mono hj) hg hm F.kp (F.binds b) (passAt G.tk) ha hdb he hpl) fun σ H Q h => tA_1 h fun μ H S ds vs rs r q => ?_
  unfold callD at q
  split at q
  · rename_i hn
    exact ⟨ds, μ, S, by rw [← r.length]; exact hn, rs, r, po_fn q⟩
  · exact q.elim
theorem se_callCKw {ks : List Str} {g : List Value → List Value → List Value} {gV : List V → List V → List V} {gD : List D → List D → List D} {kws : List Keyword} (C : Cal G.X.prog G.X.w G.X.K G.X.mg G.X.base x st k ps m) (b : KwOk x st ps ks g)
    (hV : ∀ {vs : List V} {us : List Value} {zs : List V} {ws : List Value}, Vals vs us → Vals zs ws → Vals (gV vs zs) (g us ws)) (hD : ∀ {μ : List Addr} {H : Hp} {ds : List D} {vs : List V} {es : List D} {ws : List V}, RDs G.X.K μ H ds vs → RDs G.X.K μ H es ws → RDs G.X.K μ H (gD ds es) (gV vs ws))
    (hr : Room j G.X.A) (hj : k ≤ j) (hg : Gl G.X x) (hkw : SK G kws mK)
    (hall : (backToKw pos (keywordEach kws G.X.env)).all (·.1.isSome) = true := by rfl) (hks : (backToKw pos (keywordEach kws G.X.env)).filterMap (·.1) = ks := by rfl) (hdb : (x == ("__debug__" : Str)) = false := by decide)
    (hpl : ((backTo pos (starEach [] G.X.env)).any (·.1) || (backToKw pos (keywordEach kws G.X.env)).any (·.1.isNone)) = false := by rfl) :
    SE G (.Call (.Name x p) [] kws pos) (mKw gD m ps.length mNil mK) := by
  obtain ⟨a, fd, F, hm, ok⟩ := C.ex
  exact se_callKw ok (hr.mono hj) hg hm F.kp (Fun.kw F b hV hD) hkw hall hks hdb hpl
end
/-- how a def stands in the written part -/
structure FunK (K : PySem.W.Frag) (x : Str) (st : Stmt) (f : Addr) : Prop where
  ns : PySem.W.nsIn K mainGlobals x = some (some (.ref f))
  ex : ∃ (oc : Value) (od : Option Addr) (kV doc pm : Value) (an : Option Addr) (cdv ct : Value) (osl : Array (Option Value)),
    K.lookup f = some ⟨oc, od, .func (PySem.W.fnOf x x (defArgs st) (defBody st) (defScope st) .none kV doc pm an cdv ct), osl⟩ ∧ PySem.W.codeIn K cdv x = true
  kp : PySem.W.keepIn K (.ref f) = true
theorem FunK.fn {K : PySem.W.Frag} {x : Str} {st : Stmt} {f : Addr} (F : FunK K x st f) : ∃ fd, Fun K x x st f fd := by
  obtain ⟨oc, od, kV, doc, pm, an, cdv, ct, osl, l, c⟩ := F.ex
  exact ⟨_, fun_mk l c F.kp⟩
theorem Cal.mk' {P : Program} {w : World} {K : PySem.W.Frag} {mg : Str → Option Value} {base h : Heap} {x : Str} {st : Stmt} {k : Nat} {ps : List Str} {m : List D → Sto → R D} {f : Addr} (F : FunK K x st f) (X : K.In h) (G : h.Ns mainGlobals mg)
    (ok : ∀ fd, Fun K x x st f fd → FnOk P w K mg base (L2.CX P w) k f fd ps (spD K m ps.length)) : Cal P w K mg base x st k ps m := by
  obtain ⟨fd, ff⟩ := F.fn
  exact ⟨f, fd, ff, PySem.W.mg_of X G F.ns, ok fd ff⟩
theorem cx_none {P : Program} {w : World} {H : Hp} {s : Shared} {e : Value} {s' : Shared} (h : L2.CX P w [] H s (fun _ _ _ => False) e s') : False := by
  obtain ⟨_, _, _, _, _, _, _, _, _, _, _, _, z⟩ := h
  exact z
end Dn

set_option Elab.async false
set_option linter.all false
set_option maxRecDepth 100000
set_option maxHeartbeats 2000000
namespace Dn
open PySem PySem.Spec PyProof.Rows L2 RZ
/-! Mirrors are run by simp, the first thing first. -/
section
variable {α β : Type}
theorem R.bind_congr {r r' : R α} {f : α → Sto → R β} (h : r = r') : r.bind f = r'.bind f := by rw [h]
theorem R.bindN_congr {r r' : R α} {f : α → Sto → R β} (h : r = r') : r.bindN f = r'.bindN f := by rw [h]
theorem R.to_congr {r r' : R α} {ρ : Ev} {f : α → Sto → F} (h : r = r') : r.to ρ f = r'.to ρ f := by rw [h]
theorem F.seq_congr {r r' : F} {k : Ev → Sto → F} (h : r = r') : r.seq k = r'.seq k := by rw [h]
@[simp] theorem R.bind_ok {a : α} {S : Sto} {f : α → Sto → R β} : (R.ok a S).bind f = f a S := rfl
@[simp] theorem R.bind_exc {c : Addr} {fs : List (Str × D)} {S : Sto} {f : α → Sto → R β} : (R.exc c fs S : R α).bind f = .exc c fs S := rfl
@[simp] theorem R.bind_stuck {f : α → Sto → R β} : (R.stuck : R α).bind f = .stuck := rfl
@[simp] theorem R.bindN_ok {a : α} {S : Sto} {f : α → Sto → R β} : (R.ok a S).bindN f = f a S := rfl
@[simp] theorem R.to_ok {a : α} {S : Sto} {ρ : Ev} {f : α → Sto → F} : (R.ok a S).to ρ f = f a S := rfl
@[simp] theorem R.to_exc {c : Addr} {fs : List (Str × D)} {S : Sto} {ρ : Ev} {f : α → Sto → F} : (R.exc c fs S : R α).to ρ f = .ex c fs ρ S := rfl
@[simp] theorem F.seq_nx {ρ : Ev} {S : Sto} {k : Ev → Sto → F} : (F.nx ρ S).seq k = k ρ S := rfl
@[simp] theorem F.seq_rt {d : D} {S : Sto} {k : Ev → Sto → F} : (F.rt d S).seq k = .rt d S := rfl
@[simp] theorem F.seq_bk {ρ : Ev} {S : Sto} {k : Ev → Sto → F} : (F.bk ρ S).seq k = .bk ρ S := rfl
@[simp] theorem F.seq_ct {ρ : Ev} {S : Sto} {k : Ev → Sto → F} : (F.ct ρ S).seq k = .ct ρ S := rfl
@[simp] theorem F.seq_ex {c : Addr} {fs : List (Str × D)} {ρ : Ev} {S : Sto} {k : Ev → Sto → F} : (F.ex c fs ρ S).seq k = .ex c fs ρ S := rfl
end
section
variable {ρ : Ev} {S : Sto} {f g : D → D → Sto → R D} {h1 : D → Sto → R D} {hL : List D → Sto → R D} {ma mb mc : ME} {tc td : MB} {mA mB : ML} {ms mr : MS} {tg : MG} {i j n : Nat} {d e : D} {ds : List D} {mi : MI} {it : Wk} {body : MS}
/-- where a match stands on a result -/
def R.cases {α β : Type} (r : R α) (k : α → Sto → R β) : R β := r.bind k
@[simp] theorem mVar_0 {o : Option D} {r : Ev} : mVar 0 (o :: r) S = (match o with | some d => .ok d S | none => .stuck) := by cases o <;> rfl
@[simp] theorem mVar_s {o : Option D} {r : Ev} : mVar (i + 1) (o :: r) S = mVar i r S := rfl
@[simp] theorem mC_eq : mC d ρ S = .ok d S := rfl
@[simp] theorem m1_eq : m1 h1 ma ρ S = (ma ρ S).bind fun x S1 => h1 x S1 := rfl
@[simp] theorem m2_eq : m2 f ma mb ρ S = (ma ρ S).bind fun x S1 => (mb ρ S1).bind fun y S2 => f x y S2 := rfl
@[simp] theorem mNil_eq : mNil ρ S = .ok [] S := rfl
@[simp] theorem mCons_eq : mCons ma mA ρ S = (ma ρ S).bind fun x S1 => (mA ρ S1).bind fun xs S2 => .ok (x :: xs) S2 := rfl
@[simp] theorem mL_eq : mL hL mA ρ S = (mA ρ S).bind fun xs S1 => hL xs S1 := rfl
@[simp] theorem mNo_eq : mNo ρ S = .ok none S := rfl
@[simp] theorem mYo_eq : mYo ma ρ S = (ma ρ S).bind fun d S1 => match d with
  | .int i => .ok (some i) S1
  | _ => .stuck := rfl
@[simp] theorem mSl_eq {ml mh : MO} : mSl ma ml mh ρ S = (ma ρ S).bind fun x S1 => (ml ρ S1).bind fun lo S2 => (mh ρ S2).bind fun hi S3 => sliceD x lo hi S3 := rfl
@[simp] theorem mT_eq : mT ma ρ S = (ma ρ S).bind fun d S1 => match truD S1 d with
  | some b => .ok b S1
  | none => .stuck := rfl
@[simp] theorem mTb_eq : mTb ma ρ S = (ma ρ S).bind fun d S1 => match d with
  | .bl b => .ok b S1
  | _ => .stuck := rfl
@[simp] theorem mChain_eq : mChain f g ma mb mc ρ S = (ma ρ S).bind fun x S1 => (mb ρ S1).bind fun y S2 => (f x y S2).bind fun z S3 => match z with
  | .bl true => (mc ρ S3).bind fun w S4 => g y w S4
  | .bl false => .ok (.bl false) S3
  | _ => .stuck := rfl
@[simp] theorem mNot_eq : mNot tc ρ S = (tc ρ S).bind fun b S1 => .ok (!b) S1 := rfl
@[simp] theorem mAnd_eq : mAnd tc td ρ S = (tc ρ S).bind fun b S1 => if b then td ρ S1 else .ok false S1 := rfl
@[simp] theorem mOr_eq : mOr tc td ρ S = (tc ρ S).bind fun b S1 => if b then .ok true S1 else td ρ S1 := rfl
@[simp] theorem mAndV_eq : mAndV ma mb ρ S = (ma ρ S).bind fun d S1 => match truD S1 d with
  | some true => mb ρ S1
  | some false => .ok d S1
  | none => .stuck := rfl
@[simp] theorem mOrV_eq : mOrV ma mb ρ S = (ma ρ S).bind fun d S1 => match truD S1 d with
  | some true => .ok d S1
  | some false => mb ρ S1
  | none => .stuck := rfl
@[simp] theorem mIf_eq : mIf tc ma mb ρ S = (tc ρ S).bind fun b S1 => if b then ma ρ S1 else mb ρ S1 := rfl
@[simp] theorem mMeth_eq {T : String} {f : D → List D → Sto → R D} : mMeth T f ma mA ρ S = (ma ρ S).bind fun o S1 => if tyIs T S1 o then (mA ρ S1).bind fun ds S2 => f o ds S2 else .stuck := rfl
@[simp] theorem mKw_eq {gV : List D → List D → List D} : mKw gV hL n mA mB ρ S = (mA ρ S).bind fun ds S1 => (mB ρ S1).bind fun ks S2 => if (gV ds ks).length = n then hL (gV ds ks) S2 else .stuck := rfl
@[simp] theorem sSkip_eq : sSkip ρ S = .nx ρ S := rfl
@[simp] theorem sSeq_eq : sSeq ms mr ρ S = (ms ρ S).seq mr := rfl
@[simp] theorem sRet_eq : sRet ma ρ S = (ma ρ S).to ρ fun d S1 => .rt d S1 := rfl
@[simp] theorem sRetN_eq : sRetN ρ S = .rt .non S := rfl
@[simp] theorem sExpr_eq : sExpr ma ρ S = (ma ρ S).to ρ fun _ S1 => .nx ρ S1 := rfl
@[simp] theorem sIf_eq : sIf tc ms mr ρ S = (tc ρ S).to ρ fun b S1 => if b then ms ρ S1 else mr ρ S1 := rfl
@[simp] theorem sSet_eq : sSet ma i ρ S = (ma ρ S).to ρ fun d S1 => .nx (ρ.set i (some d)) S1 := rfl
@[simp] theorem sAsg_eq : sAsg ma tg ρ S = (ma ρ S).to ρ fun d S1 => match tg d ρ S1 with
  | .ok ρ2 S2 => .nx ρ2 S2
  | _ => .stuck := rfl
@[simp] theorem sPar_eq : sPar mA i j ρ S = (mA ρ S).to ρ fun ds S1 => match ds with
  | [d, e] => .nx ((ρ.set i (some d)).set j (some e)) S1
  | _ => .stuck := rfl
@[simp] theorem gN_eq : gN i d ρ S = .ok (ρ.set i (some d)) S := rfl
@[simp] theorem gs0_eq : gs0 [] ρ S = .ok ρ S := rfl
@[simp] theorem gsC_eq {gs : MGs} : gsC tg gs (d :: ds) ρ S = (tg d ρ S).bind fun ρ1 S1 => gs ds ρ1 S1 := rfl
@[simp] theorem gT_eq {gs : MGs} : gT n gs (.tup ds) ρ S = if ds.length = n then gs ds ρ S else .stuck := rfl
@[simp] theorem gSub_eq {mo mi : ME} : gSub mo mi d ρ S = (mo ρ S).bind fun o S1 => (mi ρ S1).bind fun i S2 => match putD o i S2 d with
  | some S3 => .ok ρ S3
  | none => .stuck := rfl
@[simp] theorem mI_eq : mI ma ρ S = (ma ρ S).bind fun d S1 => match walkD S1 d with
  | some it => .ok it S1
  | none => .stuck := rfl
@[simp] theorem mIA_eq {f : List D → Sto → Option Wk} : mIA f mA ρ S = (mA ρ S).bind fun ds S1 => match f ds S1 with
  | some it => .ok it S1
  | none => .stuck := rfl
@[simp] theorem sFor_eq : sFor mi tg body ρ S = (mi ρ S).to ρ fun it S1 => forF it tg body it.n ρ S1 := rfl
@[simp] theorem mLc_eq {tt : MB} {te : ME} {own : List Nat} : mLc mi tg tt te own ρ S = (mi ρ S).bind fun it S1 => (lcF it tg tt te own S1.length ρ it.n (S1 ++ [.lst []])).bindN fun _ S2 => .ok (.ref S1.length) S2 := rfl
@[simp] theorem tYesM_eq : tYesM ρ S = .ok true S := rfl
@[simp] theorem mDk_eq : mDk ρ S = .ok (.ref S.length) (S ++ [.dk []]) := rfl
@[simp] theorem addD_int {x y : Int} : addD (.int x) (.int y) S = .ok (.int (x + y)) S := rfl
@[simp] theorem int0D_int {g : Int → Int → Int} {x y : Int} : int0D g (.int x) (.int y) S = .ok (.int (g x y)) S := rfl
@[simp] theorem intD_int {c : Int → Int → Bool} {g : Int → Int → Int} {x y : Int} : intD c g (.int x) (.int y) S = if c x y then .ok (.int (g x y)) S else .stuck := rfl
@[simp] theorem icmpD_int {g : Int → Int → Bool} {x y : Int} : icmpD g (.int x) (.int y) S = .ok (.bl (g x y)) S := rfl
@[simp] theorem mulD_int {x y : Int} : mulD (.int x) (.int y) S = if cMul x y then .ok (.int (x * y)) S else .stuck := rfl
@[simp] theorem intC_int {x : Int} : intC [.int x] S = .ok (.int x) S := rfl
@[simp] theorem intC_bl {x : Bool} : intC [.bl x] S = .ok (.int (if x then 1 else 0)) S := rfl
end
end Dn

set_option Elab.async false
set_option linter.all false
set_option maxRecDepth 100000
set_option maxHeartbeats 4000000
namespace Dn
open PySem PySem.Spec PyProof.Rows L2 RZ
/-! The draws that all laws make: a pool of two numbers, and what is taken from it. -/
def takeB : MS := (sSeq (sIf (mTb (m2 (icmpD fun i j => decide (j < i)) (m2 itemD (mVar 0) (mC (.int 0))) (mC (.int 0)))) (sSeq (sSet (m2 (intD cMod fun i j => i % j) (mL intC (mCons (m2 itemD (mVar 0) (mC (.int 0))) mNil)) (mVar 1)) 2)
    (sSeq (sAsg (m2 (intD cDiv fun i j => i / j) (m2 itemD (mVar 0) (mC (.int 0))) (mVar 1)) (gSub (mVar 0) (mC (.int 0))))
    (sRet (mVar 2)))) sSkip)
    (sSeq (sAsg (m2 (intD cMod fun i j => i % j) (mL intC (mCons (m2 addD (m2 mulD (m2 itemD (mVar 0) (mC (.int 1))) (mC (.int 48271))) (mC (.int 12345))) mNil)) (mC (.int 2147483647))) (gSub (mVar 0) (mC (.int 1))))
    (sRet (m2 (intD cMod fun i j => i % j) (m2 (intD cDiv fun i j => i / j) (m2 (intD cMod fun i j => i % j) (mL intC (mCons (m2 mulD (m2 itemD (mVar 0) (mC (.int 1))) (m2 itemD (mVar 0) (mC (.int 1)))) mNil)) (mC (.int 2147483629))) (mC (.int 64))) (mVar 1)))))
def poolB : MS := (sSeq (sSet (m2 itemD (m2 addD (mSl (mVar 0) (mYo (mVar 1)) (mYo (m2 addD (mVar 1) (mC (.int 1))))) (mL lstD (mCons (mC (.int 0)) mNil))) (mC (.int 0))) 2)
    (sSeq (sSet (mIf (mTb (m2 (icmpD fun i j => decide (j ≤ i)) (mVar 2) (mC (.int 0)))) (mVar 2) (m2 (int0D fun i j => i - j) (m1 negD (mC (.int 1))) (mVar 2))) 3)
    (sSeq (sSet (m2 (intD cMod fun i j => i % j) (m2 mulD (mL intC (mCons (m2 addD (m2 addD (m2 addD (m2 (intD cMod fun i j => i % j) (mVar 3) (mC (.int 2147483629))) (m2 mulD (m2 mulD (mC (.int 7919)) (mVar 1)) (mVar 1))) (m2 mulD (mC (.int 31)) (mVar 1))) (mC (.int 17))) mNil)) (mC (.int 48271))) (mC (.int 2147483647))) 4)
    (sRet (mL lstD (mCons (m2 mulD (mVar 3) (mL intC (mCons (m2 (icmpD fun i j => decide (j ≤ i)) (mVar 3) (m2 (intD cPow fun i j => i ^ j.toNat) (mC (.int 10)) (mC (.int 18)))) mNil))) (mCons (m2 (intD cMod fun i j => i % j) (m2 mulD (mVar 4) (mVar 4)) (mC (.int 2147483629))) mNil)))))))
/-- a pool stands at i -/
def Pool (S : Sto) (i : Nat) : Prop := ∃ a b : Int, S[i]? = some (.lst [.int a, .int b]) ∧ 0 ≤ b ∧ b < 2147483647
theorem take_spec {S : Sto} {i : Nat} {n : Int} (h : Pool S i) (h1 : 1 ≤ n) (h2 : n < 1073741824) : ∃ d a b, fnD takeB 3 [.ref i, .int n] S = .ok (.int d) (S.set i (.lst [.int a, .int b])) ∧ 0 ≤ d ∧ d < n ∧ 0 ≤ b ∧ b < 2147483647 := by
  obtain ⟨a, b, e, hb0, hb1⟩ := h
  have hz : ∀ x, (S.set i x)[i]? = some x := fun x => List.getElem?_set_self (List.getElem?_eq_some_iff.mp e).1
  have x2 : ∀ x, cMod x n = true := by simp [cMod]; omega
  have x3 : ∀ x, cDiv x n = true := by simp [cDiv]; omega
  have x4 : ∀ x, cMod x 2147483647 = true := by simp [cMod]
  have x5 : ∀ x, cMod x 2147483629 = true := by simp [cMod]
  have x6 : ∀ x, cDiv x 64 = true := by simp [cDiv]
  have x7 : cMul b 48271 = true := by simp [cMul]
  by_cases ha : 0 < a
  · refine ⟨a % n, a / n, b, ?_, Int.emod_nonneg _ (by omega), Int.emod_lt_of_pos _ (by omega), hb0, hb1⟩
    simp [takeB, fnD, itemD, e, atI, ixN, putD, ha, x2, x3]
  · have y0 : 0 ≤ (b * 48271 + 12345) % 2147483647 := Int.emod_nonneg _ (by decide)
    have y1 : (b * 48271 + 12345) % 2147483647 < 2147483647 := Int.emod_lt_of_pos _ (by decide)
    have x8 : cMul ((b * 48271 + 12345) % 2147483647) ((b * 48271 + 12345) % 2147483647) = true := by simp [cMul]; omega
    refine ⟨(b * 48271 + 12345) % 2147483647 * ((b * 48271 + 12345) % 2147483647) % 2147483629 / 64 % n, a, (b * 48271 + 12345) % 2147483647, ?_, Int.emod_nonneg _ (by omega), Int.emod_lt_of_pos _ (by omega), y0, y1⟩
    simp [takeB, fnD, itemD, e, atI, ixN, putD, ha, x2, x3, x4, x5, x6, x7, x8, hz]
@[simp] theorem get_app {α : Type} (S T : List α) (k : Nat) : (S ++ T)[S.length + k]? = T[k]? := by rw [List.getElem?_append_right (Nat.le_add_right _ _), Nat.add_sub_cancel_left]
@[simp] theorem get_app0 {α : Type} (S T : List α) : (S ++ T)[S.length]? = T[0]? := get_app S T 0
@[simp] theorem set_app {α : Type} (S T : List α) (k : Nat) (x : α) : (S ++ T).set (S.length + k) x = S ++ T.set k x := by rw [List.set_append_right _ _ (Nat.le_add_right _ _), Nat.add_sub_cancel_left]
@[simp] theorem set_app0 {α : Type} (S T : List α) (x : α) : (S ++ T).set S.length x = S ++ T.set 0 x := set_app S T 0 x
@[simp] theorem negD_int {S : Sto} {x : Int} : negD (.int x) S = .ok (.int (-x)) S := rfl
@[simp] theorem notD_bl {S : Sto} {x : Bool} : notD (.bl x) S = .ok (.bl (!x)) S := rfl
theorem atI_lit {α : Type} {xs : List α} {j : Nat} {v : α} (h : xs[j]? = some v) : atI xs (j : Int) = some v := atI_nat h
@[simp] theorem atI_0 {α : Type} {x : α} {xs : List α} : atI (x :: xs) 0 = some x := atI_nat (j := 0) rfl
@[simp] theorem atI_1 {α : Type} {x y : α} {xs : List α} : atI (x :: y :: xs) 1 = some y := atI_nat (j := 1) rfl
@[simp] theorem atI_2 {α : Type} {x y z : α} {xs : List α} : atI (x :: y :: z :: xs) 2 = some z := atI_nat (j := 2) rfl
@[simp] theorem atI_3 {α : Type} {x y z u : α} {xs : List α} : atI (x :: y :: z :: u :: xs) 3 = some u := atI_nat (j := 3) rfl
@[simp] theorem atI_4 {α : Type} {x y z u v : α} {xs : List α} : atI (x :: y :: z :: u :: v :: xs) 4 = some v := atI_nat (j := 4) rfl
@[simp] theorem atI_5 {α : Type} {x y z u v w : α} {xs : List α} : atI (x :: y :: z :: u :: v :: w :: xs) 5 = some w := atI_nat (j := 5) rfl
theorem pool_spec {S : Sto} {ns : List Int} {k : Int} (h0 : 0 ≤ k) (h1 : k ≤ 63) (hl : ns.length ≤ 63) : ∃ c1 c2 c3 a b, fnD poolB 5 [.rol (ns.map D.int), .int k] S = .ok (.ref (S.length + 3)) (S ++ [c1, c2, c3, .lst [.int a, .int b]]) ∧ 0 ≤ b ∧ b < 2147483647 := by
  obtain ⟨c, hc, hcl⟩ : ∃ c : Int, atI (cutD (ns.map D.int) (some k) (some (k + 1)) ++ [D.int 0]) 0 = some (.int c) ∧ (cutD (ns.map D.int) (some k) (some (k + 1))).length ≤ 63 := by
    obtain ⟨l, hcut⟩ : ∃ l : List Int, cutD (ns.map D.int) (some k) (some (k + 1)) = l.map D.int ∧ l.length ≤ 63 := by
      unfold cutD
      rw [← List.map_drop, ← List.map_take]
      exact ⟨_, rfl, by simp; omega⟩
    rw [hcut.1]
    cases l with
    | nil => exact ⟨0, rfl, by simp⟩
    | cons a r => exact ⟨a, by simp, by simpa using hcut.2⟩
  obtain ⟨m, hm⟩ : ∃ m : Int, m = if 0 ≤ c then c else -1 - c := ⟨_, rfl⟩
  have x1 : ∀ x, cMod x 2147483629 = true := by simp [cMod]
  have x2 : ∀ x, cMod x 2147483647 = true := by simp [cMod]
  have x3 : ∀ x, cMul x 48271 = true := by simp [cMul]
  have x4 : cMul 7919 k = true := by simp [cMul]
  have x5 : cMul (7919 * k) k = true := by simp [cMul]; omega
  have x6 : cMul 31 k = true := by simp [cMul]
  have x7 : cPow 10 18 = true := by decide
  obtain ⟨x, hx⟩ : ∃ x : Int, x = (m % 2147483629 + 7919 * k * k + 31 * k + 17) * 48271 % 2147483647 := ⟨_, rfl⟩
  have y0 : 0 ≤ x := by rw [hx]; exact Int.emod_nonneg _ (by decide)
  have y1 : x < 2147483647 := by rw [hx]; exact Int.emod_lt_of_pos _ (by decide)
  have x8 : cMul x x = true := by simp [cMul]; omega
  have x9 : ∀ (b : Prop) [Decidable b], cMul m (if b then 1 else 0) = true := by intro b _; by_cases b <;> simp [cMul, *]
  refine ⟨.lst (cutD (ns.map D.int) (some k) (some (k + 1))), .lst [.int 0], .lst (cutD (ns.map D.int) (some k) (some (k + 1)) ++ [D.int 0]), m * (if 1000000000000000000 ≤ m then 1 else 0), x * x % 2147483629, ?_, Int.emod_nonneg _ (by decide), Int.lt_trans (Int.emod_lt_of_pos _ (by decide)) (by decide)⟩
  have hsz : (cutD (ns.map D.int) (some k) (some (k + 1))).length + 1 ≤ 16777216 := by omega
  by_cases hp : 0 ≤ c
  · rw [if_pos hp] at hm
    subst hm
    simp [poolB, fnD, sliceD, lstD, addD, itemD, hc, hsz, sizeLine_eq, hp, x1, x2, x3, x4, x5, x6, x7, ← hx, x8, x9]
  · rw [if_neg hp] at hm
    simp [poolB, fnD, sliceD, lstD, addD, itemD, hc, hsz, sizeLine_eq, hp, x1, x2, x3, x4, x5, x6, x7, ← hm, ← hx, x8, x9]
end Dn

set_option Elab.async false
set_option linter.all false
set_option maxRecDepth 100000
set_option maxHeartbeats 4000000
namespace Dn
open PySem PySem.Spec PyProof.Rows L2 RZ
section
variable {S : Sto}
@[simp] theorem isi_non_int  : isiD "int" .non S = .ok (.bl false) S := rfl
@[simp] theorem isi_non_bool  : isiD "bool" .non S = .ok (.bl false) S := rfl
@[simp] theorem isi_non_str  : isiD "str" .non S = .ok (.bl false) S := rfl
@[simp] theorem isi_non_tuple  : isiD "tuple" .non S = .ok (.bl false) S := rfl
@[simp] theorem isi_non_list  : isiD "list" .non S = .ok (.bl false) S := rfl
@[simp] theorem isi_non_dict  : isiD "dict" .non S = .ok (.bl false) S := rfl
@[simp] theorem isi_bl_int {b : Bool} : isiD "int" (.bl b) S = .ok (.bl true) S := rfl
@[simp] theorem isi_bl_bool {b : Bool} : isiD "bool" (.bl b) S = .ok (.bl true) S := rfl
@[simp] theorem isi_bl_str {b : Bool} : isiD "str" (.bl b) S = .ok (.bl false) S := rfl
@[simp] theorem isi_bl_tuple {b : Bool} : isiD "tuple" (.bl b) S = .ok (.bl false) S := rfl
@[simp] theorem isi_bl_list {b : Bool} : isiD "list" (.bl b) S = .ok (.bl false) S := rfl
@[simp] theorem isi_bl_dict {b : Bool} : isiD "dict" (.bl b) S = .ok (.bl false) S := rfl
@[simp] theorem isi_int_int {i : Int} : isiD "int" (.int i) S = .ok (.bl true) S := rfl
@[simp] theorem isi_int_bool {i : Int} : isiD "bool" (.int i) S = .ok (.bl false) S := rfl
@[simp] theorem isi_int_str {i : Int} : isiD "str" (.int i) S = .ok (.bl false) S := rfl
@[simp] theorem isi_int_tuple {i : Int} : isiD "tuple" (.int i) S = .ok (.bl false) S := rfl
@[simp] theorem isi_int_list {i : Int} : isiD "list" (.int i) S = .ok (.bl false) S := rfl
@[simp] theorem isi_int_dict {i : Int} : isiD "dict" (.int i) S = .ok (.bl false) S := rfl
@[simp] theorem isi_str_int {x : Str} : isiD "int" (.str x) S = .ok (.bl false) S := rfl
@[simp] theorem isi_str_bool {x : Str} : isiD "bool" (.str x) S = .ok (.bl false) S := rfl
@[simp] theorem isi_str_str {x : Str} : isiD "str" (.str x) S = .ok (.bl true) S := rfl
@[simp] theorem isi_str_tuple {x : Str} : isiD "tuple" (.str x) S = .ok (.bl false) S := rfl
@[simp] theorem isi_str_list {x : Str} : isiD "list" (.str x) S = .ok (.bl false) S := rfl
@[simp] theorem isi_str_dict {x : Str} : isiD "dict" (.str x) S = .ok (.bl false) S := rfl
@[simp] theorem isi_tup_int {xs : List D} : isiD "int" (.tup xs) S = .ok (.bl false) S := rfl
@[simp] theorem isi_tup_bool {xs : List D} : isiD "bool" (.tup xs) S = .ok (.bl false) S := rfl
@[simp] theorem isi_tup_str {xs : List D} : isiD "str" (.tup xs) S = .ok (.bl false) S := rfl
@[simp] theorem isi_tup_tuple {xs : List D} : isiD "tuple" (.tup xs) S = .ok (.bl true) S := rfl
@[simp] theorem isi_tup_list {xs : List D} : isiD "list" (.tup xs) S = .ok (.bl false) S := rfl
@[simp] theorem isi_tup_dict {xs : List D} : isiD "dict" (.tup xs) S = .ok (.bl false) S := rfl
@[simp] theorem isi_rol_int {xs : List D} : isiD "int" (.rol xs) S = .ok (.bl false) S := rfl
@[simp] theorem isi_rol_bool {xs : List D} : isiD "bool" (.rol xs) S = .ok (.bl false) S := rfl
@[simp] theorem isi_rol_str {xs : List D} : isiD "str" (.rol xs) S = .ok (.bl false) S := rfl
@[simp] theorem isi_rol_tuple {xs : List D} : isiD "tuple" (.rol xs) S = .ok (.bl false) S := rfl
@[simp] theorem isi_rol_list {xs : List D} : isiD "list" (.rol xs) S = .ok (.bl true) S := rfl
@[simp] theorem isi_rol_dict {xs : List D} : isiD "dict" (.rol xs) S = .ok (.bl false) S := rfl
theorem isi_lst_int {i : Nat} {xs : List D} (h : S[i]? = some (.lst xs)) : isiD "int" (.ref i) S = .ok (.bl false) S := by simp only [isiD, tyD, h]; rfl
theorem isi_dk_int {i : Nat} {xs : List (Key × D)} (h : S[i]? = some (.dk xs)) : isiD "int" (.ref i) S = .ok (.bl false) S := by simp only [isiD, tyD, h]; rfl
theorem isi_lst_bool {i : Nat} {xs : List D} (h : S[i]? = some (.lst xs)) : isiD "bool" (.ref i) S = .ok (.bl false) S := by simp only [isiD, tyD, h]; rfl
theorem isi_dk_bool {i : Nat} {xs : List (Key × D)} (h : S[i]? = some (.dk xs)) : isiD "bool" (.ref i) S = .ok (.bl false) S := by simp only [isiD, tyD, h]; rfl
theorem isi_lst_str {i : Nat} {xs : List D} (h : S[i]? = some (.lst xs)) : isiD "str" (.ref i) S = .ok (.bl false) S := by simp only [isiD, tyD, h]; rfl
theorem isi_dk_str {i : Nat} {xs : List (Key × D)} (h : S[i]? = some (.dk xs)) : isiD "str" (.ref i) S = .ok (.bl false) S := by simp only [isiD, tyD, h]; rfl
theorem isi_lst_tuple {i : Nat} {xs : List D} (h : S[i]? = some (.lst xs)) : isiD "tuple" (.ref i) S = .ok (.bl false) S := by simp only [isiD, tyD, h]; rfl
theorem isi_dk_tuple {i : Nat} {xs : List (Key × D)} (h : S[i]? = some (.dk xs)) : isiD "tuple" (.ref i) S = .ok (.bl false) S := by simp only [isiD, tyD, h]; rfl
theorem isi_lst_list {i : Nat} {xs : List D} (h : S[i]? = some (.lst xs)) : isiD "list" (.ref i) S = .ok (.bl true) S := by simp only [isiD, tyD, h]; rfl
theorem isi_dk_list {i : Nat} {xs : List (Key × D)} (h : S[i]? = some (.dk xs)) : isiD "list" (.ref i) S = .ok (.bl false) S := by simp only [isiD, tyD, h]; rfl
theorem isi_lst_dict {i : Nat} {xs : List D} (h : S[i]? = some (.lst xs)) : isiD "dict" (.ref i) S = .ok (.bl false) S := by simp only [isiD, tyD, h]; rfl
theorem isi_dk_dict {i : Nat} {xs : List (Key × D)} (h : S[i]? = some (.dk xs)) : isiD "dict" (.ref i) S = .ok (.bl true) S := by simp only [isiD, tyD, h]; rfl
@[simp] theorem eqD_int {neg : Bool} {x y : Int} : eqD neg (.int x) (.int y) S = .ok (.bl (if neg then !(x == y) else x == y)) S := by
  show (if SeqAt.shaped (.int x) && SeqAt.shaped (.int y) then R.ok _ S else .stuck) = _
  rw [if_pos (by rfl)]; rfl
@[simp] theorem isND_bl {neg a b : Bool} : isND neg (.bl a) (.bl b) S = .ok (.bl (if neg then !decide (a = b) else decide (a = b))) S := rfl
@[simp] theorem isND_non {neg : Bool} : isND neg .non .non S = .ok (.bl (!neg)) S := rfl
@[simp] theorem isND_int {neg : Bool} {i : Int} : isND neg (.int i) .non S = .ok (.bl neg) S := rfl
@[simp] theorem isND_str {neg : Bool} {i : Str} : isND neg (.str i) .non S = .ok (.bl neg) S := rfl
@[simp] theorem isND_tup {neg : Bool} {i : List D} : isND neg (.tup i) .non S = .ok (.bl neg) S := rfl
@[simp] theorem isND_ref {neg : Bool} {i : Nat} : isND neg (.ref i) .non S = .ok (.bl neg) S := rfl
@[simp] theorem truD_bl {b : Bool} : truD S (.bl b) = some b := rfl
@[simp] theorem truD_non : truD S .non = some false := rfl
@[simp] theorem truD_int {i : Int} : truD S (.int i) = some (i != 0) := rfl
@[simp] theorem truD_tup {xs : List D} : truD S (.tup xs) = some (!xs.isEmpty) := rfl
@[simp] theorem len_tup {xs : List D} : lenD [.tup xs] S = .ok (.int xs.length) S := rfl
@[simp] theorem item_tup {xs : List D} {k : Int} : itemD (.tup xs) (.int k) S = (match atI xs k with | some d => .ok d S | none => .stuck) := rfl
@[simp] theorem tupD_eq {xs : List D} : tupD xs S = if xs.length ≤ 16777216 then .ok (.tup xs) S else .stuck := by unfold tupD; rw [sizeLine_eq]
@[simp] theorem lstD_eq {xs : List D} : lstD xs S = if xs.length ≤ 16777216 then .ok (.ref S.length) (S ++ [.lst xs]) else .stuck := by unfold lstD; rw [sizeLine_eq]
@[simp] theorem slice_tup {xs : List D} {lo hi : Option Int} : sliceD (.tup xs) lo hi S = .ok (.tup (cutD xs lo hi)) S := rfl
end
end Dn

set_option Elab.async false
set_option linter.all false
set_option maxRecDepth 100000
set_option maxHeartbeats 4000000
namespace Dn
open PySem PySem.Spec PyProof.Rows L2 RZ
/-! Rules for loops; what stays of a store. -/
theorem forF_nx {it : Wk} {tg : MG} {body : MS} (P : Nat → Ev → Sto → Prop)
    (hs : ∀ k ρ S, k < it.n → P k ρ S → ∃ d ρ1 S1 ρ2 S2, it.get k S = some d ∧ tg d ρ S = .ok ρ1 S1 ∧ (body ρ1 S1 = .nx ρ2 S2 ∨ body ρ1 S1 = .ct ρ2 S2) ∧ P (k + 1) ρ2 S2)
    (hf : ∀ ρ S, P it.n ρ S → it.fin S = true) : ∀ r, r ≤ it.n → ∀ ρ S, P (it.n - r) ρ S → ∃ ρ' S', forF it tg body r ρ S = .nx ρ' S' ∧ P it.n ρ' S'
  | 0, _, ρ, S, h => ⟨ρ, S, by rw [forF, if_pos (hf ρ S h)], h⟩
  | r + 1, hr, ρ, S, h => by
    obtain ⟨d, ρ1, S1, ρ2, S2, h1, h2, h3, h4⟩ := hs _ ρ S (by omega) h
    have e : it.n - (r + 1) + 1 = it.n - r := by omega
    rw [e] at h4
    obtain ⟨ρ', S', h5, h6⟩ := forF_nx P hs hf r (by omega) ρ2 S2 h4
    refine ⟨ρ', S', ?_, h6⟩
    rw [forF, h1]
    simp only [h2]
    rcases h3 with h3 | h3 <;> simp only [h3, h5]
theorem lcF_inv {it : Wk} {tg : MG} {tt : MB} {te : ME} {own : List Nat} {id : Nat} {ρ : Ev} (P : Nat → List D → Sto → Prop)
    (hs : ∀ k acc S, k < it.n → S[id]? = some (.lst acc) → P k acc S → ∃ d ρ1 S1 S2 S3 y, it.get k S = some d ∧ tg d (wipeE ρ own) S = .ok ρ1 S1 ∧ tt ρ1 S1 = .ok true S2 ∧ te ρ1 S2 = .ok y S3 ∧ S3[id]? = some (.lst acc) ∧ acc.length < 16777216 ∧ P (k + 1) (acc ++ [y]) (S3.set id (.lst (acc ++ [y]))))
    (hf : ∀ acc S, P it.n acc S → it.fin S = true) : ∀ r, r ≤ it.n → ∀ acc S, S[id]? = some (.lst acc) → P (it.n - r) acc S → ∃ acc' S', lcF it tg tt te own id ρ r S = .ok () S' ∧ S'[id]? = some (.lst acc') ∧ P it.n acc' S'
  | 0, _, acc, S, hi, h => ⟨acc, S, by rw [lcF, if_pos (hf acc S h)], hi, h⟩
  | r + 1, hr, acc, S, hi, h => by
    obtain ⟨d, ρ1, S1, S2, S3, y, h1, h2, h3, h4, h5, h6, h7⟩ := hs _ acc S (by omega) hi h
    have e : it.n - (r + 1) + 1 = it.n - r := by omega
    rw [e] at h7
    have hz : acc.length < sizeLine := by rw [sizeLine_eq]; exact h6
    obtain ⟨acc', S', h8, h9, h10⟩ := lcF_inv P hs hf r (by omega) (acc ++ [y]) (S3.set id (.lst (acc ++ [y]))) (List.getElem?_set_self (List.getElem?_eq_some_iff.mp h5).1) h7
    refine ⟨acc', S', ?_, h9, h10⟩
    simp only [lcF, h1, h2, R.bindN_ok, h3, h4, if_true, h5, if_pos hz, h8]
/-- all that stood stands -/
def Has (B S : Sto) : Prop := ∀ (j : Nat) (o : Ob), B[j]? = some o → S[j]? = some o
theorem Has.refl (B : Sto) : Has B B := fun _ _ h => h
theorem Has.trans {A B C : Sto} (a : Has A B) (b : Has B C) : Has A C := fun j o h => b j o (a j o h)
theorem Has.app (B T : Sto) : Has B (B ++ T) := fun j o h => by rw [List.getElem?_append_left (List.getElem?_eq_some_iff.mp h).1]; exact h
theorem Has.app2 {B S : Sto} (h : Has B S) (T : Sto) : Has B (S ++ T) := h.trans (Has.app S T)
theorem Has.len {B S : Sto} (h : Has B S) : B.length ≤ S.length := by
  by_cases hb : B.length ≤ S.length
  · exact hb
  · have h1 : S.length < B.length := by omega
    have h2 := h S.length _ (List.getElem?_eq_getElem h1)
    rw [List.getElem?_eq_none (Nat.le_refl _)] at h2
    cases h2
theorem Has.set {B S : Sto} {i : Nat} {o : Ob} (h : Has B S) (hi : B.length ≤ i) : Has B (S.set i o) := fun j u e => by
  have hj := (List.getElem?_eq_some_iff.mp e).1
  rw [List.getElem?_set_ne (by omega)]
  exact h j u e
theorem pool_spec' {S : Sto} {ns : List Int} {k : Int} (h0 : 0 ≤ k) (h1 : k ≤ 63) (hl : ns.length ≤ 63) : ∃ p S1, fnD poolB 5 [.rol (ns.map D.int), .int k] S = .ok (.ref p) S1 ∧ Pool S1 p ∧ S.length ≤ p ∧ Has S S1 := by
  obtain ⟨c1, c2, c3, a, b, e, hb⟩ := pool_spec (S := S) h0 h1 hl
  exact ⟨_, _, e, ⟨a, b, by rw [get_app]; rfl, hb⟩, Nat.le_add_right _ _, Has.app _ _⟩
/-- only what stands at p may have changed -/
def But (p : Nat) (S S' : Sto) : Prop := S'.length = S.length ∧ ∀ j, j ≠ p → S'[j]? = S[j]?
theorem take_spec' {S : Sto} {i : Nat} {n : Int} (h : Pool S i) (h1 : 1 ≤ n) (h2 : n < 1073741824) : ∃ d S1, fnD takeB 3 [.ref i, .int n] S = .ok (.int d) S1 ∧ 0 ≤ d ∧ d < n ∧ Pool S1 i ∧ But i S S1 := by
  obtain ⟨d, a, b, e, x1, x2, x3, x4⟩ := take_spec h h1 h2
  obtain ⟨_, _, hi, _⟩ := h
  exact ⟨d, _, e, x1, x2, ⟨a, b, List.getElem?_set_self (List.getElem?_eq_some_iff.mp hi).1, x3, x4⟩, by simp, fun j hj => List.getElem?_set_ne (Ne.symm hj)⟩
theorem But.has {p : Nat} {B S S' : Sto} (b : But p S S') (h : Has B S) (hp : B.length ≤ p) : Has B S' := fun j o e => by
  have hj := (List.getElem?_eq_some_iff.mp e).1
  rw [b.2 j (by omega)]
  exact h j o e
theorem Pool.app {S : Sto} {p : Nat} (h : Pool S p) (T : Sto) : Pool (S ++ T) p := by
  obtain ⟨a, b, e, hb⟩ := h
  exact ⟨a, b, Has.app S T _ _ e, hb⟩
theorem Pool.set {S : Sto} {p i : Nat} {o : Ob} (h : Pool S p) (hi : i ≠ p) : Pool (S.set i o) p := by
  obtain ⟨a, b, e, hb⟩ := h
  exact ⟨a, b, by rw [List.getElem?_set_ne hi]; exact e, hb⟩
theorem Pool.lt {S : Sto} {p : Nat} (h : Pool S p) : p < S.length := by
  obtain ⟨a, b, e, hb⟩ := h
  exact (List.getElem?_eq_some_iff.mp e).1
theorem Pool.has {S S' : Sto} {p : Nat} (h : Pool S p) (x : Has S S') : Pool S' p := by
  obtain ⟨a, b, e, hb⟩ := h
  exact ⟨a, b, x _ _ e, hb⟩
end Dn

set_option Elab.async false
set_option linter.all false
set_option maxRecDepth 100000
set_option maxHeartbeats 4000000
/-! The text by its places, its mirrors and what ties them. Printed by a program of my own. -/
namespace My
open PySem PySem.Spec PyProof.Rows L2 RZ Dn
def top (i : Nat) : Stmt := PySem.Challenge.pw_homefrees_k01_operations_recognized.main.body.getD i (.Pass ⟨0, 0, 0, 0⟩)
def tab_LIMITS : List (Str × D) := [("alloc", .tup [.tup [.int 0, .int 2], .tup [.int 0, .int 7]]), ("free", .tup [.tup [.int 0, .int 7]]), ("adopt", .tup [.tup [.int 0, .int 7]]), ("large", .tup [.tup [.int 1, .int 8], .tup [.int 0, .int 7]]), ("grow", .tup [.tup [.int 0, .int 7]]), ("drain", .tup [])]
/-! is_int -/
abbrev st_is_int : Stmt := top 1
abbrev N_is_int : List Str := ["value"]
abbrev P_is_int : List Str := ["value"]
theorem sc_is_int : FnScope N_is_int P_is_int (defScope st_is_int) := ⟨rfl, rfl, rfl, by decide +kernel, rfl, by decide +kernel, by decide +kernel⟩
theorem bd_is_int : BindsOk "is_int" st_is_int P_is_int := fun _ _ _ _ _ _ us hl => match us, hl with | [_], _ => rfl
def b_is_int : MS := (sRet (mAndV (m1 (isiD "int") (mVar 0)) (m1 notD (m1 (isiD "bool") (mVar 0)))))
def d_is_int : List D → Sto → R D := fnD b_is_int 1
/-! is_between -/
abbrev st_is_between : Stmt := top 2
abbrev N_is_between : List Str := ["value", "low", "high"]
abbrev P_is_between : List Str := ["value", "low", "high"]
theorem sc_is_between : FnScope N_is_between P_is_between (defScope st_is_between) := ⟨rfl, rfl, rfl, by decide +kernel, rfl, by decide +kernel, by decide +kernel⟩
theorem bd_is_between : BindsOk "is_between" st_is_between P_is_between := fun _ _ _ _ _ _ us hl => match us, hl with | [_, _, _], _ => rfl
def b_is_between : MS := (sRet (mAndV (mL (callD 1 d_is_int) (mCons (mVar 0) mNil)) (mChain (icmpD fun i j => decide (i ≤ j)) (icmpD fun i j => decide (i ≤ j)) (mVar 1) (mVar 0) (mVar 2))))
def d_is_between : List D → Sto → R D := fnD b_is_between 3
/-! is_operation -/
abbrev st_is_operation : Stmt := top 5
abbrev N_is_operation : List Str := ["value", "limits", "high", "low", "number"]
abbrev P_is_operation : List Str := ["value"]
theorem sc_is_operation : FnScope N_is_operation P_is_operation (defScope st_is_operation) := ⟨rfl, rfl, rfl, by decide +kernel, rfl, by decide +kernel, by decide +kernel⟩
theorem bd_is_operation : BindsOk "is_operation" st_is_operation P_is_operation := fun _ _ _ _ _ _ us hl => match us, hl with | [_], _ => rfl
def kwp_is_operation_value {α : Type} : List α → List α → List α
  | [], [z0] => [z0]
  | _, _ => []
theorem kwp_is_operation_value_r {vs : List V} {us : List Value} {zs : List V} {ws : List Value} (r : Vals vs us) (q : Vals zs ws) : Vals (kwp_is_operation_value vs zs) (kwp_is_operation_value us ws) := match vs, us, r, zs, ws, q with
  | _, _, .nil, _, _, .cons r0 .nil => .cons r0 .nil
  | _, _, .nil, _, _, .nil => .nil
  | _, _, .nil, _, _, .cons _ (.cons _ _) => .nil
  | _, _, .cons _ _, _, _, _ => .nil
theorem kwp_is_operation_value_d {K : PySem.W.Frag} {μ : List Addr} {H : Hp} {vs : List D} {us : List V} {zs : List D} {ws : List V} (r : RDs K μ H vs us) (q : RDs K μ H zs ws) : RDs K μ H (kwp_is_operation_value vs zs) (kwp_is_operation_value us ws) := match vs, us, r, zs, ws, q with
  | _, _, .nil, _, _, .cons r0 .nil => .cons r0 .nil
  | _, _, .nil, _, _, .nil => .nil
  | _, _, .nil, _, _, .cons _ (.cons _ _) => .nil
  | _, _, .cons _ _, _, _, _ => .nil
theorem kw_is_operation_value : KwOk "is_operation" st_is_operation P_is_operation ["value"] (fun us ws => kwp_is_operation_value us ws) := fun _ _ _ _ _ _ us ws hl => match us, ws, hl with
  | [], [_], _ => rfl
  | [], [], hl => by cases hl
  | [], _ :: _ :: _, hl => by cases hl
  | _ :: _, _, hl => by cases hl
def b_is_operation : MS := (sSeq (sIf (mOr (mNot (mT (m1 (isiD "tuple") (mVar 0)))) (mOr (mTb (m2 (eqD false) (mL lenD (mCons (mVar 0) mNil)) (mC (.int 0)))) (mNot (mT (m1 (isiD "str") (m2 itemD (mVar 0) (mC (.int 0)))))))) (sRet (mC (.bl false))) sSkip)
    (sSeq (sSet (m1 (kgetD tab_LIMITS) (m2 itemD (mVar 0) (mC (.int 0)))) 1)
    (sSeq (sIf (mOr (mTb (m2 (isND false) (mVar 1) (mC .non))) (mTb (m2 (eqD true) (mL lenD (mCons (mVar 0) mNil)) (m2 addD (mL lenD (mCons (mVar 1) mNil)) (mC (.int 1)))))) (sRet (mC (.bl false))) sSkip)
    (sRet (mL allC (mCons (mLc (mIA zipI (mCons (mSl (mVar 0) (mYo (mC (.int 1))) mNo) (mCons (mVar 1) mNil))) (gT 2 (gsC (gN 4) (gsC (gT 2 (gsC (gN 3) (gsC (gN 2) gs0))) gs0))) tYesM (mL (callD 3 d_is_between) (mCons (mVar 4) (mCons (mVar 3) (mCons (mVar 2) mNil)))) [2, 3, 4]) mNil))))))
def d_is_operation : List D → Sto → R D := fnD b_is_operation 5
/-! _law_pool -/
abbrev st__law_pool : Stmt := top 7
abbrev N__law_pool : List Str := ["_law_script", "_law_k", "_law_cell", "_law_number", "_law_mixed"]
abbrev P__law_pool : List Str := ["_law_script", "_law_k"]
theorem sc__law_pool : FnScope N__law_pool P__law_pool (defScope st__law_pool) := ⟨rfl, rfl, rfl, by decide +kernel, rfl, by decide +kernel, by decide +kernel⟩
theorem bd__law_pool : BindsOk "_law_pool" st__law_pool P__law_pool := fun _ _ _ _ _ _ us hl => match us, hl with | [_, _], _ => rfl
def b__law_pool : MS := (sSeq (sSet (m2 itemD (m2 addD (mSl (mVar 0) (mYo (mVar 1)) (mYo (m2 addD (mVar 1) (mC (.int 1))))) (mL lstD (mCons (mC (.int 0)) mNil))) (mC (.int 0))) 2)
    (sSeq (sSet (mIf (mTb (m2 (icmpD fun i j => decide (j ≤ i)) (mVar 2) (mC (.int 0)))) (mVar 2) (m2 (int0D fun i j => i - j) (m1 negD (mC (.int 1))) (mVar 2))) 3)
    (sSeq (sSet (m2 (intD cMod fun i j => i % j) (m2 mulD (mL intC (mCons (m2 addD (m2 addD (m2 addD (m2 (intD cMod fun i j => i % j) (mVar 3) (mC (.int 2147483629))) (m2 mulD (m2 mulD (mC (.int 7919)) (mVar 1)) (mVar 1))) (m2 mulD (mC (.int 31)) (mVar 1))) (mC (.int 17))) mNil)) (mC (.int 48271))) (mC (.int 2147483647))) 4)
    (sRet (mL lstD (mCons (m2 mulD (mVar 3) (mL intC (mCons (m2 (icmpD fun i j => decide (j ≤ i)) (mVar 3) (m2 (intD cPow fun i j => i ^ j.toNat) (mC (.int 10)) (mC (.int 18)))) mNil))) (mCons (m2 (intD cMod fun i j => i % j) (m2 mulD (mVar 4) (mVar 4)) (mC (.int 2147483629))) mNil)))))))
def d__law_pool : List D → Sto → R D := fnD b__law_pool 5
/-! _law_take -/
abbrev st__law_take : Stmt := top 8
abbrev N__law_take : List Str := ["_law_pool_here", "_law_many", "_law_digit"]
abbrev P__law_take : List Str := ["_law_pool_here", "_law_many"]
theorem sc__law_take : FnScope N__law_take P__law_take (defScope st__law_take) := ⟨rfl, rfl, rfl, by decide +kernel, rfl, by decide +kernel, by decide +kernel⟩
theorem bd__law_take : BindsOk "_law_take" st__law_take P__law_take := fun _ _ _ _ _ _ us hl => match us, hl with | [_, _], _ => rfl
def b__law_take : MS := (sSeq (sIf (mTb (m2 (icmpD fun i j => decide (j < i)) (m2 itemD (mVar 0) (mC (.int 0))) (mC (.int 0)))) (sSeq (sSet (m2 (intD cMod fun i j => i % j) (mL intC (mCons (m2 itemD (mVar 0) (mC (.int 0))) mNil)) (mVar 1)) 2)
    (sSeq (sAsg (m2 (intD cDiv fun i j => i / j) (m2 itemD (mVar 0) (mC (.int 0))) (mVar 1)) (gSub (mVar 0) (mC (.int 0))))
    (sRet (mVar 2)))) sSkip)
    (sSeq (sAsg (m2 (intD cMod fun i j => i % j) (mL intC (mCons (m2 addD (m2 mulD (m2 itemD (mVar 0) (mC (.int 1))) (mC (.int 48271))) (mC (.int 12345))) mNil)) (mC (.int 2147483647))) (gSub (mVar 0) (mC (.int 1))))
    (sRet (m2 (intD cMod fun i j => i % j) (m2 (intD cDiv fun i j => i / j) (m2 (intD cMod fun i j => i % j) (mL intC (mCons (m2 mulD (m2 itemD (mVar 0) (mC (.int 1))) (m2 itemD (mVar 0) (mC (.int 1)))) mNil)) (mC (.int 2147483629))) (mC (.int 64))) (mVar 1)))))
def d__law_take : List D → Sto → R D := fnD b__law_take 3
/-! _law_rows -/
abbrev st__law_rows : Stmt := top 9
abbrev N__law_rows : List Str := ["_law_word", "_law_numbers", "_law_limits", "_law_good", "_law_found", "_law_at", "_law_least", "_law_most", "_law_value_here", "_law_is_fit"]
abbrev P__law_rows : List Str := ["_law_word", "_law_numbers", "_law_limits"]
theorem sc__law_rows : FnScope N__law_rows P__law_rows (defScope st__law_rows) := ⟨rfl, rfl, rfl, by decide +kernel, rfl, by decide +kernel, by decide +kernel⟩
theorem bd__law_rows : BindsOk "_law_rows" st__law_rows P__law_rows := fun _ _ _ _ _ _ us hl => match us, hl with | [_, _, _], _ => rfl
def b__law_rows : MS := (sSeq (sSet (m2 addD (mL tupD (mCons (mVar 0) mNil)) (mL tupC (mCons (mVar 1) mNil))) 3)
    (sSeq (sSet (m2 addD (mL lstD (mCons (mL tupD (mCons (mVar 3) (mCons (mC (.bl true)) mNil))) (mCons (mL tupD (mCons (mL lstC (mCons (mVar 3) mNil)) (mCons (mC (.bl false)) mNil))) (mCons (mL tupD (mCons (m2 addD (mVar 3) (mL tupD (mCons (mC (.int 0)) mNil))) (mCons (mC (.bl false)) mNil))) mNil)))) (mL lstD (mCons (mL tupD (mCons (mSl (mVar 3) mNo (mYo (m1 negD (mC (.int 1))))) (mCons (mC (.bl false)) mNil))) mNil))) 4)
    (sSeq (sFor (mIA (fun ds _ => rng1 ds) (mCons (mL lenD (mCons (mVar 1) mNil)) mNil)) (gN 5) (sSeq (sAsg (m2 itemD (mVar 2) (mVar 5)) (gT 2 (gsC (gN 6) (gsC (gN 7) gs0))))
    (sFor (mI (mL lstD (mCons (m2 (int0D fun i j => i - j) (mVar 6) (mC (.int 1))) (mCons (m2 addD (mVar 7) (mC (.int 1))) (mCons (mC .non) (mCons (mC (.bl true)) (mCons (mL strC (mCons (mVar 6) mNil)) (mCons (mL tupD (mCons (mVar 6) mNil)) (mCons (mVar 6) (mCons (mVar 7) mNil)))))))))) (gN 8) (sSeq (sSet (mAndV (m2 (inD false) (mVar 8) (mL lstD (mCons (mVar 6) (mCons (mVar 7) mNil)))) (m1 notD (m1 (isiD "bool") (mVar 8)))) 9)
    (sExpr (mMeth "list" appD (mVar 4) (mCons (mL tupD (mCons (m2 addD (m2 addD (m2 addD (mL tupD (mCons (mVar 0) mNil)) (mL tupC (mCons (mSl (mVar 1) mNo (mYo (mVar 5))) mNil))) (mL tupD (mCons (mVar 8) mNil))) (mL tupC (mCons (mSl (mVar 1) (mYo (m2 addD (mVar 5) (mC (.int 1)))) mNo) mNil))) (mCons (mVar 9) mNil))) mNil)))))))
    (sRet (mVar 4)))))
def d__law_rows : List D → Sto → R D := fnD b__law_rows 10
/-! law -/
abbrev st_law : Stmt := top 10
abbrev N_law : List Str := ["_law_script", "_law_forms", "_law_k", "_law_pool_here", "_law_word", "_law_limits", "_law_numbers", "_law_value_here", "_law_due", "_law_some", "_law_odd", "_law_least", "_law_most"]
abbrev P_law : List Str := ["_law_script"]
theorem sc_law : FnScope N_law P_law (defScope st_law) := ⟨rfl, rfl, rfl, by decide +kernel, rfl, by decide +kernel, by decide +kernel⟩
theorem bd_law : BindsOk "law" st_law P_law := fun _ _ _ _ _ _ us hl => match us, hl with | [_], _ => rfl
def b_law : MS := (sSeq (sSet (mL lstD (mCons (mL tupD (mCons (mC (.str "alloc")) (mCons (mL lstD (mCons (mL tupD (mCons (mC (.int 0)) (mCons (mC (.int 2)) mNil))) (mCons (mL tupD (mCons (mC (.int 0)) (mCons (mC (.int 7)) mNil))) mNil))) mNil))) (mCons (mL tupD (mCons (mC (.str "free")) (mCons (mL lstD (mCons (mL tupD (mCons (mC (.int 0)) (mCons (mC (.int 7)) mNil))) mNil)) mNil))) (mCons (mL tupD (mCons (mC (.str "adopt")) (mCons (mL lstD (mCons (mL tupD (mCons (mC (.int 0)) (mCons (mC (.int 7)) mNil))) mNil)) mNil))) mNil)))) 1)
    (sSeq (sSet (m2 addD (mVar 1) (mL lstD (mCons (mL tupD (mCons (mC (.str "large")) (mCons (mL lstD (mCons (mL tupD (mCons (mC (.int 1)) (mCons (mC (.int 8)) mNil))) (mCons (mL tupD (mCons (mC (.int 0)) (mCons (mC (.int 7)) mNil))) mNil))) mNil))) mNil))) 1)
    (sSeq (sSet (m2 addD (mVar 1) (mL lstD (mCons (mL tupD (mCons (mC (.str "grow")) (mCons (mL lstD (mCons (mL tupD (mCons (mC (.int 0)) (mCons (mC (.int 7)) mNil))) mNil)) mNil))) (mCons (mL tupD (mCons (mC (.str "drain")) (mCons (mL lstD mNil) mNil))) mNil)))) 1)
    (sSeq (sFor (mIA (fun ds _ => rng1 ds) (mCons (mL max2C (mCons (mC (.int 1)) (mCons (mL min2C (mCons (mC (.int 12)) (mCons (mL lenD (mCons (mVar 0) mNil)) mNil))) mNil))) mNil)) (gN 2) (sSeq (sSet (mL (callD 2 d__law_pool) (mCons (mVar 0) (mCons (mVar 2) mNil))) 3)
    (sSeq (sAsg (m2 itemD (mVar 1) (mL (callD 2 d__law_take) (mCons (mVar 3) (mCons (mC (.int 6)) mNil)))) (gT 2 (gsC (gN 4) (gsC (gN 5) gs0))))
    (sSeq (sSet (mLc (mI (mVar 5)) (gT 2 (gsC (gN 11) (gsC (gN 12) gs0))) tYesM (m2 addD (mVar 11) (mL (callD 2 d__law_take) (mCons (mVar 3) (mCons (m2 addD (m2 (int0D fun i j => i - j) (mVar 12) (mVar 11)) (mC (.int 1))) mNil)))) [11, 12]) 6)
    (sSeq (sFor (mI (mL (callD 3 d__law_rows) (mCons (mVar 4) (mCons (mVar 6) (mCons (mVar 5) mNil))))) (gT 2 (gsC (gN 7) (gsC (gN 8) gs0))) (sSeq (sIf (mAnd (mTb (m2 (isND true) (mL (callD 1 d_is_operation) (mCons (mVar 7) mNil)) (mC (.bl true)))) (mT (mVar 8))) (sRet (mC (.bl false))) sSkip)
    (sIf (mAnd (mTb (m2 (isND true) (mL (callD 1 d_is_operation) (mCons (mVar 7) mNil)) (mC (.bl false)))) (mNot (mT (mVar 8)))) (sRet (mC (.bl false))) sSkip)))
    (sSeq (sSet (mL lstD (mCons (mC .non) (mCons (mC (.int 5)) (mCons (mC (.str "drain")) (mCons (mL tupD mNil) (mCons (mL tupD (mCons (mC (.str "Drain")) mNil)) (mCons (mL tupD (mCons (mC (.str "")) (mCons (mC (.int 0)) mNil))) (mCons (mL tupD (mCons (mC .non) (mCons (mC (.int 0)) mNil))) (mCons (mL tupD (mCons (mC (.str "stop")) (mCons (mC (.int 0)) mNil))) (mCons mDk mNil)))))))))) 9)
    (sFor (mI (m2 addD (mVar 9) (mL lstD (mCons (mL lstD (mCons (mL tupD (mCons (mC (.str "drain")) mNil)) mNil)) (mCons (mL tupD (mCons (mC (.str "drain")) (mCons (mC .non) mNil))) mNil))))) (gN 10) (sIf (mTb (m2 (isND true) (mKw kwp_is_operation_value d_is_operation 1 mNil (mCons (mVar 10) mNil)) (mC (.bl false)))) (sRet (mC (.bl false))) sSkip))))))))
    (sRet (m2 (isND false) (mL (callD 1 d_is_operation) (mCons (mL tupD (mCons (mC (.str "drain")) mNil)) mNil)) (mC (.bl true))))))))
def d_law : List D → Sto → R D := fnD b_law 13
/-! what the module's names are -/
structure Tx (w : World) (K : PySem.W.Frag) (mg : Str → Option Value) (a_LIMITS : Addr) : Prop where
  n_all : mg "all" = none
  n_bool : mg "bool" = none
  n_int : mg "int" = none
  n_isinstance : mg "isinstance" = none
  n_len : mg "len" = none
  n_list : mg "list" = none
  n_max : mg "max" = none
  n_min : mg "min" = none
  n_range : mg "range" = none
  n_str : mg "str" = none
  n_tuple : mg "tuple" = none
  n_zip : mg "zip" = none
  g_LIMITS : mg "LIMITS" = some (.ref a_LIMITS)
  t_LIMITS : KTab K w a_LIMITS tab_LIMITS
section
variable {P : Program} {w : World} {K : PySem.W.Frag} {mg : Str → Option Value} {base : Heap} {a_LIMITS : Addr}
theorem ok_is_int {f : Addr} {fd : FuncData} (F : Fun K "is_int" "is_int" st_is_int f fd) (T : Tx w K mg a_LIMITS) : FnOk P w K mg base (L2.CX P w) 1 f fd P_is_int (spD K d_is_int 1) :=
  have nd := sc_is_int.nd
  fn_ok F sc_is_int fun cdv A outer s H E hr =>
   (ss_one (ss_ret (se_and (se_isi (by rfl) T.n_isinstance (by rfl) T.n_int (by decide +kernel) (se_var 0)) (se_one (se_not (se_isi (by rfl) T.n_isinstance (by rfl) T.n_bool (by decide +kernel) (se_var 0)))))))
theorem ok_is_between {f : Addr} {fd : FuncData} (F : Fun K "is_between" "is_between" st_is_between f fd) (T : Tx w K mg a_LIMITS) (C_is_int : Cal P w K mg base "is_int" st_is_int 1 P_is_int d_is_int) : FnOk P w K mg base (L2.CX P w) 2 f fd P_is_between (spD K d_is_between 3) :=
  have nd := sc_is_between.nd
  fn_ok F sc_is_between fun cdv A outer s H E hr =>
   (ss_one (ss_ret (se_and (se_callC C_is_int bd_is_int hr (by decide) (by rfl) (sa_cons (se_var 0) sa_nil)) (se_one (se_chain (op_le) icmp_ok (op_le) icmp_ok (se_var 1) (se_var 0) (se_var 2))))))
theorem ok_is_operation {f : Addr} {fd : FuncData} (F : Fun K "is_operation" "is_operation" st_is_operation f fd) (T : Tx w K mg a_LIMITS) (C_is_between : Cal P w K mg base "is_between" st_is_between 2 P_is_between d_is_between) : FnOk P w K mg base (L2.CX P w) 3 f fd P_is_operation (spD K d_is_operation 1) :=
  have nd := sc_is_operation.nd
  fn_ok F sc_is_operation fun cdv A outer s H E hr =>
   (ss_cons (ss_if (sb_w (sw_or (sb_not (sb_val (se_isi (by rfl) T.n_isinstance (by rfl) T.n_tuple (by decide +kernel) (se_var 0)))) (sw_or (sb_cmp (op_eqD hr.units) eq_ok (se_callB (call_len) len_ok (by rfl) T.n_len (by decide +kernel) (sa_cons (se_var 0) sa_nil)) se_int (nomark _)) (sw_or1 (sb_not (sb_val (se_isi (by rfl) T.n_isinstance (by rfl) T.n_str (by decide +kernel) (se_ix (se_var 0) se_int)))))))) (ss_one (ss_ret se_bl)) ss_nil)
    (ss_cons (ss_set 1 (se_kget (by rfl) T.g_LIMITS T.t_LIMITS (se_ix (se_var 0) se_int) ⟨rfl, rfl, rfl, rfl⟩) nd)
    (ss_cons (ss_if (sb_w (sw_or (sb_cmp (op_isX) is_ok (se_var 1) se_non (nomark _)) (sw_or1 (sb_cmp (op_neD hr.units) ne_ok (se_callB (call_len) len_ok (by rfl) T.n_len (by decide +kernel) (sa_cons (se_var 0) sa_nil)) (se_op op_addD add_ok (se_callB (call_len) len_ok (by rfl) T.n_len (by decide +kernel) (sa_cons (se_var 1) sa_nil)) se_int) (nomark _))))) (ss_one (ss_ret se_bl)) ss_nil)
    (ss_one (ss_ret (se_callB (cr_all rfl) all_ok (by rfl) T.n_all (by decide +kernel) (sa_cons (se_lc (own := [("high", 2), ("low", 3), ("number", 4)]) rfl nd (si_zip (by rfl) T.n_zip (sa_cons (se_slice (se_var 0) (so_yes se_int) so_no) (sa_cons (se_var 1) sa_nil))) (blkOk_by (N := N_is_operation) (sc := defScope st_is_operation) (by decide +kernel)) (fun _ _ _ _ _ => (sg_tup rfl (sgs_cons (sg_name 4 nd) (sgs_cons (sg_tup rfl (sgs_cons (sg_name 3 nd) (sgs_cons (sg_name 2 nd) sgs_nil))) sgs_nil)))) (fun _ _ _ _ _ => sts_nil) (fun _ _ _ _ _ => (se_callC C_is_between bd_is_between hr (by decide) (by rfl) (sa_cons (se_var 4) (sa_cons (se_var 3) (sa_cons (se_var 2) sa_nil))))) (by decide)) sa_nil)))))))
theorem ok__law_pool {f : Addr} {fd : FuncData} (F : Fun K "_law_pool" "_law_pool" st__law_pool f fd) (T : Tx w K mg a_LIMITS) : FnOk P w K mg base (L2.CX P w) 1 f fd P__law_pool (spD K d__law_pool 2) :=
  have nd := sc__law_pool.nd
  fn_ok F sc__law_pool fun cdv A outer s H E hr =>
   (ss_cons (ss_set 2 (se_ix (se_op op_addD add_ok (se_slice (se_var 0) (so_yes (se_var 1)) (so_yes (se_op op_addD add_ok (se_var 1) se_int))) (se_lst (sa_cons se_int sa_nil))) se_int) nd)
    (ss_cons (ss_set 3 (se_if (sb_cmp (op_ge) icmp_ok (se_var 2) se_int (nomark _)) (se_var 2) (se_op op_sub int0_ok (se_neg se_int) (se_var 2))) nd)
    (ss_cons (ss_set 4 (se_op op_mod (int_ok cMod_ok) (se_op op_mulD mul_ok (se_callTy (call_int1) int1_ok (by rfl) T.n_int (by decide +kernel) (sa_cons (se_op op_addD add_ok (se_op op_addD add_ok (se_op op_addD add_ok (se_op op_mod (int_ok cMod_ok) (se_var 3) se_int) (se_op op_mulD mul_ok (se_op op_mulD mul_ok se_int (se_var 1)) (se_var 1))) (se_op op_mulD mul_ok se_int (se_var 1))) se_int) sa_nil)) se_int) se_int) nd)
    (ss_one (ss_ret (se_lst (sa_cons (se_op op_mulD mul_ok (se_var 3) (se_callTy (call_int1) int1_ok (by rfl) T.n_int (by decide +kernel) (sa_cons (se_cmp (op_ge) icmp_ok (se_var 3) (se_op op_pow (int_ok cPow_ok) se_int se_int) (nomark _)) sa_nil))) (sa_cons (se_op op_mod (int_ok cMod_ok) (se_op op_mulD mul_ok (se_var 4) (se_var 4)) se_int) sa_nil))))))))
theorem ok__law_take {f : Addr} {fd : FuncData} (F : Fun K "_law_take" "_law_take" st__law_take f fd) (T : Tx w K mg a_LIMITS) : FnOk P w K mg base (L2.CX P w) 1 f fd P__law_take (spD K d__law_take 2) :=
  have nd := sc__law_take.nd
  fn_ok F sc__law_take fun cdv A outer s H E hr =>
   (ss_cons (ss_if (sb_cmp (op_gt) icmp_ok (se_ix (se_var 0) se_int) se_int (nomark _)) (ss_cons (ss_set 2 (se_op op_mod (int_ok cMod_ok) (se_callTy (call_int1) int1_ok (by rfl) T.n_int (by decide +kernel) (sa_cons (se_ix (se_var 0) se_int) sa_nil)) (se_var 1)) nd)
    (ss_cons (ss_asg (se_op op_fdiv (int_ok cDiv_ok) (se_ix (se_var 0) se_int) (se_var 1)) (sg_sub (se_var 0) se_int))
    (ss_one (ss_ret (se_var 2))))) ss_nil)
    (ss_cons (ss_asg (se_op op_mod (int_ok cMod_ok) (se_callTy (call_int1) int1_ok (by rfl) T.n_int (by decide +kernel) (sa_cons (se_op op_addD add_ok (se_op op_mulD mul_ok (se_ix (se_var 0) se_int) se_int) se_int) sa_nil)) se_int) (sg_sub (se_var 0) se_int))
    (ss_one (ss_ret (se_op op_mod (int_ok cMod_ok) (se_op op_fdiv (int_ok cDiv_ok) (se_op op_mod (int_ok cMod_ok) (se_callTy (call_int1) int1_ok (by rfl) T.n_int (by decide +kernel) (sa_cons (se_op op_mulD mul_ok (se_ix (se_var 0) se_int) (se_ix (se_var 0) se_int)) sa_nil)) se_int) se_int) (se_var 1))))))
theorem ok__law_rows {f : Addr} {fd : FuncData} (F : Fun K "_law_rows" "_law_rows" st__law_rows f fd) (T : Tx w K mg a_LIMITS) : FnOk P w K mg base (L2.CX P w) 1 f fd P__law_rows (spD K d__law_rows 3) :=
  have nd := sc__law_rows.nd
  fn_ok F sc__law_rows fun cdv A outer s H E hr =>
   (ss_cons (ss_set 3 (se_op op_addD add_ok (se_tup (sa_cons (se_var 0) sa_nil)) (se_callTy (call_tuple_of) tuple1_ok (by rfl) T.n_tuple (by decide +kernel) (sa_cons (se_var 1) sa_nil))) nd)
    (ss_cons (ss_set 4 (se_op op_addD add_ok (se_lst (sa_cons (se_tup (sa_cons (se_var 3) (sa_cons se_bl sa_nil))) (sa_cons (se_tup (sa_cons (se_callTy (call_list_of) list1_ok (by rfl) T.n_list (by decide +kernel) (sa_cons (se_var 3) sa_nil)) (sa_cons se_bl sa_nil))) (sa_cons (se_tup (sa_cons (se_op op_addD add_ok (se_var 3) (se_tup (sa_cons se_int sa_nil))) (sa_cons se_bl sa_nil))) sa_nil)))) (se_lst (sa_cons (se_tup (sa_cons (se_slice (se_var 3) so_no (so_yes (se_neg se_int))) (sa_cons se_bl sa_nil))) sa_nil))) nd)
    (ss_cons (ss_for (passes_of rfl) rfl (si_range1 (by rfl) T.n_range (sa_cons (se_callB (call_len) len_ok (by rfl) T.n_len (by decide +kernel) (sa_cons (se_var 1) sa_nil)) sa_nil)) (sg_name 5 nd) (ss_cons (ss_asg (se_ix (se_var 2) (se_var 5)) (sg_tup rfl (sgs_cons (sg_name 6 nd) (sgs_cons (sg_name 7 nd) sgs_nil))))
    (ss_one (ss_for (passes_of rfl) rfl (si_seq (se_lst (sa_cons (se_op op_sub int0_ok (se_var 6) se_int) (sa_cons (se_op op_addD add_ok (se_var 7) se_int) (sa_cons se_non (sa_cons se_bl (sa_cons (se_callTy (call_str_int) str1_ok (by rfl) T.n_str (by decide +kernel) (sa_cons (se_var 6) sa_nil)) (sa_cons (se_tup (sa_cons (se_var 6) sa_nil)) (sa_cons (se_var 6) (sa_cons (se_var 7) sa_nil)))))))))) (sg_name 8 nd) (ss_cons (ss_set 9 (se_and (se_cmp (op_inD (units65 hr)) in_ok (se_var 8) (se_lst (sa_cons (se_var 6) (sa_cons (se_var 7) sa_nil))) (by rfl)) (se_one (se_not (se_isi (by rfl) T.n_isinstance (by rfl) T.n_bool (by decide +kernel) (se_var 8))))) nd)
    (ss_one (ss_expr (se_append (se_var 4) (sa_cons (se_tup (sa_cons (se_op op_addD add_ok (se_op op_addD add_ok (se_op op_addD add_ok (se_tup (sa_cons (se_var 0) sa_nil)) (se_callTy (call_tuple_of) tuple1_ok (by rfl) T.n_tuple (by decide +kernel) (sa_cons (se_slice (se_var 1) so_no (so_yes (se_var 5))) sa_nil))) (se_tup (sa_cons (se_var 8) sa_nil))) (se_callTy (call_tuple_of) tuple1_ok (by rfl) T.n_tuple (by decide +kernel) (sa_cons (se_slice (se_var 1) (so_yes (se_op op_addD add_ok (se_var 5) se_int)) so_no) sa_nil))) (sa_cons (se_var 9) sa_nil))) sa_nil)))))))))
    (ss_one (ss_ret (se_var 4))))))
theorem ok_law {f : Addr} {fd : FuncData} (F : Fun K "law" "law" st_law f fd) (T : Tx w K mg a_LIMITS) (C__law_pool : Cal P w K mg base "_law_pool" st__law_pool 1 P__law_pool d__law_pool) (C__law_take : Cal P w K mg base "_law_take" st__law_take 1 P__law_take d__law_take) (C__law_rows : Cal P w K mg base "_law_rows" st__law_rows 1 P__law_rows d__law_rows) (C_is_operation : Cal P w K mg base "is_operation" st_is_operation 3 P_is_operation d_is_operation) : FnOk P w K mg base (L2.CX P w) 4 f fd P_law (spD K d_law 1) :=
  have nd := sc_law.nd
  fn_ok F sc_law fun cdv A outer s H E hr =>
   (ss_cons (ss_set 1 (se_lst (sa_cons (se_tup (sa_cons se_str (sa_cons (se_lst (sa_cons (se_tup (sa_cons se_int (sa_cons se_int sa_nil))) (sa_cons (se_tup (sa_cons se_int (sa_cons se_int sa_nil))) sa_nil))) sa_nil))) (sa_cons (se_tup (sa_cons se_str (sa_cons (se_lst (sa_cons (se_tup (sa_cons se_int (sa_cons se_int sa_nil))) sa_nil)) sa_nil))) (sa_cons (se_tup (sa_cons se_str (sa_cons (se_lst (sa_cons (se_tup (sa_cons se_int (sa_cons se_int sa_nil))) sa_nil)) sa_nil))) sa_nil)))) nd)
    (ss_cons (ss_set 1 (se_op op_addD add_ok (se_var 1) (se_lst (sa_cons (se_tup (sa_cons se_str (sa_cons (se_lst (sa_cons (se_tup (sa_cons se_int (sa_cons se_int sa_nil))) (sa_cons (se_tup (sa_cons se_int (sa_cons se_int sa_nil))) sa_nil))) sa_nil))) sa_nil))) nd)
    (ss_cons (ss_set 1 (se_op op_addD add_ok (se_var 1) (se_lst (sa_cons (se_tup (sa_cons se_str (sa_cons (se_lst (sa_cons (se_tup (sa_cons se_int (sa_cons se_int sa_nil))) sa_nil)) sa_nil))) (sa_cons (se_tup (sa_cons se_str (sa_cons (se_lst sa_nil) sa_nil))) sa_nil)))) nd)
    (ss_cons (ss_for (passes_of rfl) rfl (si_range1 (by rfl) T.n_range (sa_cons (se_callB (call_max2 rfl) max2_ok (by rfl) T.n_max (by decide +kernel) (sa_cons se_int (sa_cons (se_callB (call_min2 rfl) min2_ok (by rfl) T.n_min (by decide +kernel) (sa_cons se_int (sa_cons (se_callB (call_len) len_ok (by rfl) T.n_len (by decide +kernel) (sa_cons (se_var 0) sa_nil)) sa_nil))) sa_nil))) sa_nil)) (sg_name 2 nd) (ss_cons (ss_set 3 (se_callC C__law_pool bd__law_pool hr (by decide) (by rfl) (sa_cons (se_var 0) (sa_cons (se_var 2) sa_nil))) nd)
    (ss_cons (ss_asg (se_ix (se_var 1) (se_callC C__law_take bd__law_take hr (by decide) (by rfl) (sa_cons (se_var 3) (sa_cons se_int sa_nil)))) (sg_tup rfl (sgs_cons (sg_name 4 nd) (sgs_cons (sg_name 5 nd) sgs_nil))))
    (ss_cons (ss_setLc 6 (own := [("_law_least", 11), ("_law_most", 12)]) rfl nd (si_seq (se_var 5)) (blkOk_by (N := N_law) (sc := defScope st_law) (by decide +kernel)) (fun _ _ _ _ _ => (sg_tup rfl (sgs_cons (sg_name 11 nd) (sgs_cons (sg_name 12 nd) sgs_nil)))) (fun _ _ _ _ _ => sts_nil) (fun _ _ _ _ _ => (se_op op_addD add_ok (se_var 11) (se_callC C__law_take bd__law_take hr (by decide) (by rfl) (sa_cons (se_var 3) (sa_cons (se_op op_addD add_ok (se_op op_sub int0_ok (se_var 12) (se_var 11)) se_int) sa_nil))))) (by decide))
    (ss_cons (ss_for (passes_of rfl) rfl (si_seq (se_callC C__law_rows bd__law_rows hr (by decide) (by rfl) (sa_cons (se_var 4) (sa_cons (se_var 6) (sa_cons (se_var 5) sa_nil))))) (sg_tup rfl (sgs_cons (sg_name 7 nd) (sgs_cons (sg_name 8 nd) sgs_nil))) (ss_cons (ss_if (sb_w (sw_and (sb_cmp (op_isNX) isNot_ok (se_callC C_is_operation bd_is_operation hr (by decide) (by rfl) (sa_cons (se_var 7) sa_nil)) se_bl (nomark _)) (sw_and1 (sb_val (se_var 8))))) (ss_one (ss_ret se_bl)) ss_nil)
    (ss_one (ss_if (sb_w (sw_and (sb_cmp (op_isNX) isNot_ok (se_callC C_is_operation bd_is_operation hr (by decide) (by rfl) (sa_cons (se_var 7) sa_nil)) se_bl (nomark _)) (sw_and1 (sb_not (sb_val (se_var 8)))))) (ss_one (ss_ret se_bl)) ss_nil))))
    (ss_cons (ss_set 9 (se_lst (sa_cons se_non (sa_cons se_int (sa_cons se_str (sa_cons (se_tup sa_nil) (sa_cons (se_tup (sa_cons se_str sa_nil)) (sa_cons (se_tup (sa_cons se_str (sa_cons se_int sa_nil))) (sa_cons (se_tup (sa_cons se_non (sa_cons se_int sa_nil))) (sa_cons (se_tup (sa_cons se_str (sa_cons se_int sa_nil))) (sa_cons se_dk sa_nil)))))))))) nd)
    (ss_one (ss_for (passes_of rfl) rfl (si_seq (se_op op_addD add_ok (se_var 9) (se_lst (sa_cons (se_lst (sa_cons (se_tup (sa_cons se_str sa_nil)) sa_nil)) (sa_cons (se_tup (sa_cons se_str (sa_cons se_non sa_nil))) sa_nil))))) (sg_name 10 nd) (ss_one (ss_if (sb_cmp (op_isNX) isNot_ok (se_callCKw C_is_operation kw_is_operation_value kwp_is_operation_value_r kwp_is_operation_value_d hr (by decide) (by rfl) (sk_cons (se_var 10) sk_nil)) se_bl (nomark _)) (ss_one (ss_ret se_bl)) ss_nil))))))))))
    (ss_one (ss_ret (se_cmp (op_isX) is_ok (se_callC C_is_operation bd_is_operation hr (by decide) (by rfl) (sa_cons (se_tup (sa_cons se_str sa_nil)) sa_nil)) se_bl (nomark _))))))))
end
theorem all_mk {l : PySem.W.OpenLaw} {w : World} {K : PySem.W.Frag} {h : Heap} {mg : Str → Option Value} {fa : Addr} (X : K.In h) (G : h.Ns mainGlobals mg) (hfa : mg "law" = some (.ref fa))
    {f0 : Addr} {oc0 kV0 dc0 pm0 cd0 ct0 : Value} {od0 an0 : Option Addr} {sl0 : Array (Option Value)} (a0 : PySem.W.nsIn K mainGlobals "is_int" = some (some (.ref f0))) (l0 : K.lookup f0 = some ⟨oc0, od0, .func (PySem.W.fnOf "is_int" "is_int" (defArgs st_is_int) (defBody st_is_int) (defScope st_is_int) .none kV0 dc0 pm0 an0 cd0 ct0), sl0⟩) (c0 : PySem.W.codeIn K cd0 "is_int" = true) (k0 : PySem.W.keepIn K (.ref f0) = true)
    {f1 : Addr} {oc1 kV1 dc1 pm1 cd1 ct1 : Value} {od1 an1 : Option Addr} {sl1 : Array (Option Value)} (a1 : PySem.W.nsIn K mainGlobals "is_between" = some (some (.ref f1))) (l1 : K.lookup f1 = some ⟨oc1, od1, .func (PySem.W.fnOf "is_between" "is_between" (defArgs st_is_between) (defBody st_is_between) (defScope st_is_between) .none kV1 dc1 pm1 an1 cd1 ct1), sl1⟩) (c1 : PySem.W.codeIn K cd1 "is_between" = true) (k1 : PySem.W.keepIn K (.ref f1) = true)
    {f2 : Addr} {oc2 kV2 dc2 pm2 cd2 ct2 : Value} {od2 an2 : Option Addr} {sl2 : Array (Option Value)} (a2 : PySem.W.nsIn K mainGlobals "is_operation" = some (some (.ref f2))) (l2 : K.lookup f2 = some ⟨oc2, od2, .func (PySem.W.fnOf "is_operation" "is_operation" (defArgs st_is_operation) (defBody st_is_operation) (defScope st_is_operation) .none kV2 dc2 pm2 an2 cd2 ct2), sl2⟩) (c2 : PySem.W.codeIn K cd2 "is_operation" = true) (k2 : PySem.W.keepIn K (.ref f2) = true)
    {f3 : Addr} {oc3 kV3 dc3 pm3 cd3 ct3 : Value} {od3 an3 : Option Addr} {sl3 : Array (Option Value)} (a3 : PySem.W.nsIn K mainGlobals "_law_pool" = some (some (.ref f3))) (l3 : K.lookup f3 = some ⟨oc3, od3, .func (PySem.W.fnOf "_law_pool" "_law_pool" (defArgs st__law_pool) (defBody st__law_pool) (defScope st__law_pool) .none kV3 dc3 pm3 an3 cd3 ct3), sl3⟩) (c3 : PySem.W.codeIn K cd3 "_law_pool" = true) (k3 : PySem.W.keepIn K (.ref f3) = true)
    {f4 : Addr} {oc4 kV4 dc4 pm4 cd4 ct4 : Value} {od4 an4 : Option Addr} {sl4 : Array (Option Value)} (a4 : PySem.W.nsIn K mainGlobals "_law_take" = some (some (.ref f4))) (l4 : K.lookup f4 = some ⟨oc4, od4, .func (PySem.W.fnOf "_law_take" "_law_take" (defArgs st__law_take) (defBody st__law_take) (defScope st__law_take) .none kV4 dc4 pm4 an4 cd4 ct4), sl4⟩) (c4 : PySem.W.codeIn K cd4 "_law_take" = true) (k4 : PySem.W.keepIn K (.ref f4) = true)
    {f5 : Addr} {oc5 kV5 dc5 pm5 cd5 ct5 : Value} {od5 an5 : Option Addr} {sl5 : Array (Option Value)} (a5 : PySem.W.nsIn K mainGlobals "_law_rows" = some (some (.ref f5))) (l5 : K.lookup f5 = some ⟨oc5, od5, .func (PySem.W.fnOf "_law_rows" "_law_rows" (defArgs st__law_rows) (defBody st__law_rows) (defScope st__law_rows) .none kV5 dc5 pm5 an5 cd5 ct5), sl5⟩) (c5 : PySem.W.codeIn K cd5 "_law_rows" = true) (k5 : PySem.W.keepIn K (.ref f5) = true)
    {f6 : Addr} {oc6 kV6 dc6 pm6 cd6 ct6 : Value} {od6 an6 : Option Addr} {sl6 : Array (Option Value)} (a6 : PySem.W.nsIn K mainGlobals "law" = some (some (.ref f6))) (l6 : K.lookup f6 = some ⟨oc6, od6, .func (PySem.W.fnOf "law" "law" (defArgs st_law) (defBody st_law) (defScope st_law) .none kV6 dc6 pm6 an6 cd6 ct6), sl6⟩) (c6 : PySem.W.codeIn K cd6 "law" = true) (k6 : PySem.W.keepIn K (.ref f6) = true)
    (z0 : PySem.W.nsIn K mainGlobals "all" = some none)
    (z1 : PySem.W.nsIn K mainGlobals "bool" = some none)
    (z2 : PySem.W.nsIn K mainGlobals "int" = some none)
    (z3 : PySem.W.nsIn K mainGlobals "isinstance" = some none)
    (z4 : PySem.W.nsIn K mainGlobals "len" = some none)
    (z5 : PySem.W.nsIn K mainGlobals "list" = some none)
    (z6 : PySem.W.nsIn K mainGlobals "max" = some none)
    (z7 : PySem.W.nsIn K mainGlobals "min" = some none)
    (z8 : PySem.W.nsIn K mainGlobals "range" = some none)
    (z9 : PySem.W.nsIn K mainGlobals "str" = some none)
    (z10 : PySem.W.nsIn K mainGlobals "tuple" = some none)
    (z11 : PySem.W.nsIn K mainGlobals "zip" = some none)
    {t0 : Addr} {es0 : Array DictEntry} {ep0 : Nat} (ta0 : PySem.W.nsIn K mainGlobals "LIMITS" = some (some (.ref t0))) (tl0 : K.lookup t0 = some ⟨.type "dict", none, .dict es0 ep0, #[]⟩) (tk0 : PySem.W.KeysLit w.params es0.toList) (tt0 : kTab K es0.toList = some tab_LIMITS) (tw0 : (t0 == sysModules) = false)
    : ∃ fd : FuncData, (∀ (s : Shared) (v : Value), BindsTo s fd ⟨[v], []⟩ [("_law_script", v)]) ∧ ∀ base : Heap, K.In base → base.Ns mainGlobals mg → FnOk l.prog w K mg base (L2.CX l.prog w) 4 fa fd ["_law_script"] (spD K d_law 1) := by
  have e := hfa.symm.trans (PySem.W.mg_of X G a6)
  cases e
  have T : Tx w K mg t0 := ⟨PySem.W.mg_none_of X G z0, PySem.W.mg_none_of X G z1, PySem.W.mg_none_of X G z2, PySem.W.mg_none_of X G z3, PySem.W.mg_none_of X G z4, PySem.W.mg_none_of X G z5, PySem.W.mg_none_of X G z6, PySem.W.mg_none_of X G z7, PySem.W.mg_none_of X G z8, PySem.W.mg_none_of X G z9, PySem.W.mg_none_of X G z10, PySem.W.mg_none_of X G z11, PySem.W.mg_of X G ta0, ⟨⟨es0, ep0, tl0, tk0, tt0⟩, tw0⟩⟩
  have F0 : FunK K "is_int" st_is_int f0 := ⟨a0, ⟨oc0, od0, kV0, dc0, pm0, an0, cd0, ct0, sl0, l0, c0⟩, k0⟩
  have F1 : FunK K "is_between" st_is_between f1 := ⟨a1, ⟨oc1, od1, kV1, dc1, pm1, an1, cd1, ct1, sl1, l1, c1⟩, k1⟩
  have F2 : FunK K "is_operation" st_is_operation f2 := ⟨a2, ⟨oc2, od2, kV2, dc2, pm2, an2, cd2, ct2, sl2, l2, c2⟩, k2⟩
  have F3 : FunK K "_law_pool" st__law_pool f3 := ⟨a3, ⟨oc3, od3, kV3, dc3, pm3, an3, cd3, ct3, sl3, l3, c3⟩, k3⟩
  have F4 : FunK K "_law_take" st__law_take f4 := ⟨a4, ⟨oc4, od4, kV4, dc4, pm4, an4, cd4, ct4, sl4, l4, c4⟩, k4⟩
  have F5 : FunK K "_law_rows" st__law_rows f5 := ⟨a5, ⟨oc5, od5, kV5, dc5, pm5, an5, cd5, ct5, sl5, l5, c5⟩, k5⟩
  refine ⟨PySem.W.fnOf "law" "law" (defArgs st_law) (defBody st_law) (defScope st_law) .none kV6 dc6 pm6 an6 cd6 ct6, fun s v => .of_eq rfl, fun base _ _ => ?_⟩
  have C0 : Cal l.prog w K mg base "is_int" st_is_int 1 P_is_int d_is_int := Cal.mk' F0 X G fun fd ff => ok_is_int ff T
  have C1 : Cal l.prog w K mg base "is_between" st_is_between 2 P_is_between d_is_between := Cal.mk' F1 X G fun fd ff => ok_is_between ff T C0
  have C2 : Cal l.prog w K mg base "is_operation" st_is_operation 3 P_is_operation d_is_operation := Cal.mk' F2 X G fun fd ff => ok_is_operation ff T C1
  have C3 : Cal l.prog w K mg base "_law_pool" st__law_pool 1 P__law_pool d__law_pool := Cal.mk' F3 X G fun fd ff => ok__law_pool ff T
  have C4 : Cal l.prog w K mg base "_law_take" st__law_take 1 P__law_take d__law_take := Cal.mk' F4 X G fun fd ff => ok__law_take ff T
  have C5 : Cal l.prog w K mg base "_law_rows" st__law_rows 1 P__law_rows d__law_rows := Cal.mk' F5 X G fun fd ff => ok__law_rows ff T
  exact ok_law (fun_mk l6 c6 k6) T C3 C4 C5 C2
theorem walk {l : PySem.W.OpenLaw} {q : Program} {loose : List Str} {XP : (Str → Option Value) → Heap → Prop} {YP : World → Heap → Prop} {d : DefRec} {K : Params → PySem.W.Frag} (hm : ∀ ns : List Int, ns.length ≤ 63 → ∃ S, d_law [.rol (ns.map D.int)] [] = .ok (.bl true) S) (hn : l.most = some 63) (hdf : d.params.defaults = [])
    (hY : ∀ (w : World) (h : Heap), YP w h → (K w.params).In h)
    (F : ∀ (w : World) (mg : Str → Option Value) (fa : Addr) (h : Heap), (K w.params).In h → h.Ns mainGlobals mg → mg d.name = some (.ref fa) →
      ∃ fd : FuncData, (∀ (s : Shared) (u : Value), BindsTo s fd ⟨[u], []⟩ [("_law_script", u)]) ∧ ∀ base : Heap, (K w.params).In base → base.Ns mainGlobals mg → FnOk l.prog w (K w.params) mg base (L2.CX l.prog w) 4 fa fd ["_law_script"] (spD (K w.params) d_law 1)) :
    PySem.W.WalkO q loose XP YP l.row.toRowW d [] (fun f vs => PySem.call f vs) :=
  L2.walk_of (n := 63) (k := 4) (x := "_law_script") (CX := fun w => L2.CX l.prog w) (sp := fun w => spD (K w.params) d_law 1) hn (by decide) hdf ⟨rfl, by decide, by decide⟩ hY F (fun w H a ns hl hO hS => sp_law hm H a ns hl hO hS _) fun w H s e s' z => cx_none z
end My

namespace My
open PySem PySem.Spec PyProof.Rows L2 RZ Dn
set_option maxRecDepth 100000
set_option maxHeartbeats 4000000
set_option linter.all false
/-- a number between two -/
def btw (x : D) (lo hi : Int) : Bool := match x with
  | .int i => decide (lo ≤ i) && decide (i ≤ hi)
  | _ => false
theorem isi_ref {S : Sto} {i : Nat} {t T : String} (h : tyD S (.ref i) = some t) (hk : isKnown t T = true) : isiD T (.ref i) S = .ok (.bl (isT t T)) S := by
  simp only [isiD, h, hk, if_true]
theorem ref_ty {S : Sto} {i : Nat} (h : (tyD S (.ref i)).isSome = true) : tyD S (.ref i) = some "list" ∨ tyD S (.ref i) = some "dict" := by
  simp only [tyD] at h ⊢
  split at h <;> simp_all
theorem bt (x : D) (lo hi : Int) (S : Sto) (h : (tyD S x).isSome = true) : d_is_between [x, .int lo, .int hi] S = .ok (.bl (btw x lo hi)) S := by
  cases x with
  | int i =>
    simp [d_is_between, b_is_between, fnD, callD, d_is_int, b_is_int, btw]
    by_cases h1 : lo ≤ i <;> simp [h1]
  | bl b => simp [d_is_between, b_is_between, fnD, callD, d_is_int, b_is_int, btw]
  | non => simp [d_is_between, b_is_between, fnD, callD, d_is_int, b_is_int, btw]
  | str i => simp [d_is_between, b_is_between, fnD, callD, d_is_int, b_is_int, btw]
  | tup i => simp [d_is_between, b_is_between, fnD, callD, d_is_int, b_is_int, btw]
  | rol i => simp [d_is_between, b_is_between, fnD, callD, d_is_int, b_is_int, btw]
  | ref i =>
    have e : isiD "int" (.ref i) S = .ok (.bl false) S := by
      rcases ref_ty h with q | q <;> rw [isi_ref q rfl] <;> rfl
    simp [d_is_between, b_is_between, fnD, callD, d_is_int, b_is_int, btw, e]
  | adr i => simp [tyD] at h
theorem lcF_pure {it : Wk} {tg : MG} {tt : MB} {te : ME} {own : List Nat} {ρ : Ev} {S0 : Sto} {f : Nat → D}
    (h : ∀ k acc, k < it.n → ∃ d ρ1, it.get k (S0 ++ [.lst acc]) = some d ∧ tg d (wipeE ρ own) (S0 ++ [.lst acc]) = .ok ρ1 (S0 ++ [.lst acc]) ∧ tt ρ1 (S0 ++ [.lst acc]) = .ok true (S0 ++ [.lst acc]) ∧ te ρ1 (S0 ++ [.lst acc]) = .ok (f k) (S0 ++ [.lst acc]))
    (hf : ∀ acc, it.fin (S0 ++ [.lst acc]) = true) (hn : it.n ≤ 16777216) : ∀ r acc, r ≤ it.n → acc.length = it.n - r → lcF it tg tt te own S0.length ρ r (S0 ++ [.lst acc]) = .ok () (S0 ++ [.lst (acc ++ (List.range r).map fun j => f (it.n - r + j))])
  | 0, acc, _, _ => by simp [lcF, hf]
  | r + 1, acc, hr, hl => by
    obtain ⟨d, ρ1, h1, h2, h3, h4⟩ := h (it.n - (r + 1)) acc (by omega)
    have hz : acc.length < 16777216 := by omega
    have ih := lcF_pure h hf hn r (acc ++ [f (it.n - (r + 1))]) (by omega) (by simp; omega)
    simp only [lcF, h1, h2, R.bindN_ok, h3, h4, if_true, get_app0, List.getElem?_cons_zero, sizeLine_eq, if_pos hz, set_app0, List.set_cons_zero, ih]
    rw [List.range_succ_eq_map, List.map_cons, List.map_map, List.append_assoc]
    congr 6
    simp only [List.singleton_append, List.cons.injEq, Nat.add_zero, true_and]
    apply List.map_congr_left
    intro j _
    simp only [Function.comp]
    congr 1
    omega
/-- an operation, by its own form -/
def opT (w : Str) (xs : List D) : Bool := match tab_LIMITS.lookup w with
  | some (.tup ls) => decide (xs.length = ls.length) && (xs.zip ls).all fun p => match p.2 with
    | .tup [.int lo, .int hi] => btw p.1 lo hi
    | _ => false
  | _ => false
theorem lims (w : Str) : tab_LIMITS.lookup w = none ∨ ∃ ls : List (Int × Int), tab_LIMITS.lookup w = some (.tup (ls.map fun p => .tup [.int p.1, .int p.2])) ∧ ls.length ≤ 2 := by
  have h : ∀ (t : List (Str × D)), (∀ p ∈ t, ∃ ls : List (Int × Int), p.2 = .tup (ls.map fun p => .tup [.int p.1, .int p.2]) ∧ ls.length ≤ 2) → t.lookup w = none ∨ ∃ ls : List (Int × Int), t.lookup w = some (.tup (ls.map fun p => .tup [.int p.1, .int p.2])) ∧ ls.length ≤ 2 := by
    intro t
    induction t with
    | nil => intro _; exact .inl rfl
    | cons p t ih =>
      intro hp
      obtain ⟨k, v⟩ := p
      simp only [List.lookup]
      split
      · obtain ⟨ls, e, hl⟩ := hp (k, v) (by simp)
        exact .inr ⟨ls, by rw [← e], hl⟩
      · exact ih fun q hq => hp q (by simp [hq])
  refine h _ ?_
  intro p hp
  simp only [tab_LIMITS, List.mem_cons, List.not_mem_nil, or_false] at hp
  rcases hp with rfl | rfl | rfl | rfl | rfl | rfl
  · exact ⟨[(0, 2), (0, 7)], rfl, by decide⟩
  · exact ⟨[(0, 7)], rfl, by decide⟩
  · exact ⟨[(0, 7)], rfl, by decide⟩
  · exact ⟨[(1, 8), (0, 7)], rfl, by decide⟩
  · exact ⟨[(0, 7)], rfl, by decide⟩
  · exact ⟨[], rfl, by decide⟩
theorem cut_tail (x : D) (xs : List D) : Dn.cutD (x :: xs) (some 1) none = xs := by
  unfold Dn.cutD
  have : HT.sIx (x :: xs).length 0 (some 1) = 1 := by simp [HT.sIx]
  rw [this]
  simp [HT.sIx]
theorem zip_all : ∀ (xs : List D) (ls : List (Int × Int)), xs.length = ls.length → ((List.range ls.length).map fun j => btw (xs[j]?.getD .non) (ls[j]?.getD (0, 0)).1 (ls[j]?.getD (0, 0)).2).all id = (xs.zip (ls.map fun p => D.tup [D.int p.1, D.int p.2])).all fun p => match p.2 with
    | .tup [.int lo, .int hi] => btw p.1 lo hi
    | _ => false
  | [], [], _ => rfl
  | x :: xs, l :: ls, h => by
    have ih := zip_all xs ls (by simpa using h)
    rw [List.length_cons, List.range_succ_eq_map, List.map_cons, List.map_map, List.all_cons, List.map_cons, List.zip_cons_cons, List.all_cons, ← ih]
    rfl
  | [], _ :: _, h => by cases h
  | _ :: _, [], h => by cases h
theorem op_spec (w : Str) (xs : List D) (S : Sto) (h : ∀ x ∈ xs, (tyD S x).isSome = true) (hl : xs.length ≤ 100) : ∃ T, d_is_operation [.tup (.str w :: xs)] S = .ok (.bl (opT w xs)) (S ++ T) := by
  have hz : ¬ ((xs.length : Int) + 1 = 0) := by omega
  rcases lims w with hw | ⟨ls, hw, hls⟩
  · refine ⟨[], ?_⟩
    simp [d_is_operation, b_is_operation, fnD, kgetD, hw, opT, hz]
  · by_cases hlen : xs.length = ls.length
    · have hc := lcF_pure (it := itZT xs (ls.map fun p => .tup [.int p.1, .int p.2])) (tg := gT 2 (gsC (gN 4) (gsC (gT 2 (gsC (gN 3) (gsC (gN 2) gs0))) gs0))) (tt := tYesM) (te := mL (callD 3 d_is_between) (mCons (mVar 4) (mCons (mVar 3) (mCons (mVar 2) mNil)))) (own := [2, 3, 4]) (ρ := [some (.tup (.str w :: xs)), some (.tup (ls.map fun p => .tup [.int p.1, .int p.2])), none, none, none]) (S0 := S)
        (f := fun k => .bl (btw (xs[k]?.getD .non) (ls[k]?.getD (0, 0)).1 (ls[k]?.getD (0, 0)).2))
        (by
          intro k acc hk
          have hk' : k < min xs.length (ls.map fun p => D.tup [.int p.1, .int p.2]).length := hk
          rw [List.length_map] at hk'
          have k1 : k < xs.length := by omega
          have k2 : k < ls.length := by omega
          have e1 : xs[k]? = some xs[k] := List.getElem?_eq_getElem k1
          have e2 : ls[k]? = some ls[k] := List.getElem?_eq_getElem k2
          have ty : (tyD (S ++ [.lst acc]) xs[k]).isSome = true := by
            have h1 := h xs[k] (List.getElem_mem k1)
            revert h1
            cases xs[k] <;> simp only [tyD] <;> first | exact fun z => z | skip
            intro h1
            rename_i i
            cases e : S[i]? with
            | none => rw [e] at h1; simp at h1
            | some o => rw [List.getElem?_append_left (List.getElem?_eq_some_iff.mp e).1, e]; rw [e] at h1; exact h1
          refine ⟨.tup [xs[k], .tup [.int ls[k].1, .int ls[k].2]], [some (.tup (.str w :: xs)), some (.tup (ls.map fun p => .tup [.int p.1, .int p.2])), some (.int ls[k].2), some (.int ls[k].1), some xs[k]], ?_, ?_, rfl, ?_⟩
          · simp [itZT, e1, e2]
          · simp [wipeE]
          · simp [callD, bt _ _ _ _ ty, List.getD, e1, e2])
        (fun _ => rfl) (by simp [itZT]; omega) (itZT xs (ls.map fun p => .tup [.int p.1, .int p.2])).n [] (Nat.le_refl _) (by simp)
      refine ⟨[.lst ((List.range ls.length).map fun j => .bl (btw (xs[j]?.getD .non) (ls[j]?.getD (0, 0)).1 (ls[j]?.getD (0, 0)).2))], ?_⟩
      have hb : boolsOf ((List.range ls.length).map fun j => D.bl (btw (xs[j]?.getD .non) (ls[j]?.getD (0, 0)).1 (ls[j]?.getD (0, 0)).2)) = some ((List.range ls.length).map fun j => btw (xs[j]?.getD .non) (ls[j]?.getD (0, 0)).1 (ls[j]?.getD (0, 0)).2) := by
        generalize List.range ls.length = l
        induction l with
        | nil => rfl
        | cons a l ih => simp only [List.map_cons, boolsOf, mapO] at ih ⊢; rw [ih]; rfl
      have hn : (itZT xs (ls.map fun p => .tup [.int p.1, .int p.2])).n = ls.length := by simp [itZT]; omega
      rw [hn] at hc
      simp only [Nat.sub_self, Nat.zero_add, List.nil_append] at hc
      have hz2 : ¬ ((ls.length : Int) + 1 = 0) := by omega
      have za := zip_all xs ls hlen
      simp [d_is_operation, b_is_operation, fnD, kgetD, hw, opT, hlen, hz2, cut_tail, zipI, hc, hn, allC, hb]
      simpa using za
    · refine ⟨[], ?_⟩
      have hne : ¬ ((xs.length : Int) = ls.length) := by omega
      simp [d_is_operation, b_is_operation, fnD, kgetD, hw, opT, hlen, hz, hne]
end My

namespace My
open PySem PySem.Spec PyProof.Rows L2 RZ Dn
set_option maxRecDepth 100000
set_option maxHeartbeats 4000000
set_option linter.all false
theorem takeD : d__law_take = fnD takeB 3 := rfl
theorem poolD : d__law_pool = fnD poolB 5 := rfl
abbrev pr (p : Int × Int) : D := .tup [.int p.1, .int p.2]
/-- [least + take(pool, most - least + 1) for least, most in limits] -/
abbrev numsM : ME := (mLc (mI (mVar 5)) (gT 2 (gsC (gN 11) (gsC (gN 12) gs0))) tYesM (m2 addD (mVar 11) (mL (callD 2 d__law_take) (mCons (mVar 3) (mCons (m2 addD (m2 (int0D fun i j => i - j) (mVar 12) (mVar 11)) (mC (.int 1))) mNil)))) [11, 12])
theorem nums_spec {B S : Sto} {p l : Nat} {ls : List (Int × Int)} {a0 a1 a2 a4 a6 a7 a8 a9 a10 a11 a12 : Option D} (hB : Has B S) (hp : Pool S p) (hpB : B.length ≤ p) (hl : B[l]? = some (.lst (ls.map pr))) (hls : ls.length ≤ 2) (hlim : ∀ q ∈ ls, q.1 ≤ q.2 ∧ q.2 - q.1 ≤ 100) :
    ∃ (n : Nat) (xs : List Int) (S' : Sto), numsM [a0, a1, a2, some (.ref p), a4, some (.ref l), a6, a7, a8, a9, a10, a11, a12] S = .ok (.ref n) S' ∧ S'[n]? = some (.lst (xs.map D.int)) ∧ xs.length = ls.length ∧ (∀ (i : Nat) (x : Int) (q : Int × Int), xs[i]? = some x → ls[i]? = some q → q.1 ≤ x ∧ x ≤ q.2) ∧ Has B S' ∧ B.length ≤ n := by
  have hlS := hB _ _ hl
  have hlB : l < B.length := (List.getElem?_eq_some_iff.mp hl).1
  have key := lcF_inv (it := itL l ls.length) (tg := gT 2 (gsC (gN 11) (gsC (gN 12) gs0))) (tt := tYesM) (te := m2 addD (mVar 11) (mL (callD 2 d__law_take) (mCons (mVar 3) (mCons (m2 addD (m2 (int0D fun i j => i - j) (mVar 12) (mVar 11)) (mC (.int 1))) mNil)))) (own := [11, 12]) (id := S.length)
    (ρ := [a0, a1, a2, some (.ref p), a4, some (.ref l), a6, a7, a8, a9, a10, a11, a12])
    (fun k acc S' => ∃ xs : List Int, acc = xs.map D.int ∧ xs.length = k ∧ (∀ (i : Nat) (x : Int) (q : Int × Int), xs[i]? = some x → ls[i]? = some q → q.1 ≤ x ∧ x ≤ q.2) ∧ Has B S' ∧ Pool S' p)
    (by
      rintro k acc S1 hk hid ⟨xs, rfl, rfl, hx, hb, hq⟩
      have hk' : xs.length < ls.length := hk
      have e1 : ls[xs.length]? = some ls[xs.length] := List.getElem?_eq_getElem hk'
      have hlim1 := hlim _ (List.getElem_mem hk')
      obtain ⟨d, S2, t1, t2, t3, t4, t5⟩ := take_spec' (n := ls[xs.length].2 - ls[xs.length].1 + 1) hq (by omega) (by omega)
      have hne : S.length ≠ p := by
        have := hp.lt
        omega
      have e2 : S2[S.length]? = some (.lst (xs.map D.int)) := by rw [t5.2 _ hne]; exact hid
      refine ⟨pr ls[xs.length], [a0, a1, a2, some (.ref p), a4, some (.ref l), a6, a7, a8, a9, a10, some (.int ls[xs.length].1), some (.int ls[xs.length].2)], S1, S1, S2, .int (ls[xs.length].1 + d), ?_, ?_, rfl, ?_, e2, by simp; omega, xs ++ [ls[xs.length].1 + d], by simp, by simp, ?_, ?_, ?_⟩
      · simp only [itL, hb _ _ hl]
        simp [e1]
      · simp [wipeE]
      · simp [callD, takeD, t1]
      · intro i x q h1 h2
        by_cases hi : i < xs.length
        · rw [List.getElem?_append_left hi] at h1
          exact hx i x q h1 h2
        · rw [List.getElem?_append_right (by omega)] at h1
          have hi2 : i = xs.length := by
            have := (List.getElem?_eq_some_iff.mp h2).1
            cases hh : i - xs.length with
            | zero => omega
            | succ m => rw [hh] at h1; simp at h1
          subst hi2
          rw [e1] at h2
          cases h2
          simp at h1
          subst h1
          omega
      · exact (t5.has hb hpB).set (by have := hB.len; omega)
      · exact t4.set (fun z => hne z))
    (by
      rintro acc S1 ⟨xs, _, _, _, hb, _⟩
      simp [itL, lenL, hb _ _ hl])
    ls.length (Nat.le_refl _) [] (S ++ [.lst []]) (by simp) ⟨[], rfl, by simp [itL], by simp, hB.app2 _, hp.app _⟩
  obtain ⟨acc, S', k1, k2, xs, rfl, k3, k4, k5, k6⟩ := key
  refine ⟨S.length, xs, S', ?_, k2, k3, k4, k5, hB.len⟩
  simp [numsM, walkD, lenL, hlS]
  simp only [itL] at k1 ⊢
  simp [k1]
end My

namespace My
open PySem PySem.Spec PyProof.Rows L2 RZ Dn
set_option maxRecDepth 100000
set_option maxHeartbeats 4000000
set_option linter.all false
def RowOk (w : Str) (S : Sto) (row : D) : Prop := ∃ v b, row = .tup [v, .bl b] ∧ ((∃ xs : List D, v = .tup (.str w :: xs) ∧ xs.length ≤ 100 ∧ (∀ x ∈ xs, ∀ S', (tyD S' x).isSome = true) ∧ opT w xs = b) ∨ (∃ i ys, v = .ref i ∧ S[i]? = some (.lst ys) ∧ b = false) ∨ (v = .tup [] ∧ b = false))
theorem RowOk.has {w : Str} {S S' : Sto} {row : D} (h : RowOk w S row) (x : Has S S') : RowOk w S' row := by
  obtain ⟨v, b, e, h⟩ := h
  refine ⟨v, b, e, ?_⟩
  rcases h with h | ⟨i, ys, h1, h2, h3⟩ | h
  · exact .inl h
  · exact .inr (.inl ⟨i, ys, h1, x _ _ h2, h3⟩)
  · exact .inr (.inr h)
/-- in range -/
def InR (xs : List Int) (ls : List (Int × Int)) : Prop := xs.length = ls.length ∧ ∀ (i : Nat) (x : Int) (q : Int × Int), xs[i]? = some x → ls[i]? = some q → q.1 ≤ x ∧ x ≤ q.2
theorem InR.tail {x : Int} {q : Int × Int} {xs : List Int} {ls : List (Int × Int)} (h : InR (x :: xs) (q :: ls)) : (q.1 ≤ x ∧ x ≤ q.2) ∧ InR xs ls :=
  ⟨h.2 0 x q rfl rfl, by simpa using h.1, fun i y r h1 h2 => h.2 (i + 1) y r (by simpa using h1) (by simpa using h2)⟩
abbrev okP (p : D × D) : Bool := match p.2 with
  | .tup [.int lo, .int hi] => btw p.1 lo hi
  | _ => false
theorem all_in : ∀ {xs : List Int} {ls : List (Int × Int)}, InR xs ls → ((xs.map D.int).zip (ls.map pr)).all okP = true
  | [], [], _ => rfl
  | x :: xs, q :: ls, h => by
    have t := h.tail
    rw [List.map_cons, List.map_cons, List.zip_cons_cons, List.all_cons, all_in t.2]
    simp [okP, btw, t.1]
  | [], _ :: _, h => by cases h.1
  | _ :: _, [], h => by cases h.1
theorem all_set : ∀ {xs : List Int} {ls : List (Int × Int)} (i : Nat) (v : D) (q : Int × Int), InR xs ls → ls[i]? = some q → (((xs.map D.int).set i v).zip (ls.map pr)).all okP = btw v q.1 q.2
  | [], [], i, v, q, _, h => by simp at h
  | x :: xs, q' :: ls, 0, v, q, h, hi => by
    have t := h.tail
    simp at hi
    subst hi
    rw [List.map_cons, List.map_cons, List.set_cons_zero, List.zip_cons_cons, List.all_cons, all_in t.2]
    simp [okP]
  | x :: xs, q' :: ls, i + 1, v, q, h, hi => by
    have t := h.tail
    rw [List.map_cons, List.map_cons, List.set_cons_succ, List.zip_cons_cons, List.all_cons, all_set i v q t.2 (by simpa using hi)]
    simp [okP, btw, t.1]
  | [], _ :: _, _, _, _, h, _ => by cases h.1
  | _ :: _, [], _, _, _, h, _ => by cases h.1
theorem opT_eq {w : Str} {ls : List (Int × Int)} (hw : tab_LIMITS.lookup w = some (.tup (ls.map pr))) (xs : List D) : opT w xs = (decide (xs.length = ls.length) && (xs.zip (ls.map pr)).all okP) := by
  unfold opT
  rw [hw]
  simp <;> rfl
abbrev vals (q : Int × Int) : List D := [.int (q.1 - 1), .int (q.2 + 1), .non, .bl true, .str (toString q.1), .tup [.int q.1], .int q.1, .int q.2]
theorem fit_spec {q : Int × Int} {v : D} (hv : v ∈ vals q) (hq : q = (0, 2) ∨ q = (0, 7) ∨ q = (1, 8)) {a0 a1 a2 a3 a4 a5 : Option D} {a9 : Option D} (S : Sto) :
    mAndV (m2 (inD false) (mVar 8) (mL lstD (mCons (mVar 6) (mCons (mVar 7) mNil)))) (m1 notD (m1 (isiD "bool") (mVar 8))) [a0, a1, a2, a3, a4, a5, some (.int q.1), some (.int q.2), some v, a9] S = .ok (.bl (btw v q.1 q.2)) (S ++ [.lst [.int q.1, .int q.2]]) := by
  simp only [vals, List.mem_cons, List.not_mem_nil, or_false] at hv
  have h0 : SeqAt.shaped (PyData.str (Str.ofString (Int.repr 0))) = true := by decide +kernel
  have h1 : SeqAt.shaped (PyData.str (Str.ofString (Int.repr 1))) = true := by decide +kernel
  rcases hq with rfl | rfl | rfl <;> rcases hv with rfl | rfl | rfl | rfl | rfl | rfl | rfl | rfl <;> simp [inD, pd, mapO, btw, h0, h1] <;> rfl

theorem but_last (xs : List D) : Dn.cutD xs none (some (-1)) = xs.dropLast := by
  unfold Dn.cutD
  simp only [HT.sIx, List.dropLast_eq_take]
  have e : (if (-1 : Int) < 0 then (-1 + (xs.length : Int)).toNat else min (-1 : Int).toNat xs.length) = xs.length - 1 := by
    rw [if_pos (by decide)]; omega
  rw [e]
  simp
theorem cut_to (xs : List D) (k : Nat) : Dn.cutD xs none (some (k : Int)) = xs.take k := by
  unfold Dn.cutD
  rw [HT.sIx_nat]
  simp [HT.sIx]
theorem cut_from (xs : List D) (k : Nat) : Dn.cutD xs (some ((k : Int) + 1)) none = xs.drop (k + 1) := by
  unfold Dn.cutD
  have e : ((k : Int) + 1) = ((k + 1 : Nat) : Int) := by omega
  rw [e, HT.sIx_nat]
  simp only [HT.sIx]
  by_cases h : k + 1 ≤ xs.length
  · rw [Nat.min_eq_left h, List.take_of_length_le (by simp)]
  · rw [Nat.min_eq_right (by omega), List.drop_eq_nil_of_le (Nat.le_refl _), List.drop_eq_nil_of_le (by omega)]
    simp
theorem tt_ty {xs : List Int} : ∀ x ∈ xs.map D.int, ∀ S', (tyD S' x).isSome = true := by
  intro x hx S'
  simp only [List.mem_map] at hx
  obtain ⟨i, _, rfl⟩ := hx
  rfl
theorem vals_ty {q : Int × Int} : ∀ x ∈ vals q, ∀ S', (tyD S' x).isSome = true := by
  intro x hx S'
  simp only [vals, List.mem_cons, List.not_mem_nil, or_false] at hx
  rcases hx with rfl | rfl | rfl | rfl | rfl | rfl | rfl | rfl <;> rfl
abbrev inB : MS := (sSeq (sSet (mAndV (m2 (inD false) (mVar 8) (mL lstD (mCons (mVar 6) (mCons (mVar 7) mNil)))) (m1 notD (m1 (isiD "bool") (mVar 8)))) 9)
    (sExpr (mMeth "list" appD (mVar 4) (mCons (mL tupD (mCons (m2 addD (m2 addD (m2 addD (mL tupD (mCons (mVar 0) mNil)) (mL tupC (mCons (mSl (mVar 1) mNo (mYo (mVar 5))) mNil))) (mL tupD (mCons (mVar 8) mNil))) (mL tupC (mCons (mSl (mVar 1) (mYo (m2 addD (mVar 5) (mC (.int 1)))) mNo) mNil))) (mCons (mVar 9) mNil))) mNil))))
abbrev valsM : ML := (mCons (m2 (int0D fun i j => i - j) (mVar 6) (mC (.int 1))) (mCons (m2 addD (mVar 7) (mC (.int 1))) (mCons (mC .non) (mCons (mC (.bl true)) (mCons (mL strC (mCons (mVar 6) mNil)) (mCons (mL tupD (mCons (mVar 6) mNil)) (mCons (mVar 6) (mCons (mVar 7) mNil))))))))
abbrev outB : MS := (sSeq (sAsg (m2 itemD (mVar 2) (mVar 5)) (gT 2 (gsC (gN 6) (gsC (gN 7) gs0)))) (sFor (mI (mL lstD valsM)) (gN 8) inB))
theorem inner_spec {S : Sto} {n f k : Nat} {w : Str} {xs : List Int} {rows : List D} {q : Int × Int} {v : D} {a2 a3 a9 : Option D} (hn : S[n]? = some (.lst (xs.map D.int))) (hf : S[f]? = some (.lst rows)) (hz : xs.length ≤ 1000) (hr : rows.length ≤ 1000) (hv : v ∈ vals q) (hq : q = (0, 2) ∨ q = (0, 7) ∨ q = (1, 8)) (hk : k < xs.length) :
    ∃ T, inB [some (.str w), some (.ref n), a2, a3, some (.ref f), some (.int (k : Int)), some (.int q.1), some (.int q.2), some v, a9] S = .nx [some (.str w), some (.ref n), a2, a3, some (.ref f), some (.int (k : Int)), some (.int q.1), some (.int q.2), some v, some (.bl (btw v q.1 q.2))]
      ((S ++ T).set f (.lst (rows ++ [.tup [.tup (.str w :: ((xs.map D.int).set k v)), .bl (btw v q.1 q.2)]]))) := by
  have hn' : ∀ T, (S ++ T)[n]? = some (.lst (xs.map D.int)) := fun T => Has.app S T _ _ hn
  have hf' : ∀ T, (S ++ T)[f]? = some (.lst rows) := fun T => Has.app S T _ _ hf
  have z1 : 1 + min k xs.length ≤ 16777216 := by omega
  have z2 : min k xs.length + 1 + 1 ≤ 16777216 := by omega
  have z3 : min k xs.length + 1 + (xs.length - (k + 1)) + 1 ≤ 16777216 := by omega
  have z4 : rows.length < 16777216 := by omega
  have z5 : min k xs.length + (xs.length - (k + 1) + 1) + 1 ≤ 16777216 := by omega
  have z6 : min k xs.length + 1 + 1 + (xs.length - (k + 1)) ≤ 16777216 := by omega
  refine ⟨[.lst [.int q.1, .int q.2], .lst ((xs.map D.int).take k), .lst ((xs.map D.int).drop (k + 1))], ?_⟩
  have hs : (xs.map D.int).set k v = (xs.map D.int).take k ++ v :: (xs.map D.int).drop (k + 1) := List.set_eq_take_append_cons_drop.trans (if_pos (by simpa using hk))
  rw [inB, sSeq_eq, sSet_eq, fit_spec hv hq]
  simp [addD, tupC, seqD, sizeLine_eq, sliceD, tyIs, hn', hf', cut_to, cut_from, appD, z1, z2, z3, z4, z5, z6, hs]

theorem vals_spec {S : Sto} {q : Int × Int} {a0 a1 a2 a3 a4 a5 a8 a9 : Option D} (hq : q = (0, 2) ∨ q = (0, 7) ∨ q = (1, 8)) : valsM [a0, a1, a2, a3, a4, a5, some (.int q.1), some (.int q.2), a8, a9] S = .ok (vals q) S := by
  have h0 : (0 : Int).natAbs.log2 < 1920 := by decide
  have h1 : (1 : Int).natAbs.log2 < 1920 := by decide
  have h2 : Nat.log2 1 < 1920 := by decide
  rcases hq with rfl | rfl | rfl <;> simp [valsM, strC, h0, h1, h2]
theorem outer_spec {B S : Sto} {n f l k : Nat} {w : Str} {xs : List Int} {ls : List (Int × Int)} {rows : List D} {a3 a6 a7 a8 a9 : Option D} (hB : Has B S) (hn : B[n]? = some (.lst (xs.map D.int))) (hl : B[l]? = some (.lst (ls.map pr))) (hf : S[f]? = some (.lst rows)) (hfB : B.length ≤ f)
    (hin : InR xs ls) (hls : ls.length ≤ 2) (hlim : ∀ q ∈ ls, q = (0, 2) ∨ q = (0, 7) ∨ q = (1, 8)) (hw : tab_LIMITS.lookup w = some (.tup (ls.map pr))) (hk : k < xs.length) (hr : rows.length ≤ 50) (hrow : ∀ row ∈ rows, RowOk w S row) :
    ∃ (b6 b7 b8 b9 : Option D) (rows' : List D) (S' : Sto), outB [some (.str w), some (.ref n), some (.ref l), a3, some (.ref f), some (.int (k : Int)), a6, a7, a8, a9] S = .nx [some (.str w), some (.ref n), some (.ref l), a3, some (.ref f), some (.int (k : Int)), b6, b7, b8, b9] S' ∧
      Has B S' ∧ S'[f]? = some (.lst rows') ∧ rows'.length ≤ rows.length + 8 ∧ ∀ row ∈ rows', RowOk w S' row := by
  have hxl := hin.1
  have hk2 : k < ls.length := by omega
  have e1 : ls[k]? = some ls[k] := List.getElem?_eq_getElem hk2
  obtain ⟨q, hqe⟩ : ∃ q, q = ls[k] := ⟨_, rfl⟩
  rw [← hqe] at e1
  have hq := hlim q (by rw [hqe]; exact List.getElem_mem hk2)
  have hat : atI (ls.map pr) (k : Int) = some (pr q) := atI_nat (by rw [List.getElem?_map, e1]; rfl)
  obtain ⟨C, hC⟩ : ∃ C, C = S ++ [.lst (vals q)] := ⟨_, rfl⟩
  have hCB : Has B C := by rw [hC]; exact hB.app2 _
  have hCv : C[S.length]? = some (.lst (vals q)) := by rw [hC]; simp
  have key := forF_nx (it := itL S.length 8) (tg := gN 8) (body := inB)
    (fun j ρ S1 => ∃ (b8 b9 : Option D) (rows' : List D), ρ = [some (.str w), some (.ref n), some (.ref l), a3, some (.ref f), some (.int (k : Int)), some (.int q.1), some (.int q.2), b8, b9] ∧ Has B S1 ∧ S1[S.length]? = some (.lst (vals q)) ∧ S1[f]? = some (.lst rows') ∧ rows'.length = rows.length + j ∧ ∀ row ∈ rows', RowOk w S1 row)
    (by
      rintro j ρ S1 hj ⟨b8, b9, rows', rfl, hb, hv, hf1, hrl, hrow'⟩
      have hj8 : j < 8 := hj
      have hjv : j < (vals q).length := hj8
      obtain ⟨v, ev⟩ : ∃ v, v = (vals q)[j] := ⟨_, rfl⟩
      have evs : (vals q)[j]? = some v := by rw [ev]; exact List.getElem?_eq_getElem hjv
      have hvm : v ∈ vals q := by rw [ev]; exact List.getElem_mem hjv
      obtain ⟨T, hT⟩ := inner_spec (w := w) (a2 := some (.ref l)) (a3 := a3) (a9 := b9) (hb _ _ hn) hf1 (by omega) (by omega) hvm hq hk
      have hfl : f < S1.length := (List.getElem?_eq_some_iff.mp hf1).1
      have hne : f ≠ S.length := by
        intro e
        have := (List.getElem?_eq_some_iff.mp hf).1
        omega
      refine ⟨v, _, S1, _, _, ?_, rfl, .inl hT, some v, some (.bl (btw v q.1 q.2)), rows' ++ [.tup [.tup (.str w :: ((xs.map D.int).set k v)), .bl (btw v q.1 q.2)]], rfl, (hb.app2 T).set hfB, ?_, ?_, ?_, ?_⟩
      · simp only [itL, hv]
        rw [if_pos (show (vals q).length = 8 from rfl), evs]
      · rw [List.getElem?_set_ne hne]
        exact Has.app S1 T _ _ hv
      · rw [List.getElem?_set_self (by simp; omega)]
      · simp; omega
      · intro row hm
        rcases List.mem_append.mp hm with hm | hm
        · obtain ⟨v', b', e', h'⟩ := hrow' row hm
          refine ⟨v', b', e', ?_⟩
          rcases h' with h' | ⟨i, ys, g1, g2, g3⟩ | h'
          · exact .inl h'
          · refine .inr (.inl ?_)
            by_cases hi : i = f
            · subst hi
              exact ⟨i, _, g1, List.getElem?_set_self (by simp; omega), g3⟩
            · exact ⟨i, ys, g1, by rw [List.getElem?_set_ne (Ne.symm hi)]; exact Has.app S1 T _ _ g2, g3⟩
          · exact .inr (.inr h')
        · rw [List.mem_singleton.mp hm]
          refine ⟨_, _, rfl, .inl ⟨_, rfl, by simp; omega, ?_, ?_⟩⟩
          · intro x hx S2
            rcases List.mem_or_eq_of_mem_set hx with hx | hx
            · exact tt_ty x hx S2
            · rw [hx]; exact vals_ty v hvm S2
          · rw [opT_eq hw, all_set k v q hin e1]
            simp [hxl])
    (by
      rintro ρ S1 ⟨b8, b9, rows', rfl, hb, hv, _⟩
      simp [itL, lenL, hv])
    8 (Nat.le_refl _) [some (.str w), some (.ref n), some (.ref l), a3, some (.ref f), some (.int (k : Int)), some (.int q.1), some (.int q.2), a8, a9] C
    ⟨a8, a9, rows, rfl, hCB, hCv, by rw [hC]; exact Has.app S _ _ _ hf, by simp [itL], fun row hm => (hrow row hm).has (by rw [hC]; exact Has.app S _)⟩
  obtain ⟨ρ', S', k1, b8, b9, rows', rfl, k2, k3, k4, k5, k6⟩ := key
  refine ⟨some (.int q.1), some (.int q.2), b8, b9, rows', S', ?_, k2, k4, by rw [k5]; exact Nat.le_refl _, k6⟩
  have hv2 : valsM [some (.str w), some (.ref n), some (.ref l), a3, some (.ref f), some (.int (k : Int)), some (.int q.1), some (.int q.2), a8, a9] S = .ok (vals q) S := vals_spec hq
  have it8 : (itL S.length 8).n = 8 := rfl
  rw [hC] at k1
  simp only [outB, sSeq_eq, sAsg_eq, m2_eq, mVar_s, mVar_0, R.bind_ok, itemD, hB _ _ hl, hat, R.to_ok, gT_eq, gsC_eq, gN_eq, gs0_eq, pr, List.length_cons, List.length_nil, if_true, List.set_cons_succ, List.set_cons_zero, F.seq_nx, sFor_eq, mI_eq, mL_eq, hv2, lstD_eq, walkD, lenL, get_app0, List.getElem?_cons_zero]
  have gS : (S ++ [Ob.lst (vals q)])[S.length]? = some (.lst (vals q)) := by simp
  rw [if_pos (by decide)]
  simp only [R.bind_ok, gS]
  exact k1
end My

namespace My
open PySem PySem.Spec PyProof.Rows L2 RZ Dn
set_option maxRecDepth 100000
set_option maxHeartbeats 4000000
set_option linter.all false
theorem all_short {xs : List Int} {ls : List (Int × Int)} (h : xs.length = ls.length) (t : D) : decide ((xs.map D.int ++ [t]).length = ls.length) = false := by
  simp; omega
theorem rng1_nat {n : Nat} (h : n ≤ 1000000) : rng1 [.int (n : Int)] = some (itR 0 n) := by
  have z5 : (n : Int) < 4611686018427387904 := by omega
  simp [rng1, rngI, z5]
theorem mIA_of {f : List D → Sto → Option Wk} {mA : ML} {ρ : Ev} {S S1 : Sto} {ds : List D} {it : Wk} (h1 : mA ρ S = .ok ds S1) (h2 : f ds S1 = some it) : mIA f mA ρ S = .ok it S1 := by
  unfold mIA
  rw [h1, R.bind_ok, h2]
theorem rng_len {ρ : Ev} {a0 : Option D} {S : Sto} {n k : Nat} {ys : List D} (h : S[n]? = some (.lst ys)) (hk : ys.length = k) (hz : k ≤ 1000000) : mIA (fun ds _ => rng1 ds) (mCons (mL lenD (mCons (mVar 1) mNil)) mNil) (a0 :: some (.ref n) :: ρ) S = .ok (itR 0 k) S :=
  mIA_of (ds := [.int (k : Int)]) (by simp [lenD, lenL, h, hk]) (rng1_nat hz)
theorem rows_spec {B : Sto} {n l : Nat} {w : Str} {xs : List Int} {ls : List (Int × Int)} (hn : B[n]? = some (.lst (xs.map D.int))) (hl : B[l]? = some (.lst (ls.map pr)))
    (hin : InR xs ls) (hls : ls.length ≤ 2) (hlim : ∀ q ∈ ls, q = (0, 2) ∨ q = (0, 7) ∨ q = (1, 8)) (hw : tab_LIMITS.lookup w = some (.tup (ls.map pr))) :
    ∃ (f : Nat) (rows : List D) (S' : Sto), d__law_rows [.str w, .ref n, .ref l] B = .ok (.ref f) S' ∧ Has B S' ∧ B.length ≤ f ∧ S'[f]? = some (.lst rows) ∧ rows.length ≤ 40 ∧ ∀ row ∈ rows, RowOk w S' row := by
  have hxl := hin.1
  have hxz : xs.length ≤ 2 := by omega
  obtain ⟨g, hg⟩ : ∃ g, g = D.tup (.str w :: xs.map D.int) := ⟨_, rfl⟩
  obtain ⟨r0, hr0⟩ : ∃ r0 : List D, r0 = [.tup [g, .bl true], .tup [.ref B.length, .bl false], .tup [.tup (.str w :: (xs.map D.int ++ [.int 0])), .bl false], .tup [.tup (.str w :: xs.map D.int).dropLast, .bl false]] := ⟨_, rfl⟩
  obtain ⟨T, hT⟩ : ∃ T : Sto, T = [.lst (.str w :: xs.map D.int), .lst [.tup [g, .bl true], .tup [.ref B.length, .bl false], .tup [.tup (.str w :: (xs.map D.int ++ [.int 0])), .bl false]], .lst [.tup [.tup (.str w :: xs.map D.int).dropLast, .bl false]], .lst r0] := ⟨_, rfl⟩
  have hBC : Has B (B ++ T) := Has.app B T
  have hf : (B ++ T)[B.length + 3]? = some (.lst r0) := by rw [get_app, hT]; rfl
  have hrow : ∀ row ∈ r0, RowOk w (B ++ T) row := by
    intro row hm
    rw [hr0] at hm
    simp only [List.mem_cons, List.not_mem_nil, or_false] at hm
    rcases hm with rfl | rfl | rfl | rfl
    · exact ⟨g, true, rfl, .inl ⟨xs.map D.int, hg, by simp; omega, tt_ty, by rw [opT_eq hw, all_in hin]; simp [hxl]⟩⟩
    · exact ⟨_, false, rfl, .inr (.inl ⟨B.length, .str w :: xs.map D.int, rfl, by rw [get_app0, hT]; rfl, rfl⟩)⟩
    · refine ⟨_, false, rfl, .inl ⟨xs.map D.int ++ [.int 0], rfl, by simp; omega, ?_, ?_⟩⟩
      · intro x hx S'
        rcases List.mem_append.mp hx with hx | hx
        · exact tt_ty x hx S'
        · rw [List.mem_singleton.mp hx]; rfl
      · rw [opT_eq hw, all_short hxl]; rfl
    · cases xs with
      | nil => exact ⟨.tup [], false, rfl, .inr (.inr ⟨rfl, rfl⟩)⟩
      | cons x xs =>
        refine ⟨_, false, rfl, .inl ⟨((x :: xs).map D.int).dropLast, ?_, by simp at hxz ⊢; omega, ?_, ?_⟩⟩
        · simp
        · intro y hy S'
          exact tt_ty y ((List.dropLast_sublist _).subset hy) S'
        · rw [opT_eq hw]
          have : decide (((x :: xs).map D.int).dropLast.length = ls.length) = false := by simp at hxl ⊢; omega
          rw [this]; rfl
  have key := forF_nx (it := itR 0 xs.length) (tg := gN 5) (body := outB)
    (fun j ρ S1 => ∃ (a5 a6 a7 a8 a9 : Option D) (rows' : List D), ρ = [some (.str w), some (.ref n), some (.ref l), some g, some (.ref (B.length + 3)), a5, a6, a7, a8, a9] ∧ Has B S1 ∧ S1[B.length + 3]? = some (.lst rows') ∧ rows'.length ≤ 4 + 8 * j ∧ ∀ row ∈ rows', RowOk w S1 row)
    (by
      rintro j ρ S1 hj ⟨a5, a6, a7, a8, a9, rows', rfl, hb, hf1, hrl, hrow'⟩
      have hj' : j < xs.length := hj
      obtain ⟨b6, b7, b8, b9, rows2, S2, e, k1, k2, k3, k4⟩ := outer_spec (a3 := some g) (a6 := a6) (a7 := a7) (a8 := a8) (a9 := a9) hb hn hl hf1 (Nat.le_add_right _ _) hin hls hlim hw hj' (by omega) hrow'
      refine ⟨.int (j : Int), [some (.str w), some (.ref n), some (.ref l), some g, some (.ref (B.length + 3)), some (.int (j : Int)), a6, a7, a8, a9], S1, _, _, ?_, rfl, .inl e, some (.int (j : Int)), b6, b7, b8, b9, rows2, rfl, k1, k2, by omega, k4⟩
      simp [itR])
    (by
      rintro ρ S1 _
      rfl)
    xs.length (Nat.le_refl _) [some (.str w), some (.ref n), some (.ref l), some g, some (.ref (B.length + 3)), none, none, none, none, none] (B ++ T)
    ⟨_, _, _, _, _, r0, rfl, hBC, hf, by rw [hr0]; simp, hrow⟩
  obtain ⟨ρ', S', k1, a5, a6, a7, a8, a9, rows', rfl, k2, k3, k4, k5⟩ := key
  refine ⟨B.length + 3, rows', S', ?_, k2, Nat.le_add_right _ _, k3, ?_, k5⟩
  · have z1 : 1 + xs.length ≤ 16777216 := by omega
    have z2 : xs.length + 1 ≤ 16777216 := by omega
    have z3 : xs.length + 1 + 1 ≤ 16777216 := by omega
    have z4 : 1 + xs.length + 1 ≤ 16777216 := by omega
    have hn' : ∀ U, (B ++ U)[n]? = some (.lst (xs.map D.int)) := fun U => Has.app B U _ _ hn
    rw [hT, hr0, hg] at k1
    rw [d__law_rows, b__law_rows, fnD]
    have hr : ∀ U a0 ρ, mIA (fun ds _ => rng1 ds) (mCons (mL lenD (mCons (mVar 1) mNil)) mNil) (a0 :: some (.ref n) :: ρ) (B ++ U) = .ok (itR 0 xs.length) (B ++ U) := fun U a0 ρ => rng_len (hn' U) (by simp) (by omega)
    have hn0 : (itR 0 xs.length).n = xs.length := rfl
    simp only [outB, inB, valsM] at k1
    simp [addD, tupC, seqD, sizeLine_eq, sliceD, tyIs, hn, hn', cut_to, cut_from, but_last, appD, z1, z2, z3, z4, lstC, hr, -mIA_eq]
    simp only [hn0]
    rw [k1]
    simp
  · have : (itR 0 xs.length).n = xs.length := rfl
    omega
end My

namespace My
open PySem PySem.Spec PyProof.Rows L2 RZ Dn
set_option maxRecDepth 100000
set_option maxHeartbeats 4000000
set_option linter.all false
theorem isi_of {S : Sto} {d : D} {t T : String} (h : tyD S d = some t) (k : isKnown t T = true) : isiD T d S = .ok (.bl (isT t T)) S := by
  unfold isiD
  rw [h]
  simp only [k, if_true]
theorem ref_op {S : Sto} {i : Nat} (h : tyD S (.ref i) = some "list" ∨ tyD S (.ref i) = some "dict") : d_is_operation [.ref i] S = .ok (.bl false) S := by
  have e : isiD "tuple" (.ref i) S = .ok (.bl false) S := by
    rcases h with h | h
    · exact isi_of h (by decide +kernel)
    · exact isi_of h (by decide +kernel)
  simp [d_is_operation, b_is_operation, fnD, e]
/-- what the operation answers at a row's value -/
theorem row_op {S : Sto} {w : Str} {v : D} {b : Bool} (h : RowOk w S (.tup [v, .bl b])) : ∃ T, d_is_operation [v] S = .ok (.bl b) (S ++ T) := by
  obtain ⟨v', b', e, h⟩ := h
  cases e
  rcases h with ⟨xs, rfl, h1, h2, rfl⟩ | ⟨i, ys, rfl, h1, rfl⟩ | ⟨rfl, rfl⟩
  · exact op_spec w xs S (fun x hx => h2 x hx S) h1
  · exact ⟨[], by rw [List.append_nil]; exact ref_op (.inl (by simp only [tyD, h1]))⟩
  · refine ⟨[], ?_⟩
    simp [d_is_operation, b_is_operation, fnD]
/-- a value that is no operation -/
def Odd (S : Sto) (v : D) : Prop := v = .non ∨ v = .int 5 ∨ v = .str "drain" ∨ v = .tup [] ∨ v = .tup [.non, .int 0] ∨ v = .tup [.str "Drain"] ∨ v = .tup [.str "", .int 0] ∨ v = .tup [.str "stop", .int 0] ∨ v = .tup [.str "drain", .non] ∨ ∃ i, v = .ref i ∧ (tyD S (.ref i) = some "list" ∨ tyD S (.ref i) = some "dict")
theorem odd_op {S : Sto} {v : D} (h : Odd S v) : ∃ T, d_is_operation [v] S = .ok (.bl false) (S ++ T) := by
  have z : ∀ (w : Str) (xs : List D), (∀ x ∈ xs, (tyD S x).isSome = true) → xs.length ≤ 100 → opT w xs = false → ∃ T, d_is_operation [.tup (.str w :: xs)] S = .ok (.bl false) (S ++ T) := by
    intro w xs h1 h2 h3
    rw [← h3]
    exact op_spec w xs S h1 h2
  rcases h with rfl | rfl | rfl | rfl | rfl | rfl | rfl | rfl | rfl | ⟨i, rfl, h⟩
  · exact ⟨[], by simp [d_is_operation, b_is_operation, fnD]⟩
  · exact ⟨[], by simp [d_is_operation, b_is_operation, fnD]⟩
  · exact ⟨[], by simp [d_is_operation, b_is_operation, fnD]⟩
  · exact ⟨[], by simp [d_is_operation, b_is_operation, fnD]⟩
  · exact ⟨[], by simp [d_is_operation, b_is_operation, fnD]⟩
  · exact z _ [] (by simp) (by simp) (by decide +kernel)
  · exact z _ [.int 0] (by simp [tyD]) (by simp) (by decide +kernel)
  · exact z _ [.int 0] (by simp [tyD]) (by simp) (by decide +kernel)
  · exact z _ [.non] (by simp [tyD]) (by simp) (by decide +kernel)
  · exact ⟨[], by rw [List.append_nil]; exact ref_op h⟩
theorem drain_op {S : Sto} : ∃ T, d_is_operation [.tup [.str "drain"]] S = .ok (.bl true) (S ++ T) := by
  have e : opT "drain" [] = true := by decide +kernel
  rw [← e]
  exact op_spec _ [] S (by simp) (by simp)
theorem ty_has {S S' : Sto} {i : Nat} {t : String} (h : tyD S (.ref i) = some t) (x : Has S S') : tyD S' (.ref i) = some t := by
  simp only [tyD] at h ⊢
  cases e : S[i]? with
  | none => rw [e] at h; cases h
  | some o => rw [x _ _ e]; rw [e] at h; exact h
theorem Odd.has {S S' : Sto} {v : D} (h : Odd S v) (x : Has S S') : Odd S' v := by
  rcases h with h | h | h | h | h | h | h | h | h | ⟨i, rfl, h⟩
  · exact .inl h
  · exact .inr (.inl h)
  · exact .inr (.inr (.inl h))
  · exact .inr (.inr (.inr (.inl h)))
  · exact .inr (.inr (.inr (.inr (.inl h))))
  · exact .inr (.inr (.inr (.inr (.inr (.inl h)))))
  · exact .inr (.inr (.inr (.inr (.inr (.inr (.inl h))))))
  · exact .inr (.inr (.inr (.inr (.inr (.inr (.inr (.inl h)))))))
  · exact .inr (.inr (.inr (.inr (.inr (.inr (.inr (.inr (.inl h))))))))
  · exact .inr (.inr (.inr (.inr (.inr (.inr (.inr (.inr (.inr ⟨i, rfl, h.imp (fun z => ty_has z x) (fun z => ty_has z x)⟩))))))))
end My

namespace My
open PySem PySem.Spec PyProof.Rows L2 RZ Dn
set_option maxRecDepth 100000
set_option maxHeartbeats 4000000
set_option linter.all false
abbrev rowB : MS := (sSeq (sIf (mAnd (mTb (m2 (isND true) (mL (callD 1 d_is_operation) (mCons (mVar 7) mNil)) (mC (.bl true)))) (mT (mVar 8))) (sRet (mC (.bl false))) sSkip)
    (sIf (mAnd (mTb (m2 (isND true) (mL (callD 1 d_is_operation) (mCons (mVar 7) mNil)) (mC (.bl false)))) (mNot (mT (mVar 8)))) (sRet (mC (.bl false))) sSkip))
abbrev oddB : MS := (sIf (mTb (m2 (isND true) (mKw kwp_is_operation_value d_is_operation 1 mNil (mCons (mVar 10) mNil)) (mC (.bl false)))) (sRet (mC (.bl false))) sSkip)
theorem rowB_spec {w : Str} {S : Sto} {v : D} {b : Bool} {a0 a1 a2 a3 a4 a5 a6 a9 a10 a11 a12 : Option D} (h : RowOk w S (.tup [v, .bl b])) :
    ∃ T, rowB [a0, a1, a2, a3, a4, a5, a6, some v, some (.bl b), a9, a10, a11, a12] S = .nx [a0, a1, a2, a3, a4, a5, a6, some v, some (.bl b), a9, a10, a11, a12] (S ++ T) := by
  obtain ⟨T1, e1⟩ := row_op h
  obtain ⟨T2, e2⟩ := row_op (h.has (Has.app S T1))
  refine ⟨T1 ++ T2, ?_⟩
  cases b <;> simp [rowB, callD, e1, e2, ← List.append_assoc]
theorem oddB_spec {S : Sto} {v : D} {a0 a1 a2 a3 a4 a5 a6 a7 a8 a9 a11 a12 : Option D} (h : Odd S v) :
    ∃ T, oddB [a0, a1, a2, a3, a4, a5, a6, a7, a8, a9, some v, a11, a12] S = .nx [a0, a1, a2, a3, a4, a5, a6, a7, a8, a9, some v, a11, a12] (S ++ T) := by
  obtain ⟨T1, e1⟩ := odd_op h
  refine ⟨T1, ?_⟩
  simp [oddB, callD, e1, kwp_is_operation_value]
theorem row_loop {w : Str} {S : Sto} {f : Nat} {rows : List D} {a0 a1 a2 a3 a4 a5 a6 a7 a8 a9 a10 a11 a12 : Option D} (hf : S[f]? = some (.lst rows)) (hr : ∀ row ∈ rows, RowOk w S row) :
    ∃ b7 b8 S', forF (itL f rows.length) (gT 2 (gsC (gN 7) (gsC (gN 8) gs0))) rowB rows.length [a0, a1, a2, a3, a4, a5, a6, a7, a8, a9, a10, a11, a12] S = .nx [a0, a1, a2, a3, a4, a5, a6, b7, b8, a9, a10, a11, a12] S' ∧ Has S S' := by
  have key := forF_nx (it := itL f rows.length) (tg := gT 2 (gsC (gN 7) (gsC (gN 8) gs0))) (body := rowB)
    (fun j ρ S1 => ∃ b7 b8 : Option D, ρ = [a0, a1, a2, a3, a4, a5, a6, b7, b8, a9, a10, a11, a12] ∧ Has S S1)
    (by
      rintro j ρ S1 hj ⟨b7, b8, rfl, hb⟩
      have hj' : j < rows.length := hj
      have e1 : rows[j]? = some rows[j] := List.getElem?_eq_getElem hj'
      have h1 := (hr _ (List.getElem_mem hj')).has hb
      have h2 := h1
      obtain ⟨v, b, e, _⟩ := h1
      rw [e] at h2
      obtain ⟨T, hT⟩ := rowB_spec (a0 := a0) (a1 := a1) (a2 := a2) (a3 := a3) (a4 := a4) (a5 := a5) (a6 := a6) (a9 := a9) (a10 := a10) (a11 := a11) (a12 := a12) h2
      refine ⟨.tup [v, .bl b], _, S1, _, _, ?_, ?_, .inl hT, some v, some (.bl b), rfl, hb.app2 T⟩
      · simp only [itL, hb _ _ hf]
        simp [e1, e]
      · simp)
    (by
      rintro ρ S1 ⟨b7, b8, rfl, hb⟩
      simp [itL, lenL, hb _ _ hf])
    rows.length (Nat.le_refl _) [a0, a1, a2, a3, a4, a5, a6, a7, a8, a9, a10, a11, a12] S ⟨a7, a8, rfl, Has.refl S⟩
  obtain ⟨ρ', S', k1, b7, b8, rfl, k2⟩ := key
  exact ⟨b7, b8, S', k1, k2⟩
theorem odd_loop {S : Sto} {f : Nat} {vs : List D} {a0 a1 a2 a3 a4 a5 a6 a7 a8 a9 a10 a11 a12 : Option D} (hf : S[f]? = some (.lst vs)) (hr : ∀ v ∈ vs, Odd S v) :
    ∃ b10 S', forF (itL f vs.length) (gN 10) oddB vs.length [a0, a1, a2, a3, a4, a5, a6, a7, a8, a9, a10, a11, a12] S = .nx [a0, a1, a2, a3, a4, a5, a6, a7, a8, a9, b10, a11, a12] S' ∧ Has S S' := by
  have key := forF_nx (it := itL f vs.length) (tg := gN 10) (body := oddB)
    (fun j ρ S1 => ∃ b10 : Option D, ρ = [a0, a1, a2, a3, a4, a5, a6, a7, a8, a9, b10, a11, a12] ∧ Has S S1)
    (by
      rintro j ρ S1 hj ⟨b10, rfl, hb⟩
      have hj' : j < vs.length := hj
      have e1 : vs[j]? = some vs[j] := List.getElem?_eq_getElem hj'
      have h1 := (hr _ (List.getElem_mem hj')).has hb
      obtain ⟨T, hT⟩ := oddB_spec (a0 := a0) (a1 := a1) (a2 := a2) (a3 := a3) (a4 := a4) (a5 := a5) (a6 := a6) (a7 := a7) (a8 := a8) (a9 := a9) (a11 := a11) (a12 := a12) h1
      refine ⟨vs[j], _, S1, _, _, ?_, rfl, .inl hT, _, rfl, hb.app2 T⟩
      simp only [itL, hb _ _ hf]
      simp [e1])
    (by
      rintro ρ S1 ⟨b10, rfl, hb⟩
      simp [itL, lenL, hb _ _ hf])
    vs.length (Nat.le_refl _) [a0, a1, a2, a3, a4, a5, a6, a7, a8, a9, a10, a11, a12] S ⟨a10, rfl, Has.refl S⟩
  obtain ⟨ρ', S', k1, b10, rfl, k2⟩ := key
  exact ⟨b10, S', k1, k2⟩
end My

namespace My
open PySem PySem.Spec PyProof.Rows L2 RZ Dn
set_option maxRecDepth 100000
set_option maxHeartbeats 4000000
set_option linter.all false
abbrev forms : List D := [.tup [.str "alloc", .ref 0], .tup [.str "free", .ref 1], .tup [.str "adopt", .ref 2], .tup [.str "large", .ref 4], .tup [.str "grow", .ref 7], .tup [.str "drain", .ref 8]]
abbrev Base : Sto := [.lst [.tup [.int 0, .int 2], .tup [.int 0, .int 7]], .lst [.tup [.int 0, .int 7]], .lst [.tup [.int 0, .int 7]],
  .lst [.tup [.str "alloc", .ref 0], .tup [.str "free", .ref 1], .tup [.str "adopt", .ref 2]],
  .lst [.tup [.int 1, .int 8], .tup [.int 0, .int 7]], .lst [.tup [.str "large", .ref 4]],
  .lst [.tup [.str "alloc", .ref 0], .tup [.str "free", .ref 1], .tup [.str "adopt", .ref 2], .tup [.str "large", .ref 4]],
  .lst [.tup [.int 0, .int 7]], .lst [], .lst [.tup [.str "grow", .ref 7], .tup [.str "drain", .ref 8]], .lst forms]
theorem form_at {d : Int} (h0 : 0 ≤ d) (h6 : d < 6) : ∃ (w : Str) (l : Nat) (ls : List (Int × Int)), atI forms d = some (.tup [.str w, .ref l]) ∧ Base[l]? = some (.lst (ls.map pr)) ∧ ls.length ≤ 2 ∧ (∀ q ∈ ls, q = (0, 2) ∨ q = (0, 7) ∨ q = (1, 8)) ∧ tab_LIMITS.lookup w = some (.tup (ls.map pr)) := by
  obtain ⟨n, rfl⟩ := Int.eq_ofNat_of_zero_le h0
  have hn : n < 6 := by omega
  have e : atI forms (n : Int) = forms[n]? := by
    cases h : forms[n]? with
    | none => simp at h; omega
    | some v => exact atI_nat h
  rw [e]
  match n, hn with
  | 0, _ => exact ⟨_, _, [(0, 2), (0, 7)], rfl, rfl, by simp, by simp, by rfl⟩
  | 1, _ => exact ⟨_, _, [(0, 7)], rfl, rfl, by simp, by simp, by rfl⟩
  | 2, _ => exact ⟨_, _, [(0, 7)], rfl, rfl, by simp, by simp, by rfl⟩
  | 3, _ => exact ⟨_, _, [(1, 8), (0, 7)], rfl, rfl, by simp, by simp, by rfl⟩
  | 4, _ => exact ⟨_, _, [(0, 7)], rfl, rfl, by simp, by simp, by rfl⟩
  | 5, _ => exact ⟨_, _, [], rfl, rfl, by simp, by simp, by rfl⟩
abbrev st1 : MS := (sSet (mL (callD 2 d__law_pool) (mCons (mVar 0) (mCons (mVar 2) mNil))) 3)
abbrev st2 : MS := (sAsg (m2 itemD (mVar 1) (mL (callD 2 d__law_take) (mCons (mVar 3) (mCons (mC (.int 6)) mNil)))) (gT 2 (gsC (gN 4) (gsC (gN 5) gs0))))
abbrev st3 : MS := (sSet numsM 6)
abbrev st4 : MS := (sFor (mI (mL (callD 3 d__law_rows) (mCons (mVar 4) (mCons (mVar 6) (mCons (mVar 5) mNil))))) (gT 2 (gsC (gN 7) (gsC (gN 8) gs0))) rowB)
abbrev st5 : MS := (sSet (mL lstD (mCons (mC .non) (mCons (mC (.int 5)) (mCons (mC (.str "drain")) (mCons (mL tupD mNil) (mCons (mL tupD (mCons (mC (.str "Drain")) mNil)) (mCons (mL tupD (mCons (mC (.str "")) (mCons (mC (.int 0)) mNil))) (mCons (mL tupD (mCons (mC .non) (mCons (mC (.int 0)) mNil))) (mCons (mL tupD (mCons (mC (.str "stop")) (mCons (mC (.int 0)) mNil))) (mCons mDk mNil)))))))))) 9)
abbrev st6 : MS := (sFor (mI (m2 addD (mVar 9) (mL lstD (mCons (mL lstD (mCons (mL tupD (mCons (mC (.str "drain")) mNil)) mNil)) (mCons (mL tupD (mCons (mC (.str "drain")) (mCons (mC .non) mNil))) mNil))))) (gN 10) oddB)
abbrev lawB : MS := sSeq st1 (sSeq st2 (sSeq st3 (sSeq st4 (sSeq st5 st6))))
theorem body_spec {S : Sto} {ns : List Int} {k : Nat} (hb : Has Base S) (hl : ns.length ≤ 63) (hk : k ≤ 12) {a3 a4 a5 a6 a7 a8 a9 a10 a11 a12 : Option D} :
    ∃ (b3 b4 b5 b6 b7 b8 b9 b10 b11 b12 : Option D) (S' : Sto), lawB [some (.rol (ns.map D.int)), some (.ref 10), some (.int (k : Int)), a3, a4, a5, a6, a7, a8, a9, a10, a11, a12] S = .nx [some (.rol (ns.map D.int)), some (.ref 10), some (.int (k : Int)), b3, b4, b5, b6, b7, b8, b9, b10, b11, b12] S' ∧ Has Base S' := by
  obtain ⟨p, S1, e1, hp1, hp2, hh1⟩ := pool_spec' (S := S) (ns := ns) (k := (k : Int)) (by omega) (by omega) hl
  rw [← poolD] at e1
  have hb1 := hb.trans hh1
  have hBp : Base.length ≤ p := Nat.le_trans hb.len hp2
  obtain ⟨d, S2, e2, hd0, hd6, hp3, hbut⟩ := take_spec' (n := 6) hp1 (by omega) (by omega)
  rw [← takeD] at e2
  have hb2 : Has Base S2 := hbut.has hb1 hBp
  obtain ⟨w, l, ls, h1, h2, h3, h4, h5⟩ := form_at hd0 hd6
  obtain ⟨n, xs, S3, e3, h6, h7, h8, hb3, h9⟩ := nums_spec (a0 := some (.rol (ns.map D.int))) (a1 := some (.ref 10)) (a2 := some (.int (k : Int))) (a4 := some (.str w)) (a6 := a6) (a7 := a7) (a8 := a8) (a9 := a9) (a10 := a10) (a11 := a11) (a12 := a12) hb2 hp3 hBp h2 h3 (by
    intro q hq
    rcases h4 q hq with rfl | rfl | rfl <;> decide)
  obtain ⟨f, rows, S4, e4, hh4, h10, h11, h12, h13⟩ := rows_spec (w := w) h6 (hb3 _ _ h2) ⟨h7, h8⟩ h3 h4 h5
  obtain ⟨b7, b8, S5, e5, hh5⟩ := row_loop (a0 := some (.rol (ns.map D.int))) (a1 := some (.ref 10)) (a2 := some (.int (k : Int))) (a3 := some (.ref p)) (a4 := some (.str w)) (a5 := some (.ref l)) (a6 := some (.ref n)) (a7 := a7) (a8 := a8) (a9 := a9) (a10 := a10) (a11 := a11) (a12 := a12) h11 h13
  have hb5 : Has Base S5 := (hb3.trans hh4).trans hh5
  obtain ⟨v9, hv9⟩ : ∃ v9 : List D, v9 = [.non, .int 5, .str "drain", .tup [], .tup [.str "Drain"], .tup [.str "", .int 0], .tup [.non, .int 0], .tup [.str "stop", .int 0], .ref S5.length] := ⟨_, rfl⟩
  obtain ⟨S6, hS6⟩ : ∃ S6 : Sto, S6 = S5 ++ [.dk [], .lst v9] := ⟨_, rfl⟩
  obtain ⟨v10, hv10⟩ : ∃ v10 : List D, v10 = v9 ++ [.ref (S5.length + 2), .tup [.str "drain", .non]] := ⟨_, rfl⟩
  obtain ⟨S7, hS7⟩ : ∃ S7 : Sto, S7 = S5 ++ [.dk [], .lst v9, .lst [.tup [.str "drain"]], .lst [.ref (S5.length + 2), .tup [.str "drain", .non]], .lst v10] := ⟨_, rfl⟩
  have g7 : S7[S5.length + 4]? = some (.lst v10) := by rw [hS7, get_app]; rfl
  have g7b : tyD S7 (.ref S5.length) = some "dict" := by simp only [tyD]; rw [hS7, get_app0]; rfl
  have g7c : tyD S7 (.ref (S5.length + 2)) = some "list" := by simp only [tyD]; rw [hS7, get_app]; rfl
  have hodd : ∀ v ∈ v10, Odd S7 v := by
    intro v hv
    rw [hv10, hv9] at hv
    simp only [List.cons_append, List.nil_append, List.mem_cons, List.not_mem_nil, or_false] at hv
    rcases hv with rfl | rfl | rfl | rfl | rfl | rfl | rfl | rfl | rfl | rfl | rfl
    · exact .inl rfl
    · exact .inr (.inl rfl)
    · exact .inr (.inr (.inl rfl))
    · exact .inr (.inr (.inr (.inl rfl)))
    · exact .inr (.inr (.inr (.inr (.inr (.inl rfl)))))
    · exact .inr (.inr (.inr (.inr (.inr (.inr (.inl rfl))))))
    · exact .inr (.inr (.inr (.inr (.inl rfl))))
    · exact .inr (.inr (.inr (.inr (.inr (.inr (.inr (.inl rfl)))))))
    · exact .inr (.inr (.inr (.inr (.inr (.inr (.inr (.inr (.inr ⟨_, rfl, .inr g7b⟩))))))))
    · exact .inr (.inr (.inr (.inr (.inr (.inr (.inr (.inr (.inr ⟨_, rfl, .inl g7c⟩))))))))
    · exact .inr (.inr (.inr (.inr (.inr (.inr (.inr (.inr (.inl rfl))))))))
  obtain ⟨b10, S8, e8, hh8⟩ := odd_loop (a0 := some (.rol (ns.map D.int))) (a1 := some (.ref 10)) (a2 := some (.int (k : Int))) (a3 := some (.ref p)) (a4 := some (.str w)) (a5 := some (.ref l)) (a6 := some (.ref n)) (a7 := b7) (a8 := b8) (a9 := some (.ref (S5.length + 1))) (a10 := a10) (a11 := a11) (a12 := a12) g7 hodd
  have hb8 : Has Base S8 := (hb5.trans (by rw [hS7]; exact Has.app _ _)).trans hh8
  refine ⟨some (.ref p), some (.str w), some (.ref l), some (.ref n), b7, b8, some (.ref (S5.length + 1)), b10, a11, a12, S8, ?_, hb8⟩
  have hB10 : S2[10]? = some (.lst forms) := hb2 10 _ rfl
  have q1 : st1 [some (.rol (ns.map D.int)), some (.ref 10), some (.int (k : Int)), a3, a4, a5, a6, a7, a8, a9, a10, a11, a12] S = .nx [some (.rol (ns.map D.int)), some (.ref 10), some (.int (k : Int)), some (.ref p), a4, a5, a6, a7, a8, a9, a10, a11, a12] S1 := by
    simp [st1, callD, e1]
  have q2 : st2 [some (.rol (ns.map D.int)), some (.ref 10), some (.int (k : Int)), some (.ref p), a4, a5, a6, a7, a8, a9, a10, a11, a12] S1 = .nx [some (.rol (ns.map D.int)), some (.ref 10), some (.int (k : Int)), some (.ref p), some (.str w), some (.ref l), a6, a7, a8, a9, a10, a11, a12] S2 := by
    simp only [st2, sAsg_eq, m2_eq, mVar_s, mVar_0, R.bind_ok, mL_eq, mCons_eq, mC_eq, mNil_eq]
    simp [callD, e2, itemD, hB10, h1, -List.map_cons, -List.map_nil]
  have q3 : st3 [some (.rol (ns.map D.int)), some (.ref 10), some (.int (k : Int)), some (.ref p), some (.str w), some (.ref l), a6, a7, a8, a9, a10, a11, a12] S2 = .nx [some (.rol (ns.map D.int)), some (.ref 10), some (.int (k : Int)), some (.ref p), some (.str w), some (.ref l), some (.ref n), a7, a8, a9, a10, a11, a12] S3 := by
    rw [st3, sSet_eq, e3]
    simp
  have q4 : st4 [some (.rol (ns.map D.int)), some (.ref 10), some (.int (k : Int)), some (.ref p), some (.str w), some (.ref l), some (.ref n), a7, a8, a9, a10, a11, a12] S3 = .nx [some (.rol (ns.map D.int)), some (.ref 10), some (.int (k : Int)), some (.ref p), some (.str w), some (.ref l), some (.ref n), b7, b8, a9, a10, a11, a12] S5 := by
    have hm : (mI (mL (callD 3 d__law_rows) (mCons (mVar 4) (mCons (mVar 6) (mCons (mVar 5) mNil))))) [some (.rol (ns.map D.int)), some (.ref 10), some (.int (k : Int)), some (.ref p), some (.str w), some (.ref l), some (.ref n), a7, a8, a9, a10, a11, a12] S3 = .ok (itL f rows.length) S4 := by
      simp [callD, e4, walkD, lenL, h11]
    rw [st4, sFor_eq, hm]
    exact e5
  have q5 : st5 [some (.rol (ns.map D.int)), some (.ref 10), some (.int (k : Int)), some (.ref p), some (.str w), some (.ref l), some (.ref n), b7, b8, a9, a10, a11, a12] S5 = .nx [some (.rol (ns.map D.int)), some (.ref 10), some (.int (k : Int)), some (.ref p), some (.str w), some (.ref l), some (.ref n), b7, b8, some (.ref (S5.length + 1)), a10, a11, a12] S6 := by
    simp [st5, mDk, hS6, hv9]
  have q6 : st6 [some (.rol (ns.map D.int)), some (.ref 10), some (.int (k : Int)), some (.ref p), some (.str w), some (.ref l), some (.ref n), b7, b8, some (.ref (S5.length + 1)), a10, a11, a12] S6 = .nx [some (.rol (ns.map D.int)), some (.ref 10), some (.int (k : Int)), some (.ref p), some (.str w), some (.ref l), some (.ref n), b7, b8, some (.ref (S5.length + 1)), b10, a11, a12] S8 := by
    have hm : (mI (m2 addD (mVar 9) (mL lstD (mCons (mL lstD (mCons (mL tupD (mCons (mC (.str "drain")) mNil)) mNil)) (mCons (mL tupD (mCons (mC (.str "drain")) (mCons (mC .non) mNil))) mNil))))) [some (.rol (ns.map D.int)), some (.ref 10), some (.int (k : Int)), some (.ref p), some (.str w), some (.ref l), some (.ref n), b7, b8, some (.ref (S5.length + 1)), a10, a11, a12] S6 = .ok (itL (S5.length + 4) v10.length) S7 := by
      rw [hS6, hS7, hv10, hv9]
      have gx : ∀ (T : Sto) (a b : Nat), (S5 ++ T)[S5.length + a + b]? = T[a + b]? := fun T a b => by rw [Nat.add_assoc]; exact get_app S5 T (a + b)
      have gy : ∀ (T : Sto) (a b : Nat) (h : S5.length + a + b < (S5 ++ T).length), (S5 ++ T)[S5.length + a + b]'h = T[a + b]'(by simp at h; omega) := fun T a b h => by simp only [Nat.add_assoc]; exact List.getElem_append_right (by omega) |>.trans (by simp)
      simp [addD, walkD, lenL, sizeLine_eq, gx, gy]
    rw [st6, sFor_eq, hm]
    exact e8
  simp only [lawB, sSeq_eq, q1, q2, q3, q4, q5, q6, F.seq_nx]
theorem law_true : ∀ ns : List Int, ns.length ≤ 63 → ∃ S, d_law [.rol (ns.map D.int)] [] = .ok (.bl true) S := by
  intro ns hl
  obtain ⟨m, hm⟩ : ∃ m : Nat, (m : Int) = max 1 (min 12 (ns.length : Int)) := ⟨(max 1 (min 12 (ns.length : Int))).toNat, by omega⟩
  have key := forF_nx (it := itR 0 m) (tg := gN 2) (body := lawB)
    (fun j ρ S1 => ∃ a2 a3 a4 a5 a6 a7 a8 a9 a10 a11 a12 : Option D, ρ = [some (.rol (ns.map D.int)), some (.ref 10), a2, a3, a4, a5, a6, a7, a8, a9, a10, a11, a12] ∧ Has Base S1)
    (by
      rintro j ρ S1 hj ⟨a2, a3, a4, a5, a6, a7, a8, a9, a10, a11, a12, rfl, hb⟩
      have hj' : j < m := hj
      obtain ⟨b3, b4, b5, b6, b7, b8, b9, b10, b11, b12, S', e, hb'⟩ := body_spec (a3 := a3) (a4 := a4) (a5 := a5) (a6 := a6) (a7 := a7) (a8 := a8) (a9 := a9) (a10 := a10) (a11 := a11) (a12 := a12) (k := j) hb hl (by omega)
      refine ⟨.int (j : Int), _, S1, _, _, ?_, rfl, .inl e, _, _, _, _, _, _, _, _, _, _, _, rfl, hb'⟩
      simp [itR])
    (by
      rintro ρ S1 _
      rfl)
    m (Nat.le_refl _) [some (.rol (ns.map D.int)), some (.ref 10), none, none, none, none, none, none, none, none, none, none, none] Base ⟨_, _, _, _, _, _, _, _, _, _, _, rfl, Has.refl _⟩
  obtain ⟨ρ', S', k1, a2, a3, a4, a5, a6, a7, a8, a9, a10, a11, a12, rfl, hb⟩ := key
  obtain ⟨T, hT⟩ := drain_op (S := S')
  refine ⟨S' ++ T, ?_⟩
  have hr : ∀ ρ S, mIA (fun ds _ => rng1 ds) (mCons (mL max2C (mCons (mC (.int 1)) (mCons (mL min2C (mCons (mC (.int 12)) (mCons (mL lenD (mCons (mVar 0) mNil)) mNil))) mNil))) mNil) (some (.rol (ns.map D.int)) :: ρ) S = .ok (itR 0 m) S := fun ρ S =>
    mIA_of (ds := [.int (m : Int)]) (by rw [hm]; simp [lenD, max2C, min2C]; (repeat' split) <;> omega) (rng1_nat (by omega))
  have hn0 : (itR 0 m).n = m := rfl
  simp only [lawB, st1, st2, st3, st4, st5, st6, numsM, rowB, oddB, Base, forms] at k1
  unfold d_law b_law fnD
  simp [lstD, addD, tupD, sizeLine_eq, hr, -mIA_eq]
  simp only [hn0]
  rw [k1]
  simp [callD, hT]
end My

open PySem PySem.W PyProof.Rows
set_option maxRecDepth 100000 in
set_option maxHeartbeats 0 in
theorem PySem.Challenge.cw_homefrees_k01_operations_recognized_holds : PySem.Challenge.rw_homefrees_k01_operations_recognized.Holds := by
  w_on; o_law; k_head; (case hw => w_witness2)
  k_fill
  refine My.walk (l := PySem.Challenge.rw_homefrees_k01_operations_recognized) My.law_true rfl rfl (fun w h Y => PySem.W.kIn_of Y) ?F
  case F =>
    intro w mg fa h KX G hmg
    refine' My.all_mk KX G hmg ?a0 ?l0 ?c0 ?k0 ?a1 ?l1 ?c1 ?k1 ?a2 ?l2 ?c2 ?k2 ?a3 ?l3 ?c3 ?k3 ?a4 ?l4 ?c4 ?k4 ?a5 ?l5 ?c5 ?k5 ?a6 ?l6 ?c6 ?k6 ?z0 ?z1 ?z2 ?z3 ?z4 ?z5 ?z6 ?z7 ?z8 ?z9 ?z10 ?z11 ?ta0 ?tl0 ?tk0 ?tt0 ?tw0
    (case a0 => k_is)
    (case l0 => k_is)
    (case c0 => k_is)
    (case k0 => k_is)
    (case a1 => k_is)
    (case l1 => k_is)
    (case c1 => k_is)
    (case k1 => k_is)
    (case a2 => k_is)
    (case l2 => k_is)
    (case c2 => k_is)
    (case k2 => k_is)
    (case a3 => k_is)
    (case l3 => k_is)
    (case c3 => k_is)
    (case k3 => k_is)
    (case a4 => k_is)
    (case l4 => k_is)
    (case c4 => k_is)
    (case k4 => k_is)
    (case a5 => k_is)
    (case l5 => k_is)
    (case c5 => k_is)
    (case k5 => k_is)
    (case a6 => k_is)
    (case l6 => k_is)
    (case c6 => k_is)
    (case k6 => k_is)
    (case z0 => k_is)
    (case z1 => k_is)
    (case z2 => k_is)
    (case z3 => k_is)
    (case z4 => k_is)
    (case z5 => k_is)
    (case z6 => k_is)
    (case z7 => k_is)
    (case z8 => k_is)
    (case z9 => k_is)
    (case z10 => k_is)
    (case z11 => k_is)
    (case ta0 => k_is)
    (case tl0 => k_is)
    (case tk0 => first | k_is | (repeat (first | exact True.intro | refine ⟨⟨_, _, rfl, rfl⟩, ?_⟩)))
    (case tt0 => first | rfl | k_is)
    (case tw0 => first | rfl | k_is)

