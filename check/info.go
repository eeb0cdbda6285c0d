package check

import "helmsman/tree"

// Var is a variable, and where it stands.
type Var struct {
	Name           string
	Kind, At, Wide int
	Many           int
	Of             string
}

// Info is all variables.
type Info struct {
	Vars               []Var
	Bits, Ints, Arrays int
}

// Find is a variable.
func (i Info) Find(name string) (Var, bool) {
	for _, v := range i.Vars {
		if v.Name == name {
			return v, true
		}
	}
	return Var{}, false
}

// infoOf tells all variables, where each is of a type that there is.
func infoOf(p tree.Prog) Info {
	n := meet(p)
	var i Info
	for _, v := range p.Vars {
		i.add(v, n)
	}
	return i
}

// add gives a variable the next place of its kind.
func (i *Info) add(v tree.Var, n names) {
	x := Var{Name: v.Name, Of: v.Type}
	switch {
	case isArray(v):
		x.Kind, x.At, x.Many = Array, i.Arrays, v.Len
		i.Arrays++
	case v.Type == intType:
		i.Ints++
		x.Kind, x.At = Int, i.Ints
	case v.Type == boolType:
		x.Kind, x.At, x.Wide, x.Many = Bool, i.Bits, 1, 2
	default:
		many := len(n.p.Enums[n.enums[v.Type]].L)
		x.Kind, x.At, x.Wide, x.Many = Enum, i.Bits, Wide(many), many
	}
	i.Bits += x.Wide
	i.Vars = append(i.Vars, x)
}
