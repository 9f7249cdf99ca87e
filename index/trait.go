package index

import (
	"strings"

	"switchyard/api"
	"switchyard/item"
	"switchyard/value"
)

// The sorts of traits.
const (
	ofType = iota
	ofKey
	ofAttr
)

// trait is what artifacts of a type may have in common: the type itself, their
// key, or the value of the attribute at a place, as a text.
type trait struct {
	sort  int
	typ   string
	place int
	text  string
}

func typeTrait(typ string) trait {
	return trait{sort: ofType, typ: typ}
}

func keyTrait(typ string, key []api.Value) trait {
	return trait{sort: ofKey, typ: typ, text: value.Key(key...)}
}

func attrTrait(typ string, place int, v api.Value) trait {
	return trait{sort: ofAttr, typ: typ, place: place, text: value.Key(v)}
}

// traits returns all traits of an artifact.
func (x *Index) traits(a api.Item) []trait {
	out := []trait{typeTrait(a.Type), keyTrait(a.Type, item.Key(x.def, a))}
	for i, v := range a.Attrs {
		out = append(out, attrTrait(a.Type, i, v))
	}
	return out
}

// named returns what the names of keys and attributes are looked up in: a copy
// of no more of a choreography than that.
func named(d api.Def) api.Def {
	var out api.Def
	for _, t := range d.Types {
		out.Types = append(out.Types, namedType(t))
	}
	return out
}

func namedType(t api.Type) api.Type {
	out := api.Type{Name: strings.Clone(t.Name)}
	for _, a := range t.Attrs {
		out.Attrs = append(out.Attrs, api.Attr{Name: strings.Clone(a.Name)})
	}
	for _, name := range t.Key {
		out.Key = append(out.Key, strings.Clone(name))
	}
	return out
}
