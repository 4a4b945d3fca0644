package bind

import (
	"strings"

	"tariff/api"
	"tariff/kind"
)

// search is a search for the fault with the smallest number; of several with that number, for the first.
type search struct {
	document
	known map[thing]int // what may be required
	at    int
	err   api.Errno
}

// thing is an element that may be required, by its name and its id.
type thing struct{ name, id string }

// fault is the fault of a tree with the smallest number, and the place of the element that has it.
func (d document) fault() (int, api.Errno) {
	if d.tree[0].Name != "definitions" {
		return 0, api.ErrMiss
	}
	s := search{document: d, known: map[thing]int{}}
	for _, k := range d.kids[0] {
		if id, ok := d.value(k, "id"); ok {
			s.known[thing{d.tree[k].Name, id}] = k
		}
	}
	s.examine(0)
	return s.at, s.err
}

// note takes down a fault of an element.
func (s *search) note(found bool, at int, e api.Errno) {
	if found && (s.err == api.OK || e < s.err) {
		s.at, s.err = at, e
	}
}

// examine looks for faults in an element that is allowed where it stands, and in what is within it.
func (s *search) examine(at int) {
	attrs, contents := shape(s.tree[at].Name)
	s.attributes(at, partsOf(attrs))
	s.contents(at, partsOf(contents))
	s.note(s.tree[at].Text != "" && s.tree[at].Name != "text", at, api.ErrExtra)
	s.note(s.tree[at].Name == "decisionTable" && s.uneven(at), at, api.ErrMiss)
}

// attributes looks for faults in an element's attributes, which must be those.
func (s *search) attributes(at int, parts []part) {
	for _, p := range parts {
		_, ok := s.value(at, p.names[0])
		s.note(p.needed && !ok, at, api.ErrMiss)
	}
	for _, a := range s.tree[at].Attrs {
		if partAt(parts, a.Name) < 0 {
			s.note(true, at, api.ErrExtra)
			continue
		}
		s.meaning(at, a)
	}
}

// meaning looks for faults in the value of an attribute that is allowed where it stands.
func (s *search) meaning(at int, a api.Attr) {
	switch a.Name {
	case "xmlns":
		s.note(a.Value != api.Space, at, api.ErrText)
	case "typeRef":
		_, e := kind.Parse(a.Value)
		s.note(s.tree[at].Name == "itemDefinition" && e != api.OK, at, api.ErrText)
	case "hitPolicy":
		s.note(!isHit(a.Value), at, api.ErrText)
	case "aggregation":
		hit, ok := s.value(at, "hitPolicy")
		s.note(!isAggregation(a.Value) || ok && hit != collect, at, api.ErrText)
	case "href":
		id, ok := strings.CutPrefix(a.Value, "#")
		s.note(!ok, at, api.ErrText)
		s.note(!s.required(s.tree[at].Name, id), at, api.ErrName)
	}
}

// required tells whether there is what an element requires by that id.
func (s *search) required(name, id string) bool {
	what := "decision"
	if name == "requiredInput" {
		what = "inputData"
	}
	_, ok := s.known[thing{what, id}]
	return ok
}

// contents looks for faults in the elements within one, which must be those.
func (s *search) contents(at int, parts []part) {
	counts := make([]int, len(parts))
	last := 0 // the part of the last one that is allowed
	for _, k := range s.kids[at] {
		p := partAt(parts, s.tree[k].Name)
		if p < last || counts[p] > 0 && !parts[p].many {
			s.note(true, k, api.ErrExtra)
			continue
		}
		last = p
		counts[p]++
		s.examine(k)
	}
	for p := range parts {
		s.note(parts[p].needed && counts[p] == 0, at, api.ErrMiss)
	}
}

// uneven tells whether some outputs of a table have a default and others have none; outputs and
// defaults that are not allowed where they stand count, too.
func (s *search) uneven(table int) bool {
	outs := s.all(table, "output")
	with := 0
	for _, k := range outs {
		if len(s.all(k, "defaultOutputEntry")) > 0 {
			with++
		}
	}
	return with > 0 && with < len(outs)
}
