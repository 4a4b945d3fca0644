package check

import (
	"tariff/api"
	"tariff/chars"
	"tariff/kind"
)

// scope is the names that an expression may use, with their types.
type scope map[string]api.Type

// learn takes names that are in form.
func learn(names []api.Sym) (scope, api.Errno) {
	if len(names) > api.MaxSyms {
		return nil, api.ErrLong
	}
	known := scope{}
	for _, s := range names {
		if _, twice := known[s.Name]; twice || !chars.Name(s.Name) || !kind.Form(s.Type) {
			return nil, api.ErrForm
		}
		known[s.Name] = s.Type
	}
	return known, api.OK
}
