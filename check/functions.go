package check

import "tariff/api"

// The types of the language.
var (
	anything = api.Type{Kind: api.Null}
	boolean  = api.Type{Kind: api.Bool}
	number   = api.Type{Kind: api.Num}
	text     = api.Type{Kind: api.Text}
	day      = api.Type{Kind: api.Date}
	list     = api.Type{Kind: api.List, Of: api.Null}
	numbers  = api.Type{Kind: api.List, Of: api.Num}
)

// function is what a function takes and answers; false if there is none of that name.
func function(name string) (params []api.Type, result api.Type, ok bool) {
	switch name {
	case "abs", "floor", "ceiling":
		return []api.Type{number}, number, true
	case "round", "modulo":
		return []api.Type{number, number}, number, true
	case "min", "max", "sum":
		return []api.Type{numbers}, number, true
	case "count":
		return []api.Type{list}, number, true
	case "contains", "starts":
		return []api.Type{text, text}, boolean, true
	case "length":
		return []api.Type{text}, number, true
	case "substring":
		return []api.Type{text, number, number}, text, true
	case "upper", "lower":
		return []api.Type{text}, text, true
	case "date":
		return []api.Type{text}, day, true
	case "year", "month", "day", "weekday":
		return []api.Type{day}, number, true
	case "days", "months":
		return []api.Type{day, number}, day, true
	case "negate":
		return []api.Type{boolean}, boolean, true
	case "append":
		return []api.Type{list, anything}, list, true
	case "string":
		return []api.Type{anything}, text, true
	}
	return nil, api.Type{}, false
}
