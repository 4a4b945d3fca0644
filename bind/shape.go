package bind

import (
	"slices"
	"strings"
)

// shape is the attributes and the contents of an element, in the notation of the chapter's table:
// ? once or not at all, * any number of times, + at least once, | one of the two.
func shape(name string) (attrs, contents string) {
	switch name {
	case "definitions":
		return "xmlns id name", "itemDefinition* inputData* decision*"
	case "itemDefinition":
		return "name typeRef", "allowedValues?"
	case "inputData":
		return "id name", "variable?"
	case "variable":
		return "typeRef", ""
	case "decision":
		return "id name", "variable? informationRequirement* literalExpression|decisionTable"
	case "informationRequirement":
		return "", "requiredInput|requiredDecision"
	case "requiredInput", "requiredDecision":
		return "href", ""
	case "decisionTable":
		return "hitPolicy aggregation?", "input* output+ rule*"
	case "input":
		return "", "inputExpression"
	case "inputExpression":
		return "typeRef?", "text"
	case "output":
		return "name typeRef?", "outputValues? defaultOutputEntry?"
	case "outputValues":
		return "", "text+"
	case "rule":
		return "", "inputEntry* outputEntry+"
	case "allowedValues", "literalExpression", "defaultOutputEntry", "inputEntry", "outputEntry":
		return "", "text"
	}
	return "", ""
}

// part is one of the things in a shape: an attribute, or elements that stand in one place.
type part struct {
	names        []string
	needed, many bool
}

// partsOf is the parts of a shape's attributes or contents, in order.
func partsOf(list string) []part {
	var parts []part
	for _, s := range strings.Fields(list) {
		names := strings.TrimRight(s, "?*+")
		mark := s[len(names):]
		parts = append(parts, part{
			names:  strings.Split(names, "|"),
			needed: mark == "" || mark == "+",
			many:   mark == "*" || mark == "+",
		})
	}
	return parts
}

// partAt is the place of the part that a name belongs to; negative if it belongs to none.
func partAt(parts []part, name string) int {
	return slices.IndexFunc(parts, func(p part) bool { return slices.Contains(p.names, name) })
}
