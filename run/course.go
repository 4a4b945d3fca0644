package run

import (
	"slices"

	"tariff/api"
	"tariff/graph"
	"tariff/value"
)

// thing is an input or a decision, and what it comes to.
type thing struct {
	name  string
	value api.Value
	err   api.Errno
}

// course is a valid model on the way to what its decisions come to. Its things are its inputs,
// and then its decisions in the order of the plan: so each one stands behind all that it needs.
type course struct {
	model  api.Model
	plan   []api.Decision
	inputs api.Value
	things []thing
	needs  [][]int // for each thing, those that it needs itself
}

// newCourse is the course of a model with this plan and these inputs; nothing has come to anything.
func newCourse(m api.Model, plan []string, inputs api.Value) *course {
	c := &course{model: m, inputs: inputs}
	var ids []string
	for _, i := range m.Inputs {
		ids = append(ids, i.Id)
		c.things, c.needs = append(c.things, thing{name: i.Name}), append(c.needs, nil)
	}
	for _, id := range plan {
		d := m.Decisions[decisionAt(m, id)]
		var needs []int
		for _, need := range d.Needs {
			needs = append(needs, slices.Index(ids, need))
		}
		ids, c.plan = append(ids, id), append(c.plan, d)
		c.things, c.needs = append(c.things, thing{name: d.Name}), append(c.needs, needs)
	}
	return c
}

// reach is a thing and all that it needs, directly or not, in the order in which they are evaluated.
func (c *course) reach(at int) []int {
	list, _ := graph.Reach(c.needs, at)
	return list
}

// settle works out what a thing comes to, once that is done for all that it needs.
func (c *course) settle(at int) {
	t := &c.things[at]
	if at < len(c.model.Inputs) {
		t.value, t.err = c.input(c.model.Inputs[at])
		return
	}
	for _, k := range c.reach(at) {
		if e := c.things[k].err; e != api.OK {
			t.err = e
			return
		}
	}
	t.value, t.err = c.decide(at)
}

// input is the entry of an input, which must be one that its item admits.
func (c *course) input(i api.Input) (api.Value, api.Errno) {
	var v api.Value
	if k := slices.Index(c.inputs.Names, i.Name); k >= 0 {
		v = c.inputs.List[k]
	}
	if !admits(c.model, i.Item, v) {
		return api.Value{}, api.ErrInput
	}
	return v, api.OK
}

// decide is what a decision comes to, if all that it needs has a value.
func (c *course) decide(at int) (api.Value, api.Errno) {
	names := api.Value{Kind: api.Ctx}
	for _, k := range c.needs[at] {
		names.Names, names.List = append(names.Names, c.things[k].name), append(names.List, c.things[k].value)
	}
	if e := value.Check(names); e != api.OK {
		return api.Value{}, e
	}
	return scene{c.model, names}.local(c.plan[at-len(c.model.Inputs)])
}
