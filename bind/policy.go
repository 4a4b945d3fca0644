package bind

import "tariff/api"

// collect is the hit policy that may have an aggregation.
const collect = "COLLECT"

// policies are the hit policy and the aggregation of each policy.
var policies = [...]struct{ hit, aggregation string }{
	api.Unique: {"UNIQUE", ""}, api.Any: {"ANY", ""}, api.Priority: {"PRIORITY", ""}, api.First: {"FIRST", ""},
	api.RuleOrder: {"RULE ORDER", ""}, api.OutOrder: {"OUTPUT ORDER", ""}, api.Collect: {collect, ""},
	api.CollectSum: {collect, "SUM"}, api.CollectMin: {collect, "MIN"}, api.CollectMax: {collect, "MAX"}, api.CollectNum: {collect, "COUNT"},
}

// policyOf is the policy with a hit policy and an aggregation, or none (""); 0 if there is none.
func policyOf(hit, aggregation string) int {
	for p := api.Unique; p <= api.CollectNum; p++ {
		if policies[p].hit == hit && policies[p].aggregation == aggregation {
			return p
		}
	}
	return 0
}

func isHit(hit string) bool {
	return policyOf(hit, "") > 0
}

func isAggregation(aggregation string) bool {
	return aggregation != "" && policyOf(collect, aggregation) > 0
}
