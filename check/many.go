package check

import (
	"slices"

	"switchyard/api"
)

// tooMany reports whether a choreography has more of something than it may.
func tooMany(d api.Def) bool {
	return max(len(d.Enums), len(d.Types), len(d.Channels), len(d.Groups), len(d.Roles)) > api.MaxTypes ||
		slices.ContainsFunc(d.Enums, func(e api.Enum) bool { return len(e.Syms) > api.MaxParts }) ||
		slices.ContainsFunc(d.Types, tooManyOfType) ||
		slices.ContainsFunc(d.Channels, tooManyOfChannel) ||
		slices.ContainsFunc(d.Roles, tooManyOfRole)
}

func tooManyOfType(t api.Type) bool {
	return max(len(t.Attrs), len(t.States), len(t.Ports), len(t.Moves)) > api.MaxParts ||
		len(t.Key) > api.MaxKey ||
		slices.ContainsFunc(t.Moves, func(m api.Move) bool { return max(len(m.Sets), len(m.Sends)) > api.MaxParts })
}

func tooManyOfChannel(c api.Channel) bool {
	return len(c.By) > api.MaxKey || len(c.Carry) > api.MaxParts
}

func tooManyOfRole(r api.Role) bool {
	return max(len(r.Sees), len(r.May)) > api.MaxParts ||
		slices.ContainsFunc(r.Sees, func(s api.Sight) bool { return max(len(s.Attrs), len(s.States)) > api.MaxParts })
}
