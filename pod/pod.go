// Package pod has what is asked of pods, and of the selectors that select them.
package pod

import (
	"palisade/api"
	"palisade/bound"
)

func Right(p api.Pod) bool {
	return bound.Within(p.Host, 0, api.Hosts-1) && bound.Address(p.Ip) && bound.Space(p.Space) && bound.Labels(p.Labels)
}

func SelectorRight(s api.Selector) bool { return bound.Labels(s.Need) && bound.Labels(s.Ban) }

func Selects(s api.Selector, p api.Pod) bool {
	return p.Labels&s.Need == s.Need && p.Labels&s.Ban == 0
}

func Taken(pods []api.Pod, ip int) bool {
	_, found := At(pods, ip)
	return found
}

func At(pods []api.Pod, ip int) (api.Pod, bool) {
	for _, p := range pods {
		if p.Ip == ip {
			return p, true
		}
	}
	return api.Pod{}, false
}
