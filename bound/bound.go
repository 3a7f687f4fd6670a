// Package bound has the bounds of numbers that package api does not name.
package bound

import "palisade/api"

const (
	AddressBits = 32
	MaxAddress  = 1<<AddressBits - 1
	MaxLabels   = 255
	MaxPort     = 65535
	MaxSpaces   = 1<<api.Spaces - 1
)

func Within(n, low, high int) bool { return low <= n && n <= high }

func Address(ip int) bool { return Within(ip, 0, MaxAddress) }

func Space(space int) bool { return Within(space, 0, api.Spaces-1) }

func Labels(labels int) bool { return Within(labels, 0, MaxLabels) }

func Port(port int) bool { return Within(port, 0, MaxPort) }
