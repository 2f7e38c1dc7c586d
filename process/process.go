// Package process: which numbers identify servers, clients and administrators.
package process

import "elasticstore/api"

// IsServer reports whether id is the identifier of a server.
func IsServer(id int) bool { return isOneOf(id, 1, api.MaxServers) }

// IsClient reports whether id is the identifier of a client.
func IsClient(id int) bool { return isOneOf(id, api.FirstClient, api.MaxClients) }

// IsAdmin reports whether id is the identifier of an administrator.
func IsAdmin(id int) bool { return isOneOf(id, api.FirstAdmin, api.MaxAdmins) }

// isOneOf reports whether id is one of count identifiers that begin with first.
func isOneOf(id, first, count int) bool { return id >= first && id < first+count }
